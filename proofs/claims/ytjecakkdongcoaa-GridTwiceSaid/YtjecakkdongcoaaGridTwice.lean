
/- The law GridTwice holds: for every input the call returns true and every argument reads behind it as before; no condition. -/
import Derived.Test.YtjecakkdongcoaaRows
import Derived.Test.YtjecakkdongcoaaGrS
import Derived.Test.YtjecakkdongcoaaGrQ
import Derived.Test.YtjecakkdongcoaaZlO
import Derived.WalkKit
import Derived.ProofKit
import Derived.OpenShut
import Derived.ShutString
import Derived.Lib.SmallJoins
namespace Go.Proofs.Ytjecakkdongcoaa.gridTwice
open Go.ChangeShapes Go.WideShapes Go.ChangeAt Go.RowKit Go.Proofs.Ytjecakkdongcoaa.Oct Go.Proofs.Ytjecakkdongcoaa.Gr
open Go.Proofs.Ytjecakkdongcoaa.Zl (open_two)
open Go.ChangeMaps (open_string shut_string)
set_option linter.unusedVariables false

theorem byte_nat {a : Int} (h : (Lit.int .u8 a).wf = true) : ∃ n : Nat, a = (n : Int) ∧ n ≤ 255 := by
  simp [Lit.wf, IntKind.min, IntKind.max, IntKind.bits, IntKind.signed] at h
  exact ⟨a.toNat, by omega, by omega⟩
theorem twice_lift (l0 l1 r0 r1 r2 r3 s0 s1 s2 s3 : Int) (w : World) (_ : (Lit.int .i64 l0).wf = true) (_ : (Lit.int .i64 l1).wf = true) (h0 : (Lit.int .u8 r0).wf = true) (h1 : (Lit.int .u8 r1).wf = true) (h2 : (Lit.int .u8 r2).wf = true) (h3 : (Lit.int .u8 r3).wf = true) (g0 : (Lit.int .u8 s0).wf = true) (g1 : (Lit.int .u8 s1).wf = true) (g2 : (Lit.int .u8 s2).wf = true) (g3 : (Lit.int .u8 s3).wf = true) :
    Calls Try.prog 8 #[.agg #[.int .i64 l0, .int .i64 l1], .agg #[.int .u8 r0, .int .u8 r1, .int .u8 r2, .int .u8 r3], .agg #[.int .u8 s0, .int .u8 s1, .int .u8 s2, .int .u8 s3]] w (BolP w true) := by
  obtain ⟨a0, rfl, b0⟩ := byte_nat h0
  obtain ⟨a1, rfl, b1⟩ := byte_nat h1
  obtain ⟨a2, rfl, b2⟩ := byte_nat h2
  obtain ⟨a3, rfl, b3⟩ := byte_nat h3
  obtain ⟨c0, rfl, d0⟩ := byte_nat g0
  obtain ⟨c1, rfl, d1⟩ := byte_nat g1
  obtain ⟨c2, rfl, d2⟩ := byte_nat g2
  obtain ⟨c3, rfl, d3⟩ := byte_nat g3
  exact twice_walk l0 l1 a0 a1 a2 a3 c0 c1 c2 c3 w b0 b1 b2 b3 d0 d1 d2 d3
theorem own : ownKnob Try.prog.godebug = none := by kernel_rfl
theorem laidOut : laidOutB Try.prog = true := by kernel_rfl

set_option maxRecDepth 100000 in
theorem lifted (os : Os) (started : os.Started) (H : Type) (enc : TypeId × Value → H) :
    ReturnsInHanded {} Try.checked os 8 .any (Rows.gridTwiceSpec.pre6 enc Try.prog Try.f8 Rows.gridTwiceRow.domain false) (Rows.gridTwiceSpec.post enc Try.prog Try.f8 false true false false) := by
  refine returnsInHanded_of_change (C := Try.checked) own started (by kernel_rfl) Try.func8
    (ChangeSpec.witness6 (enc := enc) (C := Try.checked) false ⟨#[], #[.agg #[.int .i64 0, .int .i64 0], .agg #[.int .u8 0, .int .u8 0, .int .u8 0, .int .u8 0], .agg #[.int .u8 0, .int .u8 0, .int .u8 0, .int .u8 0]], []⟩ 8 (by kernel_rfl) (by kernel_rfl) (by kernel_rfl) (by kernel_rfl)) ?_
  intro W base args ds gs before hval0 hW hcnd _
  have hval : ∀ (j : Nat) t v, Try.f8.params[j]? = some t → args[j]? = some v → Value.okWide Try.prog W .any base t v := hval0
  have hW' := hW
  obtain ⟨p, q, hA0, hV, rfl, hfz, hnd⟩ := hW
  have hA : DataW.TrodAll enc Try.prog W 0 (fun _ => true) true Try.f8.params.toList args.toList ds p := hA0
  rw [Try.params8] at hA hval
  obtain ⟨v0, vs0, d0, ds0, p0, q0, hargs, rfl, rfl, h0, r0⟩ := trodAll_cons hA
  obtain ⟨v1, vs1, d1, ds1, p1, q1, rfl, rfl, rfl, h1, r1⟩ := trodAll_cons r0
  obtain ⟨v2, vs2, d2, ds2, p2, q2, rfl, rfl, rfl, h2, r2⟩ := trodAll_cons r1
  obtain ⟨rfl, rfl, rfl⟩ := trodAll_nil r2
  obtain rfl : args = #[v0, v1, v2] := by cases args; simp_all
  obtain ⟨rfl, rfl⟩ := trodVars_none hV
  have k0 := h0
  have lt0 : ∀ x ∈ p0, x.block < W.heap.size := by obtain ⟨m, hm⟩ := k0; exact DataW.trod_lt m _ _ _ hm
  obtain ⟨f0_0, f0_1, rfl, wf0_0, wf0_1⟩ := open_two Try.underlying57 (by kernel_rfl) (by kernel_rfl) Try.underlying3 (hval 0 57 v0 rfl rfl) h0
  have k1 := h1
  have lt1 : ∀ x ∈ p1, x.block < W.heap.size := by obtain ⟨m, hm⟩ := k1; exact DataW.trod_lt m _ _ _ hm
  obtain ⟨f1_0, f1_1, f1_2, f1_3, rfl, wf1_0, wf1_1, wf1_2, wf1_3⟩ := open_four Try.underlying69 (by kernel_rfl) (by kernel_rfl) Try.underlying5 (hval 1 69 v1 rfl rfl) h1
  have k2 := h2
  have lt2 : ∀ x ∈ p2, x.block < W.heap.size := by obtain ⟨m, hm⟩ := k2; exact DataW.trod_lt m _ _ _ hm
  obtain ⟨f2_0, f2_1, f2_2, f2_3, rfl, wf2_0, wf2_1, wf2_2, wf2_3⟩ := open_four Try.underlying69 (by kernel_rfl) (by kernel_rfl) Try.underlying5 (hval 2 69 v2 rfl rfl) h2
  clear hA0 hval0
  refine (twice_lift f0_0 f0_1 f1_0 f1_1 f1_2 f1_3 f2_0 f2_1 f2_2 f2_3 W wf0_0 wf0_1 wf1_0 wf1_1 wf1_2 wf1_3 wf2_0 wf2_1 wf2_2 wf2_3).mono fun e W' ⟨he, bel⟩ => ?_
  subst he
  exact ⟨_, rfl, _, _, _, [], _, [], hW', trodAll_mk1 (shut_bool Try.underlying4 _), (trodAll_cons_mk (Below.trod laidOut (by kernel_rfl) (of_decide_eq_true (by kernel_rfl)) k0 bel lt0) (trodAll_cons_mk (Below.trod laidOut (by kernel_rfl) (of_decide_eq_true (by kernel_rfl)) k1 bel lt1) (trodAll_cons_mk (Below.trod laidOut (by kernel_rfl) (of_decide_eq_true (by kernel_rfl)) k2 bel lt2) trodAll_mk0))), rfl, bel.frame _, fun h => by cases h⟩

theorem over : Rows.gridTwiceRow.holds Try.pinned (OpenSpec.ofChange Rows.gridTwiceSpec) :=
  OpenClaim.holds_of_wide 8 Try.f8 rfl rfl rfl rfl rfl rfl rfl ⟨rfl, rfl, rfl, rfl, rfl⟩ rfl rfl rfl rfl rfl (by kernel_rfl) Try.func8 (by kernel_rfl)
    (of_decide_eq_true (by kernel_rfl)) (by unfold Func.isWrapper; first | (rw [if_pos (by decide +kernel)]; kernel_rfl) | (rw [if_neg (by decide +kernel)]; exact ⟨rfl, rfl⟩))
    (fun os started H enc _ => lifted os started H enc)

theorem proved : Rows.GridTwiceSaid :=
  over
end Go.Proofs.Ytjecakkdongcoaa.gridTwice

/- The contract of bytes.Repeat at a row of one byte, up to 128 times; and of math/bits.Mul there. -/
import Derived.Test.YtcgoejijeeeanaaPbA
import Derived.Lib.SlBuf
import Derived.Lib.MakeNoZero
import Derived.Laws.Externs
import Derived.Deep.RegionLaw
namespace Go.Proofs.Ytcgoejijeeeanaa.Pb
open Go.RowKit Go.Proofs.Ytcgoejijeeeanaa.Oct
set_option linter.unusedVariables false

theorem and_mask (c : Nat) (hc : c ≤ 128) : bits .and .u64 (c : Int) 4294967295 = (c : Int) := by
  rw [show (4294967295 : Int) = ((4294967295 : Nat) : Int) from rfl, u64_and_nat c 4294967295 (by omega) (by omega)]
  congr 1
  rw [show (4294967295 : Nat) = 2 ^ 32 - 1 from rfl, Nat.and_two_pow_sub_one_eq_mod]
  omega
theorem mul64_one (c : Nat) (w : World) (hc : c ≤ 128) :
    Calls Try.prog 21 #[.int .u64 1, .int .u64 (c : Int)] w fun e w' => e = .returned (.tuple #[.int .u64 0, .int .u64 (c : Int)]) ∧ w = w' := by
  have h1 : bits .and .u64 1 4294967295 = 1 := by decide
  have h0 : bits .and .u64 0 4294967295 = 0 := by decide
  have h2 := and_mask c hc
  have h3 : (c : Int) / 4294967296 = 0 := by omega
  go_enter Try.func21, Try.ntmps21
  go_wp2
  go_ret2
  exact ⟨rfl, rfl⟩
theorem mul_one_any (c : Nat) (w : World) (hc : c ≤ 128) :
    Calls Try.prog 18 #[.int .u64 1, .int .u64 (c : Int)] w fun e w' => e = .returned (.tuple #[.int .u64 0, .int .u64 (c : Int)]) ∧ w = w' := by
  go_enter Try.func18, Try.ntmps18
  go_wp2_with fail
  refine (mul64_one _ _ hc).mono ?_
  rintro e w' ⟨rfl, rfl⟩
  go_wp2_with fail
  go_ret2
  exact ⟨rfl, rfl⟩
/-- copy, its run known by an equation, as one step of a region that draws its order -/
theorem step_copy_run {P : Program} {ops : Array Oper} {o : Oper} {a : Act} {w : World} {K : Act → World → Prop} {Q : Exit → Act → World → Prop} {E : Prop}
    (hg : o.guard = none) (d x : Operand) (dT sT : TypeId) (hop : o.op = Op.call { callee := Callee.builtin Builtin.copy, args := #[d, x], argTypes := #[dT, sT] })
    (v u : Value) (hd : a.eval d = v) (hx : a.eval x = u) {v' : Value} {w' : World} (hr : (Builtin.copy_ #[dT, sT] o.type #[v, u]).run P w = .ok v' w') (hK : K (a.put o.dst v') w') :
    if Region.wanted o (yielded ops a.tmps) = true then Oper.wp P o a w K Q else E := by
  have hw : Region.wanted o (yielded ops a.tmps) = true := by simp [Region.wanted, hg]
  rw [if_pos hw]
  exact Lib.wp_copy_run w d x dT sT hop v u hd hx hr hK
theorem buf_drew {w0 wr : World} {h N : Nat} {acc : List UInt8} (hb : Lib.Buf w0 wr h N acc) : Lib.Buf w0 wr.drew h N acc :=
  ⟨hb.below.trans ((show Drawn wr wr.drew from ⟨1, rfl⟩).below _), hb.there, hb.free, hb.holds, hb.fits⟩
/-- bytes of the buffer's own head are copied behind what is filled -/
theorem copy_self {P : Program} (w0 wr : World) (h N k cap : Nat) (acc : List UInt8) (t ty e : TypeId) (hu : P.underlying t = some (.slice e)) (hs : (P.info? e).map (·.size) = some 1)
    (hb : Lib.Buf w0 wr h N acc) (hk : k ≤ acc.length) (h1 : 1 ≤ k) (hlt : acc.length < N) :
    ∃ wr', (Builtin.copy_ #[t, t] ty #[.slice (some ⟨h, acc.length, none⟩) (N - acc.length) (N - acc.length), .slice (some ⟨h, 0, none⟩) k cap]).run P wr = .ok (.int .i64 ((min k (N - acc.length) : Nat) : Int)) wr' ∧
      Lib.Buf w0 wr' h N (acc ++ acc.take (min k (N - acc.length))) := by
  obtain ⟨l, hl⟩ : ∃ l, l = acc.take (min k (N - acc.length)) := ⟨_, rfl⟩
  have hll : l.length = min k (N - acc.length) := by rw [hl, List.length_take]; omega
  have hr := run_copy_cells (P := P) wr t t ty e h acc.length (N - acc.length) (N - acc.length) ⟨h, 0, none⟩ k cap (l.map fun x => Value.int .u8 (x.toNat : Int)) hu hs (by rw [List.length_map]; exact hll)
    (fun j u hj => by
      rw [List.getElem?_map] at hj
      obtain ⟨x, hx, rfl⟩ := Option.map_eq_some_iff.1 hj
      rw [add_plain, Nat.zero_add]
      refine hb.holds j x ?_
      rw [hl, List.getElem?_take] at hx
      split at hx
      · exact hx
      · cases hx)
    (fun j hj => by rw [List.length_map] at hj; exact hb.there _ (by omega)) (fun j hj => by rw [List.length_map] at hj; exact hb.free _ (by omega))
    (fun u hu' => by obtain ⟨x, _, rfl⟩ := List.mem_map.1 hu'; rfl)
  rw [List.length_map, hll] at hr
  rw [← hl]
  refine ⟨_, hr, ?_⟩
  have hin := World.cell?_setCells_in h (l.map fun x => Value.int .u8 (x.toNat : Int)) acc.length wr (fun j hj => by rw [List.length_map] at hj; exact hb.there _ (by omega))
  have hout := World.cell?_setCells_out h (l.map fun x => Value.int .u8 (x.toNat : Int)) acc.length wr
  refine ⟨?_, ?_, ?_, ?_, by rw [List.length_append]; omega⟩
  · exact Lib.below_setCells h (Nat.le_refl _) _ _ hb.below
  · intro j hj
    by_cases h1 : acc.length ≤ j ∧ j < acc.length + l.length
    · obtain ⟨d, rfl⟩ : ∃ d, j = acc.length + d := ⟨j - acc.length, by omega⟩
      rw [hin d (by rw [List.length_map]; omega)]
      rfl
    · rw [hout ⟨h, j, none⟩ (fun _ _ => by rw [List.length_map]; show j < _ ∨ _ ≤ j; omega)]
      exact hb.there j hj
  · intro j hj
    rw [World.frozen?_setCells]
    exact hb.free j hj
  · intro j x hx
    by_cases h1 : j < acc.length
    · rw [List.getElem?_append_left h1] at hx
      rw [hout ⟨h, j, none⟩ (fun _ _ => Or.inl h1)]
      exact hb.holds j x hx
    · rw [List.getElem?_append_right (by omega)] at hx
      obtain ⟨d, rfl⟩ : ∃ d, j = acc.length + d := ⟨j - acc.length, by omega⟩
      rw [Nat.add_sub_cancel_left] at hx
      have hd : d < l.length := (List.getElem?_eq_some_iff.1 hx).1
      rw [hin d (by rw [List.length_map]; exact hd)]
      simp [List.getElem_map, (List.getElem?_eq_some_iff.1 hx).2]
theorem rep_grow (x : UInt8) (k m : Nat) (h : m ≤ k) : List.replicate k x ++ (List.replicate k x).take m = List.replicate (k + m) x := by
  rw [List.take_replicate, Nat.min_eq_left h, List.replicate_append_replicate]
theorem buf_row {w0 wr : World} {N : Nat} {acc : List UInt8} (hb : Lib.Buf w0 wr w0.heap.size N acc) : Row wr (some ⟨w0.heap.size, 0, none⟩) acc := by
  intro hp
  have hc : ∀ i (h : i < acc.length), wr.cell? ⟨w0.heap.size, i, none⟩ = some (.int .u8 (acc[i].toNat : Int)) := fun i h => hb.holds i acc[i] (List.getElem?_eq_getElem h)
  exact ⟨w0.heap.size, 0, rfl, lt_of_cell (hc 0 hp), fun i h => by rw [Nat.zero_add]; exact hc i h⟩
theorem made_run (w : World) (T : Nat) (hT : T ≤ 128) : ∃ cs : Array Value, (callFunc 19 #[.int .i64 (T : Int)]).run Try.prog w = .ok (.value (.slice (some ⟨w.heap.size, 0, none⟩) T cs.size)) ((w.alloc (.cells cs 5)).drewN 2) ∧ T ≤ cs.size ∧ cs.size ≤ maxLen := by
  obtain ⟨cs, hrunM, hle, hmx⟩ := Lib.run_makeNoZero (P := Try.prog) w #[3] 22 5 Try.underlying22 T (by omega)
  refine ⟨cs, ?_, hle, hmx (by unfold maxLen; omega)⟩
  rw [run_callFunc_extern Try.func19 (by kernel_rfl) (by kernel_rfl) (by kernel_rfl) (e := Extern.BytealgMakeNoZero.makeNoZero #[3] #[22]) (by kernel_rfl), hrunM]
  rfl
theorem sizeByteB : (Try.prog.info? 5).map (·.size) = some 1 := Try.sizeByte
set_option maxHeartbeats 1000000 in
set_option maxRecDepth 100000 in
theorem repeat_any (p : Option Addr) (cap : Nat) (x : UInt8) (c : Nat) (w : World) (hr : Row w p [x]) (h2 : 2 ≤ c) (hc : c ≤ 128) :
    Calls Try.prog 16 #[.slice p 1 cap, .int .i64 (c : Int)] w fun e w' => e = .returned (.slice (some ⟨w.heap.size, 0, none⟩) c c) ∧ Row w' (some ⟨w.heap.size, 0, none⟩) (List.replicate c x) ∧ Below w.heap.size w w' := by
  obtain ⟨b, off, rfl, hb, hcell⟩ := hr (by simp)
  have c0 : w.cell? ⟨b, off, none⟩ = some (.int .u8 (x.toNat : Int)) := hcell 0 (by simp)
  have HC0 := Lib.hid c0
  clear hcell c0 hr
  obtain ⟨cs, hcall, hle, hmx⟩ := made_run w c hc
  unfold maxLen at hmx
  have B0 := Lib.Buf.start w cs 5 c 2 hle
  have hold : Lib.HoldsBytes w (.slice (some ⟨b, off, none⟩) 1 cap) [x] := by
    refine ⟨_, cap, rfl, fun h => absurd h (by simp), fun a ha i y hy => ?_⟩
    simp at ha
    subst ha
    rcases i with _ | i
    · simp at hy
      subst hy
      exact HC0.out
    · simp at hy
  obtain ⟨w1, hr1, B1⟩ := Lib.copy_part (P := Try.prog) w _ w.heap.size c [] [x] (.slice (some ⟨b, off, none⟩) 1 cap) 22 3 5 Try.underlying22 sizeByteB (Nat.le_refl _) B0 hold (by simp; omega)
  clear hold
  rw [List.length_nil, Lib.tailV_zero] at hr1
  rw [List.nil_append] at B1
  have HB1 := Lib.hid B1
  have i0 : (0 : Int) ≤ (c : Int) := by omega
  have i1 : (c : Int) ≤ (cs.size : Int) := by omega
  have q0 : ((c : Int) == 0) = false := by simp; omega
  have q1 : decide ((c : Int) < 0) = false := by simp
  have q2 : decide (9223372036854775807 < (c : Int)) = false := by simp; omega
  have q3 : decide (8192 < (c : Int)) = false := by simp; omega
  clear B0 B1 hb
  go_enter Try.func16, Try.ntmps16
  go_wp2_with fail
  refine (mul_one_any _ _ hc).mono ?_
  rintro e w' ⟨rfl, rfl⟩
  go_wp2_with (at_builtin; refine Lib.wpList_copy_run _ rfl _ _ 22 22 rfl _ _ rfl rfl hr1 ?_)
  have hg : w.heap.size = w.heap.size := rfl
  clear hr1 hcall hle hmx i0 i1 hg HC0
  go_loopw [10] (fun v wr => ∃ k : Nat, 1 ≤ k ∧ k ≤ c ∧ v = .int .i64 (k : Int) ∧ Hid (Lib.Buf w wr w.heap.size c (List.replicate k x))) (fun v _ => c - (intOf v).toNat)
  case atStart => exact ⟨1, by omega, by omega, rfl, HB1⟩
  case round =>
    obtain ⟨k, hk1, hkc, rfl, HB⟩ := hrel
    clear HB1
    by_cases hlt : k < c
    · have hmin : min (k : Int) (c : Int) = (k : Int) := by omega
      obtain ⟨w2, hr2, B2⟩ := copy_self (P := Try.prog) w wr.drew w.heap.size c k c (List.replicate k x) 22 3 5 Try.underlying22 sizeByteB (buf_drew HB.out) (by simp) hk1 (by simpa using hlt)
      rw [List.length_replicate] at hr2 B2
      obtain ⟨m, hm⟩ : ∃ m, m = min k (c - k) := ⟨_, rfl⟩
      rw [← hm] at hr2 B2
      rw [rep_grow x k m (by omega)] at B2
      have hm1 : 1 ≤ m := by omega
      have hm2 : k + m ≤ c := by omega
      have hck : ¬ c = k := by omega
      have hwp : IntKind.i64.wrap ((k : Int) + (m : Int)) = (k : Int) + (m : Int) := IntWalk.i64_in _ (by omega)
      have HB2 := Lib.hid B2
      clear B2 HB hm
      go_wp2_with fail
      go_region_law (refine step_copy_run rfl _ _ 22 22 rfl (.slice (some ⟨w.heap.size, k, none⟩) (c - k) (c - k)) (.slice (some ⟨w.heap.size, 0, none⟩) k c) (by simp [Act.eval, Act.put]) (by simp [Act.eval, Act.put]) hr2 ?_)
      simp only [Act.put, List.setIfInBounds_toArray, List.set_cons_zero, List.set_cons_succ, List.getElem_toArray, List.getElem_cons_zero, List.getElem_cons_succ]
      go_wp2_with fail
      go_roundw
      case rel => exact ⟨k + m, by omega, hm2, by go_num, HB2⟩
      case measure => simp [intOf]; omega
    · have : k = c := by omega
      subst this
      go_wp2_with fail
      go_ret
      exact ⟨rfl, buf_row HB.out, HB.out.below⟩
end Go.Proofs.Ytcgoejijeeeanaa.Pb

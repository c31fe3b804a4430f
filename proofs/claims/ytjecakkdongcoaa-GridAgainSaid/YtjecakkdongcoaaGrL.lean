
/- Contracts of the laws of grids: of, whatever it is given; lives; a struct of two numbers, a row and a bool that came in. -/
import Derived.Test.YtjecakkdongcoaaGrK
import Derived.Test.YtjecakkdongcoaaGrF
import Derived.WalkKit
import Derived.ProofKit
namespace Go.Proofs.Ytjecakkdongcoaa.Gr
open Go.RowKit Go.Proofs.Ytjecakkdongcoaa.Oct
open Go.Proofs.Ytjecakkdongcoaa.Lp (VRow Only ints ints_length ints_append ints_one vrow_blk vrow_own blk_set blk_far blk_frozen)
open Go.Proofs.Ytjecakkdongcoaa.Gd (canG cutG)
open Go.Proofs.Ytjecakkdongcoaa.Fm (Ow)
set_option linter.unusedVariables false
set_option linter.unusedSimpArgs false
set_option maxRecDepth 100000

/-- a grid that came in: its row -/
def IsSome_ (w : World) (p : Option Addr) (n c : Nat) : Prop := ∃ zs : List Int, zs.length = n ∧ VRow w w.heap.size p (ints zs) ∧ (p = none → c = 0) ∧ n ≤ c ∧ n * 8 ≤ 140737488355328
theorem of_any (W H : Int) (p : Option Addr) (n c : Nat) (f : Bool) (w : World) (h : IsSome_ w p n c) : Calls Try.prog 9 #[.agg #[.int .i64 W, .int .i64 H, .slice p n c, .bool f]] w (OfP w) := by
  obtain ⟨zs, hx, hr, hnil, _, h47⟩ := h
  cases f
  · exact of_plain W H p n c zs w hr hx hnil h47
  · exact of_fill W H p n c zs w hr hx hnil h47
theorem IsSome_.go {w w' : World} {p : Option Addr} {n c : Nat} (h : IsSome_ w p n c) (hb : Below w.heap.size w w') : IsSome_ w' p n c := by
  obtain ⟨zs, hx, hr, h1, h2, h3⟩ := h
  exact ⟨zs, hx, (hr.below hb (Nat.le_refl _)).mono hb.size, h1, h2, h3⟩
section
variable {H : Type} {enc : TypeId × Value → H} {w : World} {sp : Nat → Bool} {held : Bool}
theorem bytesInt : Try.prog.bytesOf 3 = 8 := by kernel_rfl
theorem open_intsv {fuel : Nat} {c : Value} {x : DataW H × List MemPlace} (h : DataW.trod enc Try.prog w 0 sp held fuel 22 [c] = some x) (hw : ∀ n ∈ x.1.weights Try.prog 22, n ≤ reachBytes) : ∃ a len cap, c = .slice a len cap ∧ IsSome_ w a len cap := by
  have hc : ∃ a len cap, c = .slice a len cap ∧ len * 8 ≤ 140737488355328 := by
    rcases ChangeShapes.open_ints Try.underlying22 Try.underlying3 (by kernel_rfl) h with ⟨hcs, _⟩ | ⟨ad, l, k, zs, hcs, _, hl, hm, hz, hx, _⟩
    · simp at hcs
      exact ⟨_, _, _, hcs, by omega⟩
    · simp at hcs
      refine ⟨_, _, _, hcs, ?_⟩
      have hzl : l ≤ zs.length := by rw [hz]; split <;> omega
      have h1 := hw ((((zs.take l).length + (zs.drop l).length)) * Try.prog.bytesOf 3) (by
        rw [hx]
        simp [DataW.weights, Try.underlying22, ChangeShapes.lits])
      rw [bytesInt, List.length_take, List.length_drop] at h1
      unfold reachBytes at h1
      omega
  obtain ⟨a, len, cap, rfl, hl⟩ := hc
  obtain ⟨zs, h1, h2, h3, h4, h5⟩ := Lp.open_introw h
  exact ⟨a, len, cap, rfl, zs, h1, h2, h5, h3, hl⟩
theorem open_some {r : Reach} {b0 : Nat} {v : Value} {d : DataW H} {p : List MemPlace}
    (hv : Value.okWide Try.prog w r b0 24 v) (h : DataW.Trod enc Try.prog w 0 sp held 24 v d p) (hw : ∀ n ∈ d.weights Try.prog 24, n ≤ reachBytes) :
    ∃ (W H : Int) (a : Option Addr) (l c : Nat) (f : Bool), v = .agg #[.int .i64 W, .int .i64 H, .slice a l c, .bool f] ∧ IsSome_ w a l c := by
  obtain ⟨v0, v1, v2, v3, y0, y1, y2, y3, m, rfl, hd, _, h0, h1, h2, h3⟩ := Joins.open_agg4 Try.underlying24 (by kernel_rfl) (by kernel_rfl) hv h
  obtain ⟨W, e0, _⟩ := DataW.trod_int Try.underlying3 h0
  obtain ⟨Hh, e1, _⟩ := DataW.trod_int Try.underlying3 h1
  obtain ⟨f, e3, _⟩ := DataW.trod_bool Try.underlying4 h3
  simp at e0 e1 e3
  subst e0 e1 e3
  have hw2 : ∀ n ∈ y2.1.weights Try.prog 22, n ≤ reachBytes := fun n hn => hw n (by
    rw [hd]
    simp only [DataW.weights, Try.underlying24]
    simp [DataW.weightsEach, hn])
  obtain ⟨a, l, c, rfl, hs⟩ := open_intsv h2 hw2
  exact ⟨W, Hh, a, l, c, f, rfl, hs⟩
end
set_option maxHeartbeats 1000000 in
theorem lives_any (w : World) : Calls Try.prog 10 #[] w (BolP w true) := by
  have hb1 : Below w.heap.size w (w.alloc (.cells #[.int .i64 1, .int .i64 2, .int .i64 3, .int .i64 4] 3)) := (Below.refl _ _).alloc (Nat.le_refl _) _
  have hr1 := row_new w (ints [1, 2, 3, 4]) 3
  obtain ⟨w2, hw2, HB2, HX2, hz2⟩ := box1 26 (w.alloc (.cells #[.int .i64 1, .int .i64 2, .int .i64 3, .int .i64 4] 3)) (.int .i64 2) (.int .i64 2) (.slice (some ⟨w.heap.size, 0, none⟩) 4 4)
  have HCU := Lib.hid (cut_any 2 2 (some ⟨w.heap.size, 0, none⟩) 4 4 [1, 2, 3, 4] 1 1 2 2 w2 ((VRow.below hr1 HB2.out (Nat.le_refl _)).mono HB2.out.size) rfl (by omega) (by omega) (by omega))
  have HBW := Lib.hid (hb1.trans (HB2.out.mono hb1.size))
  have HW2 := Lib.hid hw2
  have hsz : (w.alloc (.cells #[.int .i64 1, .int .i64 2, .int .i64 3, .int .i64 4] 3)).heap.size = w.heap.size + 1 := by simp
  rw [hsz] at HX2
  clear hb1 hr1 hw2 hz2 hsz
  go_enter Try.func10, Try.ntmps10
  go_wp2_with fail
  rw [← HW2.out]
  refine HCU.out.mono ?_
  rintro e w3 (⟨_, G, rfl, ho⟩ | ⟨hq, _⟩)
  case inr => exact absurd hq (by decide)
  have HO := Lib.hid ho
  obtain ⟨w4, hw4, HB4, HX4, hz4⟩ := box1 26 w3 (.int .i64 2) (.int .i64 2) (.slice (some ⟨G, 0, none⟩) 4 4)
  have hx2 := (HX2.out.go ho.1).go HB4.out
  have k := hx2.cells
  rw [hw4] at k
  obtain ⟨k0, k1, k2⟩ := k
  have HW4 := Lib.hid hw4
  have HB5 := Lib.hid (HBW.out.trans ((ho.1.trans (HB4.out.mono ho.1.size)).mono HBW.out.size))
  have HR := Lib.hid (right_any 2 2 (some ⟨w.heap.size, 0, none⟩) 4 4 w4)
  have HO4 := Lib.hid (ho.go HB4.out)
  clear ho hx2 hw4 hz4 HB4
  go_wp2_with fail
  rw [← HW4.out]
  refine HR.out.mono ?_
  rintro e w5 ⟨rfl, hb5⟩
  have HB6 := Lib.hid (HB5.out.trans (hb5.mono HB5.out.size))
  have HO5 := HO4.out.go hb5
  obtain ⟨k0, k1, k2⟩ := (HX4.out.go hb5).cells
  have hb7 : Below w5.heap.size w5 (w5.alloc (.cells #[.int .i64 4, .int .i64 4, .int .i64 4, .int .i64 4] 3)) := (Below.refl _ _).alloc (Nat.le_refl _) _
  have HSM := Lib.hid (same_yes (some ⟨G, 0, none⟩) 4 (some ⟨w5.heap.size, 0, none⟩) 4 4 [4, 4, 4, 4] _ _ ((HO5.go hb7).row) (row_new w5 (ints [4, 4, 4, 4]) 3) rfl (by omega))
  have HB8 := Lib.hid (HB6.out.trans (hb7.mono HB6.out.size))
  clear hb5 HO5 hb7
  go_wp2_with fail
  refine HSM.out.mono ?_
  rintro e w9 ⟨rfl, hd⟩
  have HB9 := Lib.hid (HB8.out.trans ((hd.below _).mono HB8.out.size))
  clear hd
  go_wp2_with fail
  go_ret
  exact ⟨rfl, HB9.out⟩
end Go.Proofs.Ytjecakkdongcoaa.Gr


/- The chapter's example lives. -/
import Derived.Test.YtefniglinligeaaLpL
namespace Go.Proofs.Ytefniglinligeaa.Lp
open Go.RowKit Go.Proofs.Ytefniglinligeaa.Oct Go.Proofs.Ytefniglinligeaa.Lm
set_option linter.unusedVariables false
set_option linter.unusedSimpArgs false
set_option maxRecDepth 100000

theorem eight_row (w : World) : VRow (w.alloc (.cells #[.int .i64 8, .int .i64 4, .int .i64 2, .int .i64 1] 3)) (w.alloc (.cells #[.int .i64 8, .int .i64 4, .int .i64 2, .int .i64 1] 3)).heap.size (some ⟨w.heap.size, 0, none⟩) (ints [8, 4, 2, 1]) := vrow_blk (heap_alloc_last w _) (by simp)
/-- lengths of the example -/
def EightP (w : World) (most : Nat) (e : Ending) (w' : World) : Prop := Below w.heap.size w w' ∧ ∃ bl ls, e = .returned (.tuple #[.slice (some ⟨bl, 0, none⟩) 4 4, .int .i64 0]) ∧ VRow w' w'.heap.size (some ⟨bl, 0, none⟩) (ints (intsOf ls)) ∧ Fine [8, 4, 2, 1] most ls
theorem eight_any (most : Nat) (h : okB [8, 4, 2, 1] (most : Int) = true) (h2 : 4 ≤ 2 ^ most) (w : World) : Calls Try.prog 8 #[.slice (some ⟨w.heap.size, 0, none⟩) 4 4, .int .i64 (most : Int)] (w.alloc (.cells #[.int .i64 8, .int .i64 4, .int .i64 2, .int .i64 1] 3)) (EightP (w.alloc (.cells #[.int .i64 8, .int .i64 4, .int .i64 2, .int .i64 1] 3)) most) := by
  refine (lengths_any (some ⟨w.heap.size, 0, none⟩) 4 4 (most : Int) [8, 4, 2, 1] _ (eight_row w) rfl).mono ?_
  rintro e w' ⟨hb, h3 | h3 | h3⟩
  · rw [h] at h3; cases h3.1
  · have : (come (natsOf [8, 4, 2, 1])).length = 4 := by decide
    have h4 := h3.2.1
    rw [this, Int.toNat_natCast] at h4
    omega
  · obtain ⟨_, _, bl, ls, rfl, hr, _, hf⟩ := h3
    rw [Int.toNat_natCast] at hf
    exact ⟨hb, bl, ls, rfl, hr.row, hf⟩
theorem eight_four (w : World) : Calls Try.prog 8 #[.slice (some ⟨w.heap.size, 0, none⟩) 4 4, .int .i64 4] (w.alloc (.cells #[.int .i64 8, .int .i64 4, .int .i64 2, .int .i64 1] 3)) (EightP (w.alloc (.cells #[.int .i64 8, .int .i64 4, .int .i64 2, .int .i64 1] 3)) 4) := eight_any 4 (by decide) (by decide) w
theorem eight_two (w : World) : Calls Try.prog 8 #[.slice (some ⟨w.heap.size, 0, none⟩) 4 4, .int .i64 2] (w.alloc (.cells #[.int .i64 8, .int .i64 4, .int .i64 2, .int .i64 1] 3)) (EightP (w.alloc (.cells #[.int .i64 8, .int .i64 4, .int .i64 2, .int .i64 1] 3)) 2) := eight_any 2 (by decide) (by decide) w
/-- the cost of the example -/
theorem eight_cost (w : World) (bl : Nat) (ls : List Nat) (c : Int) (h : VRow w w.heap.size (some ⟨bl, 0, none⟩) (ints (intsOf ls))) (hl : ls.length = 4) (hc : sumI [8, 4, 2, 1] (intsOf ls) (min 4 (intsOf ls).length) = c) :
    Calls Try.prog 12 #[.slice (some ⟨w.heap.size, 0, none⟩) 4 4, .slice (some ⟨bl, 0, none⟩) 4 4] (w.alloc (.cells #[.int .i64 8, .int .i64 4, .int .i64 2, .int .i64 1] 3)) fun e w' => e = .returned (.int .i64 c) ∧ Below w.heap.size w w' := by
  have hb : Below w.heap.size w (w.alloc (.cells #[.int .i64 8, .int .i64 4, .int .i64 2, .int .i64 1] 3)) := (Below.refl _ w).alloc (Nat.le_refl _) _
  have := cost_any (some ⟨w.heap.size, 0, none⟩) (some ⟨bl, 0, none⟩) 4 4 4 4 [8, 4, 2, 1] (intsOf ls) _ (eight_row w) ((h.below hb (Nat.le_refl _)).mono hb.size) rfl (by unfold intsOf; rw [List.length_map]; exact hl) (by omega) (by omega)
  rw [show ([8, 4, 2, 1] : List Int).length = 4 from rfl, hc] at this
  exact this.mono fun e w' ⟨h1, h2⟩ => ⟨h1, hb.trans (h2.mono hb.size)⟩
set_option maxHeartbeats 4000000 in
theorem lives_any (w : World) : Calls Try.prog 7 #[] w fun e w' => e = .returned (.bool true) ∧ Below w.heap.size w w' := by
  go_enter Try.func7, Try.ntmps7
  go_wp2_with fail
  refine (eight_four w).mono ?_
  rintro e w1 ⟨hb1, bl1, ls1, rfl, hr1, hf1⟩
  have HB1 : Hid (Below w.heap.size w w1) := ((Below.refl _ w).alloc (Nat.le_refl _) _).trans (hb1.mono (by simp))
  have HR1 := Lib.hid hr1
  have HF1 := Lib.hid hf1
  clear hb1 hr1 hf1
  go_wp2_with fail
  refine (eight_two w1).mono ?_
  rintro e w2 ⟨hb2, bl2, ls2, rfl, hr2, hf2⟩
  have HW12 : Hid (Below w1.heap.size w1 w2) := ((Below.refl _ w1).alloc (Nat.le_refl _) _).trans (hb2.mono (by simp))
  have HB2 : Hid (Below w.heap.size w w2) := HB1.out.trans (HW12.out.mono HB1.out.size)
  have HR2 := Lib.hid hr2
  have HF2 := Lib.hid hf2
  clear hb2 hr2 hf2
  have c1 := eight_cost w2 bl1 ls1 25 ((HR1.out.below HW12.out (Nat.le_refl _)).mono HW12.out.size) (by have := HF1.out.len; exact this) (eight4 HF1.out)
  go_wp2_with fail
  refine c1.mono ?_
  rintro e w3 ⟨rfl, hb3⟩
  have HB3 := Lib.hid hb3
  clear c1 hb3
  have c2 := eight_cost w3 bl2 ls2 30 ((HR2.out.below HB3.out (Nat.le_refl _)).mono HB3.out.size) (by have := HF2.out.len; exact this) (eight2 HF2.out)
  go_wp2_with fail
  refine c2.mono ?_
  rintro e w4 ⟨rfl, hb4⟩
  have HB4 : Hid (Below w.heap.size w w4) := HB2.out.trans ((HB3.out.trans (hb4.mono HB3.out.size)).mono HB2.out.size)
  clear c2 hb4
  go_wp2_with fail
  go_ret
  exact ⟨rfl, HB4.out⟩
end Go.Proofs.Ytefniglinligeaa.Lp

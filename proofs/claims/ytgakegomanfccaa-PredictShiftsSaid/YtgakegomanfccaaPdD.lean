
/- The chapter's example holds: lives of package predict's laws. -/
import Derived.Test.YtgakegomanfccaaPdC
namespace Go.Proofs.Ytgakegomanfccaa.Pd
open Go.RowKit Go.Proofs.Ytgakegomanfccaa.Oct Go.Proofs.Ytgakegomanfccaa.Sa Go.Proofs.Ytgakegomanfccaa.Pr
open Go.Proofs.Ytgakegomanfccaa.Lp (VRow vrow_blk vrow_own wpList_append_vals blk_set blk_far blk_frozen)
set_option linter.unusedVariables false
set_option linter.unusedSimpArgs false
set_option maxRecDepth 100000

theorem ex_diff : diffL (2 ^ ((8 : Int)).toNat) ((1 : Int)).toNat [10, 20, 15] = [10, 10, 251] := by decide +kernel
theorem ex_err : errD [10, 20, 15] 1 8 = 0 := by decide +kernel
theorem un_yes {w w' : World} {Y : List Nat} {e : Ending} {n : Nat} (h : UnP w Y 0 e w') (hn : Y.length = n) : Below w.heap.size w w' ∧ ∃ q cap, e = .returned (.tuple #[.slice q n cap, .int .i64 0]) ∧ VRow w' w'.heap.size q (u32s Y) ∧ n ≤ cap ∧ cap ≤ maxLen ∧ (q = none → cap = 0) ∧ ∀ a, q = some a → w.heap.size ≤ a.block := by
  subst hn
  obtain ⟨hb, ⟨_, q, cap, r⟩ | ⟨h0, _⟩⟩ := h
  · exact ⟨hb, q, cap, r⟩
  · exact absurd rfl h0
set_option maxHeartbeats 1000000 in
theorem lives_any (w : World) : Calls Try.prog 6 #[] w fun e w' => e = .returned (.bool true) ∧ Below w.heap.size w w' := by
  have hb1 : Below w.heap.size w (w.alloc (.cells (u32s [10, 20, 15]).toArray 31)) := (Below.refl _ w).alloc (Nat.le_refl _) _
  have h1 := diff_any (some ⟨w.heap.size, 0, none⟩) 3 3 1 8 [10, 20, 15] (w.alloc (.cells (u32s [10, 20, 15]).toArray 31)) (u32_new w _ _ (0, 0)) rfl (by omega)
  rw [ex_diff, ex_err] at h1
  have H1 := Lib.hid h1
  have HB1 := Lib.hid hb1
  clear h1 hb1
  go_enter Try.func6, Try.ntmps6
  go_wp2_with fail
  refine H1.out.mono ?_
  rintro e w1 hp
  obtain ⟨hb2, q1, c1, rfl, hr1, _⟩ := un_yes hp rfl
  have hbb := HB1.out.trans (hb2.mono HB1.out.size)
  have hb3 : Below w1.heap.size w1 (w1.alloc (.cells (u32s [10, 10, 251]).toArray 31)) := (Below.refl _ w1).alloc (Nat.le_refl _) _
  have h2 := same_any q1 c1 (some ⟨w1.heap.size, 0, none⟩) 3 [10, 10, 251] [10, 10, 251] (w1.alloc (.cells (u32s [10, 10, 251]).toArray 31)) _ ((hr1.below hb3 (Nat.le_refl _)).mono hb3.size) (u32_new w1 _ _ (0, 0)) (by simp) (by simp)
  rw [show sameU [10, 10, 251] [10, 10, 251] = true from rfl] at h2
  have H2 := Lib.hid h2
  have HBB := Lib.hid (hbb.trans (hb3.mono hbb.size))
  clear hp hb2 hbb hb3 h2 hr1 H1 HB1
  go_wp2_with fail
  refine H2.out.mono ?_
  rintro e w2 ⟨rfl, hd⟩
  have HBE := Lib.hid (HBB.out.trans (hd.below _))
  clear hd H2 HBB
  go_wp2_with fail
  go_ret
  exact ⟨rfl, HBE.out⟩
end Go.Proofs.Ytgakegomanfccaa.Pd

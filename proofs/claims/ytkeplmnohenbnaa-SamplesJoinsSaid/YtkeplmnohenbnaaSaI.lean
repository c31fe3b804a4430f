
/- The chapter's examples hold: lives of package samples' laws; the walk of SamplesPacks. -/
import Derived.Test.YtkeplmnohenbnaaSaH
namespace Go.Proofs.Ytkeplmnohenbnaa.Sa
open Go.RowKit Go.Proofs.Ytkeplmnohenbnaa.Oct Go.Proofs.Ytkeplmnohenbnaa.Bit
open Go.Proofs.Ytkeplmnohenbnaa.Lp (VRow vrow_blk vrow_own wpList_append_vals blk_set blk_far blk_frozen fillV fillV_length fillV_zero fillV_all fillV_step)
set_option linter.unusedVariables false
set_option linter.unusedSimpArgs false
set_option maxRecDepth 100000

theorem pk_yes {w w' : World} {X : List UInt8} {e : Ending} {n : Nat} (h : PkP w X 0 e w') (hn : X.length = n) : Below w.heap.size w w' ∧ ∃ q cap, e = .returned (.tuple #[.slice q n cap, .int .i64 0]) ∧ Row w' q X ∧ n ≤ cap ∧ cap ≤ maxLen ∧ (q = none → cap = 0) ∧ ∀ a, q = some a → w.heap.size ≤ a.block := by
  subst hn
  obtain ⟨hb, ⟨_, q, cap, r⟩ | ⟨h0, _⟩⟩ := h
  · exact ⟨hb, q, cap, r⟩
  · exact absurd rfl h0
theorem ex_one : packS 1 false [1, 0, 1, 1] = [176] := by decide +kernel
theorem ex_two : packS 16 false [258] = [2, 1] := by decide +kernel
theorem exE_one : packE 1 [1, 0, 1, 1] = 0 := by decide +kernel
theorem exE_two : packE 16 [258] = 0 := by decide +kernel
set_option maxHeartbeats 1000000 in
theorem lives_any (w : World) : Calls Try.prog 7 #[] w fun e w' => e = .returned (.bool true) ∧ Below w.heap.size w w' := by
  have hb1 : Below w.heap.size w (w.alloc (.cells (u32s [1, 0, 1, 1]).toArray 45)) := (Below.refl _ w).alloc (Nat.le_refl _) _
  have h1 := pack_any (some ⟨w.heap.size, 0, none⟩) 4 4 1 false [1, 0, 1, 1] (w.alloc (.cells (u32s [1, 0, 1, 1]).toArray 45)) (u32_new w _ _ (0, 0)) rfl (by omega) (by decide)
  rw [show ((1 : Int)).toNat = 1 from rfl, ex_one, exE_one] at h1
  have H1 := Lib.hid h1
  have HB1 := Lib.hid hb1
  clear h1 hb1
  go_enter Try.func7, Try.ntmps7
  go_wp2_with fail
  refine H1.out.mono ?_
  rintro e w1 hp
  obtain ⟨hb2, q1, c1, rfl, hr1, _⟩ := pk_yes hp rfl
  have hbb := HB1.out.trans (hb2.mono HB1.out.size)
  have hb3 : Below w1.heap.size w1 (w1.alloc (.cells (u32s [258]).toArray 45)) := (Below.refl _ w1).alloc (Nat.le_refl _) _
  have h2 := pack_any (some ⟨w1.heap.size, 0, none⟩) 1 1 16 false [258] (w1.alloc (.cells (u32s [258]).toArray 45)) (u32_new w1 _ _ (0, 0)) rfl (by omega) (by decide)
  rw [show ((16 : Int)).toNat = 16 from rfl, ex_two, exE_two] at h2
  have H2 := Lib.hid h2
  have HBB := Lib.hid hbb
  have HB3 := Lib.hid hb3
  have HR1 := Lib.hid hr1
  clear hp hb2 hbb hb3 h2 hr1 H1 HB1
  go_wp2_with fail
  refine H2.out.mono ?_
  rintro e w2 hp
  obtain ⟨hb2, q2, c2, rfl, hr2, _⟩ := pk_yes hp rfl
  have hb4 := HB3.out.trans (hb2.mono HB3.out.size)
  have hbe := HBB.out.trans (hb4.mono HBB.out.size)
  have hr3 := HR1.out.below hb4
  have cv1 := conv_row 1 c1 hr3 rfl
  have cv2 := conv_row 2 c2 hr2 rfl
  have q176 : (bs [176]).toList = [176] := bs_toList _
  have q21 : (bs [2, 1]).toList = [2, 1] := bs_toList _
  have HBE := Lib.hid hbe
  clear hp hb2 hb4 hbe hr3 hr2 H2 HBB HB3 HR1
  go_wp2_with fail
  go_ret
  exact ⟨rfl, HBE.out⟩
end Go.Proofs.Ytkeplmnohenbnaa.Sa

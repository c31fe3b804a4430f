/- The chapter's example holds whatever the world: lives returns true, and nothing that was there is written. -/
import Derived.Test.YtmobdanpkojbbaaOctB
import Derived.Laws.NewBlocks
namespace Go.Proofs.Ytmobdanpkojbbaa.Oct
open Go.RowKit
set_option linter.unusedVariables false

theorem Drawn.below {w w' : World} (h : Drawn w w') (B : Nat) : Below B w w' := by
  obtain ⟨n, rfl⟩ := h
  exact ⟨rfl, rfl, rfl, Nat.le_refl _, fun _ _ => rfl⟩
theorem row_new (w : World) (T : Nat) : Row (w.alloc (.cells #[.int .u8 1, .int .u8 2] T)) (some ⟨w.heap.size, 0, none⟩) [1, 2] := by
  intro _
  refine ⟨w.heap.size, 0, rfl, by simp, fun i h => ?_⟩
  match i, h with
  | 0, _ => simp
  | 1, _ => simp

theorem lives_any (w : World) : Calls Try.prog 8 #[] w fun e w' => e = .returned (.bool true) ∧ Below w.heap.size w w' := by
  go_enter Try.func8, Try.ntmps8
  go_wp2_with fail
  refine (get_any _ _ _ _ _ _ [1, 2] _ (row_new w _) rfl (by simp [maxLen]) (by omega) (by omega)).mono ?_
  rintro e w1 ⟨rfl, hd⟩
  have e1 : getV [1, 2] 0 2 true = 258 := by decide
  have e2 : getE [1, 2] 0 2 = 0 := by decide
  rw [e1, e2]; clear e1 e2
  go_wp2_with fail
  refine (get_any _ _ _ _ _ _ [1, 2] _ (row_new _ _) rfl (by simp [maxLen]) (by omega) (by omega)).mono ?_
  rintro e w2 ⟨rfl, hd2⟩
  have e1 : getV [1, 2] 0 2 false = 513 := by decide
  have e2 : getE [1, 2] 0 2 = 0 := by decide
  rw [e1, e2]; clear e1 e2
  go_wp2_with fail
  go_ret
  have b1 := hd.below w.heap.size
  have b2 := hd2.below w.heap.size
  have hz : w.heap.size ≤ w1.heap.size := by obtain ⟨n, rfl⟩ := hd; simp
  exact ⟨rfl, ((((Below.refl _ w).alloc (Nat.le_refl _) _).trans b1).alloc hz _).trans b2⟩
end Go.Proofs.Ytmobdanpkojbbaa.Oct

/- IhG: merged. -/
import Derived.Lib.AppendStr
import Derived.Test.YtkkfkmoikcmhoaaGreatQaf
import Derived.Test.YtkkfkmoikcmhoaaGreatQah
import Derived.Test.YtkkfkmoikcmhoaaGreatQat
set_option linter.unusedVariables false
set_option linter.unusedSimpArgs false
namespace Go.Proofs.YtkkfkmoikcmhoaaGreat.Inf
open Go.RowKit Oct Bit Hf
set_option maxRecDepth 100000
theorem Yi4 : ∀ m ∈ Y06 Y0r, m.length ≤ 30 := by
 intro m hm
 obtain ⟨i, hi⟩ := List.mem_iff_getElem?.1 hm
 obtain ⟨hi', rfl⟩ := List.getElem?_eq_some_iff.1 hi
 have h2 : i < Y0r.length := by rwa [Y0c] at hi'
 rw [Y4z Y0r i hi' h2]
 exact Y50 _ (List.getElem_mem h2)
theorem Yi5 : ∀ m ∈ Y06 Y0n, m.length ≤ 30 := by
 intro m hm
 obtain ⟨i, hi⟩ := List.mem_iff_getElem?.1 hm
 obtain ⟨hi', rfl⟩ := List.getElem?_eq_some_iff.1 hi
 have h2 : i < Y0n.length := by rwa [Y0c] at hi'
 rw [Y4z Y0n i hi' h2]
 exact Y51 _ (List.getElem_mem h2)
theorem Yjv : Y48 Y0r false false = .ok (Y06 Y0r) := by
 unfold Y48
 rw [if_pos (Nat.le_of_eq Y59), if_neg (by rintro ⟨h, _⟩; cases h)]
theorem Yjw : Y48 Y0n false false = .ok (Y06 Y0n) := by
 unfold Y48
 rw [if_pos Y5a, if_neg (by rintro ⟨h, _⟩; cases h)]
end Go.Proofs.YtkkfkmoikcmhoaaGreat.Inf

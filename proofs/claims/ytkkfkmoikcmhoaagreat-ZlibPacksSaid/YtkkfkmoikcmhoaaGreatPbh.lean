/- IhG: merged. -/
import Derived.Lib.AppendStr
import Derived.Test.YtkkfkmoikcmhoaaGreatPah
import Derived.Test.YtkkfkmoikcmhoaaGreatPaj
import Derived.Test.YtkkfkmoikcmhoaaGreatPbe
set_option linter.unusedVariables false
set_option linter.unusedSimpArgs false
namespace Go.Proofs.YtkkfkmoikcmhoaaGreat.Inf
open Go.RowKit Oct Bit Hf
set_option maxRecDepth 100000
theorem Yu1 : ∀ m ∈ Y04 Y0l, m.length ≤ 30 := by
 intro m hm
 obtain ⟨i, hi⟩ := List.mem_iff_getElem?.1 hm
 obtain ⟨hi', rfl⟩ := List.getElem?_eq_some_iff.1 hi
 have h2 : i < Y0l.length := by rwa [Y0c] at hi'
 rw [Y2a Y0l i hi' h2]
 exact Yc4 _ (List.getElem_mem h2)
theorem Yu2 : ∀ m ∈ Y04 Y0m, m.length ≤ 30 := by
 intro m hm
 obtain ⟨i, hi⟩ := List.mem_iff_getElem?.1 hm
 obtain ⟨hi', rfl⟩ := List.getElem?_eq_some_iff.1 hi
 have h2 : i < Y0m.length := by rwa [Y0c] at hi'
 rw [Y2a Y0m i hi' h2]
 exact Yc5 _ (List.getElem_mem h2)
theorem Ywj : Y6t Y0l false false = .ok (Y04 Y0l) := by
 unfold Y6t
 rw [if_pos (Nat.le_of_eq Yf6), if_neg (by rintro ⟨h, _⟩; cases h)]
theorem Ywk : Y6t Y0m false false = .ok (Y04 Y0m) := by
 unfold Y6t
 rw [if_pos Yf7, if_neg (by rintro ⟨h, _⟩; cases h)]
end Go.Proofs.YtkkfkmoikcmhoaaGreat.Inf

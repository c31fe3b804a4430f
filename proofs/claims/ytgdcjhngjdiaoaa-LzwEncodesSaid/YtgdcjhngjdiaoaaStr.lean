
/- '[]byte(s)' of whatever string: a new row. -/
import Derived.Test.YtgdcjhngjdiaoaaTail
import Derived.Lib.ConvBytes
namespace Go.Proofs.Ytgdcjhngjdiaoaa.Oct
open Go.RowKit
set_option linter.unusedVariables false

theorem str_row (w : World) (xs : List UInt8) : ∃ w' c, (convert 9 22 (.string (bs xs))).run Try.prog w = .ok (.slice (some ⟨w.heap.size, 0, none⟩) xs.length c) w' ∧ Below w.heap.size w w' ∧ Row w' (some ⟨w.heap.size, 0, none⟩) xs := by
  refine ⟨Lib.bytesWorld w 5 (bs xs), grownCap w (bs xs).size 0 5, ?_, ?_, ?_⟩
  · rw [Lib.run_convert_string_bytes w 9 22 5 (bs xs) Try.underlying9 Try.underlying22 Try.underlying5, bs_size]
  · refine ⟨rfl, rfl, rfl, by rw [Lib.bytesWorld_size]; omega, fun j hj => Lib.bytesWorld_at_old w 5 (bs xs) j hj⟩
  · intro _
    refine ⟨w.heap.size, 0, rfl, by rw [Lib.bytesWorld_size]; omega, fun i hi => ?_⟩
    rw [Nat.zero_add, Lib.bytesWorld_cell w 5 (bs xs) i (by rw [bs_size]; exact hi)]
    simp [bs, List.getD, List.getElem?_eq_getElem hi]
/-- a row, and where -/
def RowP (w : World) (xs : List UInt8) (e : Ending) (w' : World) : Prop :=
  ∃ q c, e = .returned (.slice q xs.length c) ∧ Row w' q xs ∧ (q = none → c = 0) ∧ Below w.heap.size w w'
end Go.Proofs.Ytgdcjhngjdiaoaa.Oct

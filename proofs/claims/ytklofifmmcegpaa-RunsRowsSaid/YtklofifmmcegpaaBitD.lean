
/- Contracts of slices.Clone over bytes and of NewReader; the chapter's example holds. -/
import Derived.Test.YtklofifmmcegpaaBitC
import Derived.Lib.SliceRun
namespace Go.Proofs.Ytklofifmmcegpaa.Bit
open Go.RowKit Go.Proofs.Ytklofifmmcegpaa.Oct
set_option linter.unusedVariables false

def CloneP (w : World) (xs : List UInt8) (e : Ending) (w' : World) : Prop :=
  Below w.heap.size w w' ∧ ∃ q cap, e = .returned (.slice q xs.length cap) ∧ Row w' q xs ∧ xs.length ≤ cap ∧ cap ≤ maxLen ∧ (q = none → cap = 0) ∧ ∀ a, q = some a → w.heap.size ≤ a.block
theorem row_one (w : World) (x : UInt8) (T : Nat) : Row (w.alloc (.cells #[.int .u8 (x.toNat : Int)] T)) (some ⟨w.heap.size, 0, none⟩) [x] := by
  intro _
  refine ⟨w.heap.size, 0, rfl, by simp, fun i h => ?_⟩
  match i, h with
  | 0, _ => simp
end Go.Proofs.Ytklofifmmcegpaa.Bit


/- The document's Changes, in a row that is new, and Against. -/
import Derived.Test.YtmbfgejephgojaaGreatDoorMiH
import Derived.Test.YtmbfgejephgojaaGreatDoorMiG
import Derived.Test.YtmbfgejephgojaaGreatDoorRnK
import Derived.Deep.RegionHeld3
namespace Go.Proofs.YtmbfgejephgojaaGreatDoor.Rn
open Go.RowKit Go.Proofs.YtmbfgejephgojaaGreatDoor.Oct Go.Proofs.YtmbfgejephgojaaGreatDoor.Bit
open Go.Proofs.YtmbfgejephgojaaGreatDoor.Lp (VRow ints ints_length ints_append ints_one vrow_own wpList_append_vals Tryz.infoInt)
set_option linter.unusedVariables false
set_option linter.unusedSimpArgs false
set_option maxRecDepth 100000

end Go.Proofs.YtmbfgejephgojaaGreatDoor.Rn
namespace Go.Proofs.YtmbfgejephgojaaGreatDoor.Mh
open Go.RowKit Go.Proofs.YtmbfgejephgojaaGreatDoor.Oct Go.Proofs.YtmbfgejephgojaaGreatDoor.Bit
open Go.Proofs.YtmbfgejephgojaaGreatDoor.Fx (tellF modesF RowN)
open Go.Proofs.YtmbfgejephgojaaGreatDoor.Hf (strs strs_length wordsU wordsU_length)
open Go.Proofs.YtmbfgejephgojaaGreatDoor.Rn (changes nextX nextF nextI zl zl_length nextI_zl Valid)
open Go.Proofs.YtmbfgejephgojaaGreatDoor.Lp (VRow ints ints_length)
set_option linter.unusedVariables false
set_option linter.unusedSimpArgs false
set_option maxRecDepth 100000

def ModesP (w : World) (e : Ending) (w' : World) : Prop :=
  Below w.heap.size w w' ∧ ∃ bb off c, e = .returned (.slice (some ⟨bb, off, none⟩) 10 c) ∧ bb < w'.heap.size ∧ ∀ i, i < 10 → w'.cell? ⟨bb, off + i, none⟩ = some (.string (ds (modesF.getD i [])))
end Go.Proofs.YtmbfgejephgojaaGreatDoor.Mh


/- Contracts of the document's Write, Align and Bytes. -/
import Derived.Test.YtmbfgejephgojaaGreatDoorBitY
namespace Go.Proofs.YtmbfgejephgojaaGreatDoor.Bit
open Go.RowKit Go.Proofs.YtmbfgejephgojaaGreatDoor.Oct
set_option linter.unusedVariables false
set_option maxRecDepth 20000

def strLen : Value → Nat | .string b => b.size | _ => 0
theorem zs1 : (Value.string { data := #[48] }) = .string (ds (zs 1)) := by rfl
theorem zs8 : (Value.string { data := #[48, 48, 48, 48, 48, 48, 48, 48] }) = .string (ds (zs 8)) := by rfl
theorem padL_done (l : List Bool) (h : l.length % 8 = 0) : padL l = l := by
  unfold padL
  rw [show 8 * ((l.length + 7) / 8) - l.length = 0 by omega]
  simp [zs]
end Go.Proofs.YtmbfgejephgojaaGreatDoor.Bit

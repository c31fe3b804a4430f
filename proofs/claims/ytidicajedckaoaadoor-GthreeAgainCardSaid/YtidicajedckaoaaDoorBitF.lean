
/- Contracts of the document's own functions on texts of 0 and 1: Of, Peek, Read. -/
import Derived.Test.YtidicajedckaoaaDoorBitE
namespace Go.Proofs.YtidicajedckaoaaDoor.Bit
open Go.RowKit Go.Proofs.YtidicajedckaoaaDoor.Oct
set_option linter.unusedVariables false

theorem wordE_of (low : Bool) (v n : Nat) : (if low then (word v n).reverse else word v n) = wordE low v n := rfl

theorem zs32 : (Value.string { data := #[48, 48, 48, 48, 48, 48, 48, 48, 48, 48, 48, 48, 48, 48, 48, 48, 48, 48, 48, 48, 48, 48, 48, 48, 48, 48, 48, 48, 48, 48, 48, 48] }) = .string (ds (zs 32)) := by rfl
/-- the document's answers -/
def rpV (n : Int) (low : Bool) (l : List Bool) (at_ : Nat) : Int := if cntB n then ((peekV low (l.drop at_) n.toNat : Nat) : Int) else 0
def rrV (n : Int) (low : Bool) (l : List Bool) (at_ : Nat) : Int := if okR n l.length at_ then ((peekV low (l.drop at_) n.toNat : Nat) : Int) else 0
end Go.Proofs.YtidicajedckaoaaDoor.Bit


/- Contracts of NewWriter, Len, Bytes, Align, Write and Word of a writer. -/
import Derived.Test.YtklofifmmcegpaaBitX
namespace Go.Proofs.Ytklofifmmcegpaa.Bit
open Go.RowKit Go.Proofs.Ytklofifmmcegpaa.Oct
set_option linter.unusedVariables false
set_option maxRecDepth 20000

/-- 0 bits till a byte is full -/
def padL (l : List Bool) : List Bool := l ++ zs (8 * ((l.length + 7) / 8) - l.length)
theorem padL_length (l : List Bool) : (padL l).length = 8 * ((l.length + 7) / 8) := by unfold padL; rw [List.length_append, zs_length]; omega
/-- may a number be written in so many bits? -/
def okW (m : Nat) (n : Int) : Bool := cntB n && decide (m < 2 ^ n.toNat)
def wrE (m : Nat) (n : Int) : Int := if cntB n then (if okW m n then 0 else 7) else 1
def wrL (low : Bool) (l : List Bool) (m : Nat) (n : Int) : List Bool := if okW m n then l ++ wordE low m n.toNat else l
theorem shr_zero (m k : Nat) : ((m : Int) / 2 ^ k != 0) = !decide (m < 2 ^ k) := by
  have e : ((m : Int) / 2 ^ k) = ((m / 2 ^ k : Nat) : Int) := by push_cast; rfl
  rw [e, Bool.eq_iff_iff]
  have hp : 0 < 2 ^ k := Nat.pow_pos (by omega)
  have hz := @Nat.div_eq_zero_iff m (2 ^ k)
  generalize m / 2 ^ k = d at hz ⊢
  generalize 2 ^ k = b at hz hp ⊢
  simp
  omega
theorem wordE_one (low b : Bool) : wordE low b.toNat 1 = [b] := by cases low <;> cases b <;> rfl
end Go.Proofs.Ytklofifmmcegpaa.Bit


/- The law's pixels; the document's colour, run, Row. -/
import Derived.Test.YtmbfgejephgojaaGreatDoorMhP
import Derived.Test.YtmbfgejephgojaaGreatDoorFyI
import Derived.Test.YtmbfgejephgojaaGreatDoorRnK
import Derived.BigQuiet
namespace Go.Proofs.YtmbfgejephgojaaGreatDoor.Mh
open Go.RowKit Go.Proofs.YtmbfgejephgojaaGreatDoor.Oct Go.Proofs.YtmbfgejephgojaaGreatDoor.Bit
open Go.Proofs.YtmbfgejephgojaaGreatDoor.Fx (tellF)
set_option linter.unusedVariables false
set_option linter.unusedSimpArgs false
set_option maxRecDepth 100000

theorem and1f : ∀ m : Fin 256, bits .and .u8 ((m.val : Nat) : Int) 1 = ((m.val % 2 : Nat) : Int) := by decide +kernel
theorem and1b (m : Nat) (h : m < 256) : bits .and .u8 (m : Int) 1 = ((m % 2 : Nat) : Int) := and1f ⟨m, h⟩
/-- a text's bytes as white and black -/
def pixB (xs : List UInt8) : List Bool := xs.map fun c => c.toNat % 2 == 1
theorem pixB_length (xs : List UInt8) : (pixB xs).length = xs.length := by simp [pixB]
theorem one_black : ({ data := #[48, 49] } : ByteArray).extract 1 2 = ds [true] := by show (ds [false, true]).extract 1 2 = _; rw [ds_extract]; rfl
theorem one_white : ({ data := #[48, 49] } : ByteArray).extract 0 1 = ds [false] := by show (ds [false, true]).extract 0 1 = _; rw [ds_extract]; rfl
theorem ds_one (X : List Bool) (k : Nat) (h : k < X.length) : (ds X).extract k (k + 1) = ds [X[k]] := by
  rw [ds_extract, show k + 1 - k = 1 from by omega, List.drop_eq_getElem_cons h]
  rfl
theorem restR_len (b : Bool) (n : Nat) : ∀ (l : List Bool) (b : Bool) (n : Nat), n + l.length ≤ 32768 → (restR b n l).length ≤ 200 * (l.length + 1)
  | [], b, n, h => by
    rw [restR_nil]
    simpa using tellF_len b n (by simpa using h)
  | x :: l, b, n, h => by
    rw [List.length_cons] at h ⊢
    by_cases hx : x = b
    · subst hx
      rw [restR_same]
      have := restR_len b n l x (n + 1) (by omega)
      omega
    · have hb : (!b) = x := by cases b <;> cases x <;> simp_all
      subst hb
      rw [restR_turn, List.length_append]
      have h1 := restR_len b n l (!b) 1 (by omega)
      have h2 := tellF_len b n (by omega)
      omega
end Go.Proofs.YtmbfgejephgojaaGreatDoor.Mh


/- Contracts of the document's own functions on texts of 0 and 1: Turn, Word, Number. -/
import Derived.Test.YtmbfgejephgojaaGreatDoorBitD
namespace Go.Proofs.YtmbfgejephgojaaGreatDoor.Bit
open Go.RowKit Go.Proofs.YtmbfgejephgojaaGreatDoor.Oct
set_option linter.unusedVariables false

def dig (b : Bool) : UInt8 := if b then 49 else 48
/-- the text of these bits -/
def ds (l : List Bool) : ByteArray := bs (l.map dig)
theorem ds_size (l : List Bool) : (ds l).size = l.length := by simp [ds, bs_size]
theorem ds_append (a b : List Bool) : ds a ++ ds b = ds (a ++ b) := by simp [ds, bs_append]
theorem ds_extract (l : List Bool) (a b : Nat) : (ds l).extract a b = ds ((l.drop a).take (b - a)) := by simp [ds, bs_extract, List.map_take, List.map_drop]
theorem ds_get (l : List Bool) (k : Nat) (h : k < (ds l).size) (h' : k < l.length) : (ds l)[k] = dig l[k] := by
  have h2 := bs_get (l.map dig) k h (by simpa using h')
  rw [List.getElem_map] at h2
  exact h2
theorem ds_inj (a b : List Bool) (h : ds a = ds b) : a = b := by
  unfold ds bs at h
  injection h with h
  have h2 : a.map dig = b.map dig := by simpa using congrArg Array.toList h
  refine (List.map_inj_right (f := dig) ?_).1 h2
  intro x y hxy
  cases x <;> cases y <;> simp [dig] at hxy ⊢
theorem dig_toNat (b : Bool) : ((dig b).toNat : Int) = 48 + (b.toNat : Int) := by cases b <;> rfl

theorem row_val (w : World) (z : Int) (x : UInt8) (h : z = (x.toNat : Int)) : Row (w.alloc (.cells #[.int .u8 z] 5)) (some ⟨w.heap.size, 0, none⟩) [x] := by
  subst h
  exact row_one w x _

theorem num_bd (l : List Bool) (h : l.length ≤ 32) : num l < 4294967296 := by
  have h1 := num_lt l
  have h2 : (2 : Nat) ^ l.length ≤ 2 ^ 32 := Nat.pow_le_pow_right (by omega) h
  omega
theorem num_step (l : List Bool) (k : Nat) (h : k < l.length) (h32 : l.length ≤ 32) (h' : k < (ds l).size) :
    (((num (l.take k) : Nat) : Int) * 2 % 4294967296 + (((ds l)[k].toNat : Int) - 48) % 256) % 4294967296 = ((num (l.take (k + 1)) : Nat) : Int) := by
  have h2 := num_bd (l.take (k + 1)) (by rw [List.length_take]; omega)
  rw [ds_get l k h' h, dig_toNat]
  rw [List.take_succ_eq_append_getElem h, num_snoc] at h2 ⊢
  generalize num (l.take k) = m at h2 ⊢
  have hx : (l[k]).toNat ≤ 1 := by cases l[k] <;> simp
  generalize (l[k]).toNat = x at h2 hx ⊢
  omega
end Go.Proofs.YtmbfgejephgojaaGreatDoor.Bit
/- Contracts of the document's own functions on texts of 0 and 1: Of, Peek, Read. -/
namespace Go.Proofs.YtmbfgejephgojaaGreatDoor.Bit
open Go.RowKit Go.Proofs.YtmbfgejephgojaaGreatDoor.Oct
set_option linter.unusedVariables false

theorem wordE_of (low : Bool) (v n : Nat) : (if low then (word v n).reverse else word v n) = wordE low v n := rfl

theorem zs32 : (Value.string { data := #[48, 48, 48, 48, 48, 48, 48, 48, 48, 48, 48, 48, 48, 48, 48, 48, 48, 48, 48, 48, 48, 48, 48, 48, 48, 48, 48, 48, 48, 48, 48, 48] }) = .string (ds (zs 32)) := by rfl
/-- the document's answers -/
def rpV (n : Int) (low : Bool) (l : List Bool) (at_ : Nat) : Int := if cntB n then ((peekV low (l.drop at_) n.toNat : Nat) : Int) else 0
def rrV (n : Int) (low : Bool) (l : List Bool) (at_ : Nat) : Int := if okR n l.length at_ then ((peekV low (l.drop at_) n.toNat : Nat) : Int) else 0
end Go.Proofs.YtmbfgejephgojaaGreatDoor.Bit

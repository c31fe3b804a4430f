
/- Plain facts on numbers told in bytes. -/
import Derived.Test.YtkeplmnohenbnaaOctM
namespace Go.Proofs.Ytkeplmnohenbnaa.Oct
set_option linter.unusedVariables false

/-- the k lowest bytes of n, the greatest first -/
def beB (n : Nat) : Nat → List UInt8
  | 0 => []
  | k + 1 => UInt8.ofNat (n / 256 ^ k % 256) :: beB n k
theorem beB_length (n k : Nat) : (beB n k).length = k := by
  induction k with
  | zero => rfl
  | succ k ih => simp [beB, ih]
theorem beB_get (n k i : Nat) (h : i < (beB n k).length) : (beB n k)[i] = UInt8.ofNat (n / 256 ^ (k - 1 - i) % 256) := by
  induction k generalizing i with
  | zero => simp [beB] at h
  | succ k ih =>
    rcases i with _ | i
    · simp [beB]
    · simp only [beB, List.getElem_cons_succ]
      rw [ih i (by simpa [beB_length] using h)]
      congr 3
      congr 1
      omega
theorem byte_toNat (m : Nat) : (UInt8.ofNat (m % 256)).toNat = m % 256 := by simp
theorem numB_beB (n k : Nat) : numB (beB n k) = n % 256 ^ k := by
  induction k with
  | zero => simp [beB, numB, Nat.mod_one]
  | succ k ih =>
    rw [beB, numB_cons, ih, beB_length, byte_toNat, Nat.pow_succ]
    rw [Nat.mod_mul]
    rw [Nat.mul_comm]
    omega
theorem numB_beB_of_lt (n k : Nat) (h : n < 256 ^ k) : numB (beB n k) = n := by rw [numB_beB, Nat.mod_eq_of_lt h]
/-- the bytes of n in either order -/
def putL (n k : Nat) (big : Bool) : List UInt8 := if big then beB n k else (beB n k).reverse
theorem putL_length (n k : Nat) (big : Bool) : (putL n k big).length = k := by cases big <;> simp [putL, beB_length]
theorem numOf_putL (n k : Nat) (big : Bool) (h : n < 256 ^ k) : numOf big (putL n k big) = n := by
  cases big <;> simp [putL, numOf, numB_beB_of_lt n k h]
theorem putL_get (n k i : Nat) (big : Bool) (h : i < (putL n k big).length) : (putL n k big)[i] = UInt8.ofNat (n / 2 ^ shiftN i k big % 256) := by
  rw [putL_length] at h
  cases big
  · simp only [putL, shiftN, pow8, Bool.false_eq_true, if_false]
    rw [List.getElem_reverse, beB_get]
    congr 3
    congr 1
    simp [beB_length]; omega
  · simp only [putL, shiftN, pow8, if_true]
    rw [beB_get]
theorem beB_step (n k : Nat) : UInt8.ofNat (n / 256 ^ k % 256) :: beB n k = beB n (k + 1) := rfl
theorem div_step (n k : Nat) : n / 256 ^ k / 256 = n / 256 ^ (k + 1) := by rw [Nat.div_div_eq_div_mul, Nat.pow_succ]
theorem div_zero_iff (n k : Nat) : n / 256 ^ k = 0 ↔ n < 256 ^ k := by
  rw [Nat.div_eq_zero_iff]
  have : 0 < 256 ^ k := Nat.pow_pos (by omega)
  constructor
  · rintro (h | h)
    · omega
    · exact h
  · exact Or.inr
end Go.Proofs.Ytkeplmnohenbnaa.Oct

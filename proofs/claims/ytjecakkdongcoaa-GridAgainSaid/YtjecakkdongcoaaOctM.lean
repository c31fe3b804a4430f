
/- Plain facts on the numbers that bytes stand for; no program in sight. -/
import Derived.Laws.BitsAllLaws
import Derived.Laws.Strings
import Derived.Laws.BytesArg
namespace Go.Proofs.Ytjecakkdongcoaa.Oct
set_option linter.unusedVariables false

def numB (l : List UInt8) : Nat := l.foldl (fun n x => n * 256 + x.toNat) 0
theorem foldl_numB (l : List UInt8) : ∀ n : Nat, l.foldl (fun n x => n * 256 + x.toNat) n = n * 256 ^ l.length + numB l := by
  unfold numB
  induction l with
  | nil => intro n; simp
  | cons x l ih =>
    intro n
    simp only [List.foldl_cons, List.length_cons]
    rw [ih (n * 256 + x.toNat), ih (0 * 256 + x.toNat)]
    rw [Nat.pow_succ, Nat.add_mul, Nat.add_mul]
    have : n * 256 * 256 ^ l.length = n * (256 ^ l.length * 256) := by rw [Nat.mul_assoc, Nat.mul_comm 256]
    omega
theorem numB_nil : numB [] = 0 := rfl
theorem numB_cons (x : UInt8) (l : List UInt8) : numB (x :: l) = x.toNat * 256 ^ l.length + numB l := by
  have h := foldl_numB l (0 * 256 + x.toNat)
  unfold numB at h ⊢
  rw [List.foldl_cons, h]; simp
theorem numB_snoc (l : List UInt8) (x : UInt8) : numB (l ++ [x]) = numB l * 256 + x.toNat := by
  simp [numB]
theorem numB_lt (l : List UInt8) : numB l < 256 ^ l.length := by
  induction l with
  | nil => simp [numB]
  | cons x l ih =>
    rw [numB_cons, List.length_cons, Nat.pow_succ]
    have hx : x.toNat < 256 := x.toNat_lt
    have : x.toNat * 256 ^ l.length + 256 ^ l.length ≤ 256 ^ l.length * 256 := by
      have h1 : (x.toNat + 1) * 256 ^ l.length ≤ 256 * 256 ^ l.length := Nat.mul_le_mul_right _ (by omega)
      rw [Nat.add_mul] at h1; rw [Nat.mul_comm (256 ^ l.length)]; omega
    omega
theorem pow8 (k : Nat) : 2 ^ (8 * k) = 256 ^ k := by rw [Nat.pow_mul]
def numOf (big : Bool) (l : List UInt8) : Nat := if big then numB l else numB l.reverse
/-- what has been gathered behind k of sz bytes -/
def part (big : Bool) (sz : Nat) (ys : List UInt8) : Nat := if big then numB ys * 256 ^ (sz - ys.length) else numB ys.reverse
theorem part_nil (big : Bool) (sz : Nat) : part big sz [] = 0 := by cases big <;> simp [part, numB]
theorem part_full (big : Bool) (sz : Nat) (ys : List UInt8) (h : ys.length = sz) : part big sz ys = numOf big ys := by
  cases big <;> simp [part, numOf, h]
theorem part_lt (big : Bool) (sz : Nat) (ys : List UInt8) (h : ys.length ≤ sz) (h8 : sz ≤ 8) : part big sz ys < 18446744073709551616 := by
  have e : (18446744073709551616 : Nat) = 256 ^ 8 := by decide
  have h2 : 256 ^ sz ≤ 256 ^ 8 := Nat.pow_le_pow_right (by omega) h8
  rw [e]
  refine Nat.lt_of_lt_of_le ?_ h2
  cases big
  · have := numB_lt ys.reverse
    rw [List.length_reverse] at this
    exact Nat.lt_of_lt_of_le this (Nat.pow_le_pow_right (by omega) h)
  · have := numB_lt ys
    have e2 : 256 ^ sz = 256 ^ ys.length * 256 ^ (sz - ys.length) := by rw [← Nat.pow_add]; congr 1; omega
    show numB ys * 256 ^ (sz - ys.length) < _
    rw [e2]
    exact Nat.mul_lt_mul_of_pos_right this (Nat.pow_pos (by omega))
def shiftN (i size : Nat) (big : Bool) : Nat := if big then 8 * (size - 1 - i) else 8 * i
theorem term_lt (x : UInt8) (i sz : Nat) (big : Bool) (hi : i < sz) (h8 : sz ≤ 8) : x.toNat * 2 ^ shiftN i sz big < 18446744073709551616 := by
  have e : (18446744073709551616 : Nat) = 256 * 256 ^ 7 := by decide
  have hx : x.toNat < 256 := x.toNat_lt
  have h1 : 2 ^ shiftN i sz big ≤ 256 ^ 7 := by
    cases big <;> simp only [shiftN, pow8, if_true, Bool.false_eq_true, if_false]
    · exact Nat.pow_le_pow_right (by omega) (by omega)
    · exact Nat.pow_le_pow_right (by omega) (by omega)
  rw [e]
  exact Nat.mul_lt_mul_of_lt_of_le hx h1 (Nat.pow_pos (by omega))
theorem part_step (big : Bool) (sz : Nat) (ys : List UInt8) (x : UInt8) (h : ys.length < sz) (h8 : sz ≤ 8) :
    part big sz ys ||| x.toNat * 2 ^ shiftN ys.length sz big = part big sz (ys ++ [x]) := by
  have hx : x.toNat < 256 := x.toNat_lt
  cases big
  · simp only [part, shiftN, pow8, Bool.false_eq_true, if_false, List.reverse_append, List.reverse_cons, List.reverse_nil, List.nil_append, List.singleton_append]
    rw [numB_cons, List.length_reverse, Nat.or_comm]
    refine nat_join (8 * ys.length) _ _ ?_ ?_
    · rw [pow8]; exact Nat.mul_mod_left _ _
    · rw [pow8]; have := numB_lt ys.reverse; rwa [List.length_reverse] at this
  · simp only [part, shiftN, pow8, if_true, List.length_append, List.length_cons, List.length_nil]
    rw [numB_snoc]
    have e1 : sz - ys.length = (sz - 1 - ys.length) + 1 := by omega
    have e2 : sz - (ys.length + (0 + 1)) = sz - 1 - ys.length := by omega
    rw [e2, e1, Nat.add_mul, Nat.pow_succ]
    have e3 : numB ys * (256 ^ (sz - 1 - ys.length) * 256) = numB ys * 256 * 256 ^ (sz - 1 - ys.length) := by
      rw [Nat.mul_assoc, Nat.mul_comm 256]
    rw [e3]
    refine nat_join (8 * (sz - 1 - ys.length) + 8) _ _ ?_ ?_
    · rw [Nat.pow_add, pow8, Nat.mul_assoc, Nat.mul_comm 256]; exact Nat.mul_mod_left _ _
    · rw [Nat.pow_add, pow8, Nat.mul_comm (256 ^ _)]; exact Nat.mul_lt_mul_of_pos_right (by omega) (Nat.pow_pos (by omega))
end Go.Proofs.Ytjecakkdongcoaa.Oct

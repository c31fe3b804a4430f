/- Contracts of the sums and products of package octets and of the document's own: each returns the number and the error that plain arithmetic gives; the arguments are any uint64. -/
import Derived.Test.YtmobdanpkojbbaaRows
import Derived.Test.YtmobdanpkojbbaaOctM
import Derived.WalkKit
import Derived.ProofKit
import Derived.WalkLawsBesides
import Derived.Lib.Hide
namespace Go.Proofs.Ytmobdanpkojbbaa.Oct
open Go.RowKit
set_option linter.unusedVariables false

def addV (a b : Int) : Int := if a + b ≤ 18446744073709551615 then a + b else 0
def addE (a b : Int) : Int := if a + b ≤ 18446744073709551615 then 0 else 7
def mulV (a b : Int) : Int := if a * b ≤ 18446744073709551615 then a * b else 0
def mulE (a b : Int) : Int := if a * b ≤ 18446744073709551615 then 0 else 7
def Two (x e : Int) (w : World) (r : Ending) (w' : World) : Prop := r = .returned (.tuple #[.int .u64 x, .int .i64 e]) ∧ w = w'

theorem add_any (a b : Int) (w : World) (ha : 0 ≤ a) (ha' : a ≤ 18446744073709551615) (hb : 0 ≤ b) (hb' : b ≤ 18446744073709551615) :
    Calls Try.prog 9 #[.int .u64 a, .int .u64 b] w (Two (addV a b) (addE a b) w) := by
  by_cases h : a + b ≤ 18446744073709551615
  · have e1 : addV a b = a + b := if_pos h
    have e2 : addE a b = 0 := if_pos h
    rw [e1, e2]; clear e1 e2
    have h' : ¬ (18446744073709551615 - a < b) := by omega
    go_enter Try.func9, Try.ntmps9
    go_wp2
    go_ret2
    exact ⟨rfl, rfl⟩
  · have e1 : addV a b = 0 := if_neg h
    have e2 : addE a b = 7 := if_neg h
    rw [e1, e2]; clear e1 e2
    have h' : 18446744073709551615 - a < b := by omega
    go_enter Try.func9, Try.ntmps9
    go_wp2
    go_ret2
    exact ⟨rfl, rfl⟩
theorem radd_any (a b : Int) (w : World) (ha : 0 ≤ a) (ha' : a ≤ 18446744073709551615) (hb : 0 ≤ b) (hb' : b ≤ 18446744073709551615) :
    Calls Try.prog 10 #[.int .u64 a, .int .u64 b] w (Two (addV a b) (addE a b) w) := by
  by_cases h : a + b ≤ 18446744073709551615
  · have e1 : addV a b = a + b := if_pos h
    have e2 : addE a b = 0 := if_pos h
    rw [e1, e2]; clear e1 e2
    have h' : ¬ (18446744073709551615 - a < b) := by omega
    go_enter Try.func10, Try.ntmps10
    go_wp2
    go_ret2
    exact ⟨rfl, rfl⟩
  · have e1 : addV a b = 0 := if_neg h
    have e2 : addE a b = 7 := if_neg h
    rw [e1, e2]; clear e1 e2
    have h' : 18446744073709551615 - a < b := by omega
    go_enter Try.func10, Try.ntmps10
    go_wp2
    go_ret2
    exact ⟨rfl, rfl⟩
theorem mul_le_iff (a b : Int) (ha : 1 ≤ a) : a * b ≤ 18446744073709551615 ↔ b ≤ 18446744073709551615 / a := by
  rw [Int.le_ediv_iff_mul_le (by omega), Int.mul_comm]
theorem mul_any (a b : Int) (w : World) (ha : 0 ≤ a) (ha' : a ≤ 18446744073709551615) (hb : 0 ≤ b) (hb' : b ≤ 18446744073709551615) :
    Calls Try.prog 11 #[.int .u64 a, .int .u64 b] w (Two (mulV a b) (mulE a b) w) := by
  by_cases h0 : a = 0
  · subst h0
    have e1 : mulV 0 b = 0 := by simp [mulV]
    have e2 : mulE 0 b = 0 := by simp [mulE]
    rw [e1, e2]; clear e1 e2
    go_enter Try.func11, Try.ntmps11
    go_wp2
    go_ret2
    exact ⟨rfl, rfl⟩
  · have h1 : 1 ≤ a := by omega
    have hi := mul_le_iff a b h1
    have hq0 : 0 ≤ 18446744073709551615 / a := Int.ediv_nonneg (by omega) (by omega)
    have hn : (a != 0) = true := by simpa using h0
    have hp : 0 ≤ a * b := Int.mul_nonneg ha hb
    by_cases h : a * b ≤ 18446744073709551615
    · have e1 : mulV a b = a * b := if_pos h
      have e2 : mulE a b = 0 := if_pos h
      rw [e1, e2]; clear e1 e2
      have h' : b ≤ 18446744073709551615 / a := hi.1 h
      clear hi
      go_enter Try.func11, Try.ntmps11
      go_wp2
      go_ret2
      exact ⟨rfl, rfl⟩
    · have e1 : mulV a b = 0 := if_neg h
      have e2 : mulE a b = 7 := if_neg h
      rw [e1, e2]; clear e1 e2
      have h' : 18446744073709551615 / a < b := by
        have := mt hi.2 h; omega
      clear hi
      go_enter Try.func11, Try.ntmps11
      go_wp2
      go_ret2
      exact ⟨rfl, rfl⟩
theorem rmul_any (a b : Int) (w : World) (ha : 0 ≤ a) (ha' : a ≤ 18446744073709551615) (hb : 0 ≤ b) (hb' : b ≤ 18446744073709551615) :
    Calls Try.prog 12 #[.int .u64 a, .int .u64 b] w (Two (mulV a b) (mulE a b) w) := by
  by_cases h0 : a = 0
  · subst h0
    have e1 : mulV 0 b = 0 := by simp [mulV]
    have e2 : mulE 0 b = 0 := by simp [mulE]
    rw [e1, e2]; clear e1 e2
    go_enter Try.func12, Try.ntmps12
    go_wp2
    go_ret2
    exact ⟨rfl, rfl⟩
  · have h1 : 1 ≤ a := by omega
    have hi := mul_le_iff a b h1
    have hq0 : 0 ≤ 18446744073709551615 / a := Int.ediv_nonneg (by omega) (by omega)
    have hn : (a != 0) = true := by simpa using h0
    have hp : 0 ≤ a * b := Int.mul_nonneg ha hb
    by_cases h : a * b ≤ 18446744073709551615
    · have e1 : mulV a b = a * b := if_pos h
      have e2 : mulE a b = 0 := if_pos h
      rw [e1, e2]; clear e1 e2
      have h' : b ≤ 18446744073709551615 / a := hi.1 h
      clear hi
      go_enter Try.func12, Try.ntmps12
      go_wp2
      go_ret2
      exact ⟨rfl, rfl⟩
    · have e1 : mulV a b = 0 := if_neg h
      have e2 : mulE a b = 7 := if_neg h
      rw [e1, e2]; clear e1 e2
      have h' : 18446744073709551615 / a < b := by
        have := mt hi.2 h; omega
      clear hi
      go_enter Try.func12, Try.ntmps12
      go_wp2
      go_ret2
      exact ⟨rfl, rfl⟩
def sizeB (n : Int) : Bool := decide (n = 1 ∨ n = 2 ∨ n = 4 ∨ n = 8)
theorem size_any (n : Int) (w : World) : Calls Try.prog 21 #[.int .i64 n] w fun e w' => e = .returned (.bool (sizeB n)) ∧ w = w' := by
  by_cases h1 : n = 1
  · subst h1
    go_enter Try.func21, Try.ntmps21
    go_wp2
    go_ret
    exact ⟨rfl, rfl⟩
  · by_cases h2 : n = 2
    · subst h2
      go_enter Try.func21, Try.ntmps21
      go_wp2
      go_ret
      exact ⟨rfl, rfl⟩
    · by_cases h4 : n = 4
      · subst h4
        go_enter Try.func21, Try.ntmps21
        go_wp2
        go_ret
        exact ⟨rfl, rfl⟩
      · by_cases h8 : n = 8
        · subst h8
          go_enter Try.func21, Try.ntmps21
          go_wp2
          go_ret
          exact ⟨rfl, rfl⟩
        · have e : sizeB n = false := by simp [sizeB, h1, h2, h4, h8]
          rw [e]; clear e
          have b1 : (n == 1) = false := by simpa using h1
          have b2 : (n == 2) = false := by simpa using h2
          have b4 : (n == 4) = false := by simpa using h4
          have b8 : (n == 8) = false := by simpa using h8
          go_enter Try.func21, Try.ntmps21
          go_wp2
          go_ret
          exact ⟨rfl, rfl⟩
theorem rsize_any (n : Int) (w : World) : Calls Try.prog 23 #[.int .i64 n] w fun e w' => e = .returned (.bool (sizeB n)) ∧ w = w' := by
  by_cases h1 : n = 1
  · subst h1
    go_enter Try.func23, Try.ntmps23
    go_wp2
    go_ret
    exact ⟨rfl, rfl⟩
  · by_cases h2 : n = 2
    · subst h2
      go_enter Try.func23, Try.ntmps23
      go_wp2
      go_ret
      exact ⟨rfl, rfl⟩
    · by_cases h4 : n = 4
      · subst h4
        go_enter Try.func23, Try.ntmps23
        go_wp2
        go_ret
        exact ⟨rfl, rfl⟩
      · by_cases h8 : n = 8
        · subst h8
          go_enter Try.func23, Try.ntmps23
          go_wp2
          go_ret
          exact ⟨rfl, rfl⟩
        · have e : sizeB n = false := by simp [sizeB, h1, h2, h4, h8]
          rw [e]; clear e
          have b1 : (n == 1) = false := by simpa using h1
          have b2 : (n == 2) = false := by simpa using h2
          have b4 : (n == 4) = false := by simpa using h4
          have b8 : (n == 8) = false := by simpa using h8
          go_enter Try.func23, Try.ntmps23
          go_wp2
          go_ret
          exact ⟨rfl, rfl⟩
theorem shift_any (i size : Nat) (big : Bool) (w : World) (h : i < size) (h8 : size ≤ 8) :
    Calls Try.prog 22 #[.int .i64 (i : Int), .int .i64 (size : Int), .bool big] w fun e w' => e = .returned (.int .u64 ((shiftN i size big : Nat) : Int)) ∧ w = w' := by
  cases big
  · have e : ((shiftN i size false : Nat) : Int) = 8 * (i : Int) := by simp [shiftN]
    rw [e]; clear e
    go_enter Try.func22, Try.ntmps22
    go_wp2
    go_ret
    exact ⟨rfl, rfl⟩
  · have e : ((shiftN i size true : Nat) : Int) = 8 * ((size : Int) - 1 - (i : Int)) := by simp only [shiftN, if_true]; omega
    rw [e]; clear e
    go_enter Try.func22, Try.ntmps22
    go_wp2
    go_ret
    exact ⟨rfl, rfl⟩
def withinB (len : Nat) (at_ n : Int) : Bool := decide (at_ + n ≤ (len : Int))
theorem within_any (p : Option Addr) (len cap : Nat) (at_ n : Int) (w : World) (hl : len ≤ maxLen) (ha : 0 ≤ at_) (ha' : at_ ≤ 18446744073709551615) (hb : 0 ≤ n) (hb' : n ≤ 18446744073709551615) :
    Calls Try.prog 20 #[.slice p len cap, .int .u64 at_, .int .u64 n] w fun e w' => e = .returned (.bool (withinB len at_ n)) ∧ w = w' := by
  unfold maxLen at hl
  by_cases h : at_ + n ≤ (len : Int)
  · have e : withinB len at_ n = true := by simp [withinB, h]
    rw [e]; clear e
    have h1 : at_ ≤ (len : Int) := by omega
    have h2 : n ≤ (len : Int) - at_ := by omega
    go_enter Try.func20, Try.ntmps20
    go_wp2
    go_ret
    exact ⟨rfl, rfl⟩
  · have e : withinB len at_ n = false := by simp [withinB, h]
    rw [e]; clear e
    by_cases h1 : at_ ≤ (len : Int)
    · have h2 : ¬ n ≤ (len : Int) - at_ := by omega
      have h3 : decide (n ≤ (len : Int) - at_) = false := by simpa using h2
      go_enter Try.func20, Try.ntmps20
      go_wp2
      go_ret
      exact ⟨rfl, rfl⟩
    · have h3 : decide (at_ ≤ (len : Int)) = false := by simpa using h1
      go_enter Try.func20, Try.ntmps20
      go_wp2
      go_ret
      exact ⟨rfl, rfl⟩
end Go.Proofs.Ytmobdanpkojbbaa.Oct

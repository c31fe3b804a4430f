
/- Contracts of the sums and products of package octets and of the document's own: each returns the number and the error that plain arithmetic gives; the arguments are any uint64. -/
import Derived.Test.YtkeplmnohenbnaaRows
import Derived.Test.YtkeplmnohenbnaaOctM
import Derived.WalkKit
import Derived.ProofKit
import Derived.WalkLawsBesides
import Derived.Lib.Hide
namespace Go.Proofs.Ytkeplmnohenbnaa.Oct
open Go.RowKit
set_option linter.unusedVariables false

def addV (a b : Int) : Int := if a + b ≤ 18446744073709551615 then a + b else 0
def addE (a b : Int) : Int := if a + b ≤ 18446744073709551615 then 0 else 7
def mulV (a b : Int) : Int := if a * b ≤ 18446744073709551615 then a * b else 0
def mulE (a b : Int) : Int := if a * b ≤ 18446744073709551615 then 0 else 7
def Two (x e : Int) (w : World) (r : Ending) (w' : World) : Prop := r = .returned (.tuple #[.int .u64 x, .int .i64 e]) ∧ w = w'

theorem mul_le_iff (a b : Int) (ha : 1 ≤ a) : a * b ≤ 18446744073709551615 ↔ b ≤ 18446744073709551615 / a := by
  rw [Int.le_ediv_iff_mul_le (by omega), Int.mul_comm]
def sizeB (n : Int) : Bool := decide (n = 1 ∨ n = 2 ∨ n = 4 ∨ n = 8)
theorem size_any (n : Int) (w : World) : Calls Try.prog 36 #[.int .i64 n] w fun e w' => e = .returned (.bool (sizeB n)) ∧ w = w' := by
  by_cases h1 : n = 1
  · subst h1
    go_enter Try.func36, Try.ntmps36
    go_wp2
    go_ret
    exact ⟨rfl, rfl⟩
  · by_cases h2 : n = 2
    · subst h2
      go_enter Try.func36, Try.ntmps36
      go_wp2
      go_ret
      exact ⟨rfl, rfl⟩
    · by_cases h4 : n = 4
      · subst h4
        go_enter Try.func36, Try.ntmps36
        go_wp2
        go_ret
        exact ⟨rfl, rfl⟩
      · by_cases h8 : n = 8
        · subst h8
          go_enter Try.func36, Try.ntmps36
          go_wp2
          go_ret
          exact ⟨rfl, rfl⟩
        · have e : sizeB n = false := by simp [sizeB, h1, h2, h4, h8]
          rw [e]; clear e
          have b1 : (n == 1) = false := by simpa using h1
          have b2 : (n == 2) = false := by simpa using h2
          have b4 : (n == 4) = false := by simpa using h4
          have b8 : (n == 8) = false := by simpa using h8
          go_enter Try.func36, Try.ntmps36
          go_wp2
          go_ret
          exact ⟨rfl, rfl⟩
theorem rsize_any (n : Int) (w : World) : Calls Try.prog 30 #[.int .i64 n] w fun e w' => e = .returned (.bool (sizeB n)) ∧ w = w' := by
  by_cases h1 : n = 1
  · subst h1
    go_enter Try.func30, Try.ntmps30
    go_wp2
    go_ret
    exact ⟨rfl, rfl⟩
  · by_cases h2 : n = 2
    · subst h2
      go_enter Try.func30, Try.ntmps30
      go_wp2
      go_ret
      exact ⟨rfl, rfl⟩
    · by_cases h4 : n = 4
      · subst h4
        go_enter Try.func30, Try.ntmps30
        go_wp2
        go_ret
        exact ⟨rfl, rfl⟩
      · by_cases h8 : n = 8
        · subst h8
          go_enter Try.func30, Try.ntmps30
          go_wp2
          go_ret
          exact ⟨rfl, rfl⟩
        · have e : sizeB n = false := by simp [sizeB, h1, h2, h4, h8]
          rw [e]; clear e
          have b1 : (n == 1) = false := by simpa using h1
          have b2 : (n == 2) = false := by simpa using h2
          have b4 : (n == 4) = false := by simpa using h4
          have b8 : (n == 8) = false := by simpa using h8
          go_enter Try.func30, Try.ntmps30
          go_wp2
          go_ret
          exact ⟨rfl, rfl⟩
theorem shift_any (i size : Nat) (big : Bool) (w : World) (h : i < size) (h8 : size ≤ 8) :
    Calls Try.prog 38 #[.int .i64 (i : Int), .int .i64 (size : Int), .bool big] w fun e w' => e = .returned (.int .u64 ((shiftN i size big : Nat) : Int)) ∧ w = w' := by
  cases big
  · have e : ((shiftN i size false : Nat) : Int) = 8 * (i : Int) := by simp [shiftN]
    rw [e]; clear e
    go_enter Try.func38, Try.ntmps38
    go_wp2
    go_ret
    exact ⟨rfl, rfl⟩
  · have e : ((shiftN i size true : Nat) : Int) = 8 * ((size : Int) - 1 - (i : Int)) := by simp only [shiftN, if_true]; omega
    rw [e]; clear e
    go_enter Try.func38, Try.ntmps38
    go_wp2
    go_ret
    exact ⟨rfl, rfl⟩
def withinB (len : Nat) (at_ n : Int) : Bool := decide (at_ + n ≤ (len : Int))
theorem within_any (p : Option Addr) (len cap : Nat) (at_ n : Int) (w : World) (hl : len ≤ maxLen) (ha : 0 ≤ at_) (ha' : at_ ≤ 18446744073709551615) (hb : 0 ≤ n) (hb' : n ≤ 18446744073709551615) :
    Calls Try.prog 42 #[.slice p len cap, .int .u64 at_, .int .u64 n] w fun e w' => e = .returned (.bool (withinB len at_ n)) ∧ w = w' := by
  unfold maxLen at hl
  by_cases h : at_ + n ≤ (len : Int)
  · have e : withinB len at_ n = true := by simp [withinB, h]
    rw [e]; clear e
    have h1 : at_ ≤ (len : Int) := by omega
    have h2 : n ≤ (len : Int) - at_ := by omega
    go_enter Try.func42, Try.ntmps42
    go_wp2
    go_ret
    exact ⟨rfl, rfl⟩
  · have e : withinB len at_ n = false := by simp [withinB, h]
    rw [e]; clear e
    by_cases h1 : at_ ≤ (len : Int)
    · have h2 : ¬ n ≤ (len : Int) - at_ := by omega
      have h3 : decide (n ≤ (len : Int) - at_) = false := by simpa using h2
      go_enter Try.func42, Try.ntmps42
      go_wp2
      go_ret
      exact ⟨rfl, rfl⟩
    · have h3 : decide (at_ ≤ (len : Int)) = false := by simpa using h1
      go_enter Try.func42, Try.ntmps42
      go_wp2
      go_ret
      exact ⟨rfl, rfl⟩
end Go.Proofs.Ytkeplmnohenbnaa.Oct

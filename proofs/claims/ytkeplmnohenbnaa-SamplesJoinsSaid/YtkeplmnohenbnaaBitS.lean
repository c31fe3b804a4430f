
/- Contracts of isWord and of the document's Digits; what nil readers and writers answer. -/
import Derived.Test.YtkeplmnohenbnaaBitF
namespace Go.Proofs.Ytkeplmnohenbnaa.Bit
open Go.RowKit Go.Proofs.Ytkeplmnohenbnaa.Oct
set_option linter.unusedVariables false
set_option maxRecDepth 20000

/-- no other characters than 0 and 1 -/
def wordB (xs : List UInt8) : Bool := xs.all fun c => c == 48 || c == 49
theorem wordB_take (xs : List UInt8) (k : Nat) (h : k < xs.length) : wordB (xs.take (k + 1)) = (wordB (xs.take k) && (xs[k] == 48 || xs[k] == 49)) := by
  unfold wordB
  rw [take_succ' xs k h, List.all_append]
  simp
theorem wordB_bad (xs : List UInt8) (k : Nat) (h : k < xs.length) (h0 : xs[k] ≠ 48) (h1 : xs[k] ≠ 49) : wordB xs = false := by
  unfold wordB
  rw [List.all_eq_false]
  exact ⟨xs[k], List.getElem_mem h, by simp [h0, h1]⟩
theorem wordB_digits {xs : List UInt8} (h : wordB xs = true) : ∃ l : List Bool, xs = l.map dig := by
  refine ⟨xs.map fun c => c == 49, ?_⟩
  rw [List.map_map]
  have h' := List.all_eq_true.1 h
  conv => lhs; rw [← List.map_id xs]
  refine List.map_congr_left fun c hc => ?_
  have := h' c hc
  simp at this
  rcases this with rfl | rfl <;> rfl
theorem wordB_dig (l : List Bool) : wordB (l.map dig) = true := by
  unfold wordB
  rw [List.all_eq_true]
  intro c hc
  simp at hc
  rcases hc with ⟨_, rfl⟩ | ⟨_, rfl⟩ <;> rfl
theorem u8_ne (x : UInt8) (n : Nat) (hn : n < 256) (h : x ≠ UInt8.ofNat n) : ((x.toNat : Int) != (n : Int)) = true := by
  simp
  intro e
  apply h
  apply UInt8.toNat_inj.1
  rw [UInt8.toNat_ofNat', Nat.mod_eq_of_lt hn]
  omega
theorem left_nil (w : World) : Calls Try.prog 43 #[.pointer none] w fun e w' => e = .returned (.int .i64 0) ∧ w = w' := by
  go_enter Try.func43, Try.ntmps43
  go_wp2
  go_ret
  exact ⟨rfl, rfl⟩
theorem bytes_nil (w : World) : Calls Try.prog 29 #[.pointer none] w fun e w' => e = .returned (.slice none 0 0) ∧ w = w' := by
  go_enter Try.func29, Try.ntmps29
  go_wp2
  go_ret
  exact ⟨rfl, rfl⟩
theorem write_nil (w : World) : Calls Try.prog 28 #[.pointer none, .int .u32 0, .int .i64 1] w fun e w' => e = .returned (.int .i64 1) ∧ w = w' := by
  have e1 : cntB 1 = true := by decide
  have E1 := Lib.hid e1
  clear e1
  go_enter Try.func28, Try.ntmps28
  go_wp2_with fail
  refine (count_any _ _).mono ?_
  rintro e w' ⟨rfl, rfl⟩
  rw [E1.out]
  go_wp2_with fail
  go_ret
  exact ⟨rfl, rfl⟩
def ReadN (n : Int) (w : World) (e : Ending) (w' : World) : Prop := e = .returned (.tuple #[.int .u32 0, .int .i64 (readE n 0 0)]) ∧ w = w'
theorem read_nil (n : Int) (w : World) : Calls Try.prog 35 #[.pointer none, .int .i64 n] w (ReadN n w) := by
  by_cases hc : cntB n = true
  · have hb := of_decide_eq_true hc
    obtain ⟨k, rfl⟩ : ∃ k : Nat, n = (k : Int) := ⟨n.toNat, by omega⟩
    have HC := Lib.hid hc
    clear hc
    by_cases h0 : k = 0
    · subst h0
      have e2 : readE ((0 : Nat) : Int) 0 0 = 0 := by decide
      have E2 := Lib.hid e2
      clear e2
      go_enter Try.func35, Try.ntmps35
      go_wp2_with fail
      refine (count_any _ _).mono ?_
      rintro e w' ⟨rfl, rfl⟩
      first | rw [HC.out] | rw [show cntB 0 = true from HC.out]
      go_wp2_with fail
      refine (left_nil _).mono ?_
      rintro e w' ⟨rfl, rfl⟩
      go_wp2_with fail
      go_ret2
      exact ⟨by rw [E2.out]; rfl, rfl⟩
    · have e2 : readE (k : Int) 0 0 = 2 := by
        have ho : okR (k : Int) 0 0 = false := by unfold okR; rw [HC.out]; simp; omega
        unfold readE; rw [ho, HC.out]; rfl
      have E2 := Lib.hid e2
      clear e2
      have hd : decide (0 < (k : Int)) = true := by simp; omega
      have hd2 : decide (0 < k) = true := by simp; omega
      go_enter Try.func35, Try.ntmps35
      go_wp2_with fail
      refine (count_any _ _).mono ?_
      rintro e w' ⟨rfl, rfl⟩
      rw [HC.out]
      go_wp2_with fail
      refine (left_nil _).mono ?_
      rintro e w' ⟨rfl, rfl⟩
      go_wp2_with fail
      go_ret2
      exact ⟨by rw [E2.out]; rfl, rfl⟩
  · have hc' : cntB n = false := by simpa using hc
    have e2 : readE n 0 0 = 1 := by
      have ho : okR n 0 0 = false := by unfold okR; rw [hc']; simp
      unfold readE; rw [ho, hc']; rfl
    have HC := Lib.hid hc'
    have E2 := Lib.hid e2
    clear e2 hc hc'
    go_enter Try.func35, Try.ntmps35
    go_wp2_with fail
    refine (count_any _ _).mono ?_
    rintro e w' ⟨rfl, rfl⟩
    rw [HC.out]
    go_wp2_with fail
    go_ret2
    exact ⟨by rw [E2.out]; rfl, rfl⟩
end Go.Proofs.Ytkeplmnohenbnaa.Bit


/- Read, Peek of a number of bits, against the plain words; which word is the first. -/
import Derived.Test.YtmcjhkdcbblnnaaHfR
namespace Go.Proofs.Ytmcjhkdcbblnnaa.Inf
open Go.RowKit Go.Proofs.Ytmcjhkdcbblnnaa.Oct Go.Proofs.Ytmcjhkdcbblnnaa.Bit Go.Proofs.Ytmcjhkdcbblnnaa.Hf
set_option linter.unusedVariables false
set_option linter.unusedSimpArgs false
set_option maxRecDepth 100000

theorem idx_first {W : List (List Bool)} {q : List Bool} {i : Nat} (h : W[i]? = some q) (hn : ∀ j, j < i → W[j]? ≠ some q) : W.idxOf q = i := by
  have hm : q ∈ W := List.mem_of_getElem? h
  have hl := List.idxOf_lt_length_of_mem hm
  have hg : W[W.idxOf q]? = some q := by rw [List.getElem?_eq_getElem hl, List.getElem_idxOf]
  rcases Nat.lt_trichotomy (W.idxOf q) i with h1 | h1 | h1
  · exact absurd hg (hn _ h1)
  · exact h1
  · refine absurd h1 (Nat.not_lt.2 ?_)
    obtain ⟨hi, he⟩ := List.getElem?_eq_some_iff.1 h
    exact Nat.le_of_not_lt fun hc => by
      have := List.not_of_lt_findIdx (p := (· == q)) (xs := W) (i := i) hc
      simp [he] at this
theorem num_ok {xs : List UInt8} {a n : Nat} (h : a + n ≤ 8 * xs.length) (hn : n ≤ 32) : numR (bitsOf true xs) a n = .ok (nextV true xs a n, a + n) := by
  unfold numR nextV peekV
  rw [bitsOf_length, if_pos h, List.take_append_of_le_length (by rw [List.length_drop, bitsOf_length]; omega)]
theorem num_bad {xs : List UInt8} {a n : Nat} (h : ¬ a + n ≤ 8 * xs.length) : numR (bitsOf true xs) a n = .error 2 := by
  unfold numR
  rw [bitsOf_length, if_neg h]
def ReadN (w : World) (gr : Nat) (p : Option Addr) (cap : Nat) (xs : List UInt8) (a n : Nat) (e : Ending) (w' : World) : Prop :=
  ((∃ v, numR (bitsOf true xs) a n = .ok (v, a + n) ∧ v < 2 ^ n ∧ e = .returned (.tuple #[.int .u32 (v : Int), .int .i64 0]) ∧ Rd w' gr p cap xs (a + n) true) ∨
    (numR (bitsOf true xs) a n = .error 2 ∧ e = .returned (.tuple #[.int .u32 0, .int .i64 2]) ∧ Rd w' gr p cap xs a true)) ∧ Only (· = gr) w w' ∧ w'.heap.size = w.heap.size
theorem read_num (g : Nat) (p : Option Addr) (cap : Nat) (xs : List UInt8) (a n : Nat) (hn : n ≤ 32) (w : World) (hR : Rd w g p cap xs a true) :
    Calls Try.prog 37 #[.pointer (some ⟨g, 0, none⟩), .int .i64 (n : Int)] w (ReadN w g p cap xs a n) := by
  refine (read_any g p cap xs a true w n hR).mono ?_
  rintro e w' ⟨rfl, hr, ho, hz⟩
  refine ⟨?_, ho, hz⟩
  have hc : cntB (n : Int) = true := by unfold cntB; simp; omega
  by_cases h : a + n ≤ 8 * xs.length
  · have hk : okR (n : Int) (8 * xs.length) a = true := by unfold okR; rw [hc]; simp; omega
    left
    refine ⟨nextV true xs a n, num_ok h hn, nextV_lt true xs a n hn, ?_, ?_⟩
    · unfold readV readE
      rw [hk]
      rfl
    · unfold readA at hr
      rw [hk] at hr
      simpa using hr
  · have hk : okR (n : Int) (8 * xs.length) a = false := by unfold okR; rw [hc]; simp; omega
    right
    refine ⟨num_bad h, ?_, ?_⟩
    · unfold readV readE
      rw [hk, hc]
      rfl
    · unfold readA at hr
      rw [hk] at hr
      simpa using hr
end Go.Proofs.Ytmcjhkdcbblnnaa.Inf


/- Contracts of isWord and of the document's Digits; what nil readers and writers answer. -/
import Derived.Test.YtklofifmmcegpaaBitF
namespace Go.Proofs.Ytklofifmmcegpaa.Bit
open Go.RowKit Go.Proofs.Ytklofifmmcegpaa.Oct
set_option linter.unusedVariables false
set_option maxRecDepth 20000

/-- no other characters than 0 and 1 -/
def wordB (xs : List UInt8) : Bool := xs.all fun c => c == 48 || c == 49
theorem wordB_take (xs : List UInt8) (k : Nat) (h : k < xs.length) : wordB (xs.take (k + 1)) = (wordB (xs.take k) && (xs[k] == 48 || xs[k] == 49)) := by
  unfold wordB
  rw [take_succ' xs k h, List.all_append]
  simp
theorem wordB_bad (xs : List UInt8) (k : Nat) (h : k < xs.length) (h0 : xs[k] ≠ 48) (h1 : xs[k] ≠ 49) : wordB xs = false := by
  unfold wordB
  rw [List.all_eq_false]
  exact ⟨xs[k], List.getElem_mem h, by simp [h0, h1]⟩
theorem wordB_digits {xs : List UInt8} (h : wordB xs = true) : ∃ l : List Bool, xs = l.map dig := by
  refine ⟨xs.map fun c => c == 49, ?_⟩
  rw [List.map_map]
  have h' := List.all_eq_true.1 h
  conv => lhs; rw [← List.map_id xs]
  refine List.map_congr_left fun c hc => ?_
  have := h' c hc
  simp at this
  rcases this with rfl | rfl <;> rfl
theorem wordB_dig (l : List Bool) : wordB (l.map dig) = true := by
  unfold wordB
  rw [List.all_eq_true]
  intro c hc
  simp at hc
  rcases hc with ⟨_, rfl⟩ | ⟨_, rfl⟩ <;> rfl
theorem u8_ne (x : UInt8) (n : Nat) (hn : n < 256) (h : x ≠ UInt8.ofNat n) : ((x.toNat : Int) != (n : Int)) = true := by
  simp
  intro e
  apply h
  apply UInt8.toNat_inj.1
  rw [UInt8.toNat_ofNat', Nat.mod_eq_of_lt hn]
  omega
def ReadN (n : Int) (w : World) (e : Ending) (w' : World) : Prop := e = .returned (.tuple #[.int .u32 0, .int .i64 (readE n 0 0)]) ∧ w = w'
end Go.Proofs.Ytklofifmmcegpaa.Bit

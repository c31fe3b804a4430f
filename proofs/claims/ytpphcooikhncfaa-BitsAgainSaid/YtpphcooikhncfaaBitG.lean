/- Rows of Op that a call keeps for itself, and the bits that their numbers take; plain facts for reading them back. -/
import Derived.Test.YtpphcooikhncfaaBitY
namespace Go.Proofs.Ytpphcooikhncfaa.Bit
open Go.RowKit Go.Proofs.Ytpphcooikhncfaa.Oct
set_option linter.unusedVariables false

/-- what is kept: kind, count, number, text -/
abbrev Kept := Int × Nat × Nat × ByteArray
def cellsK (ks : List Kept) : List Value := ks.flatMap fun q => [.int .i64 q.1, .int .i64 (q.2.1 : Int), .int .u32 (q.2.2.1 : Int), .string q.2.2.2]
theorem cellsK_append (a b : List Kept) : cellsK (a ++ b) = cellsK a ++ cellsK b := by simp [cellsK]
theorem cellsK_length (ks : List Kept) : (cellsK ks).length = ks.length * 4 := by
  induction ks with
  | nil => rfl
  | cons q ks ih =>
    have : cellsK (q :: ks) = [.int .i64 q.1, .int .i64 (q.2.1 : Int), .int .u32 (q.2.2.1 : Int), .string q.2.2.2] ++ cellsK ks := by simp [cellsK]
    rw [this, List.length_append, ih, List.length_cons]; simp; omega
theorem cellsK_one (ks : List Kept) : ∀ v ∈ cellsK ks, v.oneCell' = true := by
  intro v hv
  simp only [cellsK, List.mem_flatMap] at hv
  obtain ⟨q, _, hq⟩ := hv
  simp at hq
  rcases hq with rfl | rfl | rfl | rfl <;> rfl
theorem cellsK_at (ks : List Kept) (i : Nat) (h : i < ks.length) : (cellsK ks).drop (i * 4) = [.int .i64 ks[i].1, .int .i64 (ks[i].2.1 : Int), .int .u32 (ks[i].2.2.1 : Int), .string ks[i].2.2.2] ++ cellsK (ks.drop (i + 1)) := by
  have e : cellsK ks = cellsK (ks.take i) ++ cellsK (ks.drop i) := by rw [← cellsK_append, List.take_append_drop]
  rw [e, List.drop_append_of_le_length (by rw [cellsK_length, List.length_take]; omega), List.drop_eq_nil_of_le (by rw [cellsK_length, List.length_take]; omega), List.nil_append, List.drop_eq_getElem_cons h]
  rfl
/-- the bits of what is kept -/
def bitsK (low : Bool) (ks : List Kept) : List Bool := ks.flatMap fun q => wordE low q.2.2.1 q.2.1
theorem bitsK_append (low : Bool) (a b : List Kept) : bitsK low (a ++ b) = bitsK low a ++ bitsK low b := by simp [bitsK]
def fitK (ks : List Kept) : Prop := ∀ q ∈ ks, q.2.1 ≤ 32 ∧ q.2.2.1 < 2 ^ q.2.1
theorem bitsK_length (low : Bool) (ks : List Kept) (h : fitK ks) : (bitsK low ks).length ≤ 32 * ks.length := by
  induction ks with
  | nil => simp [bitsK]
  | cons q ks ih =>
    have h1 := (h q (by simp)).1
    have h2 := ih (fun q' hq' => h q' (by simp [hq']))
    have e : bitsK low (q :: ks) = wordE low q.2.2.1 q.2.1 ++ bitsK low ks := by simp [bitsK]
    rw [e, List.length_append, wordE_length, List.length_cons]; omega
theorem bitsK_take (low : Bool) (ks : List Kept) (i : Nat) (h : i < ks.length) : bitsK low (ks.take (i + 1)) = bitsK low (ks.take i) ++ wordE low ks[i].2.2.1 ks[i].2.1 := by
  rw [List.take_succ_eq_append_getElem h, bitsK_append]
  congr 1
  simp [bitsK]
/-- the bits at the i-th one -/
theorem bitsK_drop (low : Bool) (ks : List Kept) (i : Nat) (h : i < ks.length) (r : List Bool) :
    (bitsK low ks ++ r).drop (bitsK low (ks.take i)).length = wordE low ks[i].2.2.1 ks[i].2.1 ++ (bitsK low (ks.drop (i + 1)) ++ r) := by
  have e2 : bitsK low ks = bitsK low (ks.take i) ++ (wordE low ks[i].2.2.1 ks[i].2.1 ++ bitsK low (ks.drop (i + 1))) := by
    have e3 : bitsK low ks = bitsK low (ks.take i) ++ bitsK low (ks.drop i) := by rw [← bitsK_append, List.take_append_drop]
    rw [e3, List.drop_eq_getElem_cons h]
    rfl
  rw [e2, List.append_assoc, List.append_assoc, List.drop_append_of_le_length (Nat.le_refl _), List.drop_eq_nil_of_le (Nat.le_refl _), List.nil_append]
/-- what is read there, from the same end and, of bytes turned round, from the other -/
theorem kept_next (low : Bool) (ks : List Kept) (i : Nat) (h : i < ks.length) (hf : fitK ks) (d : Bool) :
    peekV d ((bitsOf low (packB low (bitsK low ks))).drop (bitsK low (ks.take i)).length) ks[i].2.1 = numE d (wordE low ks[i].2.2.1 ks[i].2.1) := by
  unfold peekV
  rw [bitsOf_packB, bitsK_drop low ks i h, List.append_assoc, List.take_append_of_le_length (by rw [wordE_length]; omega), List.take_of_length_le (by rw [wordE_length]; omega)]
theorem next_same (low : Bool) (ks : List Kept) (i : Nat) (h : i < ks.length) (hf : fitK ks) :
    nextV low (packB low (bitsK low ks)) (bitsK low (ks.take i)).length ks[i].2.1 = ks[i].2.2.1 := by
  unfold nextV
  rw [kept_next low ks i h hf low, numE_wordE _ _ _ (hf ks[i] (List.getElem_mem h)).2]
theorem next_other (low : Bool) (ks : List Kept) (i : Nat) (h : i < ks.length) (hf : fitK ks) :
    nextV (!low) ((packB low (bitsK low ks)).map revB) (bitsK low (ks.take i)).length ks[i].2.1 = num (word ks[i].2.2.1 ks[i].2.1).reverse := by
  unfold nextV
  rw [bitsOf_revB, kept_next low ks i h hf (!low)]
  cases low <;> simp [numE, wordE]
theorem word_other (m n : Nat) : word (num (word m n).reverse) n = (word m n).reverse := by
  have := word_num (word m n).reverse
  rwa [List.length_reverse, word_length] at this
end Go.Proofs.Ytpphcooikhncfaa.Bit

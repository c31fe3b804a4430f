/- BitM, HfM, BitN, BitA, BitD, BitE, BitS: merged. -/
import Derived.Laws.BitsAllLaws
import Derived.Laws.Strings
import Derived.Laws.BytesArg
import Derived.Test.YtjafcjnkefioeaaRows
import Derived.WalkKit
import Derived.ProofKit
import Derived.WalkLawsBesides
import Derived.Lib.Hide
import Derived.Deep.QuietTactic
import Derived.BigQuiet
import Derived.Outline
import Derived.Laws.NewBlocks
import Derived.Laws.CopyOwn
import Derived.Laws.Concat
import Derived.Laws.Strings2
import Derived.WalkSpells
import Derived.Laws.AppendOwnNone
import Derived.OpenShut
import Derived.Lib.SliceRun
import Derived.Test.YtjafcjnkefioeaaRaa
set_option linter.unusedVariables false
set_option linter.unusedSimpArgs false
/- Plain facts on bits, the numbers that they stand for and the bytes that they fill; no program in sight. -/
namespace Go.Proofs.Ytjafcjnkefioeaa.Bit
open Go.Proofs.Ytjafcjnkefioeaa.Oct
def num (l : List Bool) : Nat := l.foldl (fun n b => n * 2 + b.toNat) 0
theorem num_append (a b : List Bool) : num (a ++ b) = num a * 2 ^ b.length + num b := by
  have key : ∀ (b : List Bool) (n : Nat), b.foldl (fun n b => n * 2 + b.toNat) n = n * 2 ^ b.length + num b := by
    intro b
    induction b with
    | nil => intro n; simp [num]
    | cons x b ih =>
      intro n
      have h1 := ih (n * 2 + x.toNat)
      have h2 := ih (0 * 2 + x.toNat)
      unfold num
      simp only [List.foldl_cons, List.length_cons]
      rw [h1, h2, Nat.pow_succ, Nat.add_mul, Nat.add_mul]
      have : n * 2 * 2 ^ b.length = n * (2 ^ b.length * 2) := by rw [Nat.mul_assoc, Nat.mul_comm 2]
      omega
  unfold num
  rw [List.foldl_append, key]
  rfl
theorem num_one (b : Bool) : num [b] = b.toNat := by simp [num]
theorem num_cons (b : Bool) (l : List Bool) : num (b :: l) = b.toNat * 2 ^ l.length + num l := by
  have := num_append [b] l
  rw [num_one] at this
  exact this
theorem num_lt (l : List Bool) : num l < 2 ^ l.length := by
  induction l with
  | nil => simp [num]
  | cons x l ih =>
    rw [num_cons, List.length_cons, Nat.pow_succ]
    cases x <;> simp <;> omega
def zs (n : Nat) : List Bool := List.replicate n false
theorem zs_length (n : Nat) : (zs n).length = n := by simp [zs]
theorem zs_succ (n : Nat) : zs (n + 1) = false :: zs n := by simp [zs, List.replicate_succ]
theorem num_zs (n : Nat) : num (zs n) = 0 := by
  induction n with
  | zero => rfl
  | succ n ih => rw [zs_succ, num_cons, ih]; simp
theorem zs_add (a b : Nat) : zs a ++ zs b = zs (a + b) := by simp [zs]
theorem zs_reverse (n : Nat) : (zs n).reverse = zs n := by simp [zs]
theorem zs_take (a b : Nat) : (zs a).take b = zs (min b a) := by simp [zs]
def word (v : Nat) : Nat → List Bool
  | 0 => []
  | k + 1 => (v / 2 ^ k % 2 == 1) :: word v k
theorem word_length (v k : Nat) : (word v k).length = k := by
  induction k with
  | zero => rfl
  | succ k ih => simp [word, ih]
theorem bit_toNat (m : Nat) : ((m % 2 == 1) : Bool).toNat = m % 2 := by
  rcases Nat.mod_two_eq_zero_or_one m with h | h <;> rw [h] <;> rfl
theorem num_word (v k : Nat) : num (word v k) = v % 2 ^ k := by
  induction k with
  | zero => simp [word, num, Nat.mod_one]
  | succ k ih =>
    rw [word, num_cons, ih, word_length, bit_toNat, Nat.pow_succ, Nat.mod_mul, Nat.mul_comm]
    omega
theorem num_word_of_lt (v k : Nat) (h : v < 2 ^ k) : num (word v k) = v := by rw [num_word, Nat.mod_eq_of_lt h]
theorem num_inj : ∀ (a b : List Bool), a.length = b.length → num a = num b → a = b := by
  intro a
  induction a with
  | nil => intro b h _; cases b with
    | nil => rfl
    | cons => simp at h
  | cons x a ih =>
    intro b h hn
    cases b with
    | nil => simp at h
    | cons y b =>
      simp at h
      rw [num_cons, num_cons, h] at hn
      have h1 := num_lt a
      have h2 := num_lt b
      rw [h] at h1
      have hxy : x = y := by
        cases x <;> cases y <;> simp at hn ⊢ <;> omega
      subst hxy
      rw [ih b h (by omega)]
theorem word_num (l : List Bool) : word (num l) l.length = l :=
  num_inj _ _ (word_length _ _) (by rw [num_word_of_lt _ _ (num_lt l)])
theorem word_drop (v a b : Nat) (h : b ≤ a) : (word v a).drop (a - b) = word v b := by
  induction a with
  | zero => have : b = 0 := by omega
            subst this; rfl
  | succ a ih =>
    rcases Nat.lt_or_ge b (a + 1) with hb | hb
    · rw [show a + 1 - b = (a - b) + 1 by omega, word, List.drop_succ_cons]
      exact ih (by omega)
    · have : b = a + 1 := by omega
      subst this; simp
theorem word_take (v a b : Nat) (h : b ≤ a) : num ((word v a).take (a - b)) = v % 2 ^ a / 2 ^ b := by
  have h1 := num_append ((word v a).take (a - b)) ((word v a).drop (a - b))
  rw [List.take_append_drop, word_drop v a b h, word_length, num_word, num_word] at h1
  have h3 := num_lt (word v b)
  rw [num_word, word_length] at h3
  rw [h1, Nat.mul_comm, Nat.mul_add_div (Nat.pow_pos (by omega)), Nat.div_eq_of_lt h3]
  omega
def numE (low : Bool) (l : List Bool) : Nat := if low then num l.reverse else num l
def wordE (low : Bool) (v n : Nat) : List Bool := if low then (word v n).reverse else word v n
theorem wordE_length (low : Bool) (v n : Nat) : (wordE low v n).length = n := by cases low <;> simp [wordE, word_length]
theorem numE_lt (low : Bool) (l : List Bool) : numE low l < 2 ^ l.length := by
  cases low
  · exact num_lt l
  · have := num_lt l.reverse; rwa [List.length_reverse] at this
theorem numE_wordE (low : Bool) (v n : Nat) (h : v < 2 ^ n) : numE low (wordE low v n) = v := by
  cases low <;> simp [numE, wordE, num_word_of_lt v n h]
theorem wordE_numE (low : Bool) (l : List Bool) : wordE low (numE low l) l.length = l := by
  cases low
  · simp [wordE, numE, word_num]
  · simp only [wordE, numE, if_true]
    have := word_num l.reverse
    rw [List.length_reverse] at this
    rw [this, List.reverse_reverse]
theorem numE_inj (low : Bool) (a b : List Bool) (h : a.length = b.length) (hn : numE low a = numE low b) : a = b := by
  rw [← wordE_numE low a, ← wordE_numE low b, h, hn]
def gsh (low : Bool) (skip n all : Nat) : Nat := if low then skip else all - skip - n
theorem numE_three (low : Bool) (a b c : List Bool) : numE low (a ++ b ++ c) =
    (if low then (num c.reverse * 2 ^ b.length + num b.reverse) * 2 ^ a.length + num a.reverse else (num a * 2 ^ b.length + num b) * 2 ^ c.length + num c) := by
  cases low
  · simp only [numE, Bool.false_eq_true, if_false]
    rw [num_append, num_append]
  · simp only [numE, if_true]
    rw [List.reverse_append, List.reverse_append, ← List.append_assoc, num_append, num_append, List.length_reverse, List.length_reverse]
theorem parts (L : List Bool) (skip n : Nat) : L = L.take skip ++ (L.drop skip).take n ++ (L.drop skip).drop n := by
  rw [List.append_assoc, List.take_append_drop, List.take_append_drop]
theorem three_mid (x m y p q r : Nat) (hm : m < 2 ^ q) (hy : y < 2 ^ r) : ((x * 2 ^ q + m) * 2 ^ r + y) / 2 ^ r % 2 ^ q = m := by
  have h1 : ((x * 2 ^ q + m) * 2 ^ r + y) / 2 ^ r = x * 2 ^ q + m := by
    rw [Nat.mul_comm, Nat.mul_add_div (Nat.pow_pos (by omega)), Nat.div_eq_of_lt hy]; omega
  rw [h1, Nat.mul_comm, Nat.mul_add_mod, Nat.mod_eq_of_lt hm]
theorem numE_ext (low : Bool) (L : List Bool) (skip n : Nat) (h : skip + n ≤ L.length) :
    numE low L / 2 ^ gsh low skip n L.length % 2 ^ n = numE low ((L.drop skip).take n) := by
  obtain ⟨a, ha⟩ : ∃ a, a = L.take skip := ⟨_, rfl⟩
  obtain ⟨b, hb⟩ : ∃ b, b = (L.drop skip).take n := ⟨_, rfl⟩
  obtain ⟨c, hc⟩ : ∃ c, c = (L.drop skip).drop n := ⟨_, rfl⟩
  have hL := parts L skip n
  rw [← ha, ← hb, ← hc] at hL
  have la : a.length = skip := by subst ha; simp; omega
  have lb : b.length = n := by subst hb; simp; omega
  have lc : c.length = L.length - skip - n := by subst hc; simp; omega
  rw [← hb]
  conv => lhs; rw [hL]
  rw [numE_three]
  cases low
  · simp only [gsh, numE, Bool.false_eq_true, if_false]
    rw [show (a ++ b ++ c).length - skip - n = c.length by simp; omega, lb]
    have h1 := num_lt b
    rw [lb] at h1
    exact three_mid _ _ _ 0 _ _ h1 (num_lt c)
  · simp only [gsh, numE, if_true]
    rw [la, lb]
    have h1 := num_lt b.reverse
    have h2 := num_lt a.reverse
    rw [List.length_reverse, lb] at h1
    rw [List.length_reverse, la] at h2
    exact three_mid _ _ _ 0 _ _ h1 h2
def bitsB (low : Bool) (x : UInt8) : List Bool := wordE low x.toNat 8
theorem bitsB_length (low : Bool) (x : UInt8) : (bitsB low x).length = 8 := wordE_length _ _ _
def bitsOf (low : Bool) (xs : List UInt8) : List Bool := xs.flatMap (bitsB low)
theorem bitsOf_nil (low : Bool) : bitsOf low [] = [] := rfl
theorem bitsOf_cons (low : Bool) (x : UInt8) (xs : List UInt8) : bitsOf low (x :: xs) = bitsB low x ++ bitsOf low xs := by simp [bitsOf]
theorem bitsOf_append (low : Bool) (xs ys : List UInt8) : bitsOf low (xs ++ ys) = bitsOf low xs ++ bitsOf low ys := by simp [bitsOf]
theorem bitsOf_length (low : Bool) (xs : List UInt8) : (bitsOf low xs).length = 8 * xs.length := by
  induction xs with
  | nil => rfl
  | cons x xs ih => rw [bitsOf_cons, List.length_append, ih, bitsB_length, List.length_cons]; omega
theorem bitsOf_drop (low : Bool) (xs : List UInt8) (k : Nat) : bitsOf low (xs.drop k) = (bitsOf low xs).drop (8 * k) := by
  induction xs generalizing k with
  | nil => simp [bitsOf]
  | cons x xs ih =>
    cases k with
    | zero => simp
    | succ k =>
      rw [List.drop_succ_cons, ih, bitsOf_cons, show 8 * (k + 1) = (bitsB low x).length + 8 * k by rw [bitsB_length]; omega, List.drop_append]
      simp
theorem num_bits_hi (xs : List UInt8) : num (xs.flatMap fun x => word x.toNat 8) = numB xs := by
  induction xs with
  | nil => rfl
  | cons x xs ih =>
    have hl : (xs.flatMap fun x => word x.toNat 8).length = 8 * xs.length := bitsOf_length false xs
    rw [List.flatMap_cons, num_append, ih, numB_cons, hl, num_word_of_lt _ _ (by have := x.toNat_lt; simpa using this), pow8]
theorem numE_bitsOf (low : Bool) (xs : List UInt8) : numE low (bitsOf low xs) = numOf (!low) xs := by
  cases low
  · exact num_bits_hi xs
  · show num (bitsOf true xs).reverse = numB xs.reverse
    rw [← num_bits_hi]
    congr 1
    unfold bitsOf bitsB wordE
    rw [List.reverse_flatMap]
    congr 1
def cnt (skip n : Nat) : Nat := (skip + n + 7) / 8
end Go.Proofs.Ytjafcjnkefioeaa.Bit
/- Canonical code words in plain words: where each word's strings begin, that no word begins another one, that full words cover all; no program in sight. -/
namespace Go.Proofs.Ytjafcjnkefioeaa.Hf
open Go.Proofs.Ytjafcjnkefioeaa.Bit
def share (n : Nat) : Nat := 2 ^ (30 - n)
theorem share_pos (n : Nat) : 0 < share n := Nat.pow_pos (by omega)
theorem share_mul (m n : Nat) (h : m ≤ n) (h30 : n ≤ 30) : share m = 2 ^ (n - m) * share n := by
  unfold share
  rw [← Nat.pow_add]
  congr 1
  omega
theorem share_dvd (m n : Nat) (h : m ≤ n) (h30 : n ≤ 30) : share n ∣ share m := ⟨2 ^ (n - m), by rw [share_mul m n h h30, Nat.mul_comm]⟩
theorem share_top (n : Nat) (h : n ≤ 30) : 2 ^ n * share n = 1073741824 := by
  unfold share
  rw [← Nat.pow_add, show n + (30 - n) = 30 by omega]
def startN (L : List Nat) : Nat → Nat
  | 0 => 0
  | n + 1 => startN L n + (if n = 0 then 0 else L.count n * share n)
def pos (L : List Nat) (n i : Nat) : Nat := startN L n + (L.take i).count n * share n
theorem startN_one (L : List Nat) : startN L 1 = 0 := by simp [startN]
theorem startN_succ (L : List Nat) (n : Nat) (h : n ≠ 0) : startN L (n + 1) = startN L n + L.count n * share n := by simp [startN, h]
theorem startN_mono (L : List Nat) (m n : Nat) (h : m ≤ n) : startN L m ≤ startN L n := by
  induction n with
  | zero => rw [show m = 0 by omega]; exact Nat.le_refl _
  | succ n ih =>
    rcases Nat.lt_or_ge n m with hlt | hge
    · rw [show m = n + 1 by omega]; exact Nat.le_refl _
    · have := ih hge
      simp only [startN]
      omega
theorem startN_dvd (L : List Nat) (n m : Nat) (h30 : n ≤ 30) (h : m ≤ n + 1) : share n ∣ startN L m := by
  induction m with
  | zero => exact ⟨0, by simp [startN]⟩
  | succ m ih =>
    simp only [startN]
    refine Nat.dvd_add (ih (by omega)) ?_
    split
    · exact ⟨0, by simp⟩
    · exact Nat.dvd_trans (share_dvd m n (by omega) h30) ⟨L.count m, by rw [Nat.mul_comm]⟩
theorem pos_zero (L : List Nat) (n : Nat) : pos L n 0 = startN L n := by simp [pos]
theorem pos_end (L : List Nat) (n : Nat) (h : n ≠ 0) : pos L n L.length = startN L (n + 1) := by rw [startN_succ L n h]; simp [pos]
theorem pos_succ (L : List Nat) (n i : Nat) (h : i < L.length) : pos L n (i + 1) = pos L n i + (if L[i] = n then share n else 0) := by
  unfold pos
  rw [List.take_succ_eq_append_getElem h, List.count_append]
  by_cases he : L[i] = n
  · simp [he, Nat.add_mul]
    omega
  · simp [he]
theorem pos_mono (L : List Nat) (n i j : Nat) (h : i ≤ j) : pos L n i ≤ pos L n j := by
  unfold pos
  have : (L.take i).count n ≤ (L.take j).count n := by
    rw [show L.take i = (L.take j).take i by rw [List.take_take, Nat.min_eq_left h]]
    exact (List.take_sublist _ _).count_le n
  exact Nat.add_le_add_left (Nat.mul_le_mul_right _ this) _
theorem pos_dvd (L : List Nat) (n i : Nat) (h30 : n ≤ 30) : share n ∣ pos L n i :=
  Nat.dvd_add (startN_dvd L n n h30 (by omega)) ⟨_, Nat.mul_comm _ _⟩
theorem pos_step (L : List Nat) (n i j : Nat) (hi : i < L.length) (hn : L[i] = n) (hij : i < j) : pos L n i + share n ≤ pos L n j := by
  have h1 := pos_succ L n i hi
  rw [if_pos hn] at h1
  have h2 := pos_mono L n (i + 1) j hij
  omega
theorem pos_top (L : List Nat) (n i : Nat) (hi : i < L.length) (hn : L[i] = n) (h0 : n ≠ 0) : pos L n i + share n ≤ startN L (n + 1) := by
  rw [← pos_end L n h0]
  exact pos_step L n i _ hi hn hi
theorem pos_all (L : List Nat) (n i : Nat) (hi : i < L.length) (hn : L[i] = n) (h0 : n ≠ 0) (h30 : n ≤ 30) : pos L n i + share n ≤ startN L 31 :=
  Nat.le_trans (pos_top L n i hi hn h0) (startN_mono L _ _ (by omega))
theorem apart (L : List Nat) (i j n k : Nat) (hi : i < L.length) (hj : j < L.length) (hn : L[i] = n) (hk : L[j] = k) (h0 : n ≠ 0) (h1 : k ≠ 0) (hij : i ≠ j) :
    pos L n i + share n ≤ pos L k j ∨ pos L k j + share k ≤ pos L n i := by
  rcases Nat.lt_trichotomy n k with h | h | h
  · left
    have a := pos_top L n i hi hn h0
    have b := startN_mono L (n + 1) k h
    have c := pos_mono L k 0 j (by omega)
    rw [pos_zero] at c
    omega
  · subst h
    rcases Nat.lt_or_ge i j with h | h
    · exact .inl (pos_step L n i j hi hn h)
    · exact .inr (pos_step L n j i hj hk (by omega))
  · right
    have a := pos_top L k j hj hk h1
    have b := startN_mono L (k + 1) n h
    have c := pos_mono L n 0 i (by omega)
    rw [pos_zero] at c
    omega
def wordAt (p n : Nat) : List Bool := word (p / share n) n
theorem wordAt_length (p n : Nat) : (wordAt p n).length = n := word_length _ _
theorem word_part (v a b : Nat) (h : b ≤ a) : (word v a).take (a - b) = word (v / 2 ^ b) (a - b) := by
  refine num_inj _ _ (by rw [List.length_take, word_length, word_length]; omega) ?_
  rw [word_take v a b h, num_word]
  conv => lhs; rw [show 2 ^ a = 2 ^ b * 2 ^ (a - b) from by rw [← Nat.pow_add]; congr 1; omega]
  exact Nat.mod_mul_right_div_self _ _ _
theorem begins_iff (p q n k : Nat) (hnk : n ≤ k) (hk : k ≤ 30) (hp : share n ∣ p) (hp30 : p + share n ≤ 1073741824) (hq30 : q < 1073741824) :
    wordAt p n <+: wordAt q k ↔ p ≤ q ∧ q < p + share n := by
  have hlt : ∀ r m, m ≤ 30 → r < 1073741824 → r / share m < 2 ^ m := by
    intro r m hm hr
    rw [Nat.div_lt_iff_lt_mul (share_pos m), share_top m hm]
    exact hr
  have hsp := share_pos n
  obtain ⟨a, rfl⟩ := hp
  have e1 : share n * a / share n = a := Nat.mul_div_cancel_left a hsp
  have hpl := hlt (share n * a) n (by omega) (by omega)
  rw [e1] at hpl
  have e2 : (wordAt q k).take n = word (q / share n) n := by
    have := word_part (q / share k) k (k - n) (by omega)
    rw [show k - (k - n) = n by omega, Nat.div_div_eq_div_mul, Nat.mul_comm (share k), ← share_mul n k hnk hk] at this
    exact this
  have e3 : wordAt (share n * a) n = word a n := by unfold wordAt; rw [e1]
  rw [List.prefix_iff_eq_take, wordAt_length, e2, e3]
  constructor
  · intro h
    have hh := congrArg num h
    rw [num_word_of_lt _ _ hpl, num_word_of_lt _ _ (hlt q n (by omega) hq30)] at hh
    have h2 := Nat.div_add_mod q (share n)
    have h3 := Nat.mod_lt q hsp
    rw [← hh] at h2
    omega
  · rintro ⟨h1, h2⟩
    have : q / share n = a := by
      refine Nat.div_eq_of_lt_le ?_ ?_
      · rw [Nat.mul_comm]; exact h1
      · rw [Nat.add_mul, Nat.mul_comm a]; omega
    rw [this]
def canonW (L : List Nat) : List (List Bool) := (List.range L.length).map fun i => wordAt (pos L (L.getD i 0) i) (L.getD i 0)
theorem canonW_length (L : List Nat) : (canonW L).length = L.length := by simp [canonW]
theorem canonW_get (L : List Nat) (i : Nat) (h : i < (canonW L).length) (h' : i < L.length) : (canonW L)[i] = wordAt (pos L L[i] i) L[i] := by
  simp [canonW, List.getD, List.getElem?_eq_getElem h']
theorem canonW_len (L : List Nat) (i : Nat) (h : i < (canonW L).length) (h' : i < L.length) : ((canonW L)[i]).length = L[i] := by rw [canonW_get L i h h', wordAt_length]
theorem canon_free (L : List Nat) (hL : ∀ i (h : i < L.length), L[i] ≤ 30) (hT : startN L 31 ≤ 1073741824) (i j : Nat) (hi : i < L.length) (hj : j < L.length) (hij : i ≠ j) (h0 : L[i] ≠ 0) :
    ¬ wordAt (pos L L[i] i) L[i] <+: wordAt (pos L L[j] j) L[j] := by
  intro hp
  have hle := hp.length_le
  rw [wordAt_length, wordAt_length] at hle
  have h1 : L[j] ≠ 0 := by omega
  have a := pos_all L _ i hi rfl h0 (hL i hi)
  have b := pos_all L _ j hj rfl h1 (hL j hj)
  have s := share_pos L[j]
  rw [begins_iff _ _ _ _ hle (hL j hj) (pos_dvd L _ _ (hL i hi)) (by omega) (by omega)] at hp
  rcases apart L i j _ _ hi hj rfl rfl h0 h1 hij with h | h <;> omega
theorem in_length (L : List Nat) (v : Nat) : ∀ m, v < startN L m → ∃ n, n < m ∧ n ≠ 0 ∧ startN L n ≤ v ∧ v < startN L (n + 1) := by
  intro m
  induction m with
  | zero => intro h; simp [startN] at h
  | succ m ih =>
    intro h
    rcases Nat.lt_or_ge v (startN L m) with hlt | hge
    · obtain ⟨n, h1, h2⟩ := ih hlt
      exact ⟨n, by omega, h2⟩
    · refine ⟨m, by omega, ?_, hge, h⟩
      intro h0
      subst h0
      simp [startN] at h
theorem in_place (L : List Nat) (v n : Nat) : ∀ m, m ≤ L.length → startN L n ≤ v → v < pos L n m → ∃ i, ∃ h : i < L.length, L[i] = n ∧ pos L n i ≤ v ∧ v < pos L n i + share n := by
  intro m
  induction m with
  | zero => intro _ h0 h; rw [pos_zero] at h; omega
  | succ m ih =>
    intro hm h0 h
    rcases Nat.lt_or_ge v (pos L n m) with hlt | hge
    · exact ih (by omega) h0 hlt
    · have h2 := pos_succ L n m (by omega)
      by_cases he : L[m] = n
      · rw [if_pos he] at h2
        exact ⟨m, by omega, he, hge, by omega⟩
      · rw [if_neg he] at h2
        omega
theorem cover (L : List Nat) (hT : startN L 31 = 1073741824) (v : Nat) (hv : v < 1073741824) : ∃ i, ∃ h : i < L.length, L[i] ≠ 0 ∧ L[i] ≤ 30 ∧ pos L L[i] i ≤ v ∧ v < pos L L[i] i + share L[i] := by
  obtain ⟨n, h1, h2, h3, h4⟩ := in_length L v 31 (by omega)
  rw [← pos_end L n h2] at h4
  obtain ⟨i, h, he, h5, h6⟩ := in_place L v n _ (Nat.le_refl _) h3 h4
  subst he
  exact ⟨i, h, h2, by omega, h5, h6⟩
/-! The word behind another one, as the document finds it. -/
end Go.Proofs.Ytjafcjnkefioeaa.Hf
/- Plain facts on bits packed into bytes, on bytes turned round, and on bits read out of packed ones; no program in sight. -/
namespace Go.Proofs.Ytjafcjnkefioeaa.Bit
open Go.Proofs.Ytjafcjnkefioeaa.Oct
def chunk (l : List Bool) (i : Nat) : List Bool := (l.drop (8 * i) ++ zs 8).take 8
theorem chunk_length (l : List Bool) (i : Nat) : (chunk l i).length = 8 := by simp [chunk, zs_length]
def byteN (low : Bool) (l : List Bool) (i : Nat) : UInt8 := UInt8.ofNat (numE low (chunk l i))
theorem numE_byte (low : Bool) (l : List Bool) (h : l.length = 8) : numE low l < 256 := by
  have := numE_lt low l
  rw [h] at this
  exact this
theorem byteN_toNat (low : Bool) (l : List Bool) (i : Nat) : (byteN low l i).toNat = numE low (chunk l i) := by
  unfold byteN
  have := numE_byte low (chunk l i) (chunk_length l i)
  rw [UInt8.toNat_ofNat']
  exact Nat.mod_eq_of_lt this
def packB (low : Bool) (l : List Bool) : List UInt8 := (List.range ((l.length + 7) / 8)).map (byteN low l)
theorem packB_length (low : Bool) (l : List Bool) : (packB low l).length = (l.length + 7) / 8 := by simp [packB]
theorem packB_get (low : Bool) (l : List Bool) (i : Nat) (h : i < (packB low l).length) : (packB low l)[i] = byteN low l i := by simp [packB]
theorem packB_nil (low : Bool) : packB low [] = [] := rfl
def grpL (used n : Nat) (m : List Bool) : List Bool := zs used ++ m ++ zs (8 * cnt used n - used - n)
theorem grpL_length (used n : Nat) (m : List Bool) (h : m.length = n) : (grpL used n m).length = 8 * cnt used n := by
  unfold grpL cnt; simp [zs_length, h]; omega
def grpN (low : Bool) (used n v : Nat) : Nat := v * 2 ^ gsh low used n (8 * cnt used n)
theorem grpN_eq (low : Bool) (used n v : Nat) (h : v < 2 ^ n) : numE low (grpL used n (wordE low v n)) = grpN low used n v := by
  unfold grpL grpN
  rw [numE_three]
  have e := numE_wordE low v n h
  cases low
  · simp only [numE, Bool.false_eq_true, if_false] at e
    simp only [gsh, Bool.false_eq_true, if_false]
    rw [num_zs, num_zs, e, zs_length]; simp
  · simp only [numE, if_true] at e
    simp only [gsh, if_true]
    rw [zs_reverse, zs_reverse, num_zs, num_zs, e, zs_length]; simp
theorem grpN_lt (low : Bool) (used n v : Nat) (h : v < 2 ^ n) (hn : n ≤ 32) (hu : used < 8) : grpN low used n v < 18446744073709551616 := by
  rw [← grpN_eq low used n v h]
  have := numE_lt low (grpL used n (wordE low v n))
  rw [grpL_length _ _ _ (wordE_length _ _ _)] at this
  refine Nat.lt_of_lt_of_le this ?_
  rw [show (18446744073709551616 : Nat) = 2 ^ 64 by decide]
  refine Nat.pow_le_pow_right (by omega) ?_
  unfold cnt; omega
def addC (low : Bool) (used n v i : Nat) : UInt8 := UInt8.ofNat (grpN low used n v / 2 ^ gsh low (8 * i) 8 (8 * cnt used n) % 256)
theorem addC_toNat (low : Bool) (used n v i : Nat) (h : v < 2 ^ n) (hi : i < cnt used n) :
    (addC low used n v i).toNat = numE low (((grpL used n (wordE low v n)).drop (8 * i)).take 8) := by
  unfold addC
  have hl := grpL_length used n _ (wordE_length low v n)
  have := numE_ext low (grpL used n (wordE low v n)) (8 * i) 8 (by omega)
  rw [hl, grpN_eq low used n v h] at this
  rw [UInt8.toNat_ofNat', ← this]
  rw [show (2 ^ 8 : Nat) = 256 by decide]
  exact Nat.mod_eq_of_lt (Nat.mod_lt _ (by omega))
theorem chunk_lo (l m : List Bool) (i : Nat) (h : 8 * i + 8 ≤ l.length) : chunk (l ++ m) i = chunk l i := by
  unfold chunk
  rw [List.drop_append_of_le_length (by omega), List.append_assoc]
  rw [List.take_append_of_le_length (by simp; omega), List.take_append_of_le_length (by simp; omega)]
theorem take_zs (a : List Bool) (p : Nat) (hp : p ≤ 8) (h : 8 ≤ a.length + p) : (a ++ zs p).take 8 = (a ++ zs 8).take 8 := by
  rw [show zs 8 = zs p ++ zs (8 - p) by rw [zs_add]; congr 1; omega, ← List.append_assoc]
  rw [List.take_append_of_le_length (l₁ := a ++ zs p) (by simp [zs_length]; omega)]
theorem chunk_hi (l m : List Bool) (n j : Nat) (hm : m.length = n) (hu : l.length % 8 ≤ 8 * j) (hj : j < cnt (l.length % 8) n) :
    chunk (l ++ m) (l.length / 8 + j) = ((grpL (l.length % 8) n m).drop (8 * j)).take 8 := by
  unfold chunk grpL
  unfold cnt at hj ⊢
  generalize hq : l.length / 8 = q at *
  generalize hr : l.length % 8 = r at *
  have hlen : l.length = 8 * q + r := by omega
  have e1 : (l ++ m).drop (8 * (q + j)) = m.drop (8 * j - r) := by
    rw [show 8 * (q + j) = l.length + (8 * j - r) by omega, List.drop_append]; simp
  have e2 : (zs r ++ m ++ zs (8 * ((r + n + 7) / 8) - r - n)).drop (8 * j) = m.drop (8 * j - r) ++ zs (8 * ((r + n + 7) / 8) - r - n) := by
    rw [List.append_assoc, show 8 * j = (zs r).length + (8 * j - r) by rw [zs_length]; omega, List.drop_append]
    simp only [Nat.add_sub_cancel_left]
    rw [List.drop_eq_nil_of_le (by omega), List.nil_append, zs_length, Nat.add_sub_cancel_left, List.drop_append_of_le_length (by omega)]
  rw [e1, e2]
  exact (take_zs _ _ (by omega) (by simp; omega)).symm
theorem numE_join (low : Bool) (a b : List Bool) : numE low (a ++ b) = numE low (a ++ zs b.length) ||| numE low (zs a.length ++ b) := by
  cases low
  · simp only [numE, Bool.false_eq_true, if_false]
    rw [num_append, num_append, num_append, num_zs, num_zs, zs_length]
    have := nat_join b.length (num a * 2 ^ b.length) (num b) (Nat.mul_mod_left _ _) (num_lt b)
    simp [this]
  · simp only [numE, if_true, List.reverse_append, zs_reverse]
    rw [num_append, num_append, num_append, num_zs, num_zs]
    simp only [List.length_reverse, zs_length]
    have := nat_join a.length (num b.reverse * 2 ^ a.length) (num a.reverse) (Nat.mul_mod_left _ _) (by have := num_lt a.reverse; rwa [List.length_reverse] at this)
    rw [Nat.or_comm]
    simp [this]
theorem chunk_or (low : Bool) (l m : List Bool) (n : Nat) (hm : m.length = n) (hu : 0 < l.length % 8) :
    numE low (chunk (l ++ m) (l.length / 8)) = numE low (chunk l (l.length / 8)) ||| numE low (((grpL (l.length % 8) n m).drop (8 * 0)).take 8) := by
  obtain ⟨A, hA⟩ : ∃ A, A = l.drop (8 * (l.length / 8)) := ⟨_, rfl⟩
  have la : A.length = l.length % 8 := by subst hA; simp; omega
  have h8 : l.length % 8 < 8 := Nat.mod_lt _ (by omega)
  obtain ⟨B, hB⟩ : ∃ B, B = (m ++ zs 8).take (8 - A.length) := ⟨_, rfl⟩
  have lb : B.length = 8 - A.length := by subst hB; simp [zs_length]; omega
  have c1 : chunk (l ++ m) (l.length / 8) = A ++ B := by
    unfold chunk
    rw [List.drop_append_of_le_length (by omega), ← hA, List.append_assoc, List.take_append, List.take_of_length_le (by omega), ← hB]
  have c2 : chunk l (l.length / 8) = A ++ zs B.length := by
    unfold chunk
    rw [← hA, List.take_append, List.take_of_length_le (by omega), zs_take, lb, Nat.min_eq_left (by omega)]
  have c3 : ((grpL (l.length % 8) n m).drop (8 * 0)).take 8 = zs A.length ++ B := by
    unfold grpL
    rw [Nat.mul_zero, List.drop_zero, List.append_assoc, List.take_append, zs_length, List.take_of_length_le (by rw [zs_length]; omega), la]
    congr 1
    rw [hB, la]
    have hp : 8 * cnt (l.length % 8) n - l.length % 8 - n ≤ 8 := by unfold cnt; omega
    have hq : 8 - l.length % 8 ≤ n + (8 * cnt (l.length % 8) n - l.length % 8 - n) := by unfold cnt; omega
    generalize 8 * cnt (l.length % 8) n - l.length % 8 - n = p at hp hq
    rw [show zs 8 = zs p ++ zs (8 - p) by rw [zs_add]; congr 1; omega, ← List.append_assoc]
    rw [List.take_append_of_le_length (l₁ := m ++ zs p) (by simp [zs_length]; omega)]
  rw [c1, c2, c3, numE_join]
def fillF (low : Bool) (l m : List Bool) (i : Nat) : List UInt8 := if i = 0 then packB low l else (packB low (l ++ m)).take (l.length / 8 + i)
theorem fillF_zero (low : Bool) (l m : List Bool) : fillF low l m 0 = packB low l := rfl
theorem len_add (a n : Nat) : (a + n + 7) / 8 = a / 8 + cnt (a % 8) n := by unfold cnt; omega
theorem fillF_len (low : Bool) (l m : List Bool) (n i : Nat) (hm : m.length = n) (hi : i ≤ cnt (l.length % 8) n) (h : 1 ≤ i ∨ l.length % 8 = 0) :
    (fillF low l m i).length = l.length / 8 + i := by
  unfold fillF
  split
  · rw [packB_length]; omega
  · rw [List.length_take, packB_length, List.length_append, hm, len_add]; omega
theorem fillF_all (low : Bool) (l m : List Bool) (n : Nat) (hm : m.length = n) : fillF low l m (cnt (l.length % 8) n) = packB low (l ++ m) := by
  unfold fillF
  split
  · next h =>
    have : n = 0 := by unfold cnt at h; omega
    have : m = [] := List.eq_nil_of_length_eq_zero (by omega)
    subst this
    simp
  · rw [List.take_of_length_le]
    rw [packB_length, List.length_append, hm, len_add]; omega
theorem fillF_new (low : Bool) (l : List Bool) (v n i : Nat) (hv : v < 2 ^ n) (hi : i < cnt (l.length % 8) n) (h : 1 ≤ i ∨ l.length % 8 = 0) :
    fillF low l (wordE low v n) i ++ [addC low (l.length % 8) n v i] = fillF low l (wordE low v n) (i + 1) := by
  have hm := wordE_length low v n
  have hlen : (packB low (l ++ wordE low v n)).length = l.length / 8 + cnt (l.length % 8) n := by rw [packB_length, List.length_append, hm, len_add]
  have hlt : l.length / 8 + i < (packB low (l ++ wordE low v n)).length := by omega
  have hb : (packB low (l ++ wordE low v n))[l.length / 8 + i] = addC low (l.length % 8) n v i := by
    apply UInt8.toNat_inj.1
    rw [packB_get, byteN_toNat, addC_toNat low _ n v i hv hi]
    congr 1
    exact chunk_hi l _ n i hm (by have : l.length % 8 < 8 := Nat.mod_lt _ (by omega)
                                  omega) hi
  have hF : fillF low l (wordE low v n) i = (packB low (l ++ wordE low v n)).take (l.length / 8 + i) := by
    unfold fillF
    split
    · next h0 =>
      subst h0
      have hr : l.length % 8 = 0 := by omega
      apply List.ext_getElem
      · rw [packB_length, List.length_take]; omega
      · intro k h1 h2
        rw [packB_length] at h1
        rw [packB_get, List.getElem_take, packB_get]
        unfold byteN
        rw [chunk_lo _ _ _ (by omega)]
    · rfl
  rw [hF, ← hb]
  unfold fillF
  rw [if_neg (by omega), ← Nat.add_assoc, List.take_succ_eq_append_getElem hlt]
theorem fillF_or (low : Bool) (l : List Bool) (v n : Nat) (hv : v < 2 ^ n) (hu : 0 < l.length % 8) (hq : l.length / 8 < (packB low l).length) :
    (packB low l).set (l.length / 8) ((packB low l)[l.length / 8] ||| addC low (l.length % 8) n v 0) = fillF low l (wordE low v n) 1 := by
  have hm := wordE_length low v n
  have hc : 0 < cnt (l.length % 8) n := by unfold cnt; omega
  have hl := packB_length low l
  have hlen : (packB low (l ++ wordE low v n)).length = l.length / 8 + cnt (l.length % 8) n := by rw [packB_length, List.length_append, hm, len_add]
  unfold fillF
  rw [if_neg (by omega)]
  apply List.ext_getElem
  · rw [List.length_set, List.length_take, hlen, hl]; omega
  · intro k h1 h2
    rw [List.length_set, hl] at h1
    rw [List.getElem_set, List.getElem_take, packB_get low (l ++ _)]
    by_cases hk : l.length / 8 = k
    · rw [if_pos hk]
      subst hk
      apply UInt8.toNat_inj.1
      rw [UInt8.toNat_or, packB_get low l, byteN_toNat, byteN_toNat, addC_toNat low _ n v 0 hv hc]
      exact (chunk_or low l _ n hm hu).symm
    · rw [if_neg hk, packB_get low l]
      unfold byteN
      rw [chunk_lo _ _ _ (by omega)]
theorem packB_pad (low : Bool) (l : List Bool) : packB low (l ++ zs (8 * ((l.length + 7) / 8) - l.length)) = packB low l := by
  apply List.ext_getElem
  · rw [packB_length, packB_length, List.length_append, zs_length]; omega
  · intro k h1 h2
    rw [packB_length] at h2
    rw [packB_get, packB_get]
    unfold byteN
    congr 2
    unfold chunk
    rw [List.drop_append_of_le_length (by omega), List.append_assoc, zs_add]
    rw [show zs (8 * ((l.length + 7) / 8) - l.length + 8) = zs 8 ++ zs (8 * ((l.length + 7) / 8) - l.length) by rw [zs_add]; congr 1; omega, ← List.append_assoc]
    rw [List.take_append_of_le_length (l₁ := l.drop (8 * k) ++ zs 8) (by simp [zs_length])]
theorem bitsOf_packB (low : Bool) (l : List Bool) : bitsOf low (packB low l) = l ++ zs (8 * ((l.length + 7) / 8) - l.length) := by
  have hl := packB_length low l
  apply List.ext_getElem
  · rw [bitsOf_length, hl, List.length_append, zs_length]; omega
  · intro k h1 h2
    rw [bitsOf_length] at h1
    have hk : k / 8 < (packB low l).length := by omega
    have e : (bitsOf low (packB low l)).drop (8 * (k / 8)) = bitsB low (packB low l)[k / 8] ++ bitsOf low ((packB low l).drop (k / 8 + 1)) := by
      rw [← bitsOf_drop, List.drop_eq_getElem_cons hk, bitsOf_cons]
    have e2 : bitsB low (packB low l)[k / 8] = chunk l (k / 8) := by
      unfold bitsB
      rw [packB_get, byteN_toNat]
      have := wordE_numE low (chunk l (k / 8))
      rwa [chunk_length] at this
    have e3 : (bitsOf low (packB low l))[k]? = (chunk l (k / 8))[k % 8]? := by
      have h3 : ((bitsOf low (packB low l)).drop (8 * (k / 8)))[k % 8]? = (bitsOf low (packB low l))[k]? := by
        rw [List.getElem?_drop]; congr 1; omega
      rw [← h3, e, e2, List.getElem?_append_left (by rw [chunk_length]; omega)]
    have e4 : (chunk l (k / 8))[k % 8]? = (l ++ zs (8 * ((l.length + 7) / 8) - l.length))[k]? := by
      unfold chunk
      rw [List.getElem?_take_of_lt (by omega)]
      rcases Nat.lt_or_ge k l.length with hlt | hge
      · rw [List.getElem?_append_left (by simp; omega), List.getElem?_append_left hlt, List.getElem?_drop]; congr 1; omega
      · rw [List.getElem?_append_right (by simp; omega), List.getElem?_append_right hge]
        unfold zs
        rw [List.getElem?_replicate, List.getElem?_replicate, if_pos (by simp; omega), if_pos (by omega)]
    rw [e4, List.getElem?_eq_getElem (by rw [bitsOf_length]; omega), List.getElem?_eq_getElem h2] at e3
    exact Option.some.inj e3
end Go.Proofs.Ytjafcjnkefioeaa.Bit
/- Contracts of the reckoning functions of package bits, and of what a reader looks up: byteAt, next, At, Left. -/
namespace Go.Proofs.Ytjafcjnkefioeaa.Bit
open Go.RowKit Go.Proofs.Ytjafcjnkefioeaa.Oct
def Only (S : Nat → Prop) (w w' : World) : Prop :=
  w'.os = w.os ∧ w'.tape = w.tape ∧ w'.output = w.output ∧ w.heap.size ≤ w'.heap.size ∧ ∀ k, k < w.heap.size → ¬ S k → w'.heap[k]? = w.heap[k]?
theorem Only.refl (S : Nat → Prop) (w : World) : Only S w w := ⟨rfl, rfl, rfl, Nat.le_refl _, fun _ _ _ => rfl⟩
theorem Only.trans {S : Nat → Prop} {a b c : World} (h : Only S a b) (k : Only S b c) : Only S a c :=
  ⟨k.1.trans h.1, k.2.1.trans h.2.1, k.2.2.1.trans h.2.2.1, Nat.le_trans h.2.2.2.1 k.2.2.2.1, fun i hi hs => (k.2.2.2.2 i (by have := h.2.2.2.1; omega) hs).trans (h.2.2.2.2 i hi hs)⟩
theorem Only.below {S : Nat → Prop} {B : Nat} {w w' : World} (h : Only S w w') (hB : B ≤ w.heap.size) (hS : ∀ k, k < B → ¬ S k) : Below B w w' :=
  ⟨h.1, h.2.1, h.2.2.1, h.2.2.2.1, fun k hk => h.2.2.2.2 k (by omega) (hS k hk)⟩
theorem Only.of_below {S : Nat → Prop} {w w' : World} (h : Below w.heap.size w w') : Only S w w' := ⟨h.os, h.tape, h.output, h.size, fun k hk _ => h.block k hk⟩
theorem Only.drawn (S : Nat → Prop) {w w' : World} (h : Drawn w w') : Only S w w' := by
  obtain ⟨n, rfl⟩ := h
  exact ⟨rfl, rfl, rfl, Nat.le_refl _, fun _ _ _ => rfl⟩
theorem Only.setCell {S : Nat → Prop} {w : World} {p : Addr} (hp : S p.block) (u : Value) : Only S w (w.setCell p u) :=
  ⟨rfl, rfl, rfl, by simp [World.setCell], fun k hk hs => Below.heap_setCell _ _ _ _ (fun e => hs (e ▸ hp))⟩
theorem Only.mono {S S' : Nat → Prop} {w w' : World} (h : Only S w w') (hs : ∀ k, k < w.heap.size → S k → S' k) : Only S' w w' :=
  ⟨h.1, h.2.1, h.2.2.1, h.2.2.2.1, fun k hk hn => h.2.2.2.2 k hk (fun e => hn (hs k hk e))⟩
def cntB (n : Int) : Bool := decide (0 ≤ n ∧ n ≤ 32)
theorem count_any (n : Int) (w : World) : Calls Try.prog 52 #[.int .i64 n] w fun e w' => e = .returned (.bool (cntB n)) ∧ w = w' := by
  by_cases h0 : 0 ≤ n
  · by_cases h1 : n ≤ 32
    · have e : cntB n = true := by simp [cntB, h0, h1]
      rw [e]; clear e
      go_enter Try.func52, Try.ntmps52
      go_wp2
      go_ret
      exact ⟨rfl, rfl⟩
    · have e : cntB n = false := by simp [cntB, h1]
      rw [e]; clear e
      have hd : decide (n ≤ 32) = false := by simpa using h1
      go_enter Try.func52, Try.ntmps52
      go_wp2
      go_ret
      exact ⟨rfl, rfl⟩
  · have e : cntB n = false := by simp [cntB, h0]
    rw [e]; clear e
    have hd : decide (0 ≤ n) = false := by simpa using h0
    go_enter Try.func52, Try.ntmps52
    go_wp2
    go_ret
    exact ⟨rfl, rfl⟩
theorem bytesFor_any (n : Nat) (w : World) (h : n ≤ 4000000000000000) : Calls Try.prog 32 #[.int .i64 (n : Int)] w fun e w' => e = .returned (.int .i64 (((n + 7) / 8 : Nat) : Int)) ∧ w = w' := by
  have e : (((n + 7) / 8 : Nat) : Int) = ((n : Int) + 7) / 8 := by omega
  rw [e]; clear e
  go_enter Try.func32, Try.ntmps32
  go_wp2
  go_ret
  exact ⟨rfl, rfl⟩
theorem byteShift_any (i count : Nat) (low : Bool) (w : World) (h : i < count) (hc : count ≤ 5) :
    Calls Try.prog 74 #[.int .i64 (i : Int), .int .i64 (count : Int), .bool low] w fun e w' => e = .returned (.int .i64 ((gsh low (8 * i) 8 (8 * count) : Nat) : Int)) ∧ w = w' := by
  cases low
  · have e : ((gsh false (8 * i) 8 (8 * count) : Nat) : Int) = 8 * ((count : Int) - 1 - (i : Int)) := by simp only [gsh, Bool.false_eq_true, if_false]; omega
    rw [e]; clear e
    go_enter Try.func74, Try.ntmps74
    go_wp2
    go_ret
    exact ⟨rfl, rfl⟩
  · have e : ((gsh true (8 * i) 8 (8 * count) : Nat) : Int) = 8 * (i : Int) := by simp [gsh]
    rw [e]; clear e
    go_enter Try.func74, Try.ntmps74
    go_wp2
    go_ret
    exact ⟨rfl, rfl⟩
theorem groupShift_any (ahead n : Nat) (low : Bool) (w : World) (ha : ahead < 8) (hn : n ≤ 32) :
    Calls Try.prog 72 #[.int .i64 (ahead : Int), .int .i64 (n : Int), .bool low] w fun e w' => e = .returned (.int .i64 ((gsh low ahead n (8 * cnt ahead n) : Nat) : Int)) ∧ w = w' := by
  cases low
  · have e : ((gsh false ahead n (8 * cnt ahead n) : Nat) : Int) = 8 * (((cnt ahead n : Nat)) : Int) - (ahead : Int) - (n : Int) := by
      simp only [gsh, cnt, Bool.false_eq_true, if_false]; omega
    have hcn : cnt ahead n ≤ 5 := by unfold cnt; omega
    rw [e]; clear e
    go_enter Try.func72, Try.ntmps72
    go_wp2_with fail
    have e2 : (ahead : Int) + (n : Int) = ((ahead + n : Nat) : Int) := by omega
    rw [e2]
    refine (bytesFor_any _ _ (by omega)).mono ?_
    rintro e w' ⟨rfl, rfl⟩
    have e3 : (ahead + n + 7) / 8 = cnt ahead n := rfl
    rw [e3]
    clear e2 e3
    go_wp2
    go_ret
    exact ⟨rfl, rfl⟩
  · have e : ((gsh true ahead n (8 * cnt ahead n) : Nat) : Int) = (ahead : Int) := by simp [gsh]
    rw [e]; clear e
    go_enter Try.func72, Try.ntmps72
    go_wp2
    go_ret
    exact ⟨rfl, rfl⟩
end Go.Proofs.Ytjafcjnkefioeaa.Bit
/- Contracts of slices.Clone over bytes and of NewReader; the chapter's example holds. -/
namespace Go.Proofs.Ytjafcjnkefioeaa.Bit
open Go.RowKit Go.Proofs.Ytjafcjnkefioeaa.Oct
def CloneP (w : World) (xs : List UInt8) (e : Ending) (w' : World) : Prop :=
  Below w.heap.size w w' ∧ ∃ q cap, e = .returned (.slice q xs.length cap) ∧ Row w' q xs ∧ xs.length ≤ cap ∧ cap ≤ maxLen ∧ (q = none → cap = 0) ∧ ∀ a, q = some a → w.heap.size ≤ a.block
theorem clone_any (p : Option Addr) (len cap : Nat) (xs : List UInt8) (w : World) (hr : Row w p xs) (hx : xs.length = len) (hnil : p = none → cap = 0) (h47 : len ≤ 140737488355328) :
    Calls Try.prog 50 #[.slice p len cap] w (CloneP w xs) := by
  rcases p with _ | ad
  · have hxs : xs = [] := by
      rcases xs with _ | ⟨x, xs⟩
      · rfl
      · obtain ⟨b, off, he, _⟩ := hr (by simp)
        cases he
    subst hxs
    simp at hx
    subst hx
    have hcap := hnil rfl
    subst hcap
    clear hnil
    have heq : ∀ w' : World, (binOp .eql 22 (.slice none 0 0) (.slice none 0 0)).run Try.prog w' = .ok (.bool true) w' := fun w' => Lib.run_eql_slice_nil (P := Try.prog) w' 22 5 none 0 0 0 0 Try.underlying22
    go_enter Try.func50, Try.ntmps50
    go_wp2_with fail
    go_ret
    exact ⟨Below.refl _ _, none, 0, rfl, fun h => absurd h (by simp), by simp, by simp [maxLen], fun _ => rfl, (fun a h => by cases h)⟩
  · have hown := World.ownsRow_made (base := w.heap.size) (e := 5) (size := 1) w #[] 0 (Nat.le_refl _) (by simp [maxLen]) rfl
    have hr2 := hr.below ((Below.refl _ w).alloc (Nat.le_refl _) (.cells #[] 5))
    have HX := Lib.hid hx
    clear hx hnil
    have heq : ∀ w' : World, (binOp .eql 22 (.slice (some ad) len cap) (.slice none 0 0)).run Try.prog w' = .ok (.bool false) w' := fun w' => Lib.run_eql_slice_nil (P := Try.prog) w' 22 5 (some ad) len cap 0 0 Try.underlying22
    go_enter Try.func50, Try.ntmps50
    go_wp2_with (at_builtin; refine wpList_append_bytes rfl _ _ rfl w.heap.size _ 0 [] rfl hown (some ad) len cap xs rfl hr2 HX.out (fun h => by cases h) (by omega) (by simp) ?_)
    intro v' w2 hown' hgrow hv
    obtain ⟨g, cap2, hv', hgc, hgm, hgb, hgl, hrow2⟩ := own_form hown' hv
    rw [hv']
    have hb12 : Below w.heap.size w w2 := ((Below.refl _ w).alloc (Nat.le_refl _) _).grown hgrow (by simp) (fun k hk => by
      simp [Value.ownBlock] at hk; omega)
    clear hown hr2 hown' hgrow hv hv'
    go_wp2_with fail
    go_ret
    exact ⟨hb12, some ⟨g, 0, none⟩, cap2, by rw [HX.out]; simp, hrow2, by rw [HX.out]; omega, hgm, (fun h => by cases h), (fun a h => by injection h with h; subst h; exact hgb)⟩
theorem row_one (w : World) (x : UInt8) (T : Nat) : Row (w.alloc (.cells #[.int .u8 (x.toNat : Int)] T)) (some ⟨w.heap.size, 0, none⟩) [x] := by
  intro _
  refine ⟨w.heap.size, 0, rfl, by simp, fun i h => ?_⟩
  match i, h with
  | 0, _ => simp
end Go.Proofs.Ytjafcjnkefioeaa.Bit
/- Contracts of the document's own functions on texts of 0 and 1: Turn, Word, Number. -/
namespace Go.Proofs.Ytjafcjnkefioeaa.Bit
open Go.RowKit Go.Proofs.Ytjafcjnkefioeaa.Oct
def dig (b : Bool) : UInt8 := if b then 49 else 48
def ds (l : List Bool) : ByteArray := bs (l.map dig)
theorem ds_size (l : List Bool) : (ds l).size = l.length := by simp [ds, bs_size]
theorem ds_get (l : List Bool) (k : Nat) (h : k < (ds l).size) (h' : k < l.length) : (ds l)[k] = dig l[k] := by
  have h2 := bs_get (l.map dig) k h (by simpa using h')
  rw [List.getElem_map] at h2
  exact h2
theorem dig_toNat (b : Bool) : ((dig b).toNat : Int) = 48 + (b.toNat : Int) := by cases b <;> rfl
end Go.Proofs.Ytjafcjnkefioeaa.Bit
/- Contracts of isWord and of the document's Digits; what nil readers and writers answer. -/
namespace Go.Proofs.Ytjafcjnkefioeaa.Bit
open Go.RowKit Go.Proofs.Ytjafcjnkefioeaa.Oct
set_option maxRecDepth 20000
def wordB (xs : List UInt8) : Bool := xs.all fun c => c == 48 || c == 49
theorem wordB_take (xs : List UInt8) (k : Nat) (h : k < xs.length) : wordB (xs.take (k + 1)) = (wordB (xs.take k) && (xs[k] == 48 || xs[k] == 49)) := by
  unfold wordB
  rw [take_succ' xs k h, List.all_append]
  simp
theorem wordB_bad (xs : List UInt8) (k : Nat) (h : k < xs.length) (h0 : xs[k] ≠ 48) (h1 : xs[k] ≠ 49) : wordB xs = false := by
  unfold wordB
  rw [List.all_eq_false]
  exact ⟨xs[k], List.getElem_mem h, by simp [h0, h1]⟩
theorem wordB_digits {xs : List UInt8} (h : wordB xs = true) : ∃ l : List Bool, xs = l.map dig := by
  refine ⟨xs.map fun c => c == 49, ?_⟩
  rw [List.map_map]
  have h' := List.all_eq_true.1 h
  conv => lhs; rw [← List.map_id xs]
  refine List.map_congr_left fun c hc => ?_
  have := h' c hc
  simp at this
  rcases this with rfl | rfl <;> rfl
theorem wordB_dig (l : List Bool) : wordB (l.map dig) = true := by
  unfold wordB
  rw [List.all_eq_true]
  intro c hc
  simp at hc
  rcases hc with ⟨_, rfl⟩ | ⟨_, rfl⟩ <;> rfl
theorem u8_ne (x : UInt8) (n : Nat) (hn : n < 256) (h : x ≠ UInt8.ofNat n) : ((x.toNat : Int) != (n : Int)) = true := by
  simp
  intro e
  apply h
  apply UInt8.toNat_inj.1
  rw [UInt8.toNat_ofNat', Nat.mod_eq_of_lt hn]
  omega
set_option maxHeartbeats 400000 in
theorem isWord_any (xs : List UInt8) (w : World) (hs : xs.length ≤ 2000000) : Calls Try.prog 89 #[.string (bs xs)] w fun e w' => e = .returned (.bool (wordB xs)) ∧ w = w' := by
  have hsz := bs_size xs
  go_enter Try.func89, Try.ntmps89
  go_wp2_with fail
  go_loop [3, 6] (fun u i => ∃ k : Nat, k ≤ xs.length ∧ i = .int .i64 (k : Int) ∧ Hid (wordB (xs.take k) = true)) (fun _ i => xs.length - (intOf i).toNat)
  case atStart => exact ⟨0, Nat.zero_le _, rfl, rfl⟩
  case round =>
    obtain ⟨k, hk, rfl, hH⟩ := hrel
    by_cases hlt : k < xs.length
    · obtain ⟨x, hx⟩ : ∃ x, x = xs[k] := ⟨_, rfl⟩
      have hg : ∀ h, (bs xs)[k]'h = x := fun h => (bs_get xs k h hlt).trans hx.symm
      have HT := Lib.hid (wordB_take xs k hlt)
      have HB := Lib.hid (wordB_bad xs k hlt)
      rw [← hx] at HT HB
      clear hx
      by_cases h48 : x = 48
      · subst h48
        have hb1 : (((48 : UInt8).toNat : Int) != 48) = false := by decide
        go_wp2_with fail
        go_round
        case rel => exact ⟨k + 1, by omega, by go_num, by show wordB (xs.take (k + 1)) = true; rw [HT.out, hH.out]; rfl⟩
        case measure => simp [intOf]; omega
      · by_cases h49 : x = 49
        · subst h49
          have hb1 : (((49 : UInt8).toNat : Int) != 48) = true := by decide
          have hb2 : (((49 : UInt8).toNat : Int) != 49) = false := by decide
          go_wp2_with fail
          go_round
          case rel => exact ⟨k + 1, by omega, by go_num, by show wordB (xs.take (k + 1)) = true; rw [HT.out, hH.out]; rfl⟩
          case measure => simp [intOf]; omega
        · have hb1 := u8_ne x 48 (by omega) h48
          have hb2 := u8_ne x 49 (by omega) h49
          have hbad := HB.out h48 h49
          have HBAD := Lib.hid hbad
          simp only [Int.cast_ofNat_Int] at hb1 hb2
          clear h48 h49 hbad
          go_wp2_with fail
          go_ret
          exact ⟨by rw [HBAD.out]; rfl, rfl⟩
    · have hkl : k = xs.length := by omega
      subst hkl
      have hH' := hH.out
      rw [List.take_length] at hH'
      have HW := Lib.hid hH'
      clear hH'
      go_wp2_with fail
      go_ret
      exact ⟨by rw [HW.out]; rfl, rfl⟩
end Go.Proofs.Ytjafcjnkefioeaa.Bit

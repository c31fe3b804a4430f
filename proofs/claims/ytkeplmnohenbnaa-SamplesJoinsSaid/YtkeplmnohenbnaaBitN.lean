
/- Plain facts on bits, the numbers that they stand for and the bytes that they fill; no program in sight. -/
import Derived.Test.YtkeplmnohenbnaaOctM
namespace Go.Proofs.Ytkeplmnohenbnaa.Bit
open Go.Proofs.Ytkeplmnohenbnaa.Oct
set_option linter.unusedVariables false

/-- the number of bits, the first one the highest -/
def num (l : List Bool) : Nat := l.foldl (fun n b => n * 2 + b.toNat) 0
theorem num_nil : num [] = 0 := rfl
theorem num_snoc (l : List Bool) (b : Bool) : num (l ++ [b]) = num l * 2 + b.toNat := by simp [num]
theorem num_append (a b : List Bool) : num (a ++ b) = num a * 2 ^ b.length + num b := by
  have key : ∀ (b : List Bool) (n : Nat), b.foldl (fun n b => n * 2 + b.toNat) n = n * 2 ^ b.length + num b := by
    intro b
    induction b with
    | nil => intro n; simp [num]
    | cons x b ih =>
      intro n
      have h1 := ih (n * 2 + x.toNat)
      have h2 := ih (0 * 2 + x.toNat)
      unfold num
      simp only [List.foldl_cons, List.length_cons]
      rw [h1, h2, Nat.pow_succ, Nat.add_mul, Nat.add_mul]
      have : n * 2 * 2 ^ b.length = n * (2 ^ b.length * 2) := by rw [Nat.mul_assoc, Nat.mul_comm 2]
      omega
  unfold num
  rw [List.foldl_append, key]
  rfl
theorem num_one (b : Bool) : num [b] = b.toNat := by simp [num]
theorem num_cons (b : Bool) (l : List Bool) : num (b :: l) = b.toNat * 2 ^ l.length + num l := by
  have := num_append [b] l
  rw [num_one] at this
  exact this
theorem num_lt (l : List Bool) : num l < 2 ^ l.length := by
  induction l with
  | nil => simp [num]
  | cons x l ih =>
    rw [num_cons, List.length_cons, Nat.pow_succ]
    cases x <;> simp <;> omega
def zs (n : Nat) : List Bool := List.replicate n false
theorem zs_length (n : Nat) : (zs n).length = n := by simp [zs]
theorem zs_succ (n : Nat) : zs (n + 1) = false :: zs n := by simp [zs, List.replicate_succ]
theorem num_zs (n : Nat) : num (zs n) = 0 := by
  induction n with
  | zero => rfl
  | succ n ih => rw [zs_succ, num_cons, ih]; simp
theorem zs_add (a b : Nat) : zs a ++ zs b = zs (a + b) := by simp [zs]
theorem zs_reverse (n : Nat) : (zs n).reverse = zs n := by simp [zs]
theorem zs_take (a b : Nat) : (zs a).take b = zs (min b a) := by simp [zs]
theorem zs_drop (a b : Nat) : (zs a).drop b = zs (a - b) := by simp [zs]

/-- the k lowest bits of a number, the highest first -/
def word (v : Nat) : Nat → List Bool
  | 0 => []
  | k + 1 => (v / 2 ^ k % 2 == 1) :: word v k
theorem word_length (v k : Nat) : (word v k).length = k := by
  induction k with
  | zero => rfl
  | succ k ih => simp [word, ih]
theorem bit_toNat (m : Nat) : ((m % 2 == 1) : Bool).toNat = m % 2 := by
  rcases Nat.mod_two_eq_zero_or_one m with h | h <;> rw [h] <;> rfl
theorem num_word (v k : Nat) : num (word v k) = v % 2 ^ k := by
  induction k with
  | zero => simp [word, num, Nat.mod_one]
  | succ k ih =>
    rw [word, num_cons, ih, word_length, bit_toNat, Nat.pow_succ, Nat.mod_mul, Nat.mul_comm]
    omega
theorem num_word_of_lt (v k : Nat) (h : v < 2 ^ k) : num (word v k) = v := by rw [num_word, Nat.mod_eq_of_lt h]
theorem num_inj : ∀ (a b : List Bool), a.length = b.length → num a = num b → a = b := by
  intro a
  induction a with
  | nil => intro b h _; cases b with
    | nil => rfl
    | cons => simp at h
  | cons x a ih =>
    intro b h hn
    cases b with
    | nil => simp at h
    | cons y b =>
      simp at h
      rw [num_cons, num_cons, h] at hn
      have h1 := num_lt a
      have h2 := num_lt b
      rw [h] at h1
      have hxy : x = y := by
        cases x <;> cases y <;> simp at hn ⊢ <;> omega
      subst hxy
      rw [ih b h (by omega)]
theorem word_num (l : List Bool) : word (num l) l.length = l :=
  num_inj _ _ (word_length _ _) (by rw [num_word_of_lt _ _ (num_lt l)])
theorem word_zero (k : Nat) : word 0 k = zs k := num_inj _ _ (by rw [word_length, zs_length]) (by rw [num_word, num_zs]; simp)
theorem word_drop (v a b : Nat) (h : b ≤ a) : (word v a).drop (a - b) = word v b := by
  induction a with
  | zero => have : b = 0 := by omega
            subst this; rfl
  | succ a ih =>
    rcases Nat.lt_or_ge b (a + 1) with hb | hb
    · rw [show a + 1 - b = (a - b) + 1 by omega, word, List.drop_succ_cons]
      exact ih (by omega)
    · have : b = a + 1 := by omega
      subst this; simp
theorem word_take (v a b : Nat) (h : b ≤ a) : num ((word v a).take (a - b)) = v % 2 ^ a / 2 ^ b := by
  have h1 := num_append ((word v a).take (a - b)) ((word v a).drop (a - b))
  rw [List.take_append_drop, word_drop v a b h, word_length, num_word, num_word] at h1
  have h3 := num_lt (word v b)
  rw [num_word, word_length] at h3
  rw [h1, Nat.mul_comm, Nat.mul_add_div (Nat.pow_pos (by omega)), Nat.div_eq_of_lt h3]
  omega

def numE (low : Bool) (l : List Bool) : Nat := if low then num l.reverse else num l
def wordE (low : Bool) (v n : Nat) : List Bool := if low then (word v n).reverse else word v n
theorem wordE_length (low : Bool) (v n : Nat) : (wordE low v n).length = n := by cases low <;> simp [wordE, word_length]
theorem numE_lt (low : Bool) (l : List Bool) : numE low l < 2 ^ l.length := by
  cases low
  · exact num_lt l
  · have := num_lt l.reverse; rwa [List.length_reverse] at this
theorem numE_wordE (low : Bool) (v n : Nat) (h : v < 2 ^ n) : numE low (wordE low v n) = v := by
  cases low <;> simp [numE, wordE, num_word_of_lt v n h]
theorem wordE_numE (low : Bool) (l : List Bool) : wordE low (numE low l) l.length = l := by
  cases low
  · simp [wordE, numE, word_num]
  · simp only [wordE, numE, if_true]
    have := word_num l.reverse
    rw [List.length_reverse] at this
    rw [this, List.reverse_reverse]
theorem numE_inj (low : Bool) (a b : List Bool) (h : a.length = b.length) (hn : numE low a = numE low b) : a = b := by
  rw [← wordE_numE low a, ← wordE_numE low b, h, hn]
theorem numE_zs (low : Bool) (n : Nat) : numE low (zs n) = 0 := by cases low <;> simp [numE, zs_reverse, num_zs]
/-- how many bits lie below n bits behind 'skip' others, in so many in all -/
def gsh (low : Bool) (skip n all : Nat) : Nat := if low then skip else all - skip - n
theorem numE_three (low : Bool) (a b c : List Bool) : numE low (a ++ b ++ c) =
    (if low then (num c.reverse * 2 ^ b.length + num b.reverse) * 2 ^ a.length + num a.reverse else (num a * 2 ^ b.length + num b) * 2 ^ c.length + num c) := by
  cases low
  · simp only [numE, Bool.false_eq_true, if_false]
    rw [num_append, num_append]
  · simp only [numE, if_true]
    rw [List.reverse_append, List.reverse_append, ← List.append_assoc, num_append, num_append, List.length_reverse, List.length_reverse]
theorem parts (L : List Bool) (skip n : Nat) : L = L.take skip ++ (L.drop skip).take n ++ (L.drop skip).drop n := by
  rw [List.append_assoc, List.take_append_drop, List.take_append_drop]
theorem three_mid (x m y p q r : Nat) (hm : m < 2 ^ q) (hy : y < 2 ^ r) : ((x * 2 ^ q + m) * 2 ^ r + y) / 2 ^ r % 2 ^ q = m := by
  have h1 : ((x * 2 ^ q + m) * 2 ^ r + y) / 2 ^ r = x * 2 ^ q + m := by
    rw [Nat.mul_comm, Nat.mul_add_div (Nat.pow_pos (by omega)), Nat.div_eq_of_lt hy]; omega
  rw [h1, Nat.mul_comm, Nat.mul_add_mod, Nat.mod_eq_of_lt hm]
theorem numE_ext (low : Bool) (L : List Bool) (skip n : Nat) (h : skip + n ≤ L.length) :
    numE low L / 2 ^ gsh low skip n L.length % 2 ^ n = numE low ((L.drop skip).take n) := by
  obtain ⟨a, ha⟩ : ∃ a, a = L.take skip := ⟨_, rfl⟩
  obtain ⟨b, hb⟩ : ∃ b, b = (L.drop skip).take n := ⟨_, rfl⟩
  obtain ⟨c, hc⟩ : ∃ c, c = (L.drop skip).drop n := ⟨_, rfl⟩
  have hL := parts L skip n
  rw [← ha, ← hb, ← hc] at hL
  have la : a.length = skip := by subst ha; simp; omega
  have lb : b.length = n := by subst hb; simp; omega
  have lc : c.length = L.length - skip - n := by subst hc; simp; omega
  rw [← hb]
  conv => lhs; rw [hL]
  rw [numE_three]
  cases low
  · simp only [gsh, numE, Bool.false_eq_true, if_false]
    rw [show (a ++ b ++ c).length - skip - n = c.length by simp; omega, lb]
    have h1 := num_lt b
    rw [lb] at h1
    exact three_mid _ _ _ 0 _ _ h1 (num_lt c)
  · simp only [gsh, numE, if_true]
    rw [la, lb]
    have h1 := num_lt b.reverse
    have h2 := num_lt a.reverse
    rw [List.length_reverse, lb] at h1
    rw [List.length_reverse, la] at h2
    exact three_mid _ _ _ 0 _ _ h1 h2

def bitsB (low : Bool) (x : UInt8) : List Bool := wordE low x.toNat 8
theorem bitsB_length (low : Bool) (x : UInt8) : (bitsB low x).length = 8 := wordE_length _ _ _
def bitsOf (low : Bool) (xs : List UInt8) : List Bool := xs.flatMap (bitsB low)
theorem bitsOf_nil (low : Bool) : bitsOf low [] = [] := rfl
theorem bitsOf_cons (low : Bool) (x : UInt8) (xs : List UInt8) : bitsOf low (x :: xs) = bitsB low x ++ bitsOf low xs := by simp [bitsOf]
theorem bitsOf_append (low : Bool) (xs ys : List UInt8) : bitsOf low (xs ++ ys) = bitsOf low xs ++ bitsOf low ys := by simp [bitsOf]
theorem bitsOf_length (low : Bool) (xs : List UInt8) : (bitsOf low xs).length = 8 * xs.length := by
  induction xs with
  | nil => rfl
  | cons x xs ih => rw [bitsOf_cons, List.length_append, ih, bitsB_length, List.length_cons]; omega
theorem bitsOf_drop (low : Bool) (xs : List UInt8) (k : Nat) : bitsOf low (xs.drop k) = (bitsOf low xs).drop (8 * k) := by
  induction xs generalizing k with
  | nil => simp [bitsOf]
  | cons x xs ih =>
    cases k with
    | zero => simp
    | succ k =>
      rw [List.drop_succ_cons, ih, bitsOf_cons, show 8 * (k + 1) = (bitsB low x).length + 8 * k by rw [bitsB_length]; omega, List.drop_append]
      simp
theorem bitsOf_take (low : Bool) (xs : List UInt8) (k : Nat) : bitsOf low (xs.take k) = (bitsOf low xs).take (8 * k) := by
  induction xs generalizing k with
  | nil => simp [bitsOf]
  | cons x xs ih =>
    cases k with
    | zero => simp [bitsOf]
    | succ k =>
      rw [List.take_succ_cons, bitsOf_cons, ih, bitsOf_cons, show 8 * (k + 1) = (bitsB low x).length + 8 * k by rw [bitsB_length]; omega, List.take_append]
      simp
      exact (List.take_of_length_le (by omega)).symm
theorem bitsB_zero (low : Bool) : bitsB low 0 = zs 8 := by
  unfold bitsB wordE
  rw [show (0 : UInt8).toNat = 0 from rfl, word_zero]
  cases low <;> simp [zs_reverse]
theorem bitsOf_zeros (low : Bool) (k : Nat) : bitsOf low (List.replicate k 0) = zs (8 * k) := by
  induction k with
  | zero => rfl
  | succ k ih => rw [List.replicate_succ, bitsOf_cons, ih, bitsB_zero, zs_add]; congr 1; omega
theorem num_bits_hi (xs : List UInt8) : num (xs.flatMap fun x => word x.toNat 8) = numB xs := by
  induction xs with
  | nil => rfl
  | cons x xs ih =>
    have hl : (xs.flatMap fun x => word x.toNat 8).length = 8 * xs.length := bitsOf_length false xs
    rw [List.flatMap_cons, num_append, ih, numB_cons, hl, num_word_of_lt _ _ (by have := x.toNat_lt; simpa using this), pow8]
theorem numE_bitsOf (low : Bool) (xs : List UInt8) : numE low (bitsOf low xs) = numOf (!low) xs := by
  cases low
  · exact num_bits_hi xs
  · show num (bitsOf true xs).reverse = numB xs.reverse
    rw [← num_bits_hi]
    congr 1
    unfold bitsOf bitsB wordE
    rw [List.reverse_flatMap]
    congr 1

/-- the next n bits behind a place, as a number -/
def peekV (low : Bool) (bits : List Bool) (n : Nat) : Nat := numE low ((bits ++ zs 32).take n)
def nextV (low : Bool) (xs : List UInt8) (at_ n : Nat) : Nat := peekV low ((bitsOf low xs).drop at_) n
/-- the bytes that have them -/
def group (xs : List UInt8) (at_ count : Nat) : List UInt8 := ((xs ++ List.replicate 5 0).drop (at_ / 8)).take count
def cnt (skip n : Nat) : Nat := (skip + n + 7) / 8
theorem group_length (xs : List UInt8) (at_ n : Nat) (h : at_ ≤ 8 * xs.length) (hn : n ≤ 32) : (group xs at_ (cnt (at_ % 8) n)).length = cnt (at_ % 8) n := by
  unfold group cnt; simp; omega
theorem group_get (xs : List UInt8) (at_ c i : Nat) (h : i < (group xs at_ c).length) : (group xs at_ c)[i] = xs.getD (at_ / 8 + i) 0 := by
  have h1 : (group xs at_ c)[i]? = some ((group xs at_ c)[i]) := List.getElem?_eq_getElem h
  have hi : i < c := by unfold group at h; simp at h; omega
  have hj : at_ / 8 + i < xs.length + 5 := by unfold group at h; simp at h; omega
  unfold group at h1
  rw [List.getElem?_take_of_lt hi, List.getElem?_drop] at h1
  rw [List.getD_eq_getElem?_getD]
  rcases Nat.lt_or_ge (at_ / 8 + i) xs.length with hl | hl
  · rw [List.getElem?_append_left hl] at h1
    rw [h1]; rfl
  · rw [List.getElem?_append_right hl, List.getElem?_replicate, if_pos (by omega)] at h1
    rw [List.getElem?_eq_none hl]
    injection h1 with h1
    exact h1.symm
theorem next_group (low : Bool) (xs : List UInt8) (at_ n : Nat) (h : at_ ≤ 8 * xs.length) (hn : n ≤ 32) :
    numOf (!low) (group xs at_ (cnt (at_ % 8) n)) / 2 ^ gsh low (at_ % 8) n (8 * cnt (at_ % 8) n) % 2 ^ n = nextV low xs at_ n := by
  have hg := group_length xs at_ n h hn
  have hlen := bitsOf_length low (group xs at_ (cnt (at_ % 8) n))
  rw [hg] at hlen
  have hle : at_ % 8 + n ≤ 8 * cnt (at_ % 8) n := by unfold cnt; omega
  rw [← numE_bitsOf, ← hlen, numE_ext low _ _ _ (by omega)]
  unfold nextV peekV
  congr 1
  unfold group
  rw [bitsOf_take, bitsOf_drop, bitsOf_append, bitsOf_zeros, List.drop_take, List.take_take, List.drop_drop, show 8 * (at_ / 8) + at_ % 8 = at_ by omega, Nat.min_eq_left (by omega)]
  rw [List.drop_append_of_le_length (by rw [bitsOf_length]; omega)]
  rw [show zs (8 * 5) = zs 32 ++ zs 8 by rw [zs_add], ← List.append_assoc]
  rw [List.take_append_of_le_length (by simp [zs_length]; omega)]
theorem nextV_lt (low : Bool) (xs : List UInt8) (at_ n : Nat) (hn : n ≤ 32) : nextV low xs at_ n < 2 ^ n := by
  unfold nextV peekV
  have := numE_lt low (((bitsOf low xs).drop at_ ++ zs 32).take n)
  refine Nat.lt_of_lt_of_le this (Nat.pow_le_pow_right (by omega) ?_)
  exact List.length_take_le _ _
end Go.Proofs.Ytkeplmnohenbnaa.Bit
/- Plain facts on bits packed into bytes, on bytes turned round, and on bits read out of packed ones; no program in sight. -/
namespace Go.Proofs.Ytkeplmnohenbnaa.Bit
open Go.Proofs.Ytkeplmnohenbnaa.Oct
set_option linter.unusedVariables false

/-- eight bits at a place, filled up -/
def chunk (l : List Bool) (i : Nat) : List Bool := (l.drop (8 * i) ++ zs 8).take 8
theorem chunk_length (l : List Bool) (i : Nat) : (chunk l i).length = 8 := by simp [chunk, zs_length]
def byteN (low : Bool) (l : List Bool) (i : Nat) : UInt8 := UInt8.ofNat (numE low (chunk l i))
theorem numE_byte (low : Bool) (l : List Bool) (h : l.length = 8) : numE low l < 256 := by
  have := numE_lt low l
  rw [h] at this
  exact this
theorem byteN_toNat (low : Bool) (l : List Bool) (i : Nat) : (byteN low l i).toNat = numE low (chunk l i) := by
  unfold byteN
  have := numE_byte low (chunk l i) (chunk_length l i)
  rw [UInt8.toNat_ofNat']
  exact Nat.mod_eq_of_lt this
def packB (low : Bool) (l : List Bool) : List UInt8 := (List.range ((l.length + 7) / 8)).map (byteN low l)
theorem packB_length (low : Bool) (l : List Bool) : (packB low l).length = (l.length + 7) / 8 := by simp [packB]
theorem packB_get (low : Bool) (l : List Bool) (i : Nat) (h : i < (packB low l).length) : (packB low l)[i] = byteN low l i := by simp [packB]
theorem packB_nil (low : Bool) : packB low [] = [] := rfl

def grpL (used n : Nat) (m : List Bool) : List Bool := zs used ++ m ++ zs (8 * cnt used n - used - n)
theorem grpL_length (used n : Nat) (m : List Bool) (h : m.length = n) : (grpL used n m).length = 8 * cnt used n := by
  unfold grpL cnt; simp [zs_length, h]; omega
def grpN (low : Bool) (used n v : Nat) : Nat := v * 2 ^ gsh low used n (8 * cnt used n)
theorem grpN_eq (low : Bool) (used n v : Nat) (h : v < 2 ^ n) : numE low (grpL used n (wordE low v n)) = grpN low used n v := by
  unfold grpL grpN
  rw [numE_three]
  have e := numE_wordE low v n h
  cases low
  · simp only [numE, Bool.false_eq_true, if_false] at e
    simp only [gsh, Bool.false_eq_true, if_false]
    rw [num_zs, num_zs, e, zs_length]; simp
  · simp only [numE, if_true] at e
    simp only [gsh, if_true]
    rw [zs_reverse, zs_reverse, num_zs, num_zs, e, zs_length]; simp
theorem grpN_lt (low : Bool) (used n v : Nat) (h : v < 2 ^ n) (hn : n ≤ 32) (hu : used < 8) : grpN low used n v < 18446744073709551616 := by
  rw [← grpN_eq low used n v h]
  have := numE_lt low (grpL used n (wordE low v n))
  rw [grpL_length _ _ _ (wordE_length _ _ _)] at this
  refine Nat.lt_of_lt_of_le this ?_
  rw [show (18446744073709551616 : Nat) = 2 ^ 64 by decide]
  refine Nat.pow_le_pow_right (by omega) ?_
  unfold cnt; omega
/-- the i-th byte of what is added -/
def addC (low : Bool) (used n v i : Nat) : UInt8 := UInt8.ofNat (grpN low used n v / 2 ^ gsh low (8 * i) 8 (8 * cnt used n) % 256)
theorem addC_toNat (low : Bool) (used n v i : Nat) (h : v < 2 ^ n) (hi : i < cnt used n) :
    (addC low used n v i).toNat = numE low (((grpL used n (wordE low v n)).drop (8 * i)).take 8) := by
  unfold addC
  have hl := grpL_length used n _ (wordE_length low v n)
  have := numE_ext low (grpL used n (wordE low v n)) (8 * i) 8 (by omega)
  rw [hl, grpN_eq low used n v h] at this
  rw [UInt8.toNat_ofNat', ← this]
  rw [show (2 ^ 8 : Nat) = 256 by decide]
  exact Nat.mod_eq_of_lt (Nat.mod_lt _ (by omega))

theorem chunk_lo (l m : List Bool) (i : Nat) (h : 8 * i + 8 ≤ l.length) : chunk (l ++ m) i = chunk l i := by
  unfold chunk
  rw [List.drop_append_of_le_length (by omega), List.append_assoc]
  rw [List.take_append_of_le_length (by simp; omega), List.take_append_of_le_length (by simp; omega)]
theorem take_zs (a : List Bool) (p : Nat) (hp : p ≤ 8) (h : 8 ≤ a.length + p) : (a ++ zs p).take 8 = (a ++ zs 8).take 8 := by
  rw [show zs 8 = zs p ++ zs (8 - p) by rw [zs_add]; congr 1; omega, ← List.append_assoc]
  rw [List.take_append_of_le_length (l₁ := a ++ zs p) (by simp [zs_length]; omega)]
theorem chunk_hi (l m : List Bool) (n j : Nat) (hm : m.length = n) (hu : l.length % 8 ≤ 8 * j) (hj : j < cnt (l.length % 8) n) :
    chunk (l ++ m) (l.length / 8 + j) = ((grpL (l.length % 8) n m).drop (8 * j)).take 8 := by
  unfold chunk grpL
  unfold cnt at hj ⊢
  generalize hq : l.length / 8 = q at *
  generalize hr : l.length % 8 = r at *
  have hlen : l.length = 8 * q + r := by omega
  have e1 : (l ++ m).drop (8 * (q + j)) = m.drop (8 * j - r) := by
    rw [show 8 * (q + j) = l.length + (8 * j - r) by omega, List.drop_append]; simp
  have e2 : (zs r ++ m ++ zs (8 * ((r + n + 7) / 8) - r - n)).drop (8 * j) = m.drop (8 * j - r) ++ zs (8 * ((r + n + 7) / 8) - r - n) := by
    rw [List.append_assoc, show 8 * j = (zs r).length + (8 * j - r) by rw [zs_length]; omega, List.drop_append]
    simp only [Nat.add_sub_cancel_left]
    rw [List.drop_eq_nil_of_le (by omega), List.nil_append, zs_length, Nat.add_sub_cancel_left, List.drop_append_of_le_length (by omega)]
  rw [e1, e2]
  exact (take_zs _ _ (by omega) (by simp; omega)).symm
theorem numE_join (low : Bool) (a b : List Bool) : numE low (a ++ b) = numE low (a ++ zs b.length) ||| numE low (zs a.length ++ b) := by
  cases low
  · simp only [numE, Bool.false_eq_true, if_false]
    rw [num_append, num_append, num_append, num_zs, num_zs, zs_length]
    have := nat_join b.length (num a * 2 ^ b.length) (num b) (Nat.mul_mod_left _ _) (num_lt b)
    simp [this]
  · simp only [numE, if_true, List.reverse_append, zs_reverse]
    rw [num_append, num_append, num_append, num_zs, num_zs]
    simp only [List.length_reverse, zs_length]
    have := nat_join a.length (num b.reverse * 2 ^ a.length) (num a.reverse) (Nat.mul_mod_left _ _) (by have := num_lt a.reverse; rwa [List.length_reverse] at this)
    rw [Nat.or_comm]
    simp [this]
theorem chunk_or (low : Bool) (l m : List Bool) (n : Nat) (hm : m.length = n) (hu : 0 < l.length % 8) :
    numE low (chunk (l ++ m) (l.length / 8)) = numE low (chunk l (l.length / 8)) ||| numE low (((grpL (l.length % 8) n m).drop (8 * 0)).take 8) := by
  obtain ⟨A, hA⟩ : ∃ A, A = l.drop (8 * (l.length / 8)) := ⟨_, rfl⟩
  have la : A.length = l.length % 8 := by subst hA; simp; omega
  have h8 : l.length % 8 < 8 := Nat.mod_lt _ (by omega)
  obtain ⟨B, hB⟩ : ∃ B, B = (m ++ zs 8).take (8 - A.length) := ⟨_, rfl⟩
  have lb : B.length = 8 - A.length := by subst hB; simp [zs_length]; omega
  have c1 : chunk (l ++ m) (l.length / 8) = A ++ B := by
    unfold chunk
    rw [List.drop_append_of_le_length (by omega), ← hA, List.append_assoc, List.take_append, List.take_of_length_le (by omega), ← hB]
  have c2 : chunk l (l.length / 8) = A ++ zs B.length := by
    unfold chunk
    rw [← hA, List.take_append, List.take_of_length_le (by omega), zs_take, lb, Nat.min_eq_left (by omega)]
  have c3 : ((grpL (l.length % 8) n m).drop (8 * 0)).take 8 = zs A.length ++ B := by
    unfold grpL
    rw [Nat.mul_zero, List.drop_zero, List.append_assoc, List.take_append, zs_length, List.take_of_length_le (by rw [zs_length]; omega), la]
    congr 1
    rw [hB, la]
    have hp : 8 * cnt (l.length % 8) n - l.length % 8 - n ≤ 8 := by unfold cnt; omega
    have hq : 8 - l.length % 8 ≤ n + (8 * cnt (l.length % 8) n - l.length % 8 - n) := by unfold cnt; omega
    generalize 8 * cnt (l.length % 8) n - l.length % 8 - n = p at hp hq
    rw [show zs 8 = zs p ++ zs (8 - p) by rw [zs_add]; congr 1; omega, ← List.append_assoc]
    rw [List.take_append_of_le_length (l₁ := m ++ zs p) (by simp [zs_length]; omega)]
  rw [c1, c2, c3, numE_join]

/-- the bytes while a number is being added, behind i steps -/
def fillF (low : Bool) (l m : List Bool) (i : Nat) : List UInt8 := if i = 0 then packB low l else (packB low (l ++ m)).take (l.length / 8 + i)
theorem fillF_zero (low : Bool) (l m : List Bool) : fillF low l m 0 = packB low l := rfl
theorem len_add (a n : Nat) : (a + n + 7) / 8 = a / 8 + cnt (a % 8) n := by unfold cnt; omega
theorem fillF_len (low : Bool) (l m : List Bool) (n i : Nat) (hm : m.length = n) (hi : i ≤ cnt (l.length % 8) n) (h : 1 ≤ i ∨ l.length % 8 = 0) :
    (fillF low l m i).length = l.length / 8 + i := by
  unfold fillF
  split
  · rw [packB_length]; omega
  · rw [List.length_take, packB_length, List.length_append, hm, len_add]; omega
theorem fillF_all (low : Bool) (l m : List Bool) (n : Nat) (hm : m.length = n) : fillF low l m (cnt (l.length % 8) n) = packB low (l ++ m) := by
  unfold fillF
  split
  · next h =>
    have : n = 0 := by unfold cnt at h; omega
    have : m = [] := List.eq_nil_of_length_eq_zero (by omega)
    subst this
    simp
  · rw [List.take_of_length_le]
    rw [packB_length, List.length_append, hm, len_add]; omega
theorem fillF_new (low : Bool) (l : List Bool) (v n i : Nat) (hv : v < 2 ^ n) (hi : i < cnt (l.length % 8) n) (h : 1 ≤ i ∨ l.length % 8 = 0) :
    fillF low l (wordE low v n) i ++ [addC low (l.length % 8) n v i] = fillF low l (wordE low v n) (i + 1) := by
  have hm := wordE_length low v n
  have hlen : (packB low (l ++ wordE low v n)).length = l.length / 8 + cnt (l.length % 8) n := by rw [packB_length, List.length_append, hm, len_add]
  have hlt : l.length / 8 + i < (packB low (l ++ wordE low v n)).length := by omega
  have hb : (packB low (l ++ wordE low v n))[l.length / 8 + i] = addC low (l.length % 8) n v i := by
    apply UInt8.toNat_inj.1
    rw [packB_get, byteN_toNat, addC_toNat low _ n v i hv hi]
    congr 1
    exact chunk_hi l _ n i hm (by have : l.length % 8 < 8 := Nat.mod_lt _ (by omega)
                                  omega) hi
  have hF : fillF low l (wordE low v n) i = (packB low (l ++ wordE low v n)).take (l.length / 8 + i) := by
    unfold fillF
    split
    · next h0 =>
      subst h0
      have hr : l.length % 8 = 0 := by omega
      apply List.ext_getElem
      · rw [packB_length, List.length_take]; omega
      · intro k h1 h2
        rw [packB_length] at h1
        rw [packB_get, List.getElem_take, packB_get]
        unfold byteN
        rw [chunk_lo _ _ _ (by omega)]
    · rfl
  rw [hF, ← hb]
  unfold fillF
  rw [if_neg (by omega), ← Nat.add_assoc, List.take_succ_eq_append_getElem hlt]
theorem fillF_or (low : Bool) (l : List Bool) (v n : Nat) (hv : v < 2 ^ n) (hu : 0 < l.length % 8) (hq : l.length / 8 < (packB low l).length) :
    (packB low l).set (l.length / 8) ((packB low l)[l.length / 8] ||| addC low (l.length % 8) n v 0) = fillF low l (wordE low v n) 1 := by
  have hm := wordE_length low v n
  have hc : 0 < cnt (l.length % 8) n := by unfold cnt; omega
  have hl := packB_length low l
  have hlen : (packB low (l ++ wordE low v n)).length = l.length / 8 + cnt (l.length % 8) n := by rw [packB_length, List.length_append, hm, len_add]
  unfold fillF
  rw [if_neg (by omega)]
  apply List.ext_getElem
  · rw [List.length_set, List.length_take, hlen, hl]; omega
  · intro k h1 h2
    rw [List.length_set, hl] at h1
    rw [List.getElem_set, List.getElem_take, packB_get low (l ++ _)]
    by_cases hk : l.length / 8 = k
    · rw [if_pos hk]
      subst hk
      apply UInt8.toNat_inj.1
      rw [UInt8.toNat_or, packB_get low l, byteN_toNat, byteN_toNat, addC_toNat low _ n v 0 hv hc]
      exact (chunk_or low l _ n hm hu).symm
    · rw [if_neg hk, packB_get low l]
      unfold byteN
      rw [chunk_lo _ _ _ (by omega)]
theorem packB_pad (low : Bool) (l : List Bool) : packB low (l ++ zs (8 * ((l.length + 7) / 8) - l.length)) = packB low l := by
  apply List.ext_getElem
  · rw [packB_length, packB_length, List.length_append, zs_length]; omega
  · intro k h1 h2
    rw [packB_length] at h2
    rw [packB_get, packB_get]
    unfold byteN
    congr 2
    unfold chunk
    rw [List.drop_append_of_le_length (by omega), List.append_assoc, zs_add]
    rw [show zs (8 * ((l.length + 7) / 8) - l.length + 8) = zs 8 ++ zs (8 * ((l.length + 7) / 8) - l.length) by rw [zs_add]; congr 1; omega, ← List.append_assoc]
    rw [List.take_append_of_le_length (l₁ := l.drop (8 * k) ++ zs 8) (by simp [zs_length])]
theorem bitsOf_packB (low : Bool) (l : List Bool) : bitsOf low (packB low l) = l ++ zs (8 * ((l.length + 7) / 8) - l.length) := by
  have hl := packB_length low l
  apply List.ext_getElem
  · rw [bitsOf_length, hl, List.length_append, zs_length]; omega
  · intro k h1 h2
    rw [bitsOf_length] at h1
    have hk : k / 8 < (packB low l).length := by omega
    have e : (bitsOf low (packB low l)).drop (8 * (k / 8)) = bitsB low (packB low l)[k / 8] ++ bitsOf low ((packB low l).drop (k / 8 + 1)) := by
      rw [← bitsOf_drop, List.drop_eq_getElem_cons hk, bitsOf_cons]
    have e2 : bitsB low (packB low l)[k / 8] = chunk l (k / 8) := by
      unfold bitsB
      rw [packB_get, byteN_toNat]
      have := wordE_numE low (chunk l (k / 8))
      rwa [chunk_length] at this
    have e3 : (bitsOf low (packB low l))[k]? = (chunk l (k / 8))[k % 8]? := by
      have h3 : ((bitsOf low (packB low l)).drop (8 * (k / 8)))[k % 8]? = (bitsOf low (packB low l))[k]? := by
        rw [List.getElem?_drop]; congr 1; omega
      rw [← h3, e, e2, List.getElem?_append_left (by rw [chunk_length]; omega)]
    have e4 : (chunk l (k / 8))[k % 8]? = (l ++ zs (8 * ((l.length + 7) / 8) - l.length))[k]? := by
      unfold chunk
      rw [List.getElem?_take_of_lt (by omega)]
      rcases Nat.lt_or_ge k l.length with hlt | hge
      · rw [List.getElem?_append_left (by simp; omega), List.getElem?_append_left hlt, List.getElem?_drop]; congr 1; omega
      · rw [List.getElem?_append_right (by simp; omega), List.getElem?_append_right hge]
        unfold zs
        rw [List.getElem?_replicate, List.getElem?_replicate, if_pos (by simp; omega), if_pos (by omega)]
    rw [e4, List.getElem?_eq_getElem (by rw [bitsOf_length]; omega), List.getElem?_eq_getElem h2] at e3
    exact Option.some.inj e3
/-- a byte with its bits turned round -/
def revB (x : UInt8) : UInt8 := UInt8.ofNat (num (word x.toNat 8).reverse)
theorem revB_toNat (x : UInt8) : (revB x).toNat = num (word x.toNat 8).reverse := by
  unfold revB
  have := num_lt (word x.toNat 8).reverse
  rw [List.length_reverse, word_length] at this
  rw [UInt8.toNat_ofNat']
  exact Nat.mod_eq_of_lt this
theorem word_revB (x : UInt8) : word (revB x).toNat 8 = (word x.toNat 8).reverse := by
  rw [revB_toNat]
  have := word_num (word x.toNat 8).reverse
  rwa [List.length_reverse, word_length] at this
theorem bitsB_revB (low : Bool) (x : UInt8) : bitsB (!low) (revB x) = bitsB low x := by
  unfold bitsB wordE
  cases low
  · simp only [Bool.not_false, if_true, Bool.false_eq_true, if_false]
    rw [word_revB, List.reverse_reverse]
  · simp only [Bool.not_true, if_true, Bool.false_eq_true, if_false]
    rw [word_revB]
theorem bitsOf_revB (low : Bool) (xs : List UInt8) : bitsOf (!low) (xs.map revB) = bitsOf low xs := by
  induction xs with
  | nil => rfl
  | cons x xs ih => rw [List.map_cons, bitsOf_cons, bitsOf_cons, ih, bitsB_revB]
theorem revB_revB (x : UInt8) : revB (revB x) = x := by
  apply UInt8.toNat_inj.1
  rw [revB_toNat, word_revB, List.reverse_reverse, num_word_of_lt]
  exact x.toNat_lt
theorem revB_byteN (low : Bool) (l : List Bool) (i : Nat) : revB (byteN (!low) l i) = byteN low l i := by
  apply UInt8.toNat_inj.1
  rw [revB_toNat, byteN_toNat, byteN_toNat]
  have h1 := word_num (chunk l i)
  have h2 := word_num (chunk l i).reverse
  rw [chunk_length] at h1
  rw [List.length_reverse, chunk_length] at h2
  cases low
  · simp only [numE, Bool.not_false, if_true, Bool.false_eq_true, if_false]
    rw [h2, List.reverse_reverse]
  · simp only [numE, Bool.not_true, if_true, Bool.false_eq_true, if_false]
    rw [h1]
theorem packB_rev (low : Bool) (l : List Bool) : (packB (!low) l).map revB = packB low l := by
  unfold packB
  rw [List.map_map]
  congr 1
  funext i
  exact revB_byteN low l i
end Go.Proofs.Ytkeplmnohenbnaa.Bit

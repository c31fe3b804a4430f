
/- Plain facts on bits packed into bytes, on bytes turned round, and on bits read out of packed ones; no program in sight. -/
import Derived.Test.YtidicajedckaoaaGreatDoorBitM
namespace Go.Proofs.YtidicajedckaoaaGreatDoor.Bit
open Go.Proofs.YtidicajedckaoaaGreatDoor.Oct
set_option linter.unusedVariables false

/-- eight bits at a place, filled up -/
def chunk (l : List Bool) (i : Nat) : List Bool := (l.drop (8 * i) ++ zs 8).take 8
theorem chunk_length (l : List Bool) (i : Nat) : (chunk l i).length = 8 := by simp [chunk, zs_length]
def byteN (low : Bool) (l : List Bool) (i : Nat) : UInt8 := UInt8.ofNat (numE low (chunk l i))
theorem numE_byte (low : Bool) (l : List Bool) (h : l.length = 8) : numE low l < 256 := by
  have := numE_lt low l
  rw [h] at this
  exact this
theorem byteN_toNat (low : Bool) (l : List Bool) (i : Nat) : (byteN low l i).toNat = numE low (chunk l i) := by
  unfold byteN
  have := numE_byte low (chunk l i) (chunk_length l i)
  rw [UInt8.toNat_ofNat']
  exact Nat.mod_eq_of_lt this
def packB (low : Bool) (l : List Bool) : List UInt8 := (List.range ((l.length + 7) / 8)).map (byteN low l)
theorem packB_length (low : Bool) (l : List Bool) : (packB low l).length = (l.length + 7) / 8 := by simp [packB]
theorem packB_get (low : Bool) (l : List Bool) (i : Nat) (h : i < (packB low l).length) : (packB low l)[i] = byteN low l i := by simp [packB]
theorem packB_nil (low : Bool) : packB low [] = [] := rfl

def grpL (used n : Nat) (m : List Bool) : List Bool := zs used ++ m ++ zs (8 * cnt used n - used - n)
theorem grpL_length (used n : Nat) (m : List Bool) (h : m.length = n) : (grpL used n m).length = 8 * cnt used n := by
  unfold grpL cnt; simp [zs_length, h]; omega
def grpN (low : Bool) (used n v : Nat) : Nat := v * 2 ^ gsh low used n (8 * cnt used n)
theorem grpN_eq (low : Bool) (used n v : Nat) (h : v < 2 ^ n) : numE low (grpL used n (wordE low v n)) = grpN low used n v := by
  unfold grpL grpN
  rw [numE_three]
  have e := numE_wordE low v n h
  cases low
  · simp only [numE, Bool.false_eq_true, if_false] at e
    simp only [gsh, Bool.false_eq_true, if_false]
    rw [num_zs, num_zs, e, zs_length]; simp
  · simp only [numE, if_true] at e
    simp only [gsh, if_true]
    rw [zs_reverse, zs_reverse, num_zs, num_zs, e, zs_length]; simp
theorem grpN_lt (low : Bool) (used n v : Nat) (h : v < 2 ^ n) (hn : n ≤ 32) (hu : used < 8) : grpN low used n v < 18446744073709551616 := by
  rw [← grpN_eq low used n v h]
  have := numE_lt low (grpL used n (wordE low v n))
  rw [grpL_length _ _ _ (wordE_length _ _ _)] at this
  refine Nat.lt_of_lt_of_le this ?_
  rw [show (18446744073709551616 : Nat) = 2 ^ 64 by decide]
  refine Nat.pow_le_pow_right (by omega) ?_
  unfold cnt; omega
/-- the i-th byte of what is added -/
def addC (low : Bool) (used n v i : Nat) : UInt8 := UInt8.ofNat (grpN low used n v / 2 ^ gsh low (8 * i) 8 (8 * cnt used n) % 256)
theorem addC_toNat (low : Bool) (used n v i : Nat) (h : v < 2 ^ n) (hi : i < cnt used n) :
    (addC low used n v i).toNat = numE low (((grpL used n (wordE low v n)).drop (8 * i)).take 8) := by
  unfold addC
  have hl := grpL_length used n _ (wordE_length low v n)
  have := numE_ext low (grpL used n (wordE low v n)) (8 * i) 8 (by omega)
  rw [hl, grpN_eq low used n v h] at this
  rw [UInt8.toNat_ofNat', ← this]
  rw [show (2 ^ 8 : Nat) = 256 by decide]
  exact Nat.mod_eq_of_lt (Nat.mod_lt _ (by omega))

theorem chunk_lo (l m : List Bool) (i : Nat) (h : 8 * i + 8 ≤ l.length) : chunk (l ++ m) i = chunk l i := by
  unfold chunk
  rw [List.drop_append_of_le_length (by omega), List.append_assoc]
  rw [List.take_append_of_le_length (by simp; omega), List.take_append_of_le_length (by simp; omega)]
theorem take_zs (a : List Bool) (p : Nat) (hp : p ≤ 8) (h : 8 ≤ a.length + p) : (a ++ zs p).take 8 = (a ++ zs 8).take 8 := by
  rw [show zs 8 = zs p ++ zs (8 - p) by rw [zs_add]; congr 1; omega, ← List.append_assoc]
  rw [List.take_append_of_le_length (l₁ := a ++ zs p) (by simp [zs_length]; omega)]
theorem chunk_hi (l m : List Bool) (n j : Nat) (hm : m.length = n) (hu : l.length % 8 ≤ 8 * j) (hj : j < cnt (l.length % 8) n) :
    chunk (l ++ m) (l.length / 8 + j) = ((grpL (l.length % 8) n m).drop (8 * j)).take 8 := by
  unfold chunk grpL
  unfold cnt at hj ⊢
  generalize hq : l.length / 8 = q at *
  generalize hr : l.length % 8 = r at *
  have hlen : l.length = 8 * q + r := by omega
  have e1 : (l ++ m).drop (8 * (q + j)) = m.drop (8 * j - r) := by
    rw [show 8 * (q + j) = l.length + (8 * j - r) by omega, List.drop_append]; simp
  have e2 : (zs r ++ m ++ zs (8 * ((r + n + 7) / 8) - r - n)).drop (8 * j) = m.drop (8 * j - r) ++ zs (8 * ((r + n + 7) / 8) - r - n) := by
    rw [List.append_assoc, show 8 * j = (zs r).length + (8 * j - r) by rw [zs_length]; omega, List.drop_append]
    simp only [Nat.add_sub_cancel_left]
    rw [List.drop_eq_nil_of_le (by omega), List.nil_append, zs_length, Nat.add_sub_cancel_left, List.drop_append_of_le_length (by omega)]
  rw [e1, e2]
  exact (take_zs _ _ (by omega) (by simp; omega)).symm
theorem numE_join (low : Bool) (a b : List Bool) : numE low (a ++ b) = numE low (a ++ zs b.length) ||| numE low (zs a.length ++ b) := by
  cases low
  · simp only [numE, Bool.false_eq_true, if_false]
    rw [num_append, num_append, num_append, num_zs, num_zs, zs_length]
    have := nat_join b.length (num a * 2 ^ b.length) (num b) (Nat.mul_mod_left _ _) (num_lt b)
    simp [this]
  · simp only [numE, if_true, List.reverse_append, zs_reverse]
    rw [num_append, num_append, num_append, num_zs, num_zs]
    simp only [List.length_reverse, zs_length]
    have := nat_join a.length (num b.reverse * 2 ^ a.length) (num a.reverse) (Nat.mul_mod_left _ _) (by have := num_lt a.reverse; rwa [List.length_reverse] at this)
    rw [Nat.or_comm]
    simp [this]
theorem chunk_or (low : Bool) (l m : List Bool) (n : Nat) (hm : m.length = n) (hu : 0 < l.length % 8) :
    numE low (chunk (l ++ m) (l.length / 8)) = numE low (chunk l (l.length / 8)) ||| numE low (((grpL (l.length % 8) n m).drop (8 * 0)).take 8) := by
  obtain ⟨A, hA⟩ : ∃ A, A = l.drop (8 * (l.length / 8)) := ⟨_, rfl⟩
  have la : A.length = l.length % 8 := by subst hA; simp; omega
  have h8 : l.length % 8 < 8 := Nat.mod_lt _ (by omega)
  obtain ⟨B, hB⟩ : ∃ B, B = (m ++ zs 8).take (8 - A.length) := ⟨_, rfl⟩
  have lb : B.length = 8 - A.length := by subst hB; simp [zs_length]; omega
  have c1 : chunk (l ++ m) (l.length / 8) = A ++ B := by
    unfold chunk
    rw [List.drop_append_of_le_length (by omega), ← hA, List.append_assoc, List.take_append, List.take_of_length_le (by omega), ← hB]
  have c2 : chunk l (l.length / 8) = A ++ zs B.length := by
    unfold chunk
    rw [← hA, List.take_append, List.take_of_length_le (by omega), zs_take, lb, Nat.min_eq_left (by omega)]
  have c3 : ((grpL (l.length % 8) n m).drop (8 * 0)).take 8 = zs A.length ++ B := by
    unfold grpL
    rw [Nat.mul_zero, List.drop_zero, List.append_assoc, List.take_append, zs_length, List.take_of_length_le (by rw [zs_length]; omega), la]
    congr 1
    rw [hB, la]
    have hp : 8 * cnt (l.length % 8) n - l.length % 8 - n ≤ 8 := by unfold cnt; omega
    have hq : 8 - l.length % 8 ≤ n + (8 * cnt (l.length % 8) n - l.length % 8 - n) := by unfold cnt; omega
    generalize 8 * cnt (l.length % 8) n - l.length % 8 - n = p at hp hq
    rw [show zs 8 = zs p ++ zs (8 - p) by rw [zs_add]; congr 1; omega, ← List.append_assoc]
    rw [List.take_append_of_le_length (l₁ := m ++ zs p) (by simp [zs_length]; omega)]
  rw [c1, c2, c3, numE_join]

/-- the bytes while a number is being added, behind i steps -/
def fillF (low : Bool) (l m : List Bool) (i : Nat) : List UInt8 := if i = 0 then packB low l else (packB low (l ++ m)).take (l.length / 8 + i)
theorem fillF_zero (low : Bool) (l m : List Bool) : fillF low l m 0 = packB low l := rfl
theorem len_add (a n : Nat) : (a + n + 7) / 8 = a / 8 + cnt (a % 8) n := by unfold cnt; omega
theorem fillF_len (low : Bool) (l m : List Bool) (n i : Nat) (hm : m.length = n) (hi : i ≤ cnt (l.length % 8) n) (h : 1 ≤ i ∨ l.length % 8 = 0) :
    (fillF low l m i).length = l.length / 8 + i := by
  unfold fillF
  split
  · rw [packB_length]; omega
  · rw [List.length_take, packB_length, List.length_append, hm, len_add]; omega
theorem fillF_all (low : Bool) (l m : List Bool) (n : Nat) (hm : m.length = n) : fillF low l m (cnt (l.length % 8) n) = packB low (l ++ m) := by
  unfold fillF
  split
  · next h =>
    have : n = 0 := by unfold cnt at h; omega
    have : m = [] := List.eq_nil_of_length_eq_zero (by omega)
    subst this
    simp
  · rw [List.take_of_length_le]
    rw [packB_length, List.length_append, hm, len_add]; omega
theorem fillF_new (low : Bool) (l : List Bool) (v n i : Nat) (hv : v < 2 ^ n) (hi : i < cnt (l.length % 8) n) (h : 1 ≤ i ∨ l.length % 8 = 0) :
    fillF low l (wordE low v n) i ++ [addC low (l.length % 8) n v i] = fillF low l (wordE low v n) (i + 1) := by
  have hm := wordE_length low v n
  have hlen : (packB low (l ++ wordE low v n)).length = l.length / 8 + cnt (l.length % 8) n := by rw [packB_length, List.length_append, hm, len_add]
  have hlt : l.length / 8 + i < (packB low (l ++ wordE low v n)).length := by omega
  have hb : (packB low (l ++ wordE low v n))[l.length / 8 + i] = addC low (l.length % 8) n v i := by
    apply UInt8.toNat_inj.1
    rw [packB_get, byteN_toNat, addC_toNat low _ n v i hv hi]
    congr 1
    exact chunk_hi l _ n i hm (by have : l.length % 8 < 8 := Nat.mod_lt _ (by omega)
                                  omega) hi
  have hF : fillF low l (wordE low v n) i = (packB low (l ++ wordE low v n)).take (l.length / 8 + i) := by
    unfold fillF
    split
    · next h0 =>
      subst h0
      have hr : l.length % 8 = 0 := by omega
      apply List.ext_getElem
      · rw [packB_length, List.length_take]; omega
      · intro k h1 h2
        rw [packB_length] at h1
        rw [packB_get, List.getElem_take, packB_get]
        unfold byteN
        rw [chunk_lo _ _ _ (by omega)]
    · rfl
  rw [hF, ← hb]
  unfold fillF
  rw [if_neg (by omega), ← Nat.add_assoc, List.take_succ_eq_append_getElem hlt]
theorem fillF_or (low : Bool) (l : List Bool) (v n : Nat) (hv : v < 2 ^ n) (hu : 0 < l.length % 8) (hq : l.length / 8 < (packB low l).length) :
    (packB low l).set (l.length / 8) ((packB low l)[l.length / 8] ||| addC low (l.length % 8) n v 0) = fillF low l (wordE low v n) 1 := by
  have hm := wordE_length low v n
  have hc : 0 < cnt (l.length % 8) n := by unfold cnt; omega
  have hl := packB_length low l
  have hlen : (packB low (l ++ wordE low v n)).length = l.length / 8 + cnt (l.length % 8) n := by rw [packB_length, List.length_append, hm, len_add]
  unfold fillF
  rw [if_neg (by omega)]
  apply List.ext_getElem
  · rw [List.length_set, List.length_take, hlen, hl]; omega
  · intro k h1 h2
    rw [List.length_set, hl] at h1
    rw [List.getElem_set, List.getElem_take, packB_get low (l ++ _)]
    by_cases hk : l.length / 8 = k
    · rw [if_pos hk]
      subst hk
      apply UInt8.toNat_inj.1
      rw [UInt8.toNat_or, packB_get low l, byteN_toNat, byteN_toNat, addC_toNat low _ n v 0 hv hc]
      exact (chunk_or low l _ n hm hu).symm
    · rw [if_neg hk, packB_get low l]
      unfold byteN
      rw [chunk_lo _ _ _ (by omega)]
theorem packB_pad (low : Bool) (l : List Bool) : packB low (l ++ zs (8 * ((l.length + 7) / 8) - l.length)) = packB low l := by
  apply List.ext_getElem
  · rw [packB_length, packB_length, List.length_append, zs_length]; omega
  · intro k h1 h2
    rw [packB_length] at h2
    rw [packB_get, packB_get]
    unfold byteN
    congr 2
    unfold chunk
    rw [List.drop_append_of_le_length (by omega), List.append_assoc, zs_add]
    rw [show zs (8 * ((l.length + 7) / 8) - l.length + 8) = zs 8 ++ zs (8 * ((l.length + 7) / 8) - l.length) by rw [zs_add]; congr 1; omega, ← List.append_assoc]
    rw [List.take_append_of_le_length (l₁ := l.drop (8 * k) ++ zs 8) (by simp [zs_length])]
theorem bitsOf_packB (low : Bool) (l : List Bool) : bitsOf low (packB low l) = l ++ zs (8 * ((l.length + 7) / 8) - l.length) := by
  have hl := packB_length low l
  apply List.ext_getElem
  · rw [bitsOf_length, hl, List.length_append, zs_length]; omega
  · intro k h1 h2
    rw [bitsOf_length] at h1
    have hk : k / 8 < (packB low l).length := by omega
    have e : (bitsOf low (packB low l)).drop (8 * (k / 8)) = bitsB low (packB low l)[k / 8] ++ bitsOf low ((packB low l).drop (k / 8 + 1)) := by
      rw [← bitsOf_drop, List.drop_eq_getElem_cons hk, bitsOf_cons]
    have e2 : bitsB low (packB low l)[k / 8] = chunk l (k / 8) := by
      unfold bitsB
      rw [packB_get, byteN_toNat]
      have := wordE_numE low (chunk l (k / 8))
      rwa [chunk_length] at this
    have e3 : (bitsOf low (packB low l))[k]? = (chunk l (k / 8))[k % 8]? := by
      have h3 : ((bitsOf low (packB low l)).drop (8 * (k / 8)))[k % 8]? = (bitsOf low (packB low l))[k]? := by
        rw [List.getElem?_drop]; congr 1; omega
      rw [← h3, e, e2, List.getElem?_append_left (by rw [chunk_length]; omega)]
    have e4 : (chunk l (k / 8))[k % 8]? = (l ++ zs (8 * ((l.length + 7) / 8) - l.length))[k]? := by
      unfold chunk
      rw [List.getElem?_take_of_lt (by omega)]
      rcases Nat.lt_or_ge k l.length with hlt | hge
      · rw [List.getElem?_append_left (by simp; omega), List.getElem?_append_left hlt, List.getElem?_drop]; congr 1; omega
      · rw [List.getElem?_append_right (by simp; omega), List.getElem?_append_right hge]
        unfold zs
        rw [List.getElem?_replicate, List.getElem?_replicate, if_pos (by simp; omega), if_pos (by omega)]
    rw [e4, List.getElem?_eq_getElem (by rw [bitsOf_length]; omega), List.getElem?_eq_getElem h2] at e3
    exact Option.some.inj e3
/-- a byte with its bits turned round -/
def revB (x : UInt8) : UInt8 := UInt8.ofNat (num (word x.toNat 8).reverse)
theorem revB_toNat (x : UInt8) : (revB x).toNat = num (word x.toNat 8).reverse := by
  unfold revB
  have := num_lt (word x.toNat 8).reverse
  rw [List.length_reverse, word_length] at this
  rw [UInt8.toNat_ofNat']
  exact Nat.mod_eq_of_lt this
theorem word_revB (x : UInt8) : word (revB x).toNat 8 = (word x.toNat 8).reverse := by
  rw [revB_toNat]
  have := word_num (word x.toNat 8).reverse
  rwa [List.length_reverse, word_length] at this
theorem bitsB_revB (low : Bool) (x : UInt8) : bitsB (!low) (revB x) = bitsB low x := by
  unfold bitsB wordE
  cases low
  · simp only [Bool.not_false, if_true, Bool.false_eq_true, if_false]
    rw [word_revB, List.reverse_reverse]
  · simp only [Bool.not_true, if_true, Bool.false_eq_true, if_false]
    rw [word_revB]
theorem bitsOf_revB (low : Bool) (xs : List UInt8) : bitsOf (!low) (xs.map revB) = bitsOf low xs := by
  induction xs with
  | nil => rfl
  | cons x xs ih => rw [List.map_cons, bitsOf_cons, bitsOf_cons, ih, bitsB_revB]
theorem revB_revB (x : UInt8) : revB (revB x) = x := by
  apply UInt8.toNat_inj.1
  rw [revB_toNat, word_revB, List.reverse_reverse, num_word_of_lt]
  exact x.toNat_lt
theorem revB_byteN (low : Bool) (l : List Bool) (i : Nat) : revB (byteN (!low) l i) = byteN low l i := by
  apply UInt8.toNat_inj.1
  rw [revB_toNat, byteN_toNat, byteN_toNat]
  have h1 := word_num (chunk l i)
  have h2 := word_num (chunk l i).reverse
  rw [chunk_length] at h1
  rw [List.length_reverse, chunk_length] at h2
  cases low
  · simp only [numE, Bool.not_false, if_true, Bool.false_eq_true, if_false]
    rw [h2, List.reverse_reverse]
  · simp only [numE, Bool.not_true, if_true, Bool.false_eq_true, if_false]
    rw [h1]
theorem packB_rev (low : Bool) (l : List Bool) : (packB (!low) l).map revB = packB low l := by
  unfold packB
  rw [List.map_map]
  congr 1
  funext i
  exact revB_byteN low l i
end Go.Proofs.YtidicajedckaoaaGreatDoor.Bit

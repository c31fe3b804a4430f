
/- Canonical code words in plain words: where each word's strings begin, that no word begins another one, that full words cover all; no program in sight. -/
import Derived.Test.YtmbfgejephgojaaGreatDoorBitN
namespace Go.Proofs.YtmbfgejephgojaaGreatDoor.Hf
open Go.Proofs.YtmbfgejephgojaaGreatDoor.Bit
set_option linter.unusedVariables false

/-- how many strings of 30 bits a word of a length takes -/
def share (n : Nat) : Nat := 2 ^ (30 - n)
theorem share_pos (n : Nat) : 0 < share n := Nat.pow_pos (by omega)
theorem share_mul (m n : Nat) (h : m ≤ n) (h30 : n ≤ 30) : share m = 2 ^ (n - m) * share n := by
  unfold share
  rw [← Nat.pow_add]
  congr 1
  omega
theorem share_dvd (m n : Nat) (h : m ≤ n) (h30 : n ≤ 30) : share n ∣ share m := ⟨2 ^ (n - m), by rw [share_mul m n h h30, Nat.mul_comm]⟩
theorem share_top (n : Nat) (h : n ≤ 30) : 2 ^ n * share n = 1073741824 := by
  unfold share
  rw [← Nat.pow_add, show n + (30 - n) = 30 by omega]
/-- the first string that words of a length take -/
def startN (L : List Nat) : Nat → Nat
  | 0 => 0
  | n + 1 => startN L n + (if n = 0 then 0 else L.count n * share n)
/-- the string with which a word of a length, at a place or behind it, begins -/
def pos (L : List Nat) (n i : Nat) : Nat := startN L n + (L.take i).count n * share n
theorem startN_one (L : List Nat) : startN L 1 = 0 := by simp [startN]
theorem startN_succ (L : List Nat) (n : Nat) (h : n ≠ 0) : startN L (n + 1) = startN L n + L.count n * share n := by simp [startN, h]
theorem startN_mono (L : List Nat) (m n : Nat) (h : m ≤ n) : startN L m ≤ startN L n := by
  induction n with
  | zero => rw [show m = 0 by omega]; exact Nat.le_refl _
  | succ n ih =>
    rcases Nat.lt_or_ge n m with hlt | hge
    · rw [show m = n + 1 by omega]; exact Nat.le_refl _
    · have := ih hge
      simp only [startN]
      omega
theorem startN_dvd (L : List Nat) (n m : Nat) (h30 : n ≤ 30) (h : m ≤ n + 1) : share n ∣ startN L m := by
  induction m with
  | zero => exact ⟨0, by simp [startN]⟩
  | succ m ih =>
    simp only [startN]
    refine Nat.dvd_add (ih (by omega)) ?_
    split
    · exact ⟨0, by simp⟩
    · exact Nat.dvd_trans (share_dvd m n (by omega) h30) ⟨L.count m, by rw [Nat.mul_comm]⟩
theorem pos_zero (L : List Nat) (n : Nat) : pos L n 0 = startN L n := by simp [pos]
theorem pos_end (L : List Nat) (n : Nat) (h : n ≠ 0) : pos L n L.length = startN L (n + 1) := by rw [startN_succ L n h]; simp [pos]
theorem pos_succ (L : List Nat) (n i : Nat) (h : i < L.length) : pos L n (i + 1) = pos L n i + (if L[i] = n then share n else 0) := by
  unfold pos
  rw [List.take_succ_eq_append_getElem h, List.count_append]
  by_cases he : L[i] = n
  · simp [he, Nat.add_mul]
    omega
  · simp [he]
theorem pos_mono (L : List Nat) (n i j : Nat) (h : i ≤ j) : pos L n i ≤ pos L n j := by
  unfold pos
  have : (L.take i).count n ≤ (L.take j).count n := by
    rw [show L.take i = (L.take j).take i by rw [List.take_take, Nat.min_eq_left h]]
    exact (List.take_sublist _ _).count_le n
  exact Nat.add_le_add_left (Nat.mul_le_mul_right _ this) _
theorem pos_dvd (L : List Nat) (n i : Nat) (h30 : n ≤ 30) : share n ∣ pos L n i :=
  Nat.dvd_add (startN_dvd L n n h30 (by omega)) ⟨_, Nat.mul_comm _ _⟩
theorem pos_step (L : List Nat) (n i j : Nat) (hi : i < L.length) (hn : L[i] = n) (hij : i < j) : pos L n i + share n ≤ pos L n j := by
  have h1 := pos_succ L n i hi
  rw [if_pos hn] at h1
  have h2 := pos_mono L n (i + 1) j hij
  omega
theorem pos_top (L : List Nat) (n i : Nat) (hi : i < L.length) (hn : L[i] = n) (h0 : n ≠ 0) : pos L n i + share n ≤ startN L (n + 1) := by
  rw [← pos_end L n h0]
  exact pos_step L n i _ hi hn hi
theorem pos_all (L : List Nat) (n i : Nat) (hi : i < L.length) (hn : L[i] = n) (h0 : n ≠ 0) (h30 : n ≤ 30) : pos L n i + share n ≤ startN L 31 :=
  Nat.le_trans (pos_top L n i hi hn h0) (startN_mono L _ _ (by omega))
/-- two words take no string in common -/
theorem apart (L : List Nat) (i j n k : Nat) (hi : i < L.length) (hj : j < L.length) (hn : L[i] = n) (hk : L[j] = k) (h0 : n ≠ 0) (h1 : k ≠ 0) (hij : i ≠ j) :
    pos L n i + share n ≤ pos L k j ∨ pos L k j + share k ≤ pos L n i := by
  rcases Nat.lt_trichotomy n k with h | h | h
  · left
    have a := pos_top L n i hi hn h0
    have b := startN_mono L (n + 1) k h
    have c := pos_mono L k 0 j (by omega)
    rw [pos_zero] at c
    omega
  · subst h
    rcases Nat.lt_or_ge i j with h | h
    · exact .inl (pos_step L n i j hi hn h)
    · exact .inr (pos_step L n j i hj hk (by omega))
  · right
    have a := pos_top L k j hj hk h1
    have b := startN_mono L (k + 1) n h
    have c := pos_mono L n 0 i (by omega)
    rw [pos_zero] at c
    omega
/-- the word of a length that begins with a string -/
def wordAt (p n : Nat) : List Bool := word (p / share n) n
theorem wordAt_length (p n : Nat) : (wordAt p n).length = n := word_length _ _
theorem word_part (v a b : Nat) (h : b ≤ a) : (word v a).take (a - b) = word (v / 2 ^ b) (a - b) := by
  refine num_inj _ _ (by rw [List.length_take, word_length, word_length]; omega) ?_
  rw [word_take v a b h, num_word]
  conv => lhs; rw [show 2 ^ a = 2 ^ b * 2 ^ (a - b) from by rw [← Nat.pow_add]; congr 1; omega]
  exact Nat.mod_mul_right_div_self _ _ _
/-- a word begins another one just if its strings hold the other's first -/
theorem begins_iff (p q n k : Nat) (hnk : n ≤ k) (hk : k ≤ 30) (hp : share n ∣ p) (hp30 : p + share n ≤ 1073741824) (hq30 : q < 1073741824) :
    wordAt p n <+: wordAt q k ↔ p ≤ q ∧ q < p + share n := by
  have hlt : ∀ r m, m ≤ 30 → r < 1073741824 → r / share m < 2 ^ m := by
    intro r m hm hr
    rw [Nat.div_lt_iff_lt_mul (share_pos m), share_top m hm]
    exact hr
  have hsp := share_pos n
  obtain ⟨a, rfl⟩ := hp
  have e1 : share n * a / share n = a := Nat.mul_div_cancel_left a hsp
  have hpl := hlt (share n * a) n (by omega) (by omega)
  rw [e1] at hpl
  have e2 : (wordAt q k).take n = word (q / share n) n := by
    have := word_part (q / share k) k (k - n) (by omega)
    rw [show k - (k - n) = n by omega, Nat.div_div_eq_div_mul, Nat.mul_comm (share k), ← share_mul n k hnk hk] at this
    exact this
  have e3 : wordAt (share n * a) n = word a n := by unfold wordAt; rw [e1]
  rw [List.prefix_iff_eq_take, wordAt_length, e2, e3]
  constructor
  · intro h
    have hh := congrArg num h
    rw [num_word_of_lt _ _ hpl, num_word_of_lt _ _ (hlt q n (by omega) hq30)] at hh
    have h2 := Nat.div_add_mod q (share n)
    have h3 := Nat.mod_lt q hsp
    rw [← hh] at h2
    omega
  · rintro ⟨h1, h2⟩
    have : q / share n = a := by
      refine Nat.div_eq_of_lt_le ?_ ?_
      · rw [Nat.mul_comm]; exact h1
      · rw [Nat.add_mul, Nat.mul_comm a]; omega
    rw [this]
/-- the canonical words -/
def canonW (L : List Nat) : List (List Bool) := (List.range L.length).map fun i => wordAt (pos L (L.getD i 0) i) (L.getD i 0)
theorem canonW_length (L : List Nat) : (canonW L).length = L.length := by simp [canonW]
theorem canonW_get (L : List Nat) (i : Nat) (h : i < (canonW L).length) (h' : i < L.length) : (canonW L)[i] = wordAt (pos L L[i] i) L[i] := by
  simp [canonW, List.getD, List.getElem?_eq_getElem h']
theorem canonW_len (L : List Nat) (i : Nat) (h : i < (canonW L).length) (h' : i < L.length) : ((canonW L)[i]).length = L[i] := by rw [canonW_get L i h h', wordAt_length]
theorem canon_free (L : List Nat) (hL : ∀ i (h : i < L.length), L[i] ≤ 30) (hT : startN L 31 ≤ 1073741824) (i j : Nat) (hi : i < L.length) (hj : j < L.length) (hij : i ≠ j) (h0 : L[i] ≠ 0) :
    ¬ wordAt (pos L L[i] i) L[i] <+: wordAt (pos L L[j] j) L[j] := by
  intro hp
  have hle := hp.length_le
  rw [wordAt_length, wordAt_length] at hle
  have h1 : L[j] ≠ 0 := by omega
  have a := pos_all L _ i hi rfl h0 (hL i hi)
  have b := pos_all L _ j hj rfl h1 (hL j hj)
  have s := share_pos L[j]
  rw [begins_iff _ _ _ _ hle (hL j hj) (pos_dvd L _ _ (hL i hi)) (by omega) (by omega)] at hp
  rcases apart L i j _ _ hi hj rfl rfl h0 h1 hij with h | h <;> omega
theorem in_length (L : List Nat) (v : Nat) : ∀ m, v < startN L m → ∃ n, n < m ∧ n ≠ 0 ∧ startN L n ≤ v ∧ v < startN L (n + 1) := by
  intro m
  induction m with
  | zero => intro h; simp [startN] at h
  | succ m ih =>
    intro h
    rcases Nat.lt_or_ge v (startN L m) with hlt | hge
    · obtain ⟨n, h1, h2⟩ := ih hlt
      exact ⟨n, by omega, h2⟩
    · refine ⟨m, by omega, ?_, hge, h⟩
      intro h0
      subst h0
      simp [startN] at h
theorem in_place (L : List Nat) (v n : Nat) : ∀ m, m ≤ L.length → startN L n ≤ v → v < pos L n m → ∃ i, ∃ h : i < L.length, L[i] = n ∧ pos L n i ≤ v ∧ v < pos L n i + share n := by
  intro m
  induction m with
  | zero => intro _ h0 h; rw [pos_zero] at h; omega
  | succ m ih =>
    intro hm h0 h
    rcases Nat.lt_or_ge v (pos L n m) with hlt | hge
    · exact ih (by omega) h0 hlt
    · have h2 := pos_succ L n m (by omega)
      by_cases he : L[m] = n
      · rw [if_pos he] at h2
        exact ⟨m, by omega, he, hge, by omega⟩
      · rw [if_neg he] at h2
        omega
theorem cover (L : List Nat) (hT : startN L 31 = 1073741824) (v : Nat) (hv : v < 1073741824) : ∃ i, ∃ h : i < L.length, L[i] ≠ 0 ∧ L[i] ≤ 30 ∧ pos L L[i] i ≤ v ∧ v < pos L L[i] i + share L[i] := by
  obtain ⟨n, h1, h2, h3, h4⟩ := in_length L v 31 (by omega)
  rw [← pos_end L n h2] at h4
  obtain ⟨i, h, he, h5, h6⟩ := in_place L v n _ (Nat.le_refl _) h3 h4
  subst he
  exact ⟨i, h, h2, by omega, h5, h6⟩
/-- full words: any 30 bits begin with one of them -/
theorem canon_full (L : List Nat) (hT : startN L 31 = 1073741824) (s : List Bool) (hs : 30 ≤ s.length) : ∃ i, ∃ h : i < L.length, L[i] ≠ 0 ∧ L[i] ≤ 30 ∧ wordAt (pos L L[i] i) L[i] <+: s := by
  have hl : (s.take 30).length = 30 := by rw [List.length_take]; omega
  have hv := num_lt (s.take 30)
  rw [hl] at hv
  obtain ⟨i, h, h0, h30, h1, h2⟩ := cover L hT _ hv
  refine ⟨i, h, h0, h30, ?_⟩
  have a := pos_all L _ i h rfl h0 h30
  have hb := (begins_iff (pos L L[i] i) (num (s.take 30)) L[i] 30 h30 (Nat.le_refl _) (pos_dvd L _ _ h30) (by omega) hv).2 ⟨h1, h2⟩
  have e : wordAt (num (s.take 30)) 30 = s.take 30 := by
    have := word_num (s.take 30)
    rw [hl] at this
    unfold wordAt share
    simpa using this
  rw [e] at hb
  exact hb.trans (List.take_prefix _ _)
/-- of one length the words rise -/
theorem canon_rise (L : List Nat) (i j n : Nat) (hi : i < L.length) (hn : L[i] = n) (hij : i < j) : pos L n i / share n < pos L n j / share n := by
  have h := pos_step L n i j hi hn hij
  have h2 : (pos L n i + share n) / share n ≤ pos L n j / share n := Nat.div_le_div_right h
  rw [Nat.add_div_right _ (share_pos n)] at h2
  omega
theorem pos_small (L : List Nat) (n i : Nat) (hi : i < L.length) (hn : L[i] = n) (h0 : n ≠ 0) (h30 : n ≤ 30) (hT : startN L 31 ≤ 1073741824) : pos L n i / share n < 2 ^ n := by
  have a := pos_all L n i hi hn h0 h30
  have s := share_pos n
  rw [Nat.div_lt_iff_lt_mul s, share_top n h30]
  omega
/-! The word behind another one, as the document finds it. -/
theorem wordAt_pad (p m n : Nat) (hmn : m ≤ n) (hn : n ≤ 30) (hd : share m ∣ p) (hp : p < 1073741824) : wordAt p m ++ zs (n - m) = wordAt p n := by
  have hlt : ∀ m, m ≤ 30 → p / share m < 2 ^ m := by
    intro m hm
    rw [Nat.div_lt_iff_lt_mul (share_pos m), share_top m hm]
    exact hp
  refine num_inj _ _ (by rw [List.length_append, wordAt_length, wordAt_length, zs_length]; omega) ?_
  rw [num_append, num_zs, zs_length]
  unfold wordAt
  rw [num_word_of_lt _ _ (hlt m (by omega)), num_word_of_lt _ _ (hlt n hn)]
  obtain ⟨a, rfl⟩ := hd
  have e1 : share m * a / share m = a := Nat.mul_div_cancel_left a (share_pos m)
  have e2 : share m * a / share n = 2 ^ (n - m) * a := by
    rw [share_mul m n hmn hn, Nat.mul_comm (2 ^ (n - m)), Nat.mul_assoc, Nat.mul_div_cancel_left _ (share_pos n)]
  rw [e1, e2, Nat.mul_comm]
  omega
theorem ones_num (k : Nat) : num (List.replicate k true) + 1 = 2 ^ k := by
  induction k with
  | zero => rfl
  | succ k ih => rw [List.replicate_succ, num_cons, List.length_replicate, Nat.pow_succ]; simp; omega
/-- one more: the last nought turns, ones behind it become noughts -/
theorem word_next (v m k : Nat) (a : List Bool) (hv : v < 2 ^ m) (h : word v m = a ++ false :: List.replicate k true) : a ++ true :: zs k = word (v + 1) m ∧ v + 1 < 2 ^ m := by
  have hl : (a ++ true :: zs k).length = m := by
    have := congrArg List.length h
    rw [word_length] at this
    simp [zs_length] at this ⊢
    omega
  have h1 : num (a ++ true :: zs k) = v + 1 := by
    have e := congrArg num h
    rw [num_word_of_lt v m hv, num_append, num_cons] at e
    rw [num_append, num_cons, num_zs]
    simp [zs_length] at e ⊢
    have := ones_num k
    omega
  have h2 := num_lt (a ++ true :: zs k)
  rw [h1, hl] at h2
  refine ⟨num_inj _ _ (by rw [hl, word_length]) ?_, h2⟩
  rw [h1, num_word_of_lt _ _ h2]
theorem word_last (v m : Nat) (hv : v < 2 ^ m) (h : word v m = List.replicate m true) : v + 1 = 2 ^ m := by
  have e := congrArg num h
  rw [num_word_of_lt v m hv] at e
  have := ones_num m
  omega
end Go.Proofs.YtmbfgejephgojaaGreatDoor.Hf
/- What blocks of deflate stand for, in plain words: over all bits, a place, and what came; no program in sight. -/
namespace Go.Proofs.YtmbfgejephgojaaGreatDoor.Inf
open Go.Proofs.YtmbfgejephgojaaGreatDoor.Bit Go.Proofs.YtmbfgejephgojaaGreatDoor.Hf
set_option linter.unusedVariables false
set_option linter.unusedSimpArgs false

/-- what was read and the place behind it, or the error -/
abbrev R (α : Type) := Except Nat (α × Nat)
def R.then {α β : Type} (x : R α) (f : α → Nat → R β) : R β :=
  match x with
  | .ok (v, a) => f v a
  | .error e => .error e
theorem R.then_ok {α β : Type} (v : α) (a : Nat) (f : α → Nat → R β) : R.then (.ok (v, a)) f = f v a := rfl
theorem R.then_err {α β : Type} (e : Nat) (f : α → Nat → R β) : R.then (.error e : R α) f = .error e := rfl

/-- the number of the next bits, the lowest first -/
def numR (L : List Bool) (at_ n : Nat) : R Nat := if at_ + n ≤ L.length then .ok (numE true ((L.drop at_).take n), at_ + n) else .error 2

/-- the word with which bits go on -/
def lookW (W : List (List Bool)) (p : List Bool) : List Bool → Except Nat (Nat × Nat)
  | [] => .error 2
  | b :: r => if p ++ [b] ∈ W then .ok (W.idxOf (p ++ [b]), p.length + 1)
      else if W.any (fun w => !w.isEmpty && (p ++ [b]).isPrefixOf w) then lookW W (p ++ [b]) r else .error 6
def nextR (W : List (List Bool)) (L : List Bool) (at_ : Nat) : R Nat :=
  match lookW W [] (L.drop at_) with
  | .ok (i, k) => .ok (i, at_ + k)
  | .error e => .error e

/-- one word of one bit, or none -/
def lone (L : List Nat) : Bool := L.countP (fun n => decide (0 < n)) == 0 || (L.countP (fun n => decide (0 < n)) == 1 && L.sum == 1)
def wordsR (L : List Nat) (one : Bool) : Except Nat (List (List Bool)) :=
  if startN L 31 = 1073741824 ∨ (startN L 31 < 1073741824 ∧ one = true ∧ lone L = true) then .ok (canonW L) else .error 3

def froms (far : Bool) : List Nat :=
  if far then [1, 2, 3, 4, 5, 7, 9, 13, 17, 25, 33, 49, 65, 97, 129, 193, 257, 385, 513, 769, 1025, 1537, 2049, 3073, 4097, 6145, 8193, 12289, 16385, 24577]
  else [3, 4, 5, 6, 7, 8, 9, 10, 11, 13, 15, 17, 19, 23, 27, 31, 35, 43, 51, 59, 67, 83, 99, 115, 131, 163, 195, 227, 258]
def extras (far : Bool) : List Nat :=
  if far then [0, 0, 0, 0, 1, 1, 2, 2, 3, 3, 4, 4, 5, 5, 6, 6, 7, 7, 8, 8, 9, 9, 10, 10, 11, 11, 12, 12, 13, 13]
  else [0, 0, 0, 0, 0, 0, 0, 0, 1, 1, 1, 1, 2, 2, 2, 2, 3, 3, 3, 3, 4, 4, 4, 4, 5, 5, 5, 5, 0]
def order : List Nat := [16, 17, 18, 0, 8, 7, 9, 6, 10, 5, 11, 4, 12, 3, 13, 2, 14, 1, 15]
def fixedA : List Nat := List.replicate 144 8 ++ List.replicate 112 9 ++ List.replicate 24 7 ++ List.replicate 8 8
def fixedB : List Nat := List.replicate 30 5

/-- so many bytes as they stand -/
def bytesR (L : List Bool) (most : Nat) : Nat → Nat → List UInt8 → R (List UInt8)
  | 0, at_, out => .ok (out, at_)
  | n + 1, at_, out => (numR L at_ 8).then fun c a => if most ≤ out.length then .error 8 else bytesR L most n a (out ++ [UInt8.ofNat c])
/-- two numbers of sixteen bits -/
def twoR (L : List Bool) (at_ : Nat) : R (Nat × Nat) :=
  if (at_ + 7) / 8 * 8 + 32 ≤ L.length then
    .ok ((numE true ((L.drop ((at_ + 7) / 8 * 8)).take 16), numE true ((L.drop ((at_ + 7) / 8 * 8 + 16)).take 16)), (at_ + 7) / 8 * 8 + 32)
  else .error 2
def storedR (L : List Bool) (most at_ : Nat) (out : List UInt8) : R (List UInt8) :=
  (twoR L at_).then fun nm a => if nm.1 + nm.2 = 65535 then bytesR L most nm.1 a out else .error 3

def timesV (v : Nat) : Nat := if v = 16 then 3 else if v = 17 then 3 else if v = 18 then 11 else 1
def wideV (v : Nat) : Nat := if v = 16 then 2 else if v = 17 then 3 else if v = 18 then 7 else 0
def valueV (v : Nat) (all : List Nat) : Nat := if v = 16 then all.getLastD 0 else if v = 17 then 0 else if v = 18 then 0 else v
theorem timesV_pos (v : Nat) : 1 ≤ timesV v := by unfold timesV; split <;> (try split) <;> (try split) <;> omega
/-- so many lengths, told by words -/
def lensR (W : List (List Bool)) (n : Nat) (L : List Bool) : Nat → Nat → List Nat → R (List Nat)
  | 0, _, _ => .error 0
  | f + 1, at_, all =>
    if n ≤ all.length then (if all.length = n then .ok (all, at_) else .error 3)
    else (nextR W L at_).then fun v a =>
      if v = 16 ∧ all = [] then .error 3
      else (numR L a (wideV v)).then fun more a => lensR W n L f a (all ++ List.replicate (timesV v + more) (valueV v all))

/-- what a place tells -/
def numberR (far : Bool) (L : List Bool) (i at_ : Nat) : R Nat :=
  if i < (froms far).length then (numR L at_ ((extras far).getD i 0)).then fun more a => .ok ((froms far).getD i 0 + more, a) else .error 6
def copyN (out : List UInt8) (d : Nat) : Nat → List UInt8
  | 0 => out
  | n + 1 => copyN (out ++ [out.getD (out.length - d) 0]) d n
theorem copyN_length (d : Nat) : ∀ (n : Nat) (out : List UInt8), (copyN out d n).length = out.length + n
  | 0, out => rfl
  | n + 1, out => by rw [copyN, copyN_length d n]; simp; omega
/-- what words tell, up to the end's -/
def blockR (A B : List (List Bool)) (L : List Bool) (most : Nat) : Nat → Nat → List UInt8 → R (List UInt8)
  | 0, _, _ => .error 0
  | f + 1, at_, out => (nextR A L at_).then fun v a =>
    if v = 256 then .ok (out, a)
    else if v < 256 then (if most ≤ out.length then .error 8 else blockR A B L most f a (out ++ [UInt8.ofNat v]))
    else (numberR false L (v - 257) a).then fun n a => (nextR B L a).then fun k a => (numberR true L k a).then fun d a =>
      if out.length < d then .error 3 else if most < out.length + n then .error 8 else blockR A B L most f a (copyN out d n)

/-- three numbers of a block that tells its lengths -/
def threeR (L : List Bool) (at_ : Nat) : R (Nat × Nat × Nat) :=
  if at_ + 14 ≤ L.length then
    .ok ((numE true ((L.drop at_).take 5) + 257, numE true ((L.drop (at_ + 5)).take 5) + 1, numE true ((L.drop (at_ + 10)).take 4) + 4), at_ + 14)
  else .error 2
/-- the lengths of the words of lengths, from the i-th on -/
def metaR (L : List Bool) : Nat → Nat → Nat → List Nat → R (List Nat)
  | 0, _, at_, l => .ok (l, at_)
  | k + 1, i, at_, l => (numR L at_ 3).then fun n a => metaR L k (i + 1) a (l.set (order.getD i 0) n)
def withW {β : Type} (x : Except Nat (List (List Bool))) (f : List (List Bool) → R β) : R β :=
  match x with
  | .ok W => f W
  | .error e => .error e
/-- a block that tells its lengths -/
def toldR (L : List Bool) (most : Nat) (f at_ : Nat) (out : List UInt8) : R (List UInt8) :=
  (threeR L at_).then fun n a =>
    if n.1 > 286 ∨ n.2.1 > 30 then .error 3
    else (metaR L n.2.2 0 a (List.replicate 19 0)).then fun l a => withW (wordsR l false) fun W =>
      (lensR W (n.1 + n.2.1) L (n.1 + n.2.1 + 1) a []).then fun all a =>
        if all.getD 256 0 = 0 then .error 3
        else withW (wordsR (all.take n.1) false) fun A => withW (wordsR (all.drop n.1) true) fun B => blockR A B L most f a out

def oneR (L : List Bool) (most : Nat) (f h at_ : Nat) (out : List UInt8) : R (List UInt8) :=
  if h / 2 = 0 then storedR L most at_ out
  else if h / 2 = 1 then blockR (canonW fixedA) (canonW fixedB) L most f at_ out
  else if h / 2 = 2 then toldR L most f at_ out
  else .error 3
def inflR (L : List Bool) (most : Nat) (g : Nat) : Nat → Nat → List UInt8 → R (List UInt8)
  | 0, _, _ => .error 0
  | f + 1, at_, out => (numR L at_ 3).then fun h a => (oneR L most g h a out).then fun o a =>
    if h % 2 = 1 then .ok (o, a) else inflR L most g f a o
/-- what any bytes stand for, and how many they are -/
def inflate (xs : List UInt8) (most : Nat) : Except Nat (List UInt8 × Nat) :=
  match inflR (bitsOf true xs) most (8 * xs.length + 1) (8 * xs.length + 1) 0 [] with
  | .ok (o, a) => .ok (o, (a + 7) / 8)
  | .error e => .error e

/- what is behind doesn't matter; what is cut off is missed -/
def Hon {α : Type} (at_ : Nat) (p : List Bool → R α) : Prop :=
  ∀ L, at_ ≤ L.length → (∀ v a, p L = .ok (v, a) → at_ ≤ a ∧ a ≤ L.length) ∧ ∀ r, p L = .error 2 ∨ p (L ++ r) = p L
theorem Hon.err {α : Type} (at_ e : Nat) : Hon at_ (fun _ => (.error e : R α)) := fun L hL => ⟨(by intro v a h; cases h), fun r => .inr rfl⟩
theorem Hon.ok {α : Type} (at_ : Nat) (v : α) : Hon at_ (fun _ => .ok (v, at_)) := fun L hL => ⟨(by intro w a h; cases h; exact ⟨Nat.le_refl _, hL⟩), fun r => .inr rfl⟩
theorem Hon.then {α β : Type} {at_ : Nat} {p : List Bool → R α} {f : List Bool → α → Nat → R β} (hp : Hon at_ p) (hf : ∀ v a, at_ ≤ a → Hon a (fun L => f L v a)) :
    Hon at_ (fun L => (p L).then (f L)) := by
  intro L hL
  obtain ⟨h1, h2⟩ := hp L hL
  refine ⟨fun v a h => ?_, fun r => ?_⟩
  · cases hx : p L with
    | error e => simp only [hx, R.then_err] at h; cases h
    | ok x =>
      obtain ⟨w, b⟩ := x
      simp only [hx, R.then_ok] at h
      obtain ⟨g1, g2⟩ := h1 w b hx
      obtain ⟨k1, _⟩ := hf w b g1 L g2
      obtain ⟨m1, m2⟩ := k1 v a h
      exact ⟨by omega, m2⟩
  · rcases h2 r with h | h
    · left; simp only [h, R.then_err]
    · simp only [h]
      cases hx : p L with
      | error e => right; simp only [R.then_err]
      | ok x =>
        obtain ⟨w, b⟩ := x
        simp only [R.then_ok]
        obtain ⟨g1, g2⟩ := h1 w b hx
        exact (hf w b g1 L g2).2 r
theorem Hon.ite {α : Type} {at_ : Nat} {c : Prop} [Decidable c] {p q : List Bool → R α} (hp : Hon at_ p) (hq : Hon at_ q) : Hon at_ (fun L => if c then p L else q L) := by
  by_cases h : c
  · simpa only [h, if_true] using hp
  · simpa only [h, if_false] using hq
theorem Hon.cut {α : Type} {at_ n : Nat} {f : List Bool → α} (h : at_ ≤ n) (hf : ∀ L r, n ≤ L.length → f (L ++ r) = f L) :
    Hon at_ (fun L => if n ≤ L.length then .ok (f L, n) else (.error 2 : R α)) := by
  intro L hL
  refine ⟨fun v a e => ?_, fun r => ?_⟩
  · by_cases hn : n ≤ L.length
    · simp only [hn, if_true] at e; cases e; exact ⟨h, hn⟩
    · simp only [hn, if_false] at e; cases e
  · by_cases hn : n ≤ L.length
    · right
      simp only [hn, if_true, List.length_append]
      rw [if_pos (by omega), hf L r hn]
    · left; simp only [hn, if_false]
theorem part_more (L r : List Bool) (a n : Nat) (h : a + n ≤ L.length) : ((L ++ r).drop a).take n = (L.drop a).take n := by
  rw [List.drop_append_of_le_length (by omega), List.take_append_of_le_length (by simp; omega)]
theorem hon_num (at_ n : Nat) : Hon at_ (fun L => numR L at_ n) := by
  unfold numR
  exact Hon.cut (by omega) fun L r h => by rw [part_more L r at_ n h]
theorem look_le (W : List (List Bool)) : ∀ (l p : List Bool) (i k : Nat), lookW W p l = .ok (i, k) → p.length + 1 ≤ k ∧ k ≤ p.length + l.length := by
  intro l
  induction l with
  | nil => intro p i k h; cases h
  | cons b t ih =>
    intro p i k h
    rw [lookW] at h
    split at h
    · cases h; simp
    · split at h
      · have := ih _ i k h
        simp at this ⊢
        omega
      · cases h
theorem look_more (W : List (List Bool)) (r : List Bool) : ∀ (l p : List Bool), lookW W p l = .error 2 ∨ lookW W p (l ++ r) = lookW W p l := by
  intro l
  induction l with
  | nil => intro p; exact .inl rfl
  | cons b t ih =>
    intro p
    rw [List.cons_append, lookW, lookW]
    split
    · exact .inr rfl
    · split
      · exact ih _
      · exact .inr rfl
theorem next_lt {W : List (List Bool)} {L : List Bool} {at_ v a : Nat} (h : nextR W L at_ = .ok (v, a)) : at_ < a := by
  unfold nextR at h
  cases hx : lookW W [] (L.drop at_) with
  | error e => rw [hx] at h; cases h
  | ok x =>
    obtain ⟨i, k⟩ := x
    rw [hx] at h
    cases h
    have := (look_le W _ _ _ _ hx).1
    simp at this
    omega
theorem hon_next (W : List (List Bool)) (at_ : Nat) : Hon at_ (fun L => nextR W L at_) := by
  intro L hL
  refine ⟨fun v a h => ?_, fun r => ?_⟩
  · change nextR W L at_ = _ at h
    unfold nextR at h
    cases hx : lookW W [] (L.drop at_) with
    | error e => rw [hx] at h; cases h
    | ok x =>
      obtain ⟨i, k⟩ := x
      rw [hx] at h
      cases h
      have := look_le W _ _ _ _ hx
      simp at this
      omega
  · change nextR W L at_ = _ ∨ nextR W (L ++ r) at_ = nextR W L at_
    unfold nextR
    rw [List.drop_append_of_le_length hL]
    rcases look_more W r (L.drop at_) [] with h | h
    · left; rw [h]
    · right; rw [h]
theorem hon_bytes (most : Nat) : ∀ (n at_ : Nat) (out : List UInt8), Hon at_ (fun L => bytesR L most n at_ out)
  | 0, at_, out => Hon.ok at_ out
  | n + 1, at_, out => (hon_num at_ 8).then fun c a ha => Hon.ite (Hon.err a 8) (hon_bytes most n a _)
theorem hon_two (at_ : Nat) : Hon at_ (fun L => twoR L at_) := by
  unfold twoR
  exact Hon.cut (by omega) fun L r h => by rw [part_more L r _ 16 (by omega), part_more L r _ 16 (by omega)]
theorem hon_stored (most at_ : Nat) (out : List UInt8) : Hon at_ (fun L => storedR L most at_ out) :=
  (hon_two at_).then fun nm a ha => Hon.ite (hon_bytes most _ a out) (Hon.err a 3)
theorem hon_lens (W : List (List Bool)) (n : Nat) : ∀ (f at_ : Nat) (all : List Nat), Hon at_ (fun L => lensR W n L f at_ all)
  | 0, at_, all => Hon.err at_ 0
  | f + 1, at_, all => Hon.ite (Hon.ite (Hon.ok at_ all) (Hon.err at_ 3)) ((hon_next W at_).then fun v a ha => Hon.ite (Hon.err a 3) ((hon_num a _).then fun m b hb => hon_lens W n f b _))
theorem hon_number (far : Bool) (i at_ : Nat) : Hon at_ (fun L => numberR far L i at_) :=
  Hon.ite ((hon_num at_ _).then fun m a ha => Hon.ok a _) (Hon.err at_ 6)
theorem hon_block (A B : List (List Bool)) (most : Nat) : ∀ (f at_ : Nat) (out : List UInt8), Hon at_ (fun L => blockR A B L most f at_ out)
  | 0, at_, out => Hon.err at_ 0
  | f + 1, at_, out => (hon_next A at_).then fun v a ha => Hon.ite (Hon.ok a out) (Hon.ite (Hon.ite (Hon.err a 8) (hon_block A B most f a _))
      ((hon_number false _ a).then fun n b hb => (hon_next B b).then fun k c hc => (hon_number true k c).then fun d e he => Hon.ite (Hon.err e 3) (Hon.ite (Hon.err e 8) (hon_block A B most f e _))))
theorem hon_three (at_ : Nat) : Hon at_ (fun L => threeR L at_) := by
  unfold threeR
  exact Hon.cut (by omega) fun L r h => by rw [part_more L r _ 5 (by omega), part_more L r _ 5 (by omega), part_more L r _ 4 (by omega)]
theorem hon_meta : ∀ (k i at_ : Nat) (l : List Nat), Hon at_ (fun L => metaR L k i at_ l)
  | 0, i, at_, l => Hon.ok at_ l
  | k + 1, i, at_, l => (hon_num at_ 3).then fun n a ha => hon_meta k (i + 1) a _
theorem Hon.withW {β : Type} {at_ : Nat} {x : Except Nat (List (List Bool))} {f : List Bool → List (List Bool) → R β} (h : ∀ W, Hon at_ (fun L => f L W)) : Hon at_ (fun L => withW x (f L)) := by
  cases x with
  | error e => exact Hon.err at_ e
  | ok W => exact h W
theorem hon_told (most f at_ : Nat) (out : List UInt8) : Hon at_ (fun L => toldR L most f at_ out) :=
  (hon_three at_).then fun n a ha => Hon.ite (Hon.err a 3) ((hon_meta _ 0 a _).then fun l b hb => Hon.withW fun W => (hon_lens W _ _ b []).then fun all c hc =>
    Hon.ite (Hon.err c 3) (Hon.withW fun A => Hon.withW fun B => hon_block A B most f c out))
theorem hon_one (most f h at_ : Nat) (out : List UInt8) : Hon at_ (fun L => oneR L most f h at_ out) :=
  Hon.ite (hon_stored most at_ out) (Hon.ite (hon_block _ _ most f at_ out) (Hon.ite (hon_told most f at_ out) (Hon.err at_ 3)))
theorem hon_infl (most g : Nat) : ∀ (f at_ : Nat) (out : List UInt8), Hon at_ (fun L => inflR L most g f at_ out)
  | 0, at_, out => Hon.err at_ 0
  | f + 1, at_, out => (hon_num at_ 3).then fun h a ha => (hon_one most g h a out).then fun o b hb => Hon.ite (Hon.ok b o) (hon_infl most g f b o)
end Go.Proofs.YtmbfgejephgojaaGreatDoor.Inf
/- Blocks with a lower bound, and with enough rounds; what is cut off, and what stands behind; no program in sight. -/
namespace Go.Proofs.YtmbfgejephgojaaGreatDoor.Inf
open Go.Proofs.YtmbfgejephgojaaGreatDoor.Bit Go.Proofs.YtmbfgejephgojaaGreatDoor.Hf
set_option linter.unusedVariables false
set_option linter.unusedSimpArgs false

/-- with m at most, as with n, but for what is too much -/
def Less (m n : Nat) (x y : R (List UInt8)) : Prop :=
  x = .error 8 ∨ (x = y ∧ ∀ o a, x = .ok (o, a) → o.length ≤ m)
theorem Less.err (m n e : Nat) : Less m n (.error e) (.error e) := .inr ⟨rfl, fun o a h => by cases h⟩
theorem Less.ok {m n : Nat} {o : List UInt8} (a : Nat) (h : o.length ≤ m) : Less m n (.ok (o, a)) (.ok (o, a)) := .inr ⟨rfl, fun o a h => by cases h; assumption⟩
theorem Less.after {α : Type} {m n : Nat} (x : R α) {f g : α → Nat → R (List UInt8)} (h : ∀ v a, Less m n (f v a) (g v a)) : Less m n (x.then f) (x.then g) := by
  cases x with
  | error e => exact Less.err m n e
  | ok v => exact h v.1 v.2
theorem Less.ite {m n : Nat} {c : Prop} [Decidable c] {x y x' y' : R (List UInt8)} (h1 : c → Less m n x y) (h2 : ¬ c → Less m n x' y') : Less m n (if c then x else x') (if c then y else y') := by
  by_cases h : c
  · simpa only [h, if_true] using h1 h
  · simpa only [h, if_false] using h2 h
theorem Less.full {m n k : Nat} {x y : R (List UInt8)} (hmn : m ≤ n) (h : k ≤ m → Less m n x y) : Less m n (if m < k then .error 8 else x) (if n < k then .error 8 else y) := by
  by_cases hm : m < k
  · left; rw [if_pos hm]
  · rw [if_neg hm, if_neg (by omega)]
    exact h (by omega)
theorem Less.full' {m n k : Nat} {x y : R (List UInt8)} (hmn : m ≤ n) (h : k < m → Less m n x y) : Less m n (if m ≤ k then .error 8 else x) (if n ≤ k then .error 8 else y) := by
  by_cases hm : m ≤ k
  · left; rw [if_pos hm]
  · rw [if_neg hm, if_neg (by omega)]
    exact h (by omega)
theorem Less.withW {m n : Nat} (x : Except Nat (List (List Bool))) {f g : List (List Bool) → R (List UInt8)} (h : ∀ W, Less m n (f W) (g W)) : Less m n (withW x f) (withW x g) := by
  cases x with
  | error e => exact Less.err m n e
  | ok v => exact h v
theorem less_bytes (L : List Bool) {m n : Nat} (hmn : m ≤ n) : ∀ (k at_ : Nat) (out : List UInt8), out.length ≤ m → Less m n (bytesR L m k at_ out) (bytesR L n k at_ out)
  | 0, at_, out, h => Less.ok at_ h
  | k + 1, at_, out, h => Less.after _ fun c a => Less.full' hmn fun hl => less_bytes L hmn k a _ (by simp; omega)
theorem less_block (A B : List (List Bool)) (L : List Bool) {m n : Nat} (hmn : m ≤ n) : ∀ (f at_ : Nat) (out : List UInt8), out.length ≤ m → Less m n (blockR A B L m f at_ out) (blockR A B L n f at_ out)
  | 0, at_, out, h => Less.err m n 0
  | f + 1, at_, out, h => Less.after _ fun v a => Less.ite (fun _ => Less.ok a h) fun _ => Less.ite (fun _ => Less.full' hmn fun hl => less_block A B L hmn f a _ (by simp; omega)) fun _ =>
      Less.after _ fun k b => Less.after _ fun j c => Less.after _ fun d e => Less.ite (fun _ => Less.err m n 3) fun _ => Less.full hmn fun hl => less_block A B L hmn f e _ (by rw [copyN_length]; exact hl)
theorem less_one (L : List Bool) {m n : Nat} (hmn : m ≤ n) (g h at_ : Nat) (out : List UInt8) (ho : out.length ≤ m) : Less m n (oneR L m g h at_ out) (oneR L n g h at_ out) :=
  Less.ite (fun _ => Less.after _ fun nm a => Less.ite (fun _ => less_bytes L hmn _ a out ho) fun _ => Less.err m n 3) fun _ =>
    Less.ite (fun _ => less_block _ _ L hmn g at_ out ho) fun _ => Less.ite (fun _ => Less.after _ fun k a => Less.ite (fun _ => Less.err m n 3) fun _ => Less.after _ fun l b =>
      Less.withW _ fun W => Less.after _ fun all c => Less.ite (fun _ => Less.err m n 3) fun _ => Less.withW _ fun A => Less.withW _ fun B => less_block A B L hmn g c out ho) fun _ => Less.err m n 3
theorem Less.go {m n : Nat} {x y : R (List UInt8)} (h : Less m n x y) {f g : List UInt8 → Nat → R (List UInt8)} (hf : ∀ o a, o.length ≤ m → Less m n (f o a) (g o a)) : Less m n (x.then f) (y.then g) := by
  rcases h with h | ⟨h, hl⟩
  · left; rw [h]; rfl
  · subst h
    cases x with
    | error e => exact Less.err m n e
    | ok v => exact hf v.1 v.2 (hl v.1 v.2 rfl)
theorem less_infl (L : List Bool) {m n : Nat} (hmn : m ≤ n) (g : Nat) : ∀ (f at_ : Nat) (out : List UInt8), out.length ≤ m → Less m n (inflR L m g f at_ out) (inflR L n g f at_ out)
  | 0, at_, out, h => Less.err m n 0
  | f + 1, at_, out, h => Less.after _ fun v a => Less.go (less_one L hmn g v a out h) fun o b ho => Less.ite (fun _ => Less.ok b ho) fun _ => less_infl L hmn g f b o ho
theorem inflate_limit {xs : List UInt8} {n m k : Nat} {o : List UInt8} (h : inflate xs n = .ok (o, k)) (hm : m < o.length) (hmn : m ≤ n) : inflate xs m = .error 8 := by
  unfold inflate at *
  rcases less_infl (bitsOf true xs) hmn (8 * xs.length + 1) (8 * xs.length + 1) 0 [] (by simp) with e | ⟨e, hl⟩
  · rw [e]
  · rw [← e] at h
    revert h
    cases hx : inflR (bitsOf true xs) m (8 * xs.length + 1) (8 * xs.length + 1) 0 [] with
    | error e => intro h; cases h
    | ok v =>
      intro h
      cases h
      exact absurd (hl v.1 v.2 hx) (by omega)
/- enough rounds -/
theorem then_congr {α β : Type} {x : R α} {f g : α → Nat → R β} (h : ∀ v a, x = .ok (v, a) → f v a = g v a) : x.then f = x.then g := by
  cases x with
  | error e => rfl
  | ok v => exact h v.1 v.2 rfl
theorem withW_congr {β : Type} {x : Except Nat (List (List Bool))} {f g : List (List Bool) → R β} (h : ∀ W, f W = g W) : withW x f = withW x g := by
  cases x with
  | error e => rfl
  | ok v => exact h v
theorem Hon.le {α : Type} {at_ : Nat} {p : List Bool → R α} (h : Hon at_ p) {L : List Bool} (hL : at_ ≤ L.length) {v : α} {a : Nat} (e : p L = .ok (v, a)) : at_ ≤ a ∧ a ≤ L.length := (h L hL).1 v a e
theorem block_fuel (A B : List (List Bool)) (L : List Bool) (most : Nat) : ∀ (f g at_ : Nat) (out : List UInt8), at_ ≤ L.length → L.length < f + at_ → L.length < g + at_ → blockR A B L most f at_ out = blockR A B L most g at_ out
  | 0, g, at_, out, h, hf, hg => by omega
  | f + 1, 0, at_, out, h, hf, hg => by omega
  | f + 1, g + 1, at_, out, h, hf, hg => by
    rw [blockR, blockR]
    refine then_congr fun v a hv => ?_
    have h1 := next_lt hv
    have h2 := (hon_next A at_).le h hv
    split
    · rfl
    · split
      · split
        · rfl
        · exact block_fuel A B L most f g a _ h2.2 (by omega) (by omega)
      · refine then_congr fun n b hb => ?_
        have h3 := (hon_number false _ a).le h2.2 hb
        refine then_congr fun k c hc => ?_
        have h4 := (hon_next B b).le h3.2 hc
        refine then_congr fun d e he => ?_
        have h5 := (hon_number true k c).le h4.2 he
        split
        · rfl
        · split
          · rfl
          · exact block_fuel A B L most f g e _ h5.2 (by omega) (by omega)
theorem num_at {L : List Bool} {at_ n v a : Nat} (h : numR L at_ n = .ok (v, a)) : a = at_ + n := by
  unfold numR at h
  split at h
  · cases h; rfl
  · cases h
theorem one_fuel (L : List Bool) (most f g h at_ : Nat) (out : List UInt8) (ha : at_ ≤ L.length) (hf : L.length < f + at_) (hg : L.length < g + at_) : oneR L most f h at_ out = oneR L most g h at_ out := by
  unfold oneR
  split
  · rfl
  · split
    · exact block_fuel _ _ L most f g at_ out ha hf hg
    · split
      · unfold toldR
        refine then_congr fun n a hn => ?_
        have h1 := (hon_three at_).le ha hn
        split
        · rfl
        · refine then_congr fun l b hb => ?_
          have h2 := (hon_meta _ 0 a _).le h1.2 hb
          refine withW_congr fun W => then_congr fun all c hc => ?_
          have h3 := (hon_lens W _ _ b []).le h2.2 hc
          split
          · rfl
          · exact withW_congr fun A => withW_congr fun B => block_fuel A B L most f g c out h3.2 (by omega) (by omega)
      · rfl
theorem infl_fuel (L : List Bool) (most g1 g2 : Nat) (hg1 : L.length < g1) (hg2 : L.length < g2) : ∀ (f g at_ : Nat) (out : List UInt8), at_ ≤ L.length → L.length < f + at_ → L.length < g + at_ → inflR L most g1 f at_ out = inflR L most g2 g at_ out
  | 0, g, at_, out, h, hf, hg => by omega
  | f + 1, 0, at_, out, h, hf, hg => by omega
  | f + 1, g + 1, at_, out, h, hf, hg => by
    rw [inflR, inflR]
    refine then_congr fun v a hv => ?_
    have h1 := num_at hv
    have h2 := (hon_num at_ 3).le h hv
    rw [one_fuel L most g1 g2 v a out h2.2 (by omega) (by omega)]
    refine then_congr fun o b hb => ?_
    have h3 := (hon_one most g2 v a out).le h2.2 hb
    split
    · rfl
    · exact infl_fuel L most g1 g2 hg1 hg2 f g b o h3.2 (by omega) (by omega)
theorem inflate_big {xs : List UInt8} {most F : Nat} (hF : 8 * xs.length < F) : inflR (bitsOf true xs) most (8 * xs.length + 1) (8 * xs.length + 1) 0 [] = inflR (bitsOf true xs) most F F 0 [] :=
  infl_fuel _ most _ _ (by rw [bitsOf_length]; omega) (by rw [bitsOf_length]; omega) _ _ 0 [] (by omega) (by rw [bitsOf_length]; omega) (by rw [bitsOf_length]; omega)
theorem inflate_more {xs : List UInt8} {most k : Nat} {o : List UInt8} (h : inflate xs most = .ok (o, k)) (ys : List UInt8) : k ≤ xs.length ∧ inflate (xs ++ ys) most = .ok (o, k) := by
  have hF : 8 * xs.length < 8 * (xs ++ ys).length + 1 := by simp; omega
  unfold inflate at *
  rw [inflate_big hF] at h
  have hh := hon_infl most (8 * (xs ++ ys).length + 1) (8 * (xs ++ ys).length + 1) 0 [] (bitsOf true xs) (by omega)
  rw [bitsOf_append]
  rcases hh.2 (bitsOf true ys) with e | e
  · simp only [] at e; rw [e] at h; cases h
  · simp only [] at e
    rw [e]
    refine ⟨?_, h⟩
    revert h
    cases hx : inflR (bitsOf true xs) most (8 * (xs ++ ys).length + 1) (8 * (xs ++ ys).length + 1) 0 [] with
    | error e => intro h; cases h
    | ok v =>
      intro h
      cases h
      have := (hh.1 v.1 v.2 hx).2
      rw [bitsOf_length] at this
      omega
theorem inflate_cut {xs : List UInt8} {most k j : Nat} {o : List UInt8} (h : inflate xs most = .ok (o, k)) (hj : j < k) : inflate (xs.take j) most = .error 2 := by
  have hk := (inflate_more h []).1
  cases hx : inflate (xs.take j) most with
  | ok v =>
    obtain ⟨h1, h2⟩ := inflate_more (o := v.1) (k := v.2) hx (xs.drop j)
    rw [List.take_append_drop, h] at h2
    cases h2
    simp at h1
    omega
  | error e =>
    have hF : 8 * (xs.take j).length < 8 * xs.length + 1 := by simp; omega
    unfold inflate at hx h
    rw [inflate_big hF] at hx
    have hh := (hon_infl most (8 * xs.length + 1) (8 * xs.length + 1) 0 [] (bitsOf true (xs.take j)) (by omega)).2 (bitsOf true (xs.drop j))
    simp only [] at hh
    rw [← bitsOf_append, List.take_append_drop] at hh
    rcases hh with e' | e'
    · rw [e'] at hx; cases hx; rfl
    · rw [← e'] at hx
      revert h hx
      cases inflR (bitsOf true xs) most (8 * xs.length + 1) (8 * xs.length + 1) 0 [] with
      | ok v => intro h hx; cases hx
      | error e => intro h hx; cases h
end Go.Proofs.YtmbfgejephgojaaGreatDoor.Inf
/- What tells bytes and copies by words is what they stand for; no program in sight. -/
namespace Go.Proofs.YtmbfgejephgojaaGreatDoor.Inf
open Go.Proofs.YtmbfgejephgojaaGreatDoor.Bit Go.Proofs.YtmbfgejephgojaaGreatDoor.Hf
set_option linter.unusedVariables false
set_option linter.unusedSimpArgs false

theorem drop_more {L x r : List Bool} {a : Nat} (h : L.drop a = x ++ r) : L.drop (a + x.length) = r := by
  rw [← List.drop_drop, h]
  simp
theorem drop_le {L x r : List Bool} {a : Nat} (h : L.drop a = x ++ r) (ha : a ≤ L.length) : a + x.length ≤ L.length := by
  have := congrArg List.length h
  simp at this
  omega
theorem num_is {L r : List Bool} {a n k : Nat} (h : L.drop a = wordE true n k ++ r) (ha : a ≤ L.length) (hn : n < 2 ^ k) : numR L a k = .ok (n, a + k) := by
  have h1 := drop_le h ha
  rw [wordE_length] at h1
  unfold numR
  rw [if_pos h1, h, List.take_left' (wordE_length _ _ _), numE_wordE true n k hn]

/-- a word that no other one begins -/
def Fre (W : List (List Bool)) (i : Nat) : Prop := W.getD i [] ≠ [] ∧ ∀ j v, W[j]? = some v → v <+: W.getD i [] → v ≠ [] → j = i
theorem getD_some {α : Type} {W : List α} {i : Nat} {d w : α} (h : W.getD i d = w) (hd : w ≠ d) : W[i]? = some w := by
  rw [List.getD_eq_getElem?_getD] at h
  cases hx : W[i]? with
  | none => rw [hx] at h; exact absurd h.symm hd
  | some x => rw [hx] at h; exact congrArg some h
theorem look_fre (W : List (List Bool)) (i : Nat) (rest : List Bool) (h : Fre W i) : ∀ (q p : List Bool), W.getD i [] = p ++ q → q ≠ [] → lookW W p (q ++ rest) = .ok (i, (W.getD i []).length)
  | [], p, hw, hq => absurd rfl hq
  | b :: t, p, hw, hq => by
    obtain ⟨h0, h1⟩ := h
    have hs := getD_some rfl h0
    rw [List.cons_append, lookW]
    by_cases ht : t = []
    · subst ht
      have hm : p ++ [b] ∈ W := hw ▸ List.mem_of_getElem? hs
      rw [if_pos hm]
      have hl := List.idxOf_lt_length_of_mem hm
      have hj : W.idxOf (p ++ [b]) = i := h1 _ (p ++ [b]) (by rw [List.getElem?_eq_getElem hl, List.getElem_idxOf]) (by rw [hw]; exact List.prefix_refl _) (by simp)
      rw [hj, hw]
      simp
    · have hp : p ++ [b] <+: W.getD i [] := ⟨t, by rw [hw]; simp⟩
      have hm : p ++ [b] ∉ W := by
        intro hm
        obtain ⟨j, hj⟩ := List.mem_iff_getElem?.1 hm
        have := h1 j _ hj hp (by simp)
        subst this
        rw [hs, hw] at hj
        have := congrArg (fun x => (x.getD []).length) hj
        simp at this
        exact ht this
      rw [if_neg hm, if_pos]
      · exact look_fre W i rest ⟨h0, h1⟩ t (p ++ [b]) (by rw [hw]; simp) ht
      · rw [List.any_eq_true]
        exact ⟨_, List.mem_of_getElem? hs, by
          rw [Bool.and_eq_true]
          exact ⟨by simpa using h0, List.isPrefixOf_iff_prefix.2 hp⟩⟩
theorem next_is {W : List (List Bool)} {L r : List Bool} {a i : Nat} (hf : Fre W i) (h : L.drop a = W.getD i [] ++ r) : nextR W L a = .ok (i, a + (W.getD i []).length) := by
  unfold nextR
  have e := look_fre W i r hf (W.getD i []) [] (List.nil_append _).symm hf.1
  rw [h, e]
theorem canon_fre (L : List Nat) (hL : ∀ n ∈ L, 1 ≤ n ∧ n ≤ 30) (hT : startN L 31 ≤ 1073741824) (i : Nat) (hi : i < L.length) : Fre (canonW L) i := by
  have hi' : i < (canonW L).length := by rw [canonW_length]; exact hi
  have hg : (canonW L).getD i [] = (canonW L)[i] := by rw [List.getD_eq_getElem?_getD, List.getElem?_eq_getElem hi']; rfl
  have hl := canonW_len L i hi' hi
  have h30 : ∀ j (h : j < L.length), L[j] ≤ 30 := fun j h => (hL _ (List.getElem_mem h)).2
  have h1 : ∀ j (h : j < L.length), 1 ≤ L[j] := fun j h => (hL _ (List.getElem_mem h)).1
  refine ⟨?_, fun j v hj hp hv => ?_⟩
  · rw [hg]
    intro e
    rw [e] at hl
    have := h1 i hi
    simp at hl
    omega
  · obtain ⟨hj1, hj2⟩ := List.getElem?_eq_some_iff.1 hj
    have hj3 : j < L.length := by rw [canonW_length] at hj1; exact hj1
    refine Classical.byContradiction fun hne => ?_
    refine canon_free L h30 hT j i hj3 hi hne (by have := h1 j hj3; omega) ?_
    rw [← canonW_get L j hj1 hj3, ← canonW_get L i hi' hi, hj2, ← hg]
    exact hp

def lastLe (F : List Nat) (n : Nat) : Nat → Nat
  | 0 => 0
  | i + 1 => if n < F.getD (i + 1) 0 then lastLe F n i else i + 1
theorem lastLe_le (F : List Nat) (n : Nat) : ∀ k, lastLe F n k ≤ k
  | 0 => Nat.le_refl _
  | i + 1 => by
    rw [lastLe]
    split
    · have := lastLe_le F n i; omega
    · omega
theorem lastLe_low (F : List Nat) (n : Nat) (h : F.getD 0 0 ≤ n) : ∀ k, F.getD (lastLe F n k) 0 ≤ n
  | 0 => h
  | i + 1 => by
    rw [lastLe]
    split
    · exact lastLe_low F n h i
    · omega
theorem lastLe_high (F : List Nat) (n : Nat) : ∀ k, lastLe F n k < k → n < F.getD (lastLe F n k + 1) 0
  | 0, h => by omega
  | i + 1, h => by
    rw [lastLe] at h ⊢
    split
    · rename_i hc
      have := lastLe_le F n i
      by_cases hk : lastLe F n i < i
      · exact lastLe_high F n i hk
      · have e : lastLe F n i = i := by omega
        rw [e]; exact hc
    · rename_i hc
      rw [if_neg hc] at h
      omega
/-- the place of a length or a distance -/
def placeN (far : Bool) (n : Nat) : Nat := lastLe (froms far) n ((froms far).length - 1)
def moreB (far : Bool) (n : Nat) : List Bool := wordE true (n - (froms far).getD (placeN far n) 0) ((extras far).getD (placeN far n) 0)
def most1 (far : Bool) : Nat := if far then 32768 else 258
def least1 (far : Bool) : Nat := if far then 1 else 3
theorem place_lt (far : Bool) (n : Nat) : placeN far n < (froms far).length := by
  have := lastLe_le (froms far) n ((froms far).length - 1)
  have h : 0 < (froms far).length := by cases far <;> decide
  unfold placeN
  omega
theorem steps_ok : ∀ far : Bool, ∀ i, i < (froms far).length - 1 → (froms far).getD (i + 1) 0 ≤ (froms far).getD i 0 + 2 ^ (extras far).getD i 0 := by decide +kernel
theorem last_ok : ∀ far : Bool, most1 far < (froms far).getD ((froms far).length - 1) 0 + 2 ^ (extras far).getD ((froms far).length - 1) 0 := by decide +kernel
theorem place_low (far : Bool) (n : Nat) (h : least1 far ≤ n) : (froms far).getD (placeN far n) 0 ≤ n :=
  lastLe_low _ n (by cases far <;> exact h) _
theorem place_high (far : Bool) (n : Nat) (h0 : least1 far ≤ n) (h : n ≤ most1 far) : n - (froms far).getD (placeN far n) 0 < 2 ^ (extras far).getD (placeN far n) 0 := by
  have hl := place_low far n h0
  have hp := lastLe_le (froms far) n ((froms far).length - 1)
  have hh := lastLe_high (froms far) n ((froms far).length - 1)
  change placeN far n ≤ _ at hp
  change placeN far n < _ → n < (froms far).getD (placeN far n + 1) 0 at hh
  generalize placeN far n = i at *
  by_cases hi : i < (froms far).length - 1
  · have := hh hi
    have := steps_ok far i hi
    omega
  · have e : i = (froms far).length - 1 := by omega
    subst e
    have := last_ok far
    omega
theorem number_is {far : Bool} {L r : List Bool} {a n : Nat} (h0 : least1 far ≤ n) (h1 : n ≤ most1 far) (h : L.drop a = moreB far n ++ r) (ha : a ≤ L.length) : numberR far L (placeN far n) a = .ok (n, a + (moreB far n).length) := by
  unfold numberR
  rw [if_pos (place_lt far n), num_is h ha (place_high far n h0 h1), R.then_ok, moreB, wordE_length]
  have := place_low far n h0
  rw [show (froms far).getD (placeN far n) 0 + (n - (froms far).getD (placeN far n) 0) = n from by omega]

/-- a byte, or a copy -/
structure Tok where
  lit : UInt8
  len : Int
  dist : Int
/-- what tokens stand for, if they can be -/
def rightT (lim : Nat) : List Tok → List UInt8 → Option (List UInt8)
  | [], out => some out
  | t :: l, out => if t.len = 0 then rightT lim l (out ++ [t.lit])
      else if t.len < 3 ∨ 258 < t.len ∨ t.dist < 1 ∨ (out.length : Int) < t.dist ∨ 32768 < t.dist ∨ lim < out.length then none
      else rightT lim l (copyN out t.dist.toNat t.len.toNat)
def tokB (A B : List (List Bool)) (t : Tok) : List Bool :=
  if t.len = 0 then A.getD t.lit.toNat []
  else A.getD (257 + placeN false t.len.toNat) [] ++ (moreB false t.len.toNat ++ (B.getD (placeN true t.dist.toNat) [] ++ moreB true t.dist.toNat))
def toldB (A B : List (List Bool)) : List Tok → List Bool
  | [] => A.getD 256 []
  | t :: l => tokB A B t ++ toldB A B l
theorem right_grows {lim : Nat} : ∀ (l : List Tok) (out o : List UInt8), rightT lim l out = some o → out.length ≤ o.length
  | [], out, o, h => by cases h; exact Nat.le_refl _
  | t :: l, out, o, h => by
    rw [rightT] at h
    split at h
    · have := right_grows l _ o h
      simp at this
      omega
    · split at h
      · cases h
      · have := right_grows l _ o h
        rw [copyN_length] at this
        omega
theorem block_is {A B : List (List Bool)} (hA : ∀ i, i < 286 → Fre A i) (hB : ∀ i, i < 30 → Fre B i) {L : List Bool} {most : Nat} {rest : List Bool} {o : List UInt8} {lim : Nat} (ho : o.length ≤ most) :
    ∀ (l : List Tok) (out : List UInt8) (a f : Nat), rightT lim l out = some o → L.drop a = toldB A B l ++ rest → a ≤ L.length → l.length < f →
      blockR A B L most f a out = .ok (o, a + (toldB A B l).length)
  | [], out, a, 0, hr, hd, ha, hf => by simp at hf
  | t :: l, out, a, 0, hr, hd, ha, hf => by simp at hf
  | [], out, a, f + 1, hr, hd, ha, hf => by
    cases hr
    rw [blockR, next_is (hA 256 (by omega)) hd, R.then_ok, if_pos rfl, toldB]
  | t :: l, out, a, f + 1, hr, hd, ha, hf => by
    have hf' : l.length < f := by simp at hf; omega
    rw [rightT] at hr
    rw [toldB, List.append_assoc] at hd
    by_cases h0 : t.len = 0
    · rw [if_pos h0] at hr
      have hg := right_grows l _ o hr
      simp at hg
      have hlt : t.lit.toNat < 256 := t.lit.toNat_lt
      rw [tokB, if_pos h0] at hd
      have hle := drop_le hd ha
      rw [blockR, next_is (hA _ (by omega)) hd, R.then_ok, if_neg (by omega), if_pos hlt, if_neg (by omega), UInt8.ofNat_toNat,
        block_is hA hB ho l _ _ f hr (drop_more hd) hle hf', toldB, tokB, if_pos h0, List.length_append, Nat.add_assoc]
    · rw [if_neg h0] at hr
      split at hr
      · cases hr
      · rename_i hc
        have hg := right_grows l _ o hr
        rw [copyN_length] at hg
        rw [tokB, if_neg h0] at hd
        simp only [List.append_assoc] at hd
        have hp1 := place_lt false t.len.toNat
        have hp2 := place_lt true t.dist.toNat
        have e1 : (froms false).length = 29 := rfl
        have e2 : (froms true).length = 30 := rfl
        have a1 := drop_le hd ha
        have d1 := drop_more hd
        have a2 := drop_le d1 a1
        have d2 := drop_more d1
        have a3 := drop_le d2 a2
        have d3 := drop_more d2
        have a4 := drop_le d3 a3
        have d4 := drop_more d3
        rw [blockR, next_is (hA _ (by omega)) hd, R.then_ok, if_neg (by omega), if_neg (by omega), Nat.add_sub_cancel_left,
          number_is (far := false) (by show 3 ≤ _; omega) (by show _ ≤ 258; omega) d1 a1, R.then_ok, next_is (hB _ (by omega)) d2, R.then_ok,
          number_is (far := true) (by show 1 ≤ _; omega) (by show _ ≤ 32768; omega) d3 a3, R.then_ok, if_neg (by omega), if_neg (by omega),
          block_is hA hB ho l _ _ f hr d4 a4 hf', toldB, tokB, if_neg h0]
        simp only [List.length_append, Nat.add_assoc]
theorem fixedA_ok : (∀ n ∈ fixedA, 1 ≤ n ∧ n ≤ 30) ∧ startN fixedA 31 = 1073741824 ∧ fixedA.length = 288 := by decide +kernel
theorem fixedB_ok : (∀ n ∈ fixedB, 1 ≤ n ∧ n ≤ 30) ∧ startN fixedB 31 ≤ 1073741824 ∧ fixedB.length = 30 := by decide +kernel
theorem freA (i : Nat) (h : i < 288) : Fre (canonW fixedA) i := canon_fre _ fixedA_ok.1 (Nat.le_of_eq fixedA_ok.2.1) i (by rw [fixedA_ok.2.2]; exact h)
theorem freB (i : Nat) (h : i < 30) : Fre (canonW fixedB) i := canon_fre _ fixedB_ok.1 fixedB_ok.2.1 i (by rw [fixedB_ok.2.2]; exact h)
end Go.Proofs.YtmbfgejephgojaaGreatDoor.Inf


/- Canonical code words in plain words: where each word's strings begin, that no word begins another one, that full words cover all; no program in sight. -/
import Derived.Test.YtidicajedckaoaaGreatDoorBitM
namespace Go.Proofs.YtidicajedckaoaaGreatDoor.Hf
open Go.Proofs.YtidicajedckaoaaGreatDoor.Bit
set_option linter.unusedVariables false

/-- how many strings of 30 bits a word of a length takes -/
def share (n : Nat) : Nat := 2 ^ (30 - n)
theorem share_pos (n : Nat) : 0 < share n := Nat.pow_pos (by omega)
theorem share_mul (m n : Nat) (h : m ≤ n) (h30 : n ≤ 30) : share m = 2 ^ (n - m) * share n := by
  unfold share
  rw [← Nat.pow_add]
  congr 1
  omega
theorem share_dvd (m n : Nat) (h : m ≤ n) (h30 : n ≤ 30) : share n ∣ share m := ⟨2 ^ (n - m), by rw [share_mul m n h h30, Nat.mul_comm]⟩
theorem share_top (n : Nat) (h : n ≤ 30) : 2 ^ n * share n = 1073741824 := by
  unfold share
  rw [← Nat.pow_add, show n + (30 - n) = 30 by omega]
/-- the first string that words of a length take -/
def startN (L : List Nat) : Nat → Nat
  | 0 => 0
  | n + 1 => startN L n + (if n = 0 then 0 else L.count n * share n)
/-- the string with which a word of a length, at a place or behind it, begins -/
def pos (L : List Nat) (n i : Nat) : Nat := startN L n + (L.take i).count n * share n
theorem startN_one (L : List Nat) : startN L 1 = 0 := by simp [startN]
theorem startN_succ (L : List Nat) (n : Nat) (h : n ≠ 0) : startN L (n + 1) = startN L n + L.count n * share n := by simp [startN, h]
theorem startN_mono (L : List Nat) (m n : Nat) (h : m ≤ n) : startN L m ≤ startN L n := by
  induction n with
  | zero => rw [show m = 0 by omega]; exact Nat.le_refl _
  | succ n ih =>
    rcases Nat.lt_or_ge n m with hlt | hge
    · rw [show m = n + 1 by omega]; exact Nat.le_refl _
    · have := ih hge
      simp only [startN]
      omega
theorem startN_dvd (L : List Nat) (n m : Nat) (h30 : n ≤ 30) (h : m ≤ n + 1) : share n ∣ startN L m := by
  induction m with
  | zero => exact ⟨0, by simp [startN]⟩
  | succ m ih =>
    simp only [startN]
    refine Nat.dvd_add (ih (by omega)) ?_
    split
    · exact ⟨0, by simp⟩
    · exact Nat.dvd_trans (share_dvd m n (by omega) h30) ⟨L.count m, by rw [Nat.mul_comm]⟩
theorem pos_zero (L : List Nat) (n : Nat) : pos L n 0 = startN L n := by simp [pos]
theorem pos_end (L : List Nat) (n : Nat) (h : n ≠ 0) : pos L n L.length = startN L (n + 1) := by rw [startN_succ L n h]; simp [pos]
theorem pos_succ (L : List Nat) (n i : Nat) (h : i < L.length) : pos L n (i + 1) = pos L n i + (if L[i] = n then share n else 0) := by
  unfold pos
  rw [List.take_succ_eq_append_getElem h, List.count_append]
  by_cases he : L[i] = n
  · simp [he, Nat.add_mul]
    omega
  · simp [he]
theorem pos_mono (L : List Nat) (n i j : Nat) (h : i ≤ j) : pos L n i ≤ pos L n j := by
  unfold pos
  have : (L.take i).count n ≤ (L.take j).count n := by
    rw [show L.take i = (L.take j).take i by rw [List.take_take, Nat.min_eq_left h]]
    exact (List.take_sublist _ _).count_le n
  exact Nat.add_le_add_left (Nat.mul_le_mul_right _ this) _
theorem pos_dvd (L : List Nat) (n i : Nat) (h30 : n ≤ 30) : share n ∣ pos L n i :=
  Nat.dvd_add (startN_dvd L n n h30 (by omega)) ⟨_, Nat.mul_comm _ _⟩
theorem pos_step (L : List Nat) (n i j : Nat) (hi : i < L.length) (hn : L[i] = n) (hij : i < j) : pos L n i + share n ≤ pos L n j := by
  have h1 := pos_succ L n i hi
  rw [if_pos hn] at h1
  have h2 := pos_mono L n (i + 1) j hij
  omega
theorem pos_top (L : List Nat) (n i : Nat) (hi : i < L.length) (hn : L[i] = n) (h0 : n ≠ 0) : pos L n i + share n ≤ startN L (n + 1) := by
  rw [← pos_end L n h0]
  exact pos_step L n i _ hi hn hi
theorem pos_all (L : List Nat) (n i : Nat) (hi : i < L.length) (hn : L[i] = n) (h0 : n ≠ 0) (h30 : n ≤ 30) : pos L n i + share n ≤ startN L 31 :=
  Nat.le_trans (pos_top L n i hi hn h0) (startN_mono L _ _ (by omega))
/-- two words take no string in common -/
theorem apart (L : List Nat) (i j n k : Nat) (hi : i < L.length) (hj : j < L.length) (hn : L[i] = n) (hk : L[j] = k) (h0 : n ≠ 0) (h1 : k ≠ 0) (hij : i ≠ j) :
    pos L n i + share n ≤ pos L k j ∨ pos L k j + share k ≤ pos L n i := by
  rcases Nat.lt_trichotomy n k with h | h | h
  · left
    have a := pos_top L n i hi hn h0
    have b := startN_mono L (n + 1) k h
    have c := pos_mono L k 0 j (by omega)
    rw [pos_zero] at c
    omega
  · subst h
    rcases Nat.lt_or_ge i j with h | h
    · exact .inl (pos_step L n i j hi hn h)
    · exact .inr (pos_step L n j i hj hk (by omega))
  · right
    have a := pos_top L k j hj hk h1
    have b := startN_mono L (k + 1) n h
    have c := pos_mono L n 0 i (by omega)
    rw [pos_zero] at c
    omega
/-- the word of a length that begins with a string -/
def wordAt (p n : Nat) : List Bool := word (p / share n) n
theorem wordAt_length (p n : Nat) : (wordAt p n).length = n := word_length _ _
theorem word_part (v a b : Nat) (h : b ≤ a) : (word v a).take (a - b) = word (v / 2 ^ b) (a - b) := by
  refine num_inj _ _ (by rw [List.length_take, word_length, word_length]; omega) ?_
  rw [word_take v a b h, num_word]
  conv => lhs; rw [show 2 ^ a = 2 ^ b * 2 ^ (a - b) from by rw [← Nat.pow_add]; congr 1; omega]
  exact Nat.mod_mul_right_div_self _ _ _
/-- a word begins another one just if its strings hold the other's first -/
theorem begins_iff (p q n k : Nat) (hnk : n ≤ k) (hk : k ≤ 30) (hp : share n ∣ p) (hp30 : p + share n ≤ 1073741824) (hq30 : q < 1073741824) :
    wordAt p n <+: wordAt q k ↔ p ≤ q ∧ q < p + share n := by
  have hlt : ∀ r m, m ≤ 30 → r < 1073741824 → r / share m < 2 ^ m := by
    intro r m hm hr
    rw [Nat.div_lt_iff_lt_mul (share_pos m), share_top m hm]
    exact hr
  have hsp := share_pos n
  obtain ⟨a, rfl⟩ := hp
  have e1 : share n * a / share n = a := Nat.mul_div_cancel_left a hsp
  have hpl := hlt (share n * a) n (by omega) (by omega)
  rw [e1] at hpl
  have e2 : (wordAt q k).take n = word (q / share n) n := by
    have := word_part (q / share k) k (k - n) (by omega)
    rw [show k - (k - n) = n by omega, Nat.div_div_eq_div_mul, Nat.mul_comm (share k), ← share_mul n k hnk hk] at this
    exact this
  have e3 : wordAt (share n * a) n = word a n := by unfold wordAt; rw [e1]
  rw [List.prefix_iff_eq_take, wordAt_length, e2, e3]
  constructor
  · intro h
    have hh := congrArg num h
    rw [num_word_of_lt _ _ hpl, num_word_of_lt _ _ (hlt q n (by omega) hq30)] at hh
    have h2 := Nat.div_add_mod q (share n)
    have h3 := Nat.mod_lt q hsp
    rw [← hh] at h2
    omega
  · rintro ⟨h1, h2⟩
    have : q / share n = a := by
      refine Nat.div_eq_of_lt_le ?_ ?_
      · rw [Nat.mul_comm]; exact h1
      · rw [Nat.add_mul, Nat.mul_comm a]; omega
    rw [this]
/-- the canonical words -/
def canonW (L : List Nat) : List (List Bool) := (List.range L.length).map fun i => wordAt (pos L (L.getD i 0) i) (L.getD i 0)
theorem canonW_length (L : List Nat) : (canonW L).length = L.length := by simp [canonW]
theorem canonW_get (L : List Nat) (i : Nat) (h : i < (canonW L).length) (h' : i < L.length) : (canonW L)[i] = wordAt (pos L L[i] i) L[i] := by
  simp [canonW, List.getD, List.getElem?_eq_getElem h']
theorem canonW_len (L : List Nat) (i : Nat) (h : i < (canonW L).length) (h' : i < L.length) : ((canonW L)[i]).length = L[i] := by rw [canonW_get L i h h', wordAt_length]
theorem canon_free (L : List Nat) (hL : ∀ i (h : i < L.length), L[i] ≤ 30) (hT : startN L 31 ≤ 1073741824) (i j : Nat) (hi : i < L.length) (hj : j < L.length) (hij : i ≠ j) (h0 : L[i] ≠ 0) :
    ¬ wordAt (pos L L[i] i) L[i] <+: wordAt (pos L L[j] j) L[j] := by
  intro hp
  have hle := hp.length_le
  rw [wordAt_length, wordAt_length] at hle
  have h1 : L[j] ≠ 0 := by omega
  have a := pos_all L _ i hi rfl h0 (hL i hi)
  have b := pos_all L _ j hj rfl h1 (hL j hj)
  have s := share_pos L[j]
  rw [begins_iff _ _ _ _ hle (hL j hj) (pos_dvd L _ _ (hL i hi)) (by omega) (by omega)] at hp
  rcases apart L i j _ _ hi hj rfl rfl h0 h1 hij with h | h <;> omega
theorem in_length (L : List Nat) (v : Nat) : ∀ m, v < startN L m → ∃ n, n < m ∧ n ≠ 0 ∧ startN L n ≤ v ∧ v < startN L (n + 1) := by
  intro m
  induction m with
  | zero => intro h; simp [startN] at h
  | succ m ih =>
    intro h
    rcases Nat.lt_or_ge v (startN L m) with hlt | hge
    · obtain ⟨n, h1, h2⟩ := ih hlt
      exact ⟨n, by omega, h2⟩
    · refine ⟨m, by omega, ?_, hge, h⟩
      intro h0
      subst h0
      simp [startN] at h
theorem in_place (L : List Nat) (v n : Nat) : ∀ m, m ≤ L.length → startN L n ≤ v → v < pos L n m → ∃ i, ∃ h : i < L.length, L[i] = n ∧ pos L n i ≤ v ∧ v < pos L n i + share n := by
  intro m
  induction m with
  | zero => intro _ h0 h; rw [pos_zero] at h; omega
  | succ m ih =>
    intro hm h0 h
    rcases Nat.lt_or_ge v (pos L n m) with hlt | hge
    · exact ih (by omega) h0 hlt
    · have h2 := pos_succ L n m (by omega)
      by_cases he : L[m] = n
      · rw [if_pos he] at h2
        exact ⟨m, by omega, he, hge, by omega⟩
      · rw [if_neg he] at h2
        omega
theorem cover (L : List Nat) (hT : startN L 31 = 1073741824) (v : Nat) (hv : v < 1073741824) : ∃ i, ∃ h : i < L.length, L[i] ≠ 0 ∧ L[i] ≤ 30 ∧ pos L L[i] i ≤ v ∧ v < pos L L[i] i + share L[i] := by
  obtain ⟨n, h1, h2, h3, h4⟩ := in_length L v 31 (by omega)
  rw [← pos_end L n h2] at h4
  obtain ⟨i, h, he, h5, h6⟩ := in_place L v n _ (Nat.le_refl _) h3 h4
  subst he
  exact ⟨i, h, h2, by omega, h5, h6⟩
/-- full words: any 30 bits begin with one of them -/
theorem canon_full (L : List Nat) (hT : startN L 31 = 1073741824) (s : List Bool) (hs : 30 ≤ s.length) : ∃ i, ∃ h : i < L.length, L[i] ≠ 0 ∧ L[i] ≤ 30 ∧ wordAt (pos L L[i] i) L[i] <+: s := by
  have hl : (s.take 30).length = 30 := by rw [List.length_take]; omega
  have hv := num_lt (s.take 30)
  rw [hl] at hv
  obtain ⟨i, h, h0, h30, h1, h2⟩ := cover L hT _ hv
  refine ⟨i, h, h0, h30, ?_⟩
  have a := pos_all L _ i h rfl h0 h30
  have hb := (begins_iff (pos L L[i] i) (num (s.take 30)) L[i] 30 h30 (Nat.le_refl _) (pos_dvd L _ _ h30) (by omega) hv).2 ⟨h1, h2⟩
  have e : wordAt (num (s.take 30)) 30 = s.take 30 := by
    have := word_num (s.take 30)
    rw [hl] at this
    unfold wordAt share
    simpa using this
  rw [e] at hb
  exact hb.trans (List.take_prefix _ _)
/-- of one length the words rise -/
theorem canon_rise (L : List Nat) (i j n : Nat) (hi : i < L.length) (hn : L[i] = n) (hij : i < j) : pos L n i / share n < pos L n j / share n := by
  have h := pos_step L n i j hi hn hij
  have h2 : (pos L n i + share n) / share n ≤ pos L n j / share n := Nat.div_le_div_right h
  rw [Nat.add_div_right _ (share_pos n)] at h2
  omega
theorem pos_small (L : List Nat) (n i : Nat) (hi : i < L.length) (hn : L[i] = n) (h0 : n ≠ 0) (h30 : n ≤ 30) (hT : startN L 31 ≤ 1073741824) : pos L n i / share n < 2 ^ n := by
  have a := pos_all L n i hi hn h0 h30
  have s := share_pos n
  rw [Nat.div_lt_iff_lt_mul s, share_top n h30]
  omega
/-! The word behind another one, as the document finds it. -/
theorem wordAt_pad (p m n : Nat) (hmn : m ≤ n) (hn : n ≤ 30) (hd : share m ∣ p) (hp : p < 1073741824) : wordAt p m ++ zs (n - m) = wordAt p n := by
  have hlt : ∀ m, m ≤ 30 → p / share m < 2 ^ m := by
    intro m hm
    rw [Nat.div_lt_iff_lt_mul (share_pos m), share_top m hm]
    exact hp
  refine num_inj _ _ (by rw [List.length_append, wordAt_length, wordAt_length, zs_length]; omega) ?_
  rw [num_append, num_zs, zs_length]
  unfold wordAt
  rw [num_word_of_lt _ _ (hlt m (by omega)), num_word_of_lt _ _ (hlt n hn)]
  obtain ⟨a, rfl⟩ := hd
  have e1 : share m * a / share m = a := Nat.mul_div_cancel_left a (share_pos m)
  have e2 : share m * a / share n = 2 ^ (n - m) * a := by
    rw [share_mul m n hmn hn, Nat.mul_comm (2 ^ (n - m)), Nat.mul_assoc, Nat.mul_div_cancel_left _ (share_pos n)]
  rw [e1, e2, Nat.mul_comm]
  omega
theorem ones_num (k : Nat) : num (List.replicate k true) + 1 = 2 ^ k := by
  induction k with
  | zero => rfl
  | succ k ih => rw [List.replicate_succ, num_cons, List.length_replicate, Nat.pow_succ]; simp; omega
/-- one more: the last nought turns, ones behind it become noughts -/
theorem word_next (v m k : Nat) (a : List Bool) (hv : v < 2 ^ m) (h : word v m = a ++ false :: List.replicate k true) : a ++ true :: zs k = word (v + 1) m ∧ v + 1 < 2 ^ m := by
  have hl : (a ++ true :: zs k).length = m := by
    have := congrArg List.length h
    rw [word_length] at this
    simp [zs_length] at this ⊢
    omega
  have h1 : num (a ++ true :: zs k) = v + 1 := by
    have e := congrArg num h
    rw [num_word_of_lt v m hv, num_append, num_cons] at e
    rw [num_append, num_cons, num_zs]
    simp [zs_length] at e ⊢
    have := ones_num k
    omega
  have h2 := num_lt (a ++ true :: zs k)
  rw [h1, hl] at h2
  refine ⟨num_inj _ _ (by rw [hl, word_length]) ?_, h2⟩
  rw [h1, num_word_of_lt _ _ h2]
theorem word_last (v m : Nat) (hv : v < 2 ^ m) (h : word v m = List.replicate m true) : v + 1 = 2 ^ m := by
  have e := congrArg num h
  rw [num_word_of_lt v m hv] at e
  have := ones_num m
  omega
end Go.Proofs.YtidicajedckaoaaGreatDoor.Hf

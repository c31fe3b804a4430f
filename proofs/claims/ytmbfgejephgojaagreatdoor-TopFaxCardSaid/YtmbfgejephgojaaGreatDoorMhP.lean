
/- The words of T.4 and T.6, in plain words: the tables, lengths told by words, what words tell; no program in sight. -/
import Derived.Test.YtmbfgejephgojaaGreatDoorIfO
import Derived.Test.YtmbfgejephgojaaGreatDoorBitN
namespace Go.Proofs.YtmbfgejephgojaaGreatDoor.Fx
open Go.Proofs.YtmbfgejephgojaaGreatDoor.Bit Go.Proofs.YtmbfgejephgojaaGreatDoor.Hf Go.Proofs.YtmbfgejephgojaaGreatDoor.Inf
set_option linter.unusedVariables false
set_option linter.unusedSimpArgs false
set_option maxRecDepth 100000

/-- the words of white lengths: number and width -/
def whiteT : List (Nat × Nat) := [(53, 8), (7, 6), (7, 4), (8, 4), (11, 4), (12, 4), (14, 4), (15, 4), (19, 5), (20, 5), (7, 5), (8, 5), (8, 6), (3, 6), (52, 6), (53, 6), (42, 6), (43, 6), (39, 7), (12, 7), (8, 7), (23, 7), (3, 7), (4, 7), (40, 7), (43, 7), (19, 7), (36, 7), (24, 7), (2, 8), (3, 8), (26, 8), (27, 8), (18, 8), (19, 8), (20, 8), (21, 8), (22, 8), (23, 8), (40, 8), (41, 8), (42, 8), (43, 8), (44, 8), (45, 8), (4, 8), (5, 8), (10, 8), (11, 8), (82, 8), (83, 8), (84, 8), (85, 8), (36, 8), (37, 8), (88, 8), (89, 8), (90, 8), (91, 8), (74, 8), (75, 8), (50, 8), (51, 8), (52, 8), (27, 5), (18, 5), (23, 6), (55, 7), (54, 8), (55, 8), (100, 8), (101, 8), (104, 8), (103, 8), (204, 9), (205, 9), (210, 9), (211, 9), (212, 9), (213, 9), (214, 9), (215, 9), (216, 9), (217, 9), (218, 9), (219, 9), (152, 9), (153, 9), (154, 9), (24, 6), (155, 9), (8, 11), (12, 11), (13, 11), (18, 12), (19, 12), (20, 12), (21, 12), (22, 12), (23, 12), (28, 12), (29, 12), (30, 12), (31, 12)]
/-- the words of black lengths -/
def blackT : List (Nat × Nat) := [(55, 10), (2, 3), (3, 2), (2, 2), (3, 3), (3, 4), (2, 4), (3, 5), (5, 6), (4, 6), (4, 7), (5, 7), (7, 7), (4, 8), (7, 8), (24, 9), (23, 10), (24, 10), (8, 10), (103, 11), (104, 11), (108, 11), (55, 11), (40, 11), (23, 11), (24, 11), (202, 12), (203, 12), (204, 12), (205, 12), (104, 12), (105, 12), (106, 12), (107, 12), (210, 12), (211, 12), (212, 12), (213, 12), (214, 12), (215, 12), (108, 12), (109, 12), (218, 12), (219, 12), (84, 12), (85, 12), (86, 12), (87, 12), (100, 12), (101, 12), (82, 12), (83, 12), (36, 12), (55, 12), (56, 12), (39, 12), (40, 12), (88, 12), (89, 12), (43, 12), (44, 12), (90, 12), (102, 12), (103, 12), (15, 10), (200, 12), (201, 12), (91, 12), (51, 12), (52, 12), (53, 12), (108, 13), (109, 13), (74, 13), (75, 13), (76, 13), (77, 13), (114, 13), (115, 13), (116, 13), (117, 13), (118, 13), (119, 13), (82, 13), (83, 13), (84, 13), (85, 13), (90, 13), (91, 13), (100, 13), (101, 13), (8, 11), (12, 11), (13, 11), (18, 12), (19, 12), (20, 12), (21, 12), (22, 12), (23, 12), (28, 12), (29, 12), (30, 12), (31, 12)]
/-- the words of modes, from three ahead to what goes beyond -/
def modeT : List (Nat × Nat) := [(2, 7), (2, 6), (2, 3), (1, 1), (3, 3), (3, 6), (3, 7), (1, 3), (1, 4), (1, 7)]
def wordsT (T : List (Nat × Nat)) : List (List Bool) := T.map fun x => word x.1 x.2
def wordsF (black : Bool) : List (List Bool) := wordsT (if black then blackT else whiteT)
def modesF : List (List Bool) := wordsT modeT
/-- the end of a line -/
def eol : List Bool := word 1 12
/-- the length at a place of a table -/
def lenF (i : Nat) : Nat := if i < 64 then i else 64 * (i - 63)
theorem wordsF_length (black : Bool) : (wordsF black).length = 104 := by cases black <;> rfl
theorem modesF_length : modesF.length = 10 := rfl
/-- no word begins another one -/
def freeB (W : List (List Bool)) : Bool := (List.range W.length).all fun i => !(W.getD i []).isEmpty && (List.range W.length).all fun j => i == j || !((W.getD j []).isPrefixOf (W.getD i []))
theorem free_of {W : List (List Bool)} (h : freeB W = true) (i : Nat) (hi : i < W.length) : Fre W i := by
  unfold freeB at h
  rw [List.all_eq_true] at h
  have hx := h i (List.mem_range.2 hi)
  rw [Bool.and_eq_true, List.all_eq_true] at hx
  refine ⟨fun e => by rw [e] at hx; simp at hx, fun j v hj hp hv => ?_⟩
  have hjl := (List.getElem?_eq_some_iff.1 hj).1
  have hy := hx.2 j (List.mem_range.2 hjl)
  have hg : W.getD j [] = v := by rw [List.getD_eq_getElem?_getD, hj]; rfl
  rw [hg] at hy
  rcases Bool.or_eq_true _ _ ▸ hy with h1 | h1
  · exact (by simpa using h1 : i = j).symm
  · have : v.isPrefixOf (W.getD i []) = true := List.isPrefixOf_iff_prefix.2 hp
    rw [this] at h1
    cases h1
theorem white_free : freeB (wordsF false) = true := by decide +kernel
theorem black_free : freeB (wordsF true) = true := by decide +kernel
theorem modes_free : freeB modesF = true := by decide +kernel
theorem words_fre (black : Bool) (i : Nat) (hi : i < 104) : Fre (wordsF black) i := by
  cases black
  · exact free_of white_free i hi
  · exact free_of black_free i hi
theorem modes_fre (i : Nat) (hi : i < 10) : Fre modesF i := free_of modes_free i hi
theorem words_eol (black : Bool) : freeB (wordsF black ++ [eol]) = true := by cases black <;> decide +kernel
theorem modes_eol : freeB (modesF ++ [eol]) = true := by decide +kernel
theorem words_len (black : Bool) : ∀ x ∈ wordsF black, 2 ≤ x.length ∧ x.length ≤ 13 := by cases black <;> decide +kernel
theorem modes_len : ∀ x ∈ modesF, 1 ≤ x.length ∧ x.length ≤ 7 := by decide +kernel

/-- the word with which bits go on, and how many bits that took, whatever comes -/
def lookP (W : List (List Bool)) (p : List Bool) : List Bool → Nat × Except Nat Nat
  | [] => (p.length, .error 2)
  | b :: r => if p ++ [b] ∈ W then (p.length + 1, .ok (W.idxOf (p ++ [b])))
      else if W.any (fun w => !w.isEmpty && (p ++ [b]).isPrefixOf w) then lookP W (p ++ [b]) r else (p.length + 1, .error 6)
theorem lookP_look (W : List (List Bool)) : ∀ (l p : List Bool), lookW W p l = match (lookP W p l).2 with
    | .ok i => .ok (i, (lookP W p l).1)
    | .error e => .error e
  | [], p => rfl
  | b :: r, p => by
    rw [lookW, lookP]
    split
    · rfl
    · split
      · exact lookP_look W r (p ++ [b])
      · rfl
theorem lookP_le (W : List (List Bool)) : ∀ (l p : List Bool), p.length ≤ (lookP W p l).1 ∧ (lookP W p l).1 ≤ p.length + l.length ∧ (l ≠ [] → p.length < (lookP W p l).1)
  | [], p => ⟨Nat.le_refl _, Nat.le_refl _, fun h => absurd rfl h⟩
  | b :: r, p => by
    have ih := lookP_le W r (p ++ [b])
    rw [List.length_append, List.length_singleton] at ih
    rw [lookP, List.length_cons]
    split
    · exact ⟨by omega, by omega, fun _ => by omega⟩
    · split
      · exact ⟨by omega, by omega, fun _ => by omega⟩
      · exact ⟨by omega, by omega, fun _ => by omega⟩
theorem lookP_fre {W : List (List Bool)} {i : Nat} (h : Fre W i) (r : List Bool) : lookP W [] (W.getD i [] ++ r) = ((W.getD i []).length, .ok i) := by
  have e := look_fre W i r h (W.getD i []) [] (List.nil_append _).symm h.1
  rw [lookP_look] at e
  rcases hx : lookP W [] (W.getD i [] ++ r) with ⟨k, v⟩
  rw [hx] at e
  rcases v with c | j
  · cases e
  · injection e with e
    injection e with e1 e2
    simp only at e1 e2
    rw [e1, e2]

/-- a length, as it is told -/
def tellF (black : Bool) (n : Nat) : List Bool :=
  (List.replicate (n / 2560) ((wordsF black).getD 103 [])).flatten ++ ((if n % 2560 < 64 then [] else (wordsF black).getD (63 + n % 2560 / 64) []) ++ (wordsF black).getD (n % 64) [])
/-- a length, read: the place behind it, and the length or the error -/
def lenR (black : Bool) (L : List Bool) (most : Nat) : Nat → Nat → Nat → Nat × Except Nat Nat
  | 0, at_, _ => (at_, .error 0)
  | f + 1, at_, n => match (lookP (wordsF black) [] (L.drop at_)).2 with
    | .error e => (at_ + (lookP (wordsF black) [] (L.drop at_)).1, .error e)
    | .ok i => if most < n + lenF i then (at_ + (lookP (wordsF black) [] (L.drop at_)).1, .error 5)
      else if i < 64 then (at_ + (lookP (wordsF black) [] (L.drop at_)).1, .ok (n + lenF i))
      else lenR black L most f (at_ + (lookP (wordsF black) [] (L.drop at_)).1) (n + lenF i)
theorem lenR_fuel (black : Bool) (L : List Bool) (most : Nat) : ∀ (f g at_ n : Nat), L.length + 1 ≤ f + at_ → L.length + 1 ≤ g + at_ → at_ ≤ L.length → lenR black L most f at_ n = lenR black L most g at_ n
  | 0, g, at_, n, hf, hg, ha => by omega
  | f + 1, 0, at_, n, hf, hg, ha => by omega
  | f + 1, g + 1, at_, n, hf, hg, ha => by
    rw [lenR, lenR]
    have hle := lookP_le (wordsF black) (L.drop at_) []
    rw [List.length_nil, List.length_drop] at hle
    by_cases hd : L.drop at_ = []
    · rw [hd]; rfl
    · have h3 := hle.2.2 hd
      rcases (lookP (wordsF black) [] (L.drop at_)).2 with e | i
      · rfl
      · simp only
        split
        · rfl
        · split
          · rfl
          · exact lenR_fuel black L most f g _ _ (by omega) (by omega) (by omega)
def lenA (black : Bool) (L : List Bool) (most at_ n : Nat) : Nat × Except Nat Nat := lenR black L most (L.length + 1 - at_) at_ n
/-- one word more -/
theorem lenA_eq (black : Bool) (L : List Bool) (most at_ n : Nat) (ha : at_ ≤ L.length) : lenA black L most at_ n = match (lookP (wordsF black) [] (L.drop at_)).2 with
    | .error e => (at_ + (lookP (wordsF black) [] (L.drop at_)).1, .error e)
    | .ok i => if most < n + lenF i then (at_ + (lookP (wordsF black) [] (L.drop at_)).1, .error 5)
      else if i < 64 then (at_ + (lookP (wordsF black) [] (L.drop at_)).1, .ok (n + lenF i))
      else lenA black L most (at_ + (lookP (wordsF black) [] (L.drop at_)).1) (n + lenF i) := by
  unfold lenA
  rw [show L.length + 1 - at_ = (L.length - at_) + 1 from by omega, lenR]
  have hle := lookP_le (wordsF black) (L.drop at_) []
  rw [List.length_nil, List.length_drop] at hle
  by_cases hd : L.drop at_ = []
  · rw [hd]; rfl
  · have h3 := hle.2.2 hd
    rcases (lookP (wordsF black) [] (L.drop at_)).2 with e | i
    · rfl
    · simp only
      split
      · rfl
      · split
        · rfl
        · exact lenR_fuel black L most _ _ _ _ (by omega) (by omega) (by omega)
/-- one word that is there -/
theorem lenA_word (black : Bool) {L r : List Bool} {most at_ n i : Nat} (hi : i < 104) (h : L.drop at_ = (wordsF black).getD i [] ++ r) (ha : at_ ≤ L.length) (hm : n + lenF i ≤ most) :
    lenA black L most at_ n = if i < 64 then (at_ + ((wordsF black).getD i []).length, .ok (n + lenF i)) else lenA black L most (at_ + ((wordsF black).getD i []).length) (n + lenF i) := by
  rw [lenA_eq black L most at_ n ha, h, lookP_fre (words_fre black i hi)]
  simp only
  rw [if_neg (by omega)]
theorem drop_more {L x r : List Bool} {a : Nat} (h : L.drop a = x ++ r) (ha : a ≤ L.length) : L.drop (a + x.length) = r ∧ a + x.length ≤ L.length := by
  constructor
  · rw [← List.drop_drop, h, List.drop_left']
    rfl
  · have := congrArg List.length h
    rw [List.length_drop, List.length_append] at this
    omega
/-- what is told is read -/
theorem read_told (black : Bool) {most : Nat} : ∀ (k m : Nat) {L r : List Bool} {at_ n : Nat}, m < 2560 → L.drop at_ = (List.replicate k ((wordsF black).getD 103 [])).flatten ++ ((if m < 64 then [] else (wordsF black).getD (63 + m / 64) []) ++ (wordsF black).getD (m % 64) []) ++ r → at_ ≤ L.length →
    n + 2560 * k + m ≤ most → lenA black L most at_ n = (at_ + ((List.replicate k ((wordsF black).getD 103 [])).flatten ++ ((if m < 64 then [] else (wordsF black).getD (63 + m / 64) []) ++ (wordsF black).getD (m % 64) [])).length, .ok (n + 2560 * k + m))
  | 0, m, L, r, at_, n, hm, h, ha, hs => by
    have hrest : ∀ {b q : Nat} {t : List Bool}, L.drop b = (wordsF black).getD (m % 64) [] ++ t → b ≤ L.length → q + m % 64 ≤ most → lenA black L most b q = (b + ((wordsF black).getD (m % 64) []).length, .ok (q + m % 64)) := by
      intro b q t hb hbl hq
      have h64 : m % 64 < 64 := Nat.mod_lt _ (by decide)
      have e : lenF (m % 64) = m % 64 := by unfold lenF; rw [if_pos h64]
      rw [lenA_word black (i := m % 64) (by omega) hb hbl (by rw [e]; exact hq), if_pos h64, e]
    rw [List.replicate_zero, List.flatten_nil, List.nil_append] at h ⊢
    by_cases h64 : m < 64
    · rw [if_pos h64, List.nil_append] at h ⊢
      have := hrest (q := n) h ha (by omega)
      rw [this, Nat.mod_eq_of_lt h64]
      simp
    · rw [if_neg h64] at h ⊢
      rw [List.append_assoc] at h
      have e : lenF (63 + m / 64) = 64 * (m / 64) := by unfold lenF; rw [if_neg (by omega)]; omega
      rw [lenA_word black (i := 63 + m / 64) (by omega) h ha (by rw [e]; omega), if_neg (by omega), e]
      obtain ⟨h1, h2⟩ := drop_more h ha
      rw [hrest h1 h2 (by omega), List.length_append]
      congr 1
      · omega
      · congr 1; omega
  | k + 1, m, L, r, at_, n, hm, h, ha, hs => by
    rw [List.replicate_succ, List.flatten_cons, List.append_assoc, List.append_assoc] at h
    have e : lenF 103 = 2560 := rfl
    rw [lenA_word black (i := 103) (by decide) h ha (by rw [e]; omega), if_neg (by decide), e]
    obtain ⟨h1, h2⟩ := drop_more h ha
    rw [← List.append_assoc] at h1
    rw [read_told black k m hm h1 h2 (by omega), List.replicate_succ, List.flatten_cons, List.append_assoc, List.length_append (as := (wordsF black).getD 103 [])]
    congr 1
    · omega
    · congr 1; omega
theorem read_tell (black : Bool) {most at_ n : Nat} {L r : List Bool} (h : L.drop at_ = tellF black n ++ r) (ha : at_ ≤ L.length) (hn : n ≤ most) : lenA black L most at_ 0 = (at_ + (tellF black n).length, .ok n) := by
  have := read_told black (most := most) (n / 2560) (n % 2560) (Nat.mod_lt _ (by decide)) (L := L) (r := r) (at_ := at_) (n := 0)
  have e : n % 2560 % 64 = n % 64 := Nat.mod_mod_of_dvd n (by decide)
  rw [e] at this
  have := this h ha (by omega)
  rw [this]
  unfold tellF
  congr 1
  congr 1
  omega
end Go.Proofs.YtmbfgejephgojaaGreatDoor.Fx
/- Rows of white and black, and where they change, in plain words; no program in sight. -/
namespace Go.Proofs.YtmbfgejephgojaaGreatDoor.Rn
open Go.Proofs.YtmbfgejephgojaaGreatDoor.Bit
set_option linter.unusedVariables false
set_option linter.unusedSimpArgs false

/-- where pixels change, the one before them and the first place being known -/
def chg (p : Bool) (i : Nat) : List Bool → List Nat
  | [] => []
  | b :: l => if b = p then chg b (i + 1) l else i :: chg b (i + 1) l
def changes (l : List Bool) : List Nat := chg false 0 l
/-- the pixels that change at places -/
def pix (c : List Nat) (w : Nat) : List Bool := (List.range w).map fun x => c.countP (· ≤ x) % 2 == 1
/-- right places -/
def Valid (c : List Nat) (w : Nat) : Prop := c.Pairwise (· < ·) ∧ ∀ x ∈ c, x < w
theorem chg_mem : ∀ (l : List Bool) (p : Bool) (i : Nat), ∀ x ∈ chg p i l, i ≤ x ∧ x < i + l.length
  | [], p, i => fun x hx => by cases hx
  | b :: l, p, i => fun x hx => by
    rw [chg] at hx
    rw [List.length_cons]
    split at hx
    · have := chg_mem l b (i + 1) x hx; omega
    · rcases List.mem_cons.1 hx with rfl | hx
      · omega
      · have := chg_mem l b (i + 1) x hx; omega
theorem chg_rise : ∀ (l : List Bool) (p : Bool) (i : Nat), (chg p i l).Pairwise (· < ·)
  | [], p, i => List.Pairwise.nil
  | b :: l, p, i => by
    rw [chg]
    split
    · exact chg_rise l b (i + 1)
    · exact List.Pairwise.cons (fun x hx => by have := chg_mem l b (i + 1) x hx; omega) (chg_rise l b (i + 1))
theorem changes_valid (l : List Bool) : Valid (changes l) l.length := ⟨chg_rise l false 0, fun x hx => by have := chg_mem l false 0 x hx; omega⟩
theorem chg_count : ∀ (l : List Bool) (p : Bool) (i k : Nat) (h : k < l.length), (chg p i l).countP (· ≤ i + k) % 2 = if l[k] = p then 0 else 1
  | [], p, i, k, h => by simp at h
  | b :: l, p, i, 0, h => by
    have h0 : (chg b (i + 1) l).countP (· ≤ i + 0) = 0 := by
      rw [List.countP_eq_zero]
      intro x hx
      have := chg_mem l b (i + 1) x hx
      simp
      omega
    rw [chg]
    show _ = if b = p then 0 else 1
    split
    · rw [h0]
    · rw [List.countP_cons, h0]; simp
  | b :: l, p, i, k + 1, h => by
    have hk : k < l.length := by simpa using h
    have ih := chg_count l b (i + 1) k hk
    rw [show i + 1 + k = i + (k + 1) from by omega] at ih
    rw [chg]
    show _ = if l[k] = p then 0 else 1
    split
    · rename_i hb
      rw [ih, hb]
    · rename_i hb
      rw [List.countP_cons, if_pos (by simp)]
      cases hlk : l[k] <;> cases b <;> cases p <;> simp_all <;> omega
/-- the pixels of a row's changes are the row's -/
theorem pix_changes (l : List Bool) : pix (changes l) l.length = l := by
  apply List.ext_getElem
  · simp [pix]
  · intro k h1 h2
    have h := chg_count l false 0 k h2
    rw [Nat.zero_add] at h
    simp only [pix, List.getElem_map, List.getElem_range]
    unfold changes
    rw [h]
    cases l[k] <;> rfl
theorem pix_length (c : List Nat) (w : Nat) : (pix c w).length = w := by simp [pix]
theorem pix_get (c : List Nat) (w k : Nat) (h : k < (pix c w).length) : (pix c w)[k] = (c.countP (· ≤ k) % 2 == 1) := by simp [pix]
/-- two right lists of places with the same pixels are one -/
theorem changes_pix : ∀ (w : Nat) (c : List Nat), Valid c w → changes (pix c w) = c := by
  -- by the places: chg of the pixels from a place on are the places from there on
  have key : ∀ (n i : Nat) (c : List Nat) (w : Nat), Valid c w → w - i = n → i ≤ w → chg (decide (0 < i) && (c.countP (· ≤ i - 1) % 2 == 1)) i ((pix c w).drop i) = c.filter (i ≤ ·) := by
    intro n
    induction n with
    | zero =>
      intro i c w hv hn hi
      rw [List.drop_of_length_le (by rw [pix_length]; omega), chg]
      symm
      rw [List.filter_eq_nil_iff]
      intro x hx
      have := hv.2 x hx
      simp
      omega
    | succ n ih =>
      intro i c w hv hn hi
      have hil : i < (pix c w).length := by rw [pix_length]; omega
      rw [List.drop_eq_getElem_cons hil, pix_get]
      have ih2 := ih (i + 1) c w hv (by omega) (by omega)
      rw [Nat.add_sub_cancel, show decide (0 < i + 1) = true from by simp, Bool.true_and] at ih2
      rw [chg, ih2]
      have hcnt : c.countP (· ≤ i) = (if 0 < i then c.countP (· ≤ i - 1) else 0) + c.countP (· == i) := by
        have e : ∀ l : List Nat, l.countP (· ≤ i) = (if 0 < i then l.countP (· ≤ i - 1) else 0) + l.countP (· == i) := by
          intro l
          induction l with
          | nil => simp
          | cons y l ihl =>
            rw [List.countP_cons, List.countP_cons, List.countP_cons, ihl]
            by_cases h0 : 0 < i
            · rw [if_pos h0, if_pos h0]
              by_cases h1 : y ≤ i - 1
              · have h2 : y ≤ i := by omega
                have h3 : ¬ y = i := by omega
                simp [h1, h2, h3]; omega
              · by_cases h3 : y = i
                · subst h3
                  simp [h1]; omega
                · have h2 : ¬ y ≤ i := by omega
                  simp [h1, h2, h3]
            · rw [if_neg h0, if_neg h0]
              have hi0 : i = 0 := by omega
              subst hi0
              by_cases h3 : y = 0
              · simp [h3]
              · have h2 : ¬ y ≤ 0 := by omega
                simp [h3]
        exact e c
      have hone : c.countP (· == i) ≤ 1 := by
        have hnd : c.Nodup := hv.1.imp (fun h => by omega)
        have := List.nodup_iff_count.1 hnd i
        rwa [List.count] at this
      have hfil : c.filter (i ≤ ·) = (if c.countP (· == i) = 1 then [i] else []) ++ c.filter (i + 1 ≤ ·) := by
        have e : ∀ l : List Nat, l.Pairwise (· < ·) → l.filter (i ≤ ·) = (if l.countP (· == i) = 1 then [i] else []) ++ l.filter (i + 1 ≤ ·) := by
          intro l hl
          induction l with
          | nil => simp
          | cons y l ihl =>
            have hl2 := List.pairwise_cons.1 hl
            have ihl := ihl hl2.2
            by_cases h1 : y < i
            · rw [List.filter_cons_of_neg (by simp; omega), List.filter_cons_of_neg (by simp; omega), List.countP_cons_of_neg (by simp; omega)]
              exact ihl
            · by_cases h2 : y = i
              · have hz : l.countP (· == i) = 0 := by
                  rw [List.countP_eq_zero]
                  intro x hx
                  have := hl2.1 x hx
                  simp
                  omega
                rw [hz] at ihl
                rw [List.filter_cons_of_pos (by simp; omega), List.filter_cons_of_neg (by simp; omega), List.countP_cons_of_pos (by simp [h2]), hz, ihl, if_neg (by decide), if_pos rfl, h2]
                rfl
              · have hz : (y :: l).countP (· == i) = 0 := by
                  rw [List.countP_eq_zero]
                  intro x hx
                  rcases List.mem_cons.1 hx with rfl | hx
                  · simp; omega
                  · have := hl2.1 x hx; simp; omega
                rw [hz, if_neg (by decide), List.nil_append]
                refine List.filter_congr fun x hx => ?_
                rcases List.mem_cons.1 hx with rfl | hx
                · rw [decide_eq_decide]; omega
                · have := hl2.1 x hx; rw [decide_eq_decide]; omega
        exact e c hv.1
      rw [hfil]
      rcases (show c.countP (· == i) = 0 ∨ c.countP (· == i) = 1 by omega) with h | h
      · rw [show (if c.countP (· == i) = 1 then [i] else []) = [] from if_neg (by omega), List.nil_append]
        refine if_pos ?_
        rw [hcnt, h]
        by_cases h0 : 0 < i <;> simp [h0]
      · rw [show (if c.countP (· == i) = 1 then [i] else []) = [i] from if_pos h]
        refine if_neg ?_
        rw [hcnt, h]
        by_cases h0 : 0 < i
        · rw [if_pos h0, show decide (0 < i) = true from decide_eq_true h0, Bool.true_and]
          generalize c.countP (· ≤ i - 1) = m
          rcases (show m % 2 = 0 ∨ m % 2 = 1 by omega) with q | q
          · rw [show (m + 1) % 2 = 1 from by omega, q]; decide
          · rw [show (m + 1) % 2 = 0 from by omega, q]; decide
        · rw [if_neg h0, show decide (0 < i) = false from decide_eq_false h0, Bool.false_and]
          decide
  intro w c hv
  have h := key w 0 c w hv (by omega) (by omega)
  rw [List.drop_zero, show (decide (0 < 0) && (c.countP (· ≤ 0 - 1) % 2 == 1)) = false from by simp] at h
  unfold changes
  rw [h]
  exact List.filter_eq_self.2 fun x _ => by simp
/-- all pixels turned -/
theorem chg_not : ∀ (l : List Bool) (p : Bool) (i : Nat), chg (!p) i (l.map (!·)) = chg p i l
  | [], p, i => rfl
  | b :: l, p, i => by
    rw [List.map_cons, chg, chg, chg_not l b (i + 1)]
    by_cases h : b = p
    · rw [if_pos h, if_pos (by rw [h])]
    · rw [if_neg h, if_neg (by cases b <;> cases p <;> simp_all)]
theorem changes_not (b : Bool) (l : List Bool) : changes ((b :: l).map (!·)) = if b then chg b 1 l else 0 :: chg b 1 l := by
  have h := chg_not (b :: l) true 0
  unfold changes
  show chg (!true) 0 _ = _
  rw [h, chg]
theorem changes_cons (b : Bool) (l : List Bool) : changes (b :: l) = if b then 0 :: chg b 1 l else chg b 1 l := by
  unfold changes
  rw [chg]
  cases b <;> simp
/-- the lengths of runs, from a place on -/
def lensL (p : Nat) : List Nat → Nat → List Nat
  | [], w => [w - p]
  | x :: c, w => (x - p) :: lensL x c w
theorem lensL_length : ∀ (c : List Nat) (p w : Nat), (lensL p c w).length = c.length + 1
  | [], p, w => rfl
  | x :: c, p, w => by rw [lensL, List.length_cons, lensL_length c x w, List.length_cons]
end Go.Proofs.YtmbfgejephgojaaGreatDoor.Rn
/- Rows of white and black, more in plain words: a row as it grows, places toggled, runs and their pixels, the next change to a colour; no program in sight. -/
namespace Go.Proofs.YtmbfgejephgojaaGreatDoor.Rn
open Go.Proofs.YtmbfgejephgojaaGreatDoor.Bit
set_option linter.unusedVariables false
set_option linter.unusedSimpArgs false

/-- the last pixel, or the one before the first -/
def lastP (p : Bool) : List Bool → Bool
  | [] => p
  | b :: l => lastP b l
theorem lastP_append : ∀ (l m : List Bool) (p : Bool), lastP p (l ++ m) = lastP (lastP p l) m
  | [], m, p => rfl
  | b :: l, m, p => lastP_append l m b
theorem chg_append : ∀ (l m : List Bool) (p : Bool) (i : Nat), chg p i (l ++ m) = chg p i l ++ chg (lastP p l) (i + l.length) m
  | [], m, p, i => by simp [chg, lastP]
  | b :: l, m, p, i => by
    rw [List.cons_append, chg, chg, chg_append l m b (i + 1), lastP, List.length_cons, show i + 1 + l.length = i + (l.length + 1) from by omega]
    split
    · rfl
    · rfl
theorem chg_same : ∀ (n : Nat) (b : Bool) (i : Nat), chg b i (List.replicate n b) = []
  | 0, b, i => rfl
  | n + 1, b, i => by rw [List.replicate_succ, chg, if_pos rfl, chg_same n b (i + 1)]
theorem lastP_same : ∀ (n : Nat) (b : Bool), lastP b (List.replicate n b) = b
  | 0, b => rfl
  | n + 1, b => by rw [List.replicate_succ, lastP, lastP_same n b]
/-- the changes of a row that is under way, the colour being known in which it goes on -/
def cur (P : List Bool) (b : Bool) : List Nat := changes (P ++ [b])
theorem cur_eq (P : List Bool) (b : Bool) : cur P b = changes P ++ (if b = lastP false P then [] else [P.length]) := by
  unfold cur changes
  rw [chg_append, Nat.zero_add, chg]
  split <;> rfl
theorem cur_nil : cur [] false = [] := rfl
/-- so many pixels more -/
theorem cur_run (P : List Bool) (b : Bool) (n : Nat) : cur (P ++ List.replicate n b) b = cur P b := by
  unfold cur
  rw [List.append_assoc, show List.replicate n b ++ [b] = [b] ++ List.replicate n b from by rw [← List.replicate_succ', List.replicate_succ]; rfl, ← List.append_assoc]
  unfold changes
  rw [chg_append, lastP_append]
  show _ ++ chg b _ (List.replicate n b) = _
  rw [chg_same, List.append_nil]
/-- a place, put behind or taken away -/
def togX (c : List Nat) (x : Nat) : List Nat := if c.getLast? = some x then c.dropLast else c ++ [x]
theorem changes_last (P : List Bool) : (changes P).getLast? ≠ some P.length := by
  intro h
  have := chg_mem P false 0 P.length (List.mem_of_getLast? h)
  omega
/-- the colour turns -/
theorem cur_flip (P : List Bool) (b : Bool) : togX (cur P b) P.length = cur P (!b) := by
  unfold togX
  rw [cur_eq, cur_eq]
  by_cases h : b = lastP false P
  · have h2 : ¬ (!b) = lastP false P := by rw [← h]; cases b <;> simp
    rw [if_pos h, if_neg h2, List.append_nil, if_neg (changes_last P)]
  · have h2 : (!b) = lastP false P := by cases b <;> cases hl : lastP false P <;> simp_all
    rw [if_neg h, if_pos h2, List.append_nil, if_pos (by simp)]
    simp
theorem cur_end (P : List Bool) (b : Bool) : changes P = if (cur P b).getLast? = some P.length then (cur P b).dropLast else cur P b := by
  rw [cur_eq]
  by_cases h : b = lastP false P
  · rw [if_pos h, List.append_nil, if_neg (changes_last P)]
  · rw [if_neg h, if_pos (by simp)]
    simp
theorem cur_valid (P : List Bool) (b : Bool) : Valid (cur P b) (P.length + 1) := by
  have := changes_valid (P ++ [b])
  rw [List.length_append, List.length_singleton] at this
  exact this
theorem lastP_count : ∀ (l : List Bool) (p : Bool) (i : Nat), lastP p l = (p ^^ ((chg p i l).length % 2 == 1))
  | [], p, i => by simp [lastP, chg]
  | b :: l, p, i => by
    rw [lastP, chg, lastP_count l b (i + 1)]
    split
    · rename_i h; rw [h]
    · rename_i h
      rw [List.length_cons]
      generalize (chg b (i + 1) l).length = n
      rcases (show n % 2 = 0 ∨ n % 2 = 1 by omega) with q | q
      · rw [show (n + 1) % 2 = 1 from by omega, q]
        cases b <;> cases p <;> simp_all
      · rw [show (n + 1) % 2 = 0 from by omega, q]
        cases b <;> cases p <;> simp_all
/-- how many places: the colour in which the row goes on -/
theorem cur_odd (P : List Bool) (b : Bool) : ((cur P b).length % 2 == 1) = b := by
  have h := lastP_count (P ++ [b]) false 0
  rw [lastP_append] at h
  have h2 : lastP (lastP false P) [b] = b := rfl
  rw [h2, Bool.false_xor] at h
  exact h.symm

/-- pixels of runs, the colours in turn -/
def pixR (b : Bool) : List Nat → List Bool
  | [] => []
  | n :: ns => List.replicate n b ++ pixR (!b) ns
theorem pixR_length : ∀ (ns : List Nat) (b : Bool), (pixR b ns).length = ns.sum
  | [], b => rfl
  | n :: ns, b => by rw [pixR, List.length_append, List.length_replicate, pixR_length ns (!b), List.sum_cons]
theorem pixR_append : ∀ (a c : List Nat) (b : Bool), pixR b (a ++ c) = pixR b a ++ pixR (if a.length % 2 = 0 then b else !b) c
  | [], c, b => by simp [pixR]
  | n :: a, c, b => by
    rw [List.cons_append, pixR, pixR, pixR_append a c (!b), List.append_assoc, List.length_cons]
    congr 2
    congr 1
    rcases (show a.length % 2 = 0 ∨ a.length % 2 = 1 by omega) with q | q
    · rw [if_pos q, if_neg (by omega)]
    · rw [if_neg (by omega), if_pos (by omega)]
      cases b <;> rfl
/-- places that rise, from one on, up to a width -/
def Rise (p : Nat) : List Nat → Nat → Prop
  | [], w => p ≤ w
  | x :: c, w => p ≤ x ∧ Rise x c w
theorem Rise.le : ∀ {c : List Nat} {p w : Nat}, Rise p c w → p ≤ w
  | [], p, w, h => h
  | x :: c, p, w, h => Nat.le_trans h.1 h.2.le
theorem rise_of : ∀ {c : List Nat} {w : Nat} (p : Nat), Valid c w → (∀ x ∈ c, p ≤ x) → p ≤ w → Rise p c w
  | [], w, p, hv, hp, hw => hw
  | x :: c, w, p, hv, hp, hw => by
    obtain ⟨h1, h2⟩ := hv
    have h3 := List.pairwise_cons.1 h1
    exact ⟨hp x (by simp), rise_of x ⟨h3.2, fun y hy => h2 y (by simp [hy])⟩ (fun y hy => by have := h3.1 y hy; omega) (by have := h2 x (by simp); omega)⟩
theorem lens_sum : ∀ {c : List Nat} {p w : Nat}, Rise p c w → p + (lensL p c w).sum = w
  | [], p, w, h => by have : p ≤ w := h; simp [lensL]; omega
  | x :: c, p, w, h => by
    have := lens_sum h.2
    have h1 := h.1
    rw [lensL, List.sum_cons]
    omega
theorem lens_take : ∀ {c : List Nat} {p w i : Nat} (h : Rise p c w) (hi : i < c.length), p + ((lensL p c w).take (i + 1)).sum = c[i]
  | [], p, w, i, h, hi => by simp at hi
  | x :: c, p, w, 0, h, hi => by
    have h1 := h.1
    simp [lensL]
    omega
  | x :: c, p, w, i + 1, h, hi => by
    have h1 := h.1
    have := lens_take (i := i) h.2 (by simpa using hi)
    rw [lensL, List.take_succ_cons, List.sum_cons, List.getElem_cons_succ, ← this]
    omega
/-- the runs of a row are its pixels -/
theorem pix_runs : ∀ (l : List Bool) (p : Bool) (i : Nat), List.replicate (match chg p i l with | [] => 0 | x :: _ => 0) p ++ [] = ([] : List Bool) ∧ pixR p (lensL i (chg p i l) (i + l.length)) = l
  | [], p, i => ⟨by simp [chg], by simp [chg, lensL, pixR]⟩
  | b :: l, p, i => by
    refine ⟨by split <;> simp, ?_⟩
    have ih := (pix_runs l b (i + 1)).2
    have hm := fun x hx => (chg_mem l b (i + 1) x hx).1
    rw [chg, List.length_cons, show i + (l.length + 1) = i + 1 + l.length from by omega]
    -- one pixel more ahead of the first run
    have ahead : ∀ (c : List Nat) (w : Nat), (∀ x ∈ c, i + 1 ≤ x) → i + 1 ≤ w → pixR b (lensL i c w) = b :: pixR b (lensL (i + 1) c w) := by
      intro c w hc hw
      cases c with
      | nil =>
        rw [lensL, lensL, pixR, pixR, show w - i = (w - (i + 1)) + 1 from by omega, List.replicate_succ]
        rfl
      | cons y c =>
        have := hc y (by simp)
        rw [lensL, lensL, pixR, pixR, show y - i = (y - (i + 1)) + 1 from by omega, List.replicate_succ]
        rfl
    split
    · rename_i h
      rw [← h, ahead _ _ hm (by omega), ih]
    · rename_i h
      have hb : (!p) = b := by cases b <;> cases p <;> simp_all
      rw [lensL, Nat.sub_self, pixR, List.replicate_zero, List.nil_append, hb, ahead _ _ hm (by omega), ih]
theorem row_runs (l : List Bool) : pixR false (lensL 0 (changes l) l.length) = l := by
  have := (pix_runs l false 0).2
  rwa [Nat.zero_add] at this

/-- the next change to a colour, not ahead of a place, and the one behind it -/
def nextF (w : Nat) : List Nat → Bool → Nat → Nat × Nat
  | [], _, _ => (w, w)
  | x :: c, b, a => if a ≤ x ∧ b = true then (x, c.headD w) else nextF w c (!b) a
/-- of all changes: the first one is to black -/
def nextX (w : Nat) (c : List Nat) (black : Bool) (a : Nat) : Nat × Nat := nextF w c black a
end Go.Proofs.YtmbfgejephgojaaGreatDoor.Rn
/- Rows told by their lengths and by the row above, in plain words; what is told is read; no program in sight. -/
namespace Go.Proofs.YtmbfgejephgojaaGreatDoor.Mh
open Go.Proofs.YtmbfgejephgojaaGreatDoor.Bit Go.Proofs.YtmbfgejephgojaaGreatDoor.Hf Go.Proofs.YtmbfgejephgojaaGreatDoor.Inf Go.Proofs.YtmbfgejephgojaaGreatDoor.Fx Go.Proofs.YtmbfgejephgojaaGreatDoor.Rn
set_option linter.unusedVariables false
set_option linter.unusedSimpArgs false
set_option maxRecDepth 100000

/-- runs, told one behind the other -/
def tellR (b : Bool) : List Nat → List Bool
  | [] => []
  | n :: ns => tellF b n ++ tellR (!b) ns
/-- a row by its lengths -/
def rowF (X : List Bool) : List Bool := tellR false (lensL 0 (changes X) X.length)
/-- a row by its lengths, read: the place behind it, and the pixels or the error -/
def readRowR (L : List Bool) (w : Nat) : Nat → Nat → List Bool → Bool → Nat × Except Nat (List Bool)
  | 0, at_, _, _ => (at_, .error 0)
  | f + 1, at_, P, b => match (lenA b L (w - P.length) at_ 0).2 with
    | .error e => ((lenA b L (w - P.length) at_ 0).1, .error e)
    | .ok n => if P.length + n = w then ((lenA b L (w - P.length) at_ 0).1, .ok (P ++ List.replicate n b))
      else readRowR L w f (lenA b L (w - P.length) at_ 0).1 (P ++ List.replicate n b) (!b)
theorem lenR_lt (b : Bool) (L : List Bool) (most : Nat) : ∀ (f at_ n : Nat), at_ ≤ L.length → (lenR b L most f at_ n).1 ≤ L.length ∧ at_ ≤ (lenR b L most f at_ n).1 ∧ ∀ m, (lenR b L most f at_ n).2 = .ok m → at_ < (lenR b L most f at_ n).1 ∧ m ≤ most
  | 0, at_, n, ha => ⟨ha, Nat.le_refl _, fun m h => by cases h⟩
  | f + 1, at_, n, ha => by
    have hle := lookP_le (wordsF b) (L.drop at_) []
    rw [List.length_nil, List.length_drop] at hle
    rw [lenR]
    rcases hx : (lookP (wordsF b) [] (L.drop at_)).2 with e | i
    · exact ⟨by show at_ + _ ≤ _; omega, by show at_ ≤ at_ + _; omega, fun m h => by cases h⟩
    · have hd : L.drop at_ ≠ [] := by
        intro hd
        rw [hd] at hx
        cases hx
      have h3 := hle.2.2 hd
      simp only
      split
      · exact ⟨by show at_ + _ ≤ _; omega, by show at_ ≤ at_ + _; omega, fun m h => by cases h⟩
      · rename_i hm
        split
        · exact ⟨by show at_ + _ ≤ _; omega, by show at_ ≤ at_ + _; omega, fun m h => ⟨by show at_ < at_ + _; omega, by injection h with h; omega⟩⟩
        · obtain ⟨h4, h5, h6⟩ := lenR_lt b L most f (at_ + (lookP (wordsF b) [] (L.drop at_)).1) (n + lenF i) (by omega)
          exact ⟨h4, by omega, fun m h => ⟨by have := (h6 m h).1; omega, (h6 m h).2⟩⟩
theorem lenA_lt (b : Bool) {L : List Bool} {most at_ n : Nat} (ha : at_ ≤ L.length) : (lenA b L most at_ n).1 ≤ L.length ∧ at_ ≤ (lenA b L most at_ n).1 ∧ ∀ m, (lenA b L most at_ n).2 = .ok m → at_ < (lenA b L most at_ n).1 ∧ m ≤ most := lenR_lt b L most _ at_ n ha
theorem readRow_fuel (L : List Bool) (w : Nat) : ∀ (f g at_ : Nat) (P : List Bool) (b : Bool), L.length + 1 ≤ f + at_ → L.length + 1 ≤ g + at_ → at_ ≤ L.length → readRowR L w f at_ P b = readRowR L w g at_ P b
  | 0, g, at_, P, b, hf, hg, ha => by omega
  | f + 1, 0, at_, P, b, hf, hg, ha => by omega
  | f + 1, g + 1, at_, P, b, hf, hg, ha => by
    rw [readRowR, readRowR]
    obtain ⟨h1, h2, h3⟩ := lenA_lt b (most := w - P.length) (n := 0) ha
    rcases hx : (lenA b L (w - P.length) at_ 0).2 with e | n
    · rfl
    · have := (h3 n hx).1
      simp only
      split
      · rfl
      · exact readRow_fuel L w f g _ _ _ (by omega) (by omega) h1
def readRowA (L : List Bool) (w at_ : Nat) (P : List Bool) (b : Bool) : Nat × Except Nat (List Bool) := readRowR L w (L.length + 1 - at_) at_ P b
/-- one run more -/
theorem readRowA_eq (L : List Bool) (w at_ : Nat) (P : List Bool) (b : Bool) (ha : at_ ≤ L.length) : readRowA L w at_ P b = match (lenA b L (w - P.length) at_ 0).2 with
    | .error e => ((lenA b L (w - P.length) at_ 0).1, .error e)
    | .ok n => if P.length + n = w then ((lenA b L (w - P.length) at_ 0).1, .ok (P ++ List.replicate n b))
      else readRowA L w (lenA b L (w - P.length) at_ 0).1 (P ++ List.replicate n b) (!b) := by
  unfold readRowA
  rw [show L.length + 1 - at_ = (L.length - at_) + 1 from by omega, readRowR]
  obtain ⟨h1, h2, h3⟩ := lenA_lt b (most := w - P.length) (n := 0) ha
  rcases hx : (lenA b L (w - P.length) at_ 0).2 with e | n
  · rfl
  · have := (h3 n hx).1
    simp only
    split
    · rfl
    · exact readRow_fuel L w _ _ _ _ _ (by omega) (by omega) h1
/-- runs that are told are read -/
theorem readRow_told {L r : List Bool} {w : Nat} : ∀ (ns : List Nat) {at_ : Nat} {P : List Bool} {b : Bool}, ns ≠ [] → L.drop at_ = tellR b ns ++ r → at_ ≤ L.length → P.length + ns.sum = w → (∀ i, i < ns.length → P.length + (ns.take i).sum < w) →
    readRowA L w at_ P b = (at_ + (tellR b ns).length, .ok (P ++ pixR b ns))
  | [], at_, P, b, h0, h, ha, hs, hp => absurd rfl h0
  | n :: ns, at_, P, b, h0, h, ha, hs, hp => by
    rw [List.sum_cons] at hs
    rw [tellR, List.append_assoc] at h
    have hr := read_tell b (most := w - P.length) h ha (by omega)
    rw [readRowA_eq L w at_ P b ha, hr]
    simp only
    by_cases hn : ns = []
    · subst hn
      rw [if_pos (by simpa using hs), tellR, tellR, pixR, pixR, List.append_nil, List.append_nil]
    · have hlt := hp 1 (by have := List.length_pos_iff.2 hn; rw [List.length_cons]; omega)
      rw [List.take_succ_cons, List.take_zero, List.sum_cons, List.sum_nil, Nat.add_zero] at hlt
      rw [if_neg (by omega)]
      obtain ⟨h1, h2⟩ := drop_more h ha
      have ih := readRow_told (w := w) ns (P := P ++ List.replicate n b) (b := !b) hn h1 h2 (by rw [List.length_append, List.length_replicate]; omega) (fun i hi => by
        have := hp (i + 1) (by rw [List.length_cons]; omega)
        rw [List.take_succ_cons, List.sum_cons] at this
        rw [List.length_append, List.length_replicate]
        omega)
      rw [ih, tellR, pixR, List.length_append, List.append_assoc]
      congr 1
      omega
/-- a row that is told by its lengths is read -/
theorem read_row {L r X : List Bool} {at_ : Nat} (hX : 0 < X.length) (h : L.drop at_ = rowF X ++ r) (ha : at_ ≤ L.length) : readRowA L X.length at_ [] false = (at_ + (rowF X).length, .ok X) := by
  have hv := changes_valid X
  have hr := rise_of 0 hv (fun x _ => Nat.zero_le _) (Nat.zero_le _)
  have hs := lens_sum hr
  have hl := lensL_length (changes X) 0 X.length
  have := readRow_told (w := X.length) (lensL 0 (changes X) X.length) (P := []) (b := false) (fun e => by rw [e] at hl; simp at hl) h ha (by simpa using hs) (fun i hi => by
    rw [hl] at hi
    rw [List.length_nil]
    cases i with
    | zero => simpa using hX
    | succ i =>
      rw [lens_take hr (show i < (changes X).length by omega)]
      exact hv.2 _ (List.getElem_mem _))
  rw [this, List.nil_append, row_runs]
  rfl
end Go.Proofs.YtmbfgejephgojaaGreatDoor.Mh
/- Rows told by the row above, in plain words; what is told is read; no program in sight. -/
namespace Go.Proofs.YtmbfgejephgojaaGreatDoor.Mh
open Go.Proofs.YtmbfgejephgojaaGreatDoor.Bit Go.Proofs.YtmbfgejephgojaaGreatDoor.Hf Go.Proofs.YtmbfgejephgojaaGreatDoor.Inf Go.Proofs.YtmbfgejephgojaaGreatDoor.Fx Go.Proofs.YtmbfgejephgojaaGreatDoor.Rn
set_option linter.unusedVariables false
set_option linter.unusedSimpArgs false
set_option maxRecDepth 100000

/-- the next change to the other colour, and the one behind it; a: the place behind the one that is reached -/
abbrev nx (w : Nat) (c : List Nat) (b : Bool) (a : Nat) : Nat × Nat := nextX w c (!b) a
theorem nextF_ge (w : Nat) : ∀ (c : List Nat) (b : Bool) (a : Nat), a ≤ w → (∀ x ∈ c, x < w) → a ≤ (nextF w c b a).1 ∧ (nextF w c b a).1 ≤ w ∧ (nextF w c b a).2 ≤ w
  | [], b, a, h, hc => ⟨h, Nat.le_refl _, Nat.le_refl _⟩
  | x :: c, b, a, h, hc => by
    have hx := hc x (by simp)
    rw [nextF]
    split
    · rename_i q
      refine ⟨q.1, by show x ≤ w; omega, ?_⟩
      cases c with
      | nil => exact Nat.le_refl _
      | cons y c => have := hc y (by simp); show y ≤ w; omega
    · exact nextF_ge w c (!b) a h (fun y hy => hc y (by simp [hy]))
theorem nextF_le (w : Nat) : ∀ (c : List Nat) (b : Bool) (a : Nat), Valid c w → (nextF w c b a).1 ≤ (nextF w c b a).2
  | [], b, a, h => Nat.le_refl _
  | x :: c, b, a, h => by
    have hp := List.pairwise_cons.1 h.1
    rw [nextF]
    split
    · cases c with
      | nil => have := h.2 x (by simp); show x ≤ w; omega
      | cons y c => have := hp.1 y (by simp); show x ≤ y; omega
    · exact nextF_le w c (!b) a ⟨hp.2, fun y hy => h.2 y (by simp [hy])⟩
/-- what is ahead is passed over; what is behind is found -/
theorem nextF_split (w : Nat) (d : List Nat) (a : Nat) (hd : ∀ x ∈ d, a ≤ x) : ∀ (c : List Nat) (b : Bool), (∀ x ∈ c, x < a) → (b = (c.length % 2 == 0)) → nextF w (c ++ d) b a = (d.headD w, d.tail.headD w)
  | [], b, hc, hb => by
    have hb' : b = true := hb
    subst hb'
    cases d with
    | nil => rfl
    | cons x d =>
      rw [List.nil_append, nextF, if_pos ⟨hd x (by simp), rfl⟩]
      rfl
  | x :: c, b, hc, hb => by
    have hx := hc x (by simp)
    rw [List.cons_append, nextF, if_neg (by omega)]
    refine nextF_split w d a hd c (!b) (fun y hy => hc y (by simp [hy])) ?_
    rw [hb, List.length_cons]
    rcases (show c.length % 2 = 0 ∨ c.length % 2 = 1 by omega) with q | q
    · rw [q, show (c.length + 1) % 2 = 1 from by omega]; rfl
    · rw [q, show (c.length + 1) % 2 = 0 from by omega]; rfl

/-- a row by the row above: from a place on -/
def againstR (c top : List Nat) (w : Nat) : Nat → Nat → Bool → List Bool
  | 0, _, _ => []
  | f + 1, a, b => if w < a then []
    else if (nx w top b a).2 < (nx w c b a).1 then modesF.getD 8 [] ++ againstR c top w f ((nx w top b a).2 + 1) b
    else if (nx w c b a).1 ≤ (nx w top b a).1 + 3 ∧ (nx w top b a).1 ≤ (nx w c b a).1 + 3 then modesF.getD ((nx w c b a).1 + 3 - (nx w top b a).1) [] ++ againstR c top w f ((nx w c b a).1 + 1) (!b)
    else modesF.getD 7 [] ++ (tellF b ((nx w c b a).1 - (a - 1)) ++ (tellF (!b) ((nx w c b a).2 - (nx w c b a).1) ++ againstR c top w f ((nx w c b a).2 + 1) b))
theorem against_fuel {c top : List Nat} {w : Nat} (hc : Valid c w) (ht : Valid top w) : ∀ (f g a : Nat) (b : Bool), w + 2 ≤ f + a → w + 2 ≤ g + a → againstR c top w f a b = againstR c top w g a b
  | 0, 0, a, b, hf, hg => rfl
  | 0, g + 1, a, b, hf, hg => by rw [againstR, againstR, if_pos (by omega)]
  | f + 1, 0, a, b, hf, hg => by rw [againstR, againstR, if_pos (by omega)]
  | f + 1, g + 1, a, b, hf, hg => by
    rw [againstR, againstR]
    split
    · rfl
    · rename_i hw
      have h1 := nextF_ge w c (!b) a (by omega) hc.2
      have h2 := nextF_ge w top (!b) a (by omega) ht.2
      have h3 := nextF_le w c (!b) a hc
      have h4 := nextF_le w top (!b) a ht
      have e1 : nx w c b a = nextF w c (!b) a := rfl
      have e2 : nx w top b a = nextF w top (!b) a := rfl
      rw [e1, e2]
      split
      · rw [against_fuel hc ht f g _ _ (by omega) (by omega)]
      · split
        · rw [against_fuel hc ht f g _ _ (by omega) (by omega)]
        · rw [against_fuel hc ht f g _ _ (by omega) (by omega)]
def againstA (c top : List Nat) (w a : Nat) (b : Bool) : List Bool := againstR c top w (w + 2 - a) a b
theorem againstA_end {c top : List Nat} {w a : Nat} (b : Bool) (h : w < a) : againstA c top w a b = [] := by
  unfold againstA
  rcases hf : w + 2 - a with _ | f
  · rfl
  · rw [againstR, if_pos h]
/-- one mode more -/
theorem againstA_eq {c top : List Nat} {w a : Nat} (hc : Valid c w) (ht : Valid top w) (b : Bool) (h : a ≤ w) : againstA c top w a b =
    if (nx w top b a).2 < (nx w c b a).1 then modesF.getD 8 [] ++ againstA c top w ((nx w top b a).2 + 1) b
    else if (nx w c b a).1 ≤ (nx w top b a).1 + 3 ∧ (nx w top b a).1 ≤ (nx w c b a).1 + 3 then modesF.getD ((nx w c b a).1 + 3 - (nx w top b a).1) [] ++ againstA c top w ((nx w c b a).1 + 1) (!b)
    else modesF.getD 7 [] ++ (tellF b ((nx w c b a).1 - (a - 1)) ++ (tellF (!b) ((nx w c b a).2 - (nx w c b a).1) ++ againstA c top w ((nx w c b a).2 + 1) b)) := by
  unfold againstA
  rw [show w + 2 - a = (w + 1 - a) + 1 from by omega, againstR, if_neg (by omega)]
  have h1 := nextF_ge w c (!b) a h hc.2
  have h2 := nextF_ge w top (!b) a h ht.2
  have h3 := nextF_le w c (!b) a hc
  have h4 := nextF_le w top (!b) a ht
  have e1 : nx w c b a = nextF w c (!b) a := rfl
  have e2 : nx w top b a = nextF w top (!b) a := rfl
  rw [e1, e2]
  split
  · rw [against_fuel hc ht _ (w + 2 - ((nextF w top (!b) a).2 + 1)) _ _ (by omega) (by omega)]
  · split
    · rw [against_fuel hc ht _ (w + 2 - ((nextF w c (!b) a).1 + 1)) _ _ (by omega) (by omega)]
    · rw [against_fuel hc ht _ (w + 2 - ((nextF w c (!b) a).2 + 1)) _ _ (by omega) (by omega)]
/-- a row by the row above, read: the place behind it, and the pixels or the error -/
def readGR (L : List Bool) (top : List Nat) (w : Nat) : Nat → Nat → Nat → List Bool → Bool → Nat × Except Nat (List Bool)
  | 0, at_, _, _, _ => (at_, .error 0)
  | f + 1, at_, a, P, b => if w < a then (at_, .ok P)
    else match (lookP modesF [] (L.drop at_)).2 with
    | .error e => (at_ + (lookP modesF [] (L.drop at_)).1, .error e)
    | .ok i =>
      if i = 9 then (at_ + (lookP modesF [] (L.drop at_)).1, .error 9)
      else if i = 8 then readGR L top w f (at_ + (lookP modesF [] (L.drop at_)).1) ((nx w top b a).2 + 1) (P ++ List.replicate ((nx w top b a).2 - P.length) b) b
      else if i = 7 then match (lenA b L (w - P.length) (at_ + (lookP modesF [] (L.drop at_)).1) 0).2 with
        | .error e => ((lenA b L (w - P.length) (at_ + (lookP modesF [] (L.drop at_)).1) 0).1, .error e)
        | .ok n => match (lenA (!b) L (w - (P.length + n)) (lenA b L (w - P.length) (at_ + (lookP modesF [] (L.drop at_)).1) 0).1 0).2 with
          | .error e => ((lenA (!b) L (w - (P.length + n)) (lenA b L (w - P.length) (at_ + (lookP modesF [] (L.drop at_)).1) 0).1 0).1, .error e)
          | .ok m => readGR L top w f (lenA (!b) L (w - (P.length + n)) (lenA b L (w - P.length) (at_ + (lookP modesF [] (L.drop at_)).1) 0).1 0).1 (P.length + n + m + 1) (P ++ List.replicate n b ++ List.replicate m (!b)) b
      else if a + 3 ≤ (nx w top b a).1 + i ∧ (nx w top b a).1 + i ≤ w + 3 then
        readGR L top w f (at_ + (lookP modesF [] (L.drop at_)).1) ((nx w top b a).1 + i - 3 + 1) (P ++ List.replicate ((nx w top b a).1 + i - 3 - P.length) b) (!b)
      else (at_ + (lookP modesF [] (L.drop at_)).1, .error 3)
theorem mode_lt {L : List Bool} {at_ i : Nat} (ha : at_ ≤ L.length) (h : (lookP modesF [] (L.drop at_)).2 = .ok i) : at_ < at_ + (lookP modesF [] (L.drop at_)).1 ∧ at_ + (lookP modesF [] (L.drop at_)).1 ≤ L.length := by
  have hle := lookP_le modesF (L.drop at_) []
  rw [List.length_nil, List.length_drop] at hle
  have hd : L.drop at_ ≠ [] := by
    intro hd
    rw [hd] at h
    cases h
  have h3 := hle.2.2 hd
  omega
theorem readG_fuel (L : List Bool) (top : List Nat) (w : Nat) : ∀ (f g at_ a : Nat) (P : List Bool) (b : Bool), L.length + 2 ≤ f + at_ → L.length + 2 ≤ g + at_ → at_ ≤ L.length → readGR L top w f at_ a P b = readGR L top w g at_ a P b
  | 0, g, at_, a, P, b, hf, hg, ha => by omega
  | f + 1, 0, at_, a, P, b, hf, hg, ha => by omega
  | f + 1, g + 1, at_, a, P, b, hf, hg, ha => by
    rw [readGR, readGR]
    split
    · rfl
    · rcases hx : (lookP modesF [] (L.drop at_)).2 with e | i
      · rfl
      · obtain ⟨h1, h2⟩ := mode_lt ha hx
        simp only
        split
        · rfl
        · split
          · exact readG_fuel L top w f g _ _ _ _ (by omega) (by omega) h2
          · split
            · obtain ⟨h4, h5, h6⟩ := lenA_lt b (most := w - P.length) (n := 0) h2
              rcases hy : (lenA b L (w - P.length) (at_ + (lookP modesF [] (L.drop at_)).1) 0).2 with e | n
              · rfl
              · simp only
                obtain ⟨h7, h8, h9⟩ := lenA_lt (!b) (most := w - (P.length + n)) (n := 0) h4
                rcases hz : (lenA (!b) L (w - (P.length + n)) (lenA b L (w - P.length) (at_ + (lookP modesF [] (L.drop at_)).1) 0).1 0).2 with e | m
                · rfl
                · exact readG_fuel L top w f g _ _ _ _ (by omega) (by omega) h7
            · split
              · exact readG_fuel L top w f g _ _ _ _ (by omega) (by omega) h2
              · rfl
def readGA (L : List Bool) (top : List Nat) (w at_ a : Nat) (P : List Bool) (b : Bool) : Nat × Except Nat (List Bool) := readGR L top w (L.length + 2 - at_) at_ a P b
/-- one mode more -/
theorem readGA_eq (L : List Bool) (top : List Nat) (w at_ a : Nat) (P : List Bool) (b : Bool) (ha : at_ ≤ L.length) : readGA L top w at_ a P b =
    if w < a then (at_, .ok P)
    else match (lookP modesF [] (L.drop at_)).2 with
    | .error e => (at_ + (lookP modesF [] (L.drop at_)).1, .error e)
    | .ok i =>
      if i = 9 then (at_ + (lookP modesF [] (L.drop at_)).1, .error 9)
      else if i = 8 then readGA L top w (at_ + (lookP modesF [] (L.drop at_)).1) ((nx w top b a).2 + 1) (P ++ List.replicate ((nx w top b a).2 - P.length) b) b
      else if i = 7 then match (lenA b L (w - P.length) (at_ + (lookP modesF [] (L.drop at_)).1) 0).2 with
        | .error e => ((lenA b L (w - P.length) (at_ + (lookP modesF [] (L.drop at_)).1) 0).1, .error e)
        | .ok n => match (lenA (!b) L (w - (P.length + n)) (lenA b L (w - P.length) (at_ + (lookP modesF [] (L.drop at_)).1) 0).1 0).2 with
          | .error e => ((lenA (!b) L (w - (P.length + n)) (lenA b L (w - P.length) (at_ + (lookP modesF [] (L.drop at_)).1) 0).1 0).1, .error e)
          | .ok m => readGA L top w (lenA (!b) L (w - (P.length + n)) (lenA b L (w - P.length) (at_ + (lookP modesF [] (L.drop at_)).1) 0).1 0).1 (P.length + n + m + 1) (P ++ List.replicate n b ++ List.replicate m (!b)) b
      else if a + 3 ≤ (nx w top b a).1 + i ∧ (nx w top b a).1 + i ≤ w + 3 then
        readGA L top w (at_ + (lookP modesF [] (L.drop at_)).1) ((nx w top b a).1 + i - 3 + 1) (P ++ List.replicate ((nx w top b a).1 + i - 3 - P.length) b) (!b)
      else (at_ + (lookP modesF [] (L.drop at_)).1, .error 3) := by
  unfold readGA
  rw [show L.length + 2 - at_ = (L.length + 1 - at_) + 1 from by omega, readGR]
  split
  · rfl
  · rcases hx : (lookP modesF [] (L.drop at_)).2 with e | i
    · rfl
    · obtain ⟨h1, h2⟩ := mode_lt ha hx
      simp only
      split
      · rfl
      · split
        · exact readG_fuel L top w _ _ _ _ _ _ (by omega) (by omega) h2
        · split
          · obtain ⟨h4, h5, h6⟩ := lenA_lt b (most := w - P.length) (n := 0) h2
            rcases hy : (lenA b L (w - P.length) (at_ + (lookP modesF [] (L.drop at_)).1) 0).2 with e | n
            · rfl
            · simp only
              obtain ⟨h7, h8, h9⟩ := lenA_lt (!b) (most := w - (P.length + n)) (n := 0) h4
              rcases hz : (lenA (!b) L (w - (P.length + n)) (lenA b L (w - P.length) (at_ + (lookP modesF [] (L.drop at_)).1) 0).1 0).2 with e | m
              · rfl
              · exact readG_fuel L top w _ _ _ _ _ _ (by omega) (by omega) h7
          · split
            · exact readG_fuel L top w _ _ _ _ _ _ (by omega) (by omega) h2
            · rfl
end Go.Proofs.YtmbfgejephgojaaGreatDoor.Mh
/- A row that is told by the row above is read; no program in sight. -/
namespace Go.Proofs.YtmbfgejephgojaaGreatDoor.Mh
open Go.Proofs.YtmbfgejephgojaaGreatDoor.Bit Go.Proofs.YtmbfgejephgojaaGreatDoor.Hf Go.Proofs.YtmbfgejephgojaaGreatDoor.Inf Go.Proofs.YtmbfgejephgojaaGreatDoor.Fx Go.Proofs.YtmbfgejephgojaaGreatDoor.Rn
set_option linter.unusedVariables false
set_option linter.unusedSimpArgs false
set_option maxRecDepth 100000

/-- a place and a colour on the way through a row: d are the changes that are ahead -/
def On (c : List Nat) (a : Nat) (b : Bool) (d : List Nat) : Prop := ∃ c1, c = c1 ++ d ∧ (∀ x ∈ c1, x < a) ∧ (∀ x ∈ d, a ≤ x) ∧ b = (c1.length % 2 == 1)
theorem On.start (c : List Nat) : On c 0 false c := ⟨[], rfl, by simp, fun x _ => Nat.zero_le _, rfl⟩
theorem On.nx {c d : List Nat} {w a : Nat} {b : Bool} (h : On c a b d) : Mh.nx w c b a = (d.headD w, d.tail.headD w) := by
  obtain ⟨c1, rfl, h1, h2, h3⟩ := h
  refine nextF_split w d a h2 c1 (!b) h1 ?_
  rw [h3]
  rcases (show c1.length % 2 = 0 ∨ c1.length % 2 = 1 by omega) with q | q <;> rw [q] <;> rfl
theorem On.flip {c d : List Nat} {w a x : Nat} {b : Bool} (h : On c a b (x :: d)) (hv : Valid c w) : On c (x + 1) (!b) d := by
  obtain ⟨c1, rfl, h1, h2, h3⟩ := h
  have hp := (List.pairwise_append.1 hv.1).2.1
  have hq := List.pairwise_cons.1 hp
  refine ⟨c1 ++ [x], by simp, fun y hy => ?_, fun y hy => hq.1 y hy, ?_⟩
  · rcases List.mem_append.1 hy with hy | hy
    · have := h1 y hy; have := h2 x (by simp); omega
    · have : y = x := by simpa using hy
      omega
  · rw [List.length_append, List.length_singleton, h3]
    rcases (show c1.length % 2 = 0 ∨ c1.length % 2 = 1 by omega) with q | q
    · rw [q, show (c1.length + 1) % 2 = 1 from by omega]; rfl
    · rw [q, show (c1.length + 1) % 2 = 0 from by omega]; rfl
theorem On.head {c d : List Nat} {w a : Nat} {b : Bool} (h : On c a b d) (hv : Valid c w) (ha : a ≤ w) : a ≤ d.headD w ∧ d.headD w ≤ w ∧ ∀ x ∈ d, d.headD w ≤ x := by
  obtain ⟨c1, rfl, h1, h2, h3⟩ := h
  have hp := (List.pairwise_append.1 hv.1).2.1
  cases d with
  | nil => exact ⟨ha, Nat.le_refl _, fun x hx => by cases hx⟩
  | cons x d =>
    have hq := List.pairwise_cons.1 hp
    have hw := hv.2 x (by simp)
    refine ⟨h2 x (by simp), by show x ≤ w; omega, fun y hy => ?_⟩
    rcases List.mem_cons.1 hy with rfl | hy
    · exact Nat.le_refl _
    · have := hq.1 y hy; show x ≤ y; omega
theorem On.pass {c d : List Nat} {w a y : Nat} {b : Bool} (h : On c a b d) (hv : Valid c w) (ha : a ≤ w) (hy : a ≤ y + 1) (hd : y < d.headD w) : On c (y + 1) b d := by
  have hh := (h.head hv ha).2.2
  obtain ⟨c1, hc, h1, h2, h3⟩ := h
  exact ⟨c1, hc, fun x hx => by have := h1 x hx; omega, fun x hx => by have := hh x hx; omega, h3⟩
/-- up to the next change the pixels are of the colour -/
theorem On.take {X : List Bool} {d : List Nat} {a y : Nat} {b : Bool} (h : On (changes X) a b d) (ha : a ≤ X.length) (hy : a - 1 ≤ y) (hd : y ≤ d.headD X.length) : X.take y = X.take (a - 1) ++ List.replicate (y - (a - 1)) b := by
  have hv := changes_valid X
  obtain ⟨g1, g2, g3⟩ := h.head hv ha
  obtain ⟨c1, hc, h1, h2, h3⟩ := h
  apply List.ext_getElem
  · rw [List.length_append, List.length_take, List.length_take, List.length_replicate]; omega
  · intro j hj hj2
    rw [List.length_take] at hj
    rw [List.getElem_take]
    by_cases hja : j < a - 1
    · rw [List.getElem_append_left (by rw [List.length_take]; omega), List.getElem_take]
    · rw [List.getElem_append_right (by rw [List.length_take]; omega), List.getElem_replicate]
      have hx := pix_changes X
      have hjx : j < X.length := by omega
      have e : X[j] = (pix (changes X) X.length)[j]'(by rw [hx]; exact hjx) := by
        have this : (pix (changes X) X.length)[j]? = X[j]? := by rw [hx]
        rw [List.getElem?_eq_getElem hjx, List.getElem?_eq_getElem (by rw [hx]; exact hjx)] at this
        exact (Option.some.inj this).symm
      rw [e, pix_get, hc, List.countP_append]
      have k1 : c1.countP (· ≤ j) = c1.length := List.countP_eq_length.2 fun x hx => by have := h1 x hx; simp; omega
      have k2 : d.countP (· ≤ j) = 0 := List.countP_eq_zero.2 fun x hx => by have := g3 x hx; simp; omega
      rw [k1, k2, Nat.add_zero, ← h3]
theorem mode_there {L r : List Bool} {at_ i : Nat} (hi : i < 10) (h : L.drop at_ = modesF.getD i [] ++ r) : lookP modesF [] (L.drop at_) = ((modesF.getD i []).length, .ok i) := by
  rw [h]
  exact lookP_fre (modes_fre i hi) r
/-- a row that is told by the row above is read -/
theorem read_against_from {X L r : List Bool} {top : List Nat} (ht : Valid top X.length) : ∀ (n a at_ : Nat) (b : Bool) (d : List Nat), X.length + 1 ≤ n + a → (a ≤ X.length → On (changes X) a b d) →
    L.drop at_ = againstA (changes X) top X.length a b ++ r → at_ ≤ L.length → readGA L top X.length at_ a (X.take (a - 1)) b = (at_ + (againstA (changes X) top X.length a b).length, .ok X)
  | 0, a, at_, b, d, hn, ho, h, ha => by
    rw [readGA_eq _ _ _ _ _ _ _ ha, if_pos (by omega), againstA_end b (by omega), List.take_of_length_le (by omega)]
    rfl
  | n + 1, a, at_, b, d, hn, ho, h, ha => by
    by_cases hw : X.length < a
    · rw [readGA_eq _ _ _ _ _ _ _ ha, if_pos hw, againstA_end b hw, List.take_of_length_le (by omega)]
      rfl
    · have hw' : a ≤ X.length := by omega
      have hO := ho hw'
      have hv := changes_valid X
      have hnx := hO.nx (w := X.length)
      obtain ⟨g1, g2, g3⟩ := hO.head hv hw'
      have t1 := nextF_ge X.length top (!b) a hw' ht.2
      have t2 := nextF_le X.length top (!b) a ht
      have e2 : nx X.length top b a = nextF X.length top (!b) a := rfl
      rw [← e2] at t1 t2
      have hPl : (X.take (a - 1)).length = a - 1 := by rw [List.length_take]; omega
      rw [againstA_eq hv ht b hw', hnx] at h ⊢
      simp only at h ⊢
      rw [readGA_eq _ _ _ _ _ _ _ ha, if_neg hw]
      generalize hb : nx X.length top b a = bb at *
      obtain ⟨b1, b2⟩ := bb
      simp only at h t1 t2 ⊢
      by_cases c1 : b2 < d.headD X.length
      · rw [if_pos c1] at h ⊢
        rw [List.append_assoc] at h
        rw [mode_there (by decide) h]
        simp only
        rw [if_neg (by decide), if_pos trivial, hPl]
        obtain ⟨h1, h2⟩ := drop_more h ha
        have hPt := hO.take hw' (y := b2) (by omega) (by omega)
        rw [← hPt]
        have ih := read_against_from ht n (b2 + 1) (at_ + (modesF.getD 8 []).length) b d (by omega) (fun _ => hO.pass hv hw' (by omega) c1) h1 h2
        rw [Nat.add_sub_cancel] at ih
        rw [ih, List.length_append]
        congr 1
        omega
      · rw [if_neg c1] at h ⊢
        by_cases c2 : d.headD X.length ≤ b1 + 3 ∧ b1 ≤ d.headD X.length + 3
        · rw [if_pos c2] at h ⊢
          rw [List.append_assoc] at h
          have hi : d.headD X.length + 3 - b1 < 7 := by omega
          rw [mode_there (by omega) h]
          simp only
          rw [if_neg (by omega), if_neg (by omega), if_neg (by omega), if_pos (by omega), hPl, show b1 + (d.headD X.length + 3 - b1) - 3 = d.headD X.length from by omega]
          obtain ⟨h1, h2⟩ := drop_more h ha
          have hPt := hO.take hw' (y := d.headD X.length) (by omega) (Nat.le_refl _)
          rw [← hPt]
          have ih := read_against_from ht n (d.headD X.length + 1) (at_ + (modesF.getD (d.headD X.length + 3 - b1) []).length) (!b) d.tail (by omega) (fun q => by
            cases d with
            | nil => exact absurd q (by show ¬ X.length + 1 ≤ X.length; omega)
            | cons x d => exact hO.flip hv) h1 h2
          rw [Nat.add_sub_cancel] at ih
          rw [ih, List.length_append]
          congr 1
          omega
        · rw [if_neg c2] at h ⊢
          rw [List.append_assoc, List.append_assoc, List.append_assoc] at h
          rw [mode_there (by decide) h]
          simp only
          rw [if_neg (by decide), if_neg (by decide), if_pos trivial, hPl]
          obtain ⟨h1, h2⟩ := drop_more h ha
          rw [read_tell b h1 h2 (by omega)]
          simp only
          obtain ⟨h3, h4⟩ := drop_more h1 h2
          rw [show a - 1 + (d.headD X.length - (a - 1)) = d.headD X.length from by omega]
          -- the second run
          have hO2 : d.headD X.length < X.length → On (changes X) (d.headD X.length + 1) (!b) d.tail := fun q => by
            cases d with
            | nil => exact absurd q (by show ¬ X.length < X.length; omega)
            | cons x d => exact hO.flip hv
          have hle2 : d.headD X.length ≤ d.tail.headD X.length ∧ d.tail.headD X.length ≤ X.length := by
            by_cases q : d.headD X.length < X.length
            · have := (hO2 q).head hv q
              omega
            · cases d with
              | nil => exact ⟨Nat.le_refl _, Nat.le_refl _⟩
              | cons x d =>
                exfalso
                obtain ⟨c0, hc0, _⟩ := hO
                have := hv.2 x (by rw [hc0]; simp)
                exact q this
          rw [read_tell (!b) h3 h4 (by omega)]
          simp only
          obtain ⟨h5, h6⟩ := drop_more h3 h4
          rw [show d.headD X.length + (d.tail.headD X.length - d.headD X.length) = d.tail.headD X.length from by omega]
          have hPt := hO.take hw' (y := d.headD X.length) (by omega) (Nat.le_refl _)
          have hPt2 : X.take (d.tail.headD X.length) = X.take (d.headD X.length) ++ List.replicate (d.tail.headD X.length - d.headD X.length) (!b) := by
            by_cases q : d.headD X.length < X.length
            · have := (hO2 q).take (X := X) q (y := d.tail.headD X.length) (by omega) (Nat.le_refl _)
              rwa [Nat.add_sub_cancel] at this
            · rw [show d.tail.headD X.length = d.headD X.length from by omega, Nat.sub_self]
              simp
          rw [← hPt, ← hPt2]
          have ih := read_against_from ht n (d.tail.headD X.length + 1) _ b d.tail.tail (by omega) (fun q => by
            have q1 : d.headD X.length < X.length := by omega
            have o2 := hO2 q1
            cases hd : d.tail with
            | nil => rw [hd] at q; exact absurd q (by show ¬ X.length + 1 ≤ X.length; omega)
            | cons y e =>
              rw [hd] at o2
              have := o2.flip hv
              rw [Bool.not_not] at this
              exact this) h5 h6
          rw [Nat.add_sub_cancel] at ih
          rw [ih, List.length_append, List.length_append, List.length_append]
          congr 1
          omega
/-- a row that is told by the row above is read -/
theorem read_against {X L r : List Bool} {top : List Nat} {at_ : Nat} (ht : Valid top X.length) (h : L.drop at_ = againstA (changes X) top X.length 0 false ++ r) (ha : at_ ≤ L.length) :
    readGA L top X.length at_ 0 [] false = (at_ + (againstA (changes X) top X.length 0 false).length, .ok X) := by
  have := read_against_from ht (X.length + 1) 0 at_ false (changes X) (by omega) (fun _ => On.start _) h ha
  rwa [show X.take (0 - 1) = [] from by simp] at this
end Go.Proofs.YtmbfgejephgojaaGreatDoor.Mh
/- A row's lengths as they are counted pixel by pixel; a page's ends of lines; no program in sight. -/
namespace Go.Proofs.YtmbfgejephgojaaGreatDoor.Mh
open Go.Proofs.YtmbfgejephgojaaGreatDoor.Bit Go.Proofs.YtmbfgejephgojaaGreatDoor.Hf Go.Proofs.YtmbfgejephgojaaGreatDoor.Inf Go.Proofs.YtmbfgejephgojaaGreatDoor.Fx Go.Proofs.YtmbfgejephgojaaGreatDoor.Rn
set_option linter.unusedVariables false
set_option linter.unusedSimpArgs false
set_option maxRecDepth 100000

/-- the runs of what is ahead, so many pixels of the colour being there already -/
def runsN (b : Bool) (n : Nat) : List Bool → List Nat
  | [] => [n]
  | x :: l => if x = b then runsN b (n + 1) l else n :: runsN (!b) 1 l
theorem runsN_lens : ∀ (l : List Bool) (b : Bool) (n j : Nat), n ≤ j → runsN b n l = lensL (j - n) (chg b j l) (j + l.length)
  | [], b, n, j, h => by
    rw [runsN, chg, lensL, List.length_nil]
    congr 1
    omega
  | x :: l, b, n, j, h => by
    rw [runsN, chg, List.length_cons, show j + (l.length + 1) = j + 1 + l.length from by omega]
    by_cases hx : x = b
    · rw [if_pos hx, if_pos hx, hx, runsN_lens l b (n + 1) (j + 1) (by omega), Nat.add_sub_add_right]
    · have hb : (!b) = x := by cases b <;> cases x <;> simp_all
      rw [if_neg hx, if_neg hx, lensL, hb, runsN_lens l x 1 (j + 1) (by omega), Nat.add_sub_cancel]
      congr 1
      omega
/-- a row by its lengths, counted pixel by pixel -/
theorem rowF_runs (X : List Bool) : rowF X = tellR false (runsN false 0 X) := by
  rw [runsN_lens X false 0 0 (Nat.le_refl _), Nat.zero_add]
  rfl
/-- what is told when the pixels up to a place have been passed -/
def restR (b : Bool) (n : Nat) (l : List Bool) : List Bool := tellR b (runsN b n l)
theorem restR_nil (b : Bool) (n : Nat) : restR b n [] = tellF b n := by
  unfold restR
  rw [runsN, tellR, tellR, List.append_nil]
theorem restR_same (b : Bool) (n : Nat) (l : List Bool) : restR b n (b :: l) = restR b (n + 1) l := by
  unfold restR
  rw [runsN, if_pos rfl]
theorem restR_turn (b : Bool) (n : Nat) (l : List Bool) : restR b n ((!b) :: l) = tellF b n ++ restR (!b) 1 l := by
  unfold restR
  rw [runsN, if_neg (by cases b <;> simp), tellR]
/-- bounds: a row by its lengths is not long -/
theorem tellF_len (b : Bool) (n : Nat) (hn : n ≤ 32768) : (tellF b n).length ≤ 200 := by
  have hw : ∀ i, ((wordsF b).getD i []).length ≤ 13 := fun i => by
    rw [List.getD_eq_getElem?_getD]
    rcases hi : (wordsF b)[i]? with _ | x
    · simp
    · exact (words_len b x (List.mem_of_getElem? hi)).2
  unfold tellF
  rw [List.length_append, List.length_append, List.length_flatten, List.map_replicate, List.sum_replicate_nat]
  have h1 := hw 103
  have h2 := hw (63 + n % 2560 / 64)
  have h3 := hw (n % 64)
  have h4 : n / 2560 ≤ 12 := by omega
  have h5 : n / 2560 * ((wordsF b).getD 103 []).length ≤ 12 * 13 := Nat.mul_le_mul h4 h1
  split
  · simp only [List.length_nil]
    omega
  · omega
/-- the end of a line -/
def endF (s : List Bool) (two aligned single : Bool) : List Bool :=
  s ++ List.replicate (if aligned then (8 - (s.length + 12) % 8) % 8 else 0) false ++ eol ++ (if two then [single] else [])
/-- how many noughts are ahead of the first one -/
def zerosF : List Bool → Nat
  | [] => 0
  | b :: l => if b then 0 else zerosF l + 1
theorem zeros_eol (k : Nat) (r : List Bool) : zerosF (List.replicate k false ++ (eol ++ r)) = k + 11 ∧ (List.replicate k false ++ (eol ++ r)).drop (k + 12) = r := by
  have he : eol = List.replicate 11 false ++ [true] := rfl
  constructor
  · rw [he]
    have h : ∀ m, zerosF (List.replicate m false ++ ([true] ++ r)) = m := by
      intro m
      induction m with
      | zero => rfl
      | succ m ih => rw [List.replicate_succ, List.cons_append, zerosF, ih]; rfl
    have := h (k + 11)
    rw [show List.replicate (k + 11) false = List.replicate k false ++ List.replicate 11 false from List.replicate_append_replicate.symm] at this
    rw [← this]
    simp only [List.append_assoc]
  · rw [← List.append_assoc, List.drop_left']
    rw [List.length_append, List.length_replicate]
    rfl
end Go.Proofs.YtmbfgejephgojaaGreatDoor.Mh

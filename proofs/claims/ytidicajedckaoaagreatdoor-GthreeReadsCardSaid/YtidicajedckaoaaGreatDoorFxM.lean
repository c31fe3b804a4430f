
/- The words of T.4 and T.6, in plain words: the tables, lengths told by words, what words tell; no program in sight. -/
import Derived.Test.YtidicajedckaoaaGreatDoorIfO
namespace Go.Proofs.YtidicajedckaoaaGreatDoor.Fx
open Go.Proofs.YtidicajedckaoaaGreatDoor.Bit Go.Proofs.YtidicajedckaoaaGreatDoor.Hf Go.Proofs.YtidicajedckaoaaGreatDoor.Inf
set_option linter.unusedVariables false
set_option linter.unusedSimpArgs false
set_option maxRecDepth 100000

/-- the words of white lengths: number and width -/
def whiteT : List (Nat × Nat) := [(53, 8), (7, 6), (7, 4), (8, 4), (11, 4), (12, 4), (14, 4), (15, 4), (19, 5), (20, 5), (7, 5), (8, 5), (8, 6), (3, 6), (52, 6), (53, 6), (42, 6), (43, 6), (39, 7), (12, 7), (8, 7), (23, 7), (3, 7), (4, 7), (40, 7), (43, 7), (19, 7), (36, 7), (24, 7), (2, 8), (3, 8), (26, 8), (27, 8), (18, 8), (19, 8), (20, 8), (21, 8), (22, 8), (23, 8), (40, 8), (41, 8), (42, 8), (43, 8), (44, 8), (45, 8), (4, 8), (5, 8), (10, 8), (11, 8), (82, 8), (83, 8), (84, 8), (85, 8), (36, 8), (37, 8), (88, 8), (89, 8), (90, 8), (91, 8), (74, 8), (75, 8), (50, 8), (51, 8), (52, 8), (27, 5), (18, 5), (23, 6), (55, 7), (54, 8), (55, 8), (100, 8), (101, 8), (104, 8), (103, 8), (204, 9), (205, 9), (210, 9), (211, 9), (212, 9), (213, 9), (214, 9), (215, 9), (216, 9), (217, 9), (218, 9), (219, 9), (152, 9), (153, 9), (154, 9), (24, 6), (155, 9), (8, 11), (12, 11), (13, 11), (18, 12), (19, 12), (20, 12), (21, 12), (22, 12), (23, 12), (28, 12), (29, 12), (30, 12), (31, 12)]
/-- the words of black lengths -/
def blackT : List (Nat × Nat) := [(55, 10), (2, 3), (3, 2), (2, 2), (3, 3), (3, 4), (2, 4), (3, 5), (5, 6), (4, 6), (4, 7), (5, 7), (7, 7), (4, 8), (7, 8), (24, 9), (23, 10), (24, 10), (8, 10), (103, 11), (104, 11), (108, 11), (55, 11), (40, 11), (23, 11), (24, 11), (202, 12), (203, 12), (204, 12), (205, 12), (104, 12), (105, 12), (106, 12), (107, 12), (210, 12), (211, 12), (212, 12), (213, 12), (214, 12), (215, 12), (108, 12), (109, 12), (218, 12), (219, 12), (84, 12), (85, 12), (86, 12), (87, 12), (100, 12), (101, 12), (82, 12), (83, 12), (36, 12), (55, 12), (56, 12), (39, 12), (40, 12), (88, 12), (89, 12), (43, 12), (44, 12), (90, 12), (102, 12), (103, 12), (15, 10), (200, 12), (201, 12), (91, 12), (51, 12), (52, 12), (53, 12), (108, 13), (109, 13), (74, 13), (75, 13), (76, 13), (77, 13), (114, 13), (115, 13), (116, 13), (117, 13), (118, 13), (119, 13), (82, 13), (83, 13), (84, 13), (85, 13), (90, 13), (91, 13), (100, 13), (101, 13), (8, 11), (12, 11), (13, 11), (18, 12), (19, 12), (20, 12), (21, 12), (22, 12), (23, 12), (28, 12), (29, 12), (30, 12), (31, 12)]
/-- the words of modes, from three ahead to what goes beyond -/
def modeT : List (Nat × Nat) := [(2, 7), (2, 6), (2, 3), (1, 1), (3, 3), (3, 6), (3, 7), (1, 3), (1, 4), (1, 7)]
def wordsT (T : List (Nat × Nat)) : List (List Bool) := T.map fun x => word x.1 x.2
def wordsF (black : Bool) : List (List Bool) := wordsT (if black then blackT else whiteT)
def modesF : List (List Bool) := wordsT modeT
/-- the end of a line -/
def eol : List Bool := word 1 12
/-- the length at a place of a table -/
def lenF (i : Nat) : Nat := if i < 64 then i else 64 * (i - 63)
theorem wordsF_length (black : Bool) : (wordsF black).length = 104 := by cases black <;> rfl
theorem modesF_length : modesF.length = 10 := rfl
/-- no word begins another one -/
def freeB (W : List (List Bool)) : Bool := (List.range W.length).all fun i => !(W.getD i []).isEmpty && (List.range W.length).all fun j => i == j || !((W.getD j []).isPrefixOf (W.getD i []))
theorem free_of {W : List (List Bool)} (h : freeB W = true) (i : Nat) (hi : i < W.length) : Fre W i := by
  unfold freeB at h
  rw [List.all_eq_true] at h
  have hx := h i (List.mem_range.2 hi)
  rw [Bool.and_eq_true, List.all_eq_true] at hx
  refine ⟨fun e => by rw [e] at hx; simp at hx, fun j v hj hp hv => ?_⟩
  have hjl := (List.getElem?_eq_some_iff.1 hj).1
  have hy := hx.2 j (List.mem_range.2 hjl)
  have hg : W.getD j [] = v := by rw [List.getD_eq_getElem?_getD, hj]; rfl
  rw [hg] at hy
  rcases Bool.or_eq_true _ _ ▸ hy with h1 | h1
  · exact (by simpa using h1 : i = j).symm
  · have : v.isPrefixOf (W.getD i []) = true := List.isPrefixOf_iff_prefix.2 hp
    rw [this] at h1
    cases h1
theorem white_free : freeB (wordsF false) = true := by decide +kernel
theorem black_free : freeB (wordsF true) = true := by decide +kernel
theorem modes_free : freeB modesF = true := by decide +kernel
theorem words_fre (black : Bool) (i : Nat) (hi : i < 104) : Fre (wordsF black) i := by
  cases black
  · exact free_of white_free i hi
  · exact free_of black_free i hi
theorem modes_fre (i : Nat) (hi : i < 10) : Fre modesF i := free_of modes_free i hi
theorem words_eol (black : Bool) : freeB (wordsF black ++ [eol]) = true := by cases black <;> decide +kernel
theorem modes_eol : freeB (modesF ++ [eol]) = true := by decide +kernel
theorem words_len (black : Bool) : ∀ x ∈ wordsF black, 2 ≤ x.length ∧ x.length ≤ 13 := by cases black <;> decide +kernel
theorem modes_len : ∀ x ∈ modesF, 1 ≤ x.length ∧ x.length ≤ 7 := by decide +kernel

/-- the word with which bits go on, and how many bits that took, whatever comes -/
def lookP (W : List (List Bool)) (p : List Bool) : List Bool → Nat × Except Nat Nat
  | [] => (p.length, .error 2)
  | b :: r => if p ++ [b] ∈ W then (p.length + 1, .ok (W.idxOf (p ++ [b])))
      else if W.any (fun w => !w.isEmpty && (p ++ [b]).isPrefixOf w) then lookP W (p ++ [b]) r else (p.length + 1, .error 6)
theorem lookP_look (W : List (List Bool)) : ∀ (l p : List Bool), lookW W p l = match (lookP W p l).2 with
    | .ok i => .ok (i, (lookP W p l).1)
    | .error e => .error e
  | [], p => rfl
  | b :: r, p => by
    rw [lookW, lookP]
    split
    · rfl
    · split
      · exact lookP_look W r (p ++ [b])
      · rfl
theorem lookP_le (W : List (List Bool)) : ∀ (l p : List Bool), p.length ≤ (lookP W p l).1 ∧ (lookP W p l).1 ≤ p.length + l.length ∧ (l ≠ [] → p.length < (lookP W p l).1)
  | [], p => ⟨Nat.le_refl _, Nat.le_refl _, fun h => absurd rfl h⟩
  | b :: r, p => by
    have ih := lookP_le W r (p ++ [b])
    rw [List.length_append, List.length_singleton] at ih
    rw [lookP, List.length_cons]
    split
    · exact ⟨by omega, by omega, fun _ => by omega⟩
    · split
      · exact ⟨by omega, by omega, fun _ => by omega⟩
      · exact ⟨by omega, by omega, fun _ => by omega⟩
theorem lookP_fre {W : List (List Bool)} {i : Nat} (h : Fre W i) (r : List Bool) : lookP W [] (W.getD i [] ++ r) = ((W.getD i []).length, .ok i) := by
  have e := look_fre W i r h (W.getD i []) [] (List.nil_append _).symm h.1
  rw [lookP_look] at e
  rcases hx : lookP W [] (W.getD i [] ++ r) with ⟨k, v⟩
  rw [hx] at e
  rcases v with c | j
  · cases e
  · injection e with e
    injection e with e1 e2
    simp only at e1 e2
    rw [e1, e2]

/-- a length, as it is told -/
def tellF (black : Bool) (n : Nat) : List Bool :=
  (List.replicate (n / 2560) ((wordsF black).getD 103 [])).flatten ++ ((if n % 2560 < 64 then [] else (wordsF black).getD (63 + n % 2560 / 64) []) ++ (wordsF black).getD (n % 64) [])
/-- a length, read: the place behind it, and the length or the error -/
def lenR (black : Bool) (L : List Bool) (most : Nat) : Nat → Nat → Nat → Nat × Except Nat Nat
  | 0, at_, _ => (at_, .error 0)
  | f + 1, at_, n => match (lookP (wordsF black) [] (L.drop at_)).2 with
    | .error e => (at_ + (lookP (wordsF black) [] (L.drop at_)).1, .error e)
    | .ok i => if most < n + lenF i then (at_ + (lookP (wordsF black) [] (L.drop at_)).1, .error 5)
      else if i < 64 then (at_ + (lookP (wordsF black) [] (L.drop at_)).1, .ok (n + lenF i))
      else lenR black L most f (at_ + (lookP (wordsF black) [] (L.drop at_)).1) (n + lenF i)
theorem lenR_fuel (black : Bool) (L : List Bool) (most : Nat) : ∀ (f g at_ n : Nat), L.length + 1 ≤ f + at_ → L.length + 1 ≤ g + at_ → at_ ≤ L.length → lenR black L most f at_ n = lenR black L most g at_ n
  | 0, g, at_, n, hf, hg, ha => by omega
  | f + 1, 0, at_, n, hf, hg, ha => by omega
  | f + 1, g + 1, at_, n, hf, hg, ha => by
    rw [lenR, lenR]
    have hle := lookP_le (wordsF black) (L.drop at_) []
    rw [List.length_nil, List.length_drop] at hle
    by_cases hd : L.drop at_ = []
    · rw [hd]; rfl
    · have h3 := hle.2.2 hd
      rcases (lookP (wordsF black) [] (L.drop at_)).2 with e | i
      · rfl
      · simp only
        split
        · rfl
        · split
          · rfl
          · exact lenR_fuel black L most f g _ _ (by omega) (by omega) (by omega)
def lenA (black : Bool) (L : List Bool) (most at_ n : Nat) : Nat × Except Nat Nat := lenR black L most (L.length + 1 - at_) at_ n
/-- one word more -/
theorem lenA_eq (black : Bool) (L : List Bool) (most at_ n : Nat) (ha : at_ ≤ L.length) : lenA black L most at_ n = match (lookP (wordsF black) [] (L.drop at_)).2 with
    | .error e => (at_ + (lookP (wordsF black) [] (L.drop at_)).1, .error e)
    | .ok i => if most < n + lenF i then (at_ + (lookP (wordsF black) [] (L.drop at_)).1, .error 5)
      else if i < 64 then (at_ + (lookP (wordsF black) [] (L.drop at_)).1, .ok (n + lenF i))
      else lenA black L most (at_ + (lookP (wordsF black) [] (L.drop at_)).1) (n + lenF i) := by
  unfold lenA
  rw [show L.length + 1 - at_ = (L.length - at_) + 1 from by omega, lenR]
  have hle := lookP_le (wordsF black) (L.drop at_) []
  rw [List.length_nil, List.length_drop] at hle
  by_cases hd : L.drop at_ = []
  · rw [hd]; rfl
  · have h3 := hle.2.2 hd
    rcases (lookP (wordsF black) [] (L.drop at_)).2 with e | i
    · rfl
    · simp only
      split
      · rfl
      · split
        · rfl
        · exact lenR_fuel black L most _ _ _ _ (by omega) (by omega) (by omega)
/-- one word that is there -/
theorem lenA_word (black : Bool) {L r : List Bool} {most at_ n i : Nat} (hi : i < 104) (h : L.drop at_ = (wordsF black).getD i [] ++ r) (ha : at_ ≤ L.length) (hm : n + lenF i ≤ most) :
    lenA black L most at_ n = if i < 64 then (at_ + ((wordsF black).getD i []).length, .ok (n + lenF i)) else lenA black L most (at_ + ((wordsF black).getD i []).length) (n + lenF i) := by
  rw [lenA_eq black L most at_ n ha, h, lookP_fre (words_fre black i hi)]
  simp only
  rw [if_neg (by omega)]
theorem drop_more {L x r : List Bool} {a : Nat} (h : L.drop a = x ++ r) (ha : a ≤ L.length) : L.drop (a + x.length) = r ∧ a + x.length ≤ L.length := by
  constructor
  · rw [← List.drop_drop, h, List.drop_left']
    rfl
  · have := congrArg List.length h
    rw [List.length_drop, List.length_append] at this
    omega
/-- what is told is read -/
theorem read_told (black : Bool) {most : Nat} : ∀ (k m : Nat) {L r : List Bool} {at_ n : Nat}, m < 2560 → L.drop at_ = (List.replicate k ((wordsF black).getD 103 [])).flatten ++ ((if m < 64 then [] else (wordsF black).getD (63 + m / 64) []) ++ (wordsF black).getD (m % 64) []) ++ r → at_ ≤ L.length →
    n + 2560 * k + m ≤ most → lenA black L most at_ n = (at_ + ((List.replicate k ((wordsF black).getD 103 [])).flatten ++ ((if m < 64 then [] else (wordsF black).getD (63 + m / 64) []) ++ (wordsF black).getD (m % 64) [])).length, .ok (n + 2560 * k + m))
  | 0, m, L, r, at_, n, hm, h, ha, hs => by
    have hrest : ∀ {b q : Nat} {t : List Bool}, L.drop b = (wordsF black).getD (m % 64) [] ++ t → b ≤ L.length → q + m % 64 ≤ most → lenA black L most b q = (b + ((wordsF black).getD (m % 64) []).length, .ok (q + m % 64)) := by
      intro b q t hb hbl hq
      have h64 : m % 64 < 64 := Nat.mod_lt _ (by decide)
      have e : lenF (m % 64) = m % 64 := by unfold lenF; rw [if_pos h64]
      rw [lenA_word black (i := m % 64) (by omega) hb hbl (by rw [e]; exact hq), if_pos h64, e]
    rw [List.replicate_zero, List.flatten_nil, List.nil_append] at h ⊢
    by_cases h64 : m < 64
    · rw [if_pos h64, List.nil_append] at h ⊢
      have := hrest (q := n) h ha (by omega)
      rw [this, Nat.mod_eq_of_lt h64]
      simp
    · rw [if_neg h64] at h ⊢
      rw [List.append_assoc] at h
      have e : lenF (63 + m / 64) = 64 * (m / 64) := by unfold lenF; rw [if_neg (by omega)]; omega
      rw [lenA_word black (i := 63 + m / 64) (by omega) h ha (by rw [e]; omega), if_neg (by omega), e]
      obtain ⟨h1, h2⟩ := drop_more h ha
      rw [hrest h1 h2 (by omega), List.length_append]
      congr 1
      · omega
      · congr 1; omega
  | k + 1, m, L, r, at_, n, hm, h, ha, hs => by
    rw [List.replicate_succ, List.flatten_cons, List.append_assoc, List.append_assoc] at h
    have e : lenF 103 = 2560 := rfl
    rw [lenA_word black (i := 103) (by decide) h ha (by rw [e]; omega), if_neg (by decide), e]
    obtain ⟨h1, h2⟩ := drop_more h ha
    rw [← List.append_assoc] at h1
    rw [read_told black k m hm h1 h2 (by omega), List.replicate_succ, List.flatten_cons, List.append_assoc, List.length_append (as := (wordsF black).getD 103 [])]
    congr 1
    · omega
    · congr 1; omega
theorem read_tell (black : Bool) {most at_ n : Nat} {L r : List Bool} (h : L.drop at_ = tellF black n ++ r) (ha : at_ ≤ L.length) (hn : n ≤ most) : lenA black L most at_ 0 = (at_ + (tellF black n).length, .ok n) := by
  have := read_told black (most := most) (n / 2560) (n % 2560) (Nat.mod_lt _ (by decide)) (L := L) (r := r) (at_ := at_) (n := 0)
  have e : n % 2560 % 64 = n % 64 := Nat.mod_mod_of_dvd n (by decide)
  rw [e] at this
  have := this h ha (by omega)
  rw [this]
  unfold tellF
  congr 1
  congr 1
  omega
end Go.Proofs.YtidicajedckaoaaGreatDoor.Fx

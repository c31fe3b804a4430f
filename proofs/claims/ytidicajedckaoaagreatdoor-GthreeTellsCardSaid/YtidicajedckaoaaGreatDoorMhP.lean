
/- Rows told by their lengths and by the row above, in plain words; what is told is read; no program in sight. -/
import Derived.Test.YtidicajedckaoaaGreatDoorFxM
import Derived.Test.YtidicajedckaoaaGreatDoorRnN
namespace Go.Proofs.YtidicajedckaoaaGreatDoor.Mh
open Go.Proofs.YtidicajedckaoaaGreatDoor.Bit Go.Proofs.YtidicajedckaoaaGreatDoor.Hf Go.Proofs.YtidicajedckaoaaGreatDoor.Inf Go.Proofs.YtidicajedckaoaaGreatDoor.Fx Go.Proofs.YtidicajedckaoaaGreatDoor.Rn
set_option linter.unusedVariables false
set_option linter.unusedSimpArgs false
set_option maxRecDepth 100000

/-- runs, told one behind the other -/
def tellR (b : Bool) : List Nat → List Bool
  | [] => []
  | n :: ns => tellF b n ++ tellR (!b) ns
/-- a row by its lengths -/
def rowF (X : List Bool) : List Bool := tellR false (lensL 0 (changes X) X.length)
/-- a row by its lengths, read: the place behind it, and the pixels or the error -/
def readRowR (L : List Bool) (w : Nat) : Nat → Nat → List Bool → Bool → Nat × Except Nat (List Bool)
  | 0, at_, _, _ => (at_, .error 0)
  | f + 1, at_, P, b => match (lenA b L (w - P.length) at_ 0).2 with
    | .error e => ((lenA b L (w - P.length) at_ 0).1, .error e)
    | .ok n => if P.length + n = w then ((lenA b L (w - P.length) at_ 0).1, .ok (P ++ List.replicate n b))
      else readRowR L w f (lenA b L (w - P.length) at_ 0).1 (P ++ List.replicate n b) (!b)
theorem lenR_lt (b : Bool) (L : List Bool) (most : Nat) : ∀ (f at_ n : Nat), at_ ≤ L.length → (lenR b L most f at_ n).1 ≤ L.length ∧ at_ ≤ (lenR b L most f at_ n).1 ∧ ∀ m, (lenR b L most f at_ n).2 = .ok m → at_ < (lenR b L most f at_ n).1 ∧ m ≤ most
  | 0, at_, n, ha => ⟨ha, Nat.le_refl _, fun m h => by cases h⟩
  | f + 1, at_, n, ha => by
    have hle := lookP_le (wordsF b) (L.drop at_) []
    rw [List.length_nil, List.length_drop] at hle
    rw [lenR]
    rcases hx : (lookP (wordsF b) [] (L.drop at_)).2 with e | i
    · exact ⟨by show at_ + _ ≤ _; omega, by show at_ ≤ at_ + _; omega, fun m h => by cases h⟩
    · have hd : L.drop at_ ≠ [] := by
        intro hd
        rw [hd] at hx
        cases hx
      have h3 := hle.2.2 hd
      simp only
      split
      · exact ⟨by show at_ + _ ≤ _; omega, by show at_ ≤ at_ + _; omega, fun m h => by cases h⟩
      · rename_i hm
        split
        · exact ⟨by show at_ + _ ≤ _; omega, by show at_ ≤ at_ + _; omega, fun m h => ⟨by show at_ < at_ + _; omega, by injection h with h; omega⟩⟩
        · obtain ⟨h4, h5, h6⟩ := lenR_lt b L most f (at_ + (lookP (wordsF b) [] (L.drop at_)).1) (n + lenF i) (by omega)
          exact ⟨h4, by omega, fun m h => ⟨by have := (h6 m h).1; omega, (h6 m h).2⟩⟩
theorem lenA_lt (b : Bool) {L : List Bool} {most at_ n : Nat} (ha : at_ ≤ L.length) : (lenA b L most at_ n).1 ≤ L.length ∧ at_ ≤ (lenA b L most at_ n).1 ∧ ∀ m, (lenA b L most at_ n).2 = .ok m → at_ < (lenA b L most at_ n).1 ∧ m ≤ most := lenR_lt b L most _ at_ n ha
theorem readRow_fuel (L : List Bool) (w : Nat) : ∀ (f g at_ : Nat) (P : List Bool) (b : Bool), L.length + 1 ≤ f + at_ → L.length + 1 ≤ g + at_ → at_ ≤ L.length → readRowR L w f at_ P b = readRowR L w g at_ P b
  | 0, g, at_, P, b, hf, hg, ha => by omega
  | f + 1, 0, at_, P, b, hf, hg, ha => by omega
  | f + 1, g + 1, at_, P, b, hf, hg, ha => by
    rw [readRowR, readRowR]
    obtain ⟨h1, h2, h3⟩ := lenA_lt b (most := w - P.length) (n := 0) ha
    rcases hx : (lenA b L (w - P.length) at_ 0).2 with e | n
    · rfl
    · have := (h3 n hx).1
      simp only
      split
      · rfl
      · exact readRow_fuel L w f g _ _ _ (by omega) (by omega) h1
def readRowA (L : List Bool) (w at_ : Nat) (P : List Bool) (b : Bool) : Nat × Except Nat (List Bool) := readRowR L w (L.length + 1 - at_) at_ P b
/-- one run more -/
theorem readRowA_eq (L : List Bool) (w at_ : Nat) (P : List Bool) (b : Bool) (ha : at_ ≤ L.length) : readRowA L w at_ P b = match (lenA b L (w - P.length) at_ 0).2 with
    | .error e => ((lenA b L (w - P.length) at_ 0).1, .error e)
    | .ok n => if P.length + n = w then ((lenA b L (w - P.length) at_ 0).1, .ok (P ++ List.replicate n b))
      else readRowA L w (lenA b L (w - P.length) at_ 0).1 (P ++ List.replicate n b) (!b) := by
  unfold readRowA
  rw [show L.length + 1 - at_ = (L.length - at_) + 1 from by omega, readRowR]
  obtain ⟨h1, h2, h3⟩ := lenA_lt b (most := w - P.length) (n := 0) ha
  rcases hx : (lenA b L (w - P.length) at_ 0).2 with e | n
  · rfl
  · have := (h3 n hx).1
    simp only
    split
    · rfl
    · exact readRow_fuel L w _ _ _ _ _ (by omega) (by omega) h1
/-- runs that are told are read -/
theorem readRow_told {L r : List Bool} {w : Nat} : ∀ (ns : List Nat) {at_ : Nat} {P : List Bool} {b : Bool}, ns ≠ [] → L.drop at_ = tellR b ns ++ r → at_ ≤ L.length → P.length + ns.sum = w → (∀ i, i < ns.length → P.length + (ns.take i).sum < w) →
    readRowA L w at_ P b = (at_ + (tellR b ns).length, .ok (P ++ pixR b ns))
  | [], at_, P, b, h0, h, ha, hs, hp => absurd rfl h0
  | n :: ns, at_, P, b, h0, h, ha, hs, hp => by
    rw [List.sum_cons] at hs
    rw [tellR, List.append_assoc] at h
    have hr := read_tell b (most := w - P.length) h ha (by omega)
    rw [readRowA_eq L w at_ P b ha, hr]
    simp only
    by_cases hn : ns = []
    · subst hn
      rw [if_pos (by simpa using hs), tellR, tellR, pixR, pixR, List.append_nil, List.append_nil]
    · have hlt := hp 1 (by have := List.length_pos_iff.2 hn; rw [List.length_cons]; omega)
      rw [List.take_succ_cons, List.take_zero, List.sum_cons, List.sum_nil, Nat.add_zero] at hlt
      rw [if_neg (by omega)]
      obtain ⟨h1, h2⟩ := drop_more h ha
      have ih := readRow_told (w := w) ns (P := P ++ List.replicate n b) (b := !b) hn h1 h2 (by rw [List.length_append, List.length_replicate]; omega) (fun i hi => by
        have := hp (i + 1) (by rw [List.length_cons]; omega)
        rw [List.take_succ_cons, List.sum_cons] at this
        rw [List.length_append, List.length_replicate]
        omega)
      rw [ih, tellR, pixR, List.length_append, List.append_assoc]
      congr 1
      omega
/-- a row that is told by its lengths is read -/
theorem read_row {L r X : List Bool} {at_ : Nat} (hX : 0 < X.length) (h : L.drop at_ = rowF X ++ r) (ha : at_ ≤ L.length) : readRowA L X.length at_ [] false = (at_ + (rowF X).length, .ok X) := by
  have hv := changes_valid X
  have hr := rise_of 0 hv (fun x _ => Nat.zero_le _) (Nat.zero_le _)
  have hs := lens_sum hr
  have hl := lensL_length (changes X) 0 X.length
  have := readRow_told (w := X.length) (lensL 0 (changes X) X.length) (P := []) (b := false) (fun e => by rw [e] at hl; simp at hl) h ha (by simpa using hs) (fun i hi => by
    rw [hl] at hi
    rw [List.length_nil]
    cases i with
    | zero => simpa using hX
    | succ i =>
      rw [lens_take hr (show i < (changes X).length by omega)]
      exact hv.2 _ (List.getElem_mem _))
  rw [this, List.nil_append, row_runs]
  rfl
end Go.Proofs.YtidicajedckaoaaGreatDoor.Mh
/- Rows told by the row above, in plain words; what is told is read; no program in sight. -/
namespace Go.Proofs.YtidicajedckaoaaGreatDoor.Mh
open Go.Proofs.YtidicajedckaoaaGreatDoor.Bit Go.Proofs.YtidicajedckaoaaGreatDoor.Hf Go.Proofs.YtidicajedckaoaaGreatDoor.Inf Go.Proofs.YtidicajedckaoaaGreatDoor.Fx Go.Proofs.YtidicajedckaoaaGreatDoor.Rn
set_option linter.unusedVariables false
set_option linter.unusedSimpArgs false
set_option maxRecDepth 100000

/-- the next change to the other colour, and the one behind it; a: the place behind the one that is reached -/
abbrev nx (w : Nat) (c : List Nat) (b : Bool) (a : Nat) : Nat × Nat := nextX w c (!b) a
theorem nextF_ge (w : Nat) : ∀ (c : List Nat) (b : Bool) (a : Nat), a ≤ w → (∀ x ∈ c, x < w) → a ≤ (nextF w c b a).1 ∧ (nextF w c b a).1 ≤ w ∧ (nextF w c b a).2 ≤ w
  | [], b, a, h, hc => ⟨h, Nat.le_refl _, Nat.le_refl _⟩
  | x :: c, b, a, h, hc => by
    have hx := hc x (by simp)
    rw [nextF]
    split
    · rename_i q
      refine ⟨q.1, by show x ≤ w; omega, ?_⟩
      cases c with
      | nil => exact Nat.le_refl _
      | cons y c => have := hc y (by simp); show y ≤ w; omega
    · exact nextF_ge w c (!b) a h (fun y hy => hc y (by simp [hy]))
theorem nextF_le (w : Nat) : ∀ (c : List Nat) (b : Bool) (a : Nat), Valid c w → (nextF w c b a).1 ≤ (nextF w c b a).2
  | [], b, a, h => Nat.le_refl _
  | x :: c, b, a, h => by
    have hp := List.pairwise_cons.1 h.1
    rw [nextF]
    split
    · cases c with
      | nil => have := h.2 x (by simp); show x ≤ w; omega
      | cons y c => have := hp.1 y (by simp); show x ≤ y; omega
    · exact nextF_le w c (!b) a ⟨hp.2, fun y hy => h.2 y (by simp [hy])⟩
/-- what is ahead is passed over; what is behind is found -/
theorem nextF_split (w : Nat) (d : List Nat) (a : Nat) (hd : ∀ x ∈ d, a ≤ x) : ∀ (c : List Nat) (b : Bool), (∀ x ∈ c, x < a) → (b = (c.length % 2 == 0)) → nextF w (c ++ d) b a = (d.headD w, d.tail.headD w)
  | [], b, hc, hb => by
    have hb' : b = true := hb
    subst hb'
    cases d with
    | nil => rfl
    | cons x d =>
      rw [List.nil_append, nextF, if_pos ⟨hd x (by simp), rfl⟩]
      rfl
  | x :: c, b, hc, hb => by
    have hx := hc x (by simp)
    rw [List.cons_append, nextF, if_neg (by omega)]
    refine nextF_split w d a hd c (!b) (fun y hy => hc y (by simp [hy])) ?_
    rw [hb, List.length_cons]
    rcases (show c.length % 2 = 0 ∨ c.length % 2 = 1 by omega) with q | q
    · rw [q, show (c.length + 1) % 2 = 1 from by omega]; rfl
    · rw [q, show (c.length + 1) % 2 = 0 from by omega]; rfl

/-- a row by the row above: from a place on -/
def againstR (c top : List Nat) (w : Nat) : Nat → Nat → Bool → List Bool
  | 0, _, _ => []
  | f + 1, a, b => if w < a then []
    else if (nx w top b a).2 < (nx w c b a).1 then modesF.getD 8 [] ++ againstR c top w f ((nx w top b a).2 + 1) b
    else if (nx w c b a).1 ≤ (nx w top b a).1 + 3 ∧ (nx w top b a).1 ≤ (nx w c b a).1 + 3 then modesF.getD ((nx w c b a).1 + 3 - (nx w top b a).1) [] ++ againstR c top w f ((nx w c b a).1 + 1) (!b)
    else modesF.getD 7 [] ++ (tellF b ((nx w c b a).1 - (a - 1)) ++ (tellF (!b) ((nx w c b a).2 - (nx w c b a).1) ++ againstR c top w f ((nx w c b a).2 + 1) b))
theorem against_fuel {c top : List Nat} {w : Nat} (hc : Valid c w) (ht : Valid top w) : ∀ (f g a : Nat) (b : Bool), w + 2 ≤ f + a → w + 2 ≤ g + a → againstR c top w f a b = againstR c top w g a b
  | 0, 0, a, b, hf, hg => rfl
  | 0, g + 1, a, b, hf, hg => by rw [againstR, againstR, if_pos (by omega)]
  | f + 1, 0, a, b, hf, hg => by rw [againstR, againstR, if_pos (by omega)]
  | f + 1, g + 1, a, b, hf, hg => by
    rw [againstR, againstR]
    split
    · rfl
    · rename_i hw
      have h1 := nextF_ge w c (!b) a (by omega) hc.2
      have h2 := nextF_ge w top (!b) a (by omega) ht.2
      have h3 := nextF_le w c (!b) a hc
      have h4 := nextF_le w top (!b) a ht
      have e1 : nx w c b a = nextF w c (!b) a := rfl
      have e2 : nx w top b a = nextF w top (!b) a := rfl
      rw [e1, e2]
      split
      · rw [against_fuel hc ht f g _ _ (by omega) (by omega)]
      · split
        · rw [against_fuel hc ht f g _ _ (by omega) (by omega)]
        · rw [against_fuel hc ht f g _ _ (by omega) (by omega)]
def againstA (c top : List Nat) (w a : Nat) (b : Bool) : List Bool := againstR c top w (w + 2 - a) a b
theorem againstA_end {c top : List Nat} {w a : Nat} (b : Bool) (h : w < a) : againstA c top w a b = [] := by
  unfold againstA
  rcases hf : w + 2 - a with _ | f
  · rfl
  · rw [againstR, if_pos h]
/-- one mode more -/
theorem againstA_eq {c top : List Nat} {w a : Nat} (hc : Valid c w) (ht : Valid top w) (b : Bool) (h : a ≤ w) : againstA c top w a b =
    if (nx w top b a).2 < (nx w c b a).1 then modesF.getD 8 [] ++ againstA c top w ((nx w top b a).2 + 1) b
    else if (nx w c b a).1 ≤ (nx w top b a).1 + 3 ∧ (nx w top b a).1 ≤ (nx w c b a).1 + 3 then modesF.getD ((nx w c b a).1 + 3 - (nx w top b a).1) [] ++ againstA c top w ((nx w c b a).1 + 1) (!b)
    else modesF.getD 7 [] ++ (tellF b ((nx w c b a).1 - (a - 1)) ++ (tellF (!b) ((nx w c b a).2 - (nx w c b a).1) ++ againstA c top w ((nx w c b a).2 + 1) b)) := by
  unfold againstA
  rw [show w + 2 - a = (w + 1 - a) + 1 from by omega, againstR, if_neg (by omega)]
  have h1 := nextF_ge w c (!b) a h hc.2
  have h2 := nextF_ge w top (!b) a h ht.2
  have h3 := nextF_le w c (!b) a hc
  have h4 := nextF_le w top (!b) a ht
  have e1 : nx w c b a = nextF w c (!b) a := rfl
  have e2 : nx w top b a = nextF w top (!b) a := rfl
  rw [e1, e2]
  split
  · rw [against_fuel hc ht _ (w + 2 - ((nextF w top (!b) a).2 + 1)) _ _ (by omega) (by omega)]
  · split
    · rw [against_fuel hc ht _ (w + 2 - ((nextF w c (!b) a).1 + 1)) _ _ (by omega) (by omega)]
    · rw [against_fuel hc ht _ (w + 2 - ((nextF w c (!b) a).2 + 1)) _ _ (by omega) (by omega)]
/-- a row by the row above, read: the place behind it, and the pixels or the error -/
def readGR (L : List Bool) (top : List Nat) (w : Nat) : Nat → Nat → Nat → List Bool → Bool → Nat × Except Nat (List Bool)
  | 0, at_, _, _, _ => (at_, .error 0)
  | f + 1, at_, a, P, b => if w < a then (at_, .ok P)
    else match (lookP modesF [] (L.drop at_)).2 with
    | .error e => (at_ + (lookP modesF [] (L.drop at_)).1, .error e)
    | .ok i =>
      if i = 9 then (at_ + (lookP modesF [] (L.drop at_)).1, .error 9)
      else if i = 8 then readGR L top w f (at_ + (lookP modesF [] (L.drop at_)).1) ((nx w top b a).2 + 1) (P ++ List.replicate ((nx w top b a).2 - P.length) b) b
      else if i = 7 then match (lenA b L (w - P.length) (at_ + (lookP modesF [] (L.drop at_)).1) 0).2 with
        | .error e => ((lenA b L (w - P.length) (at_ + (lookP modesF [] (L.drop at_)).1) 0).1, .error e)
        | .ok n => match (lenA (!b) L (w - (P.length + n)) (lenA b L (w - P.length) (at_ + (lookP modesF [] (L.drop at_)).1) 0).1 0).2 with
          | .error e => ((lenA (!b) L (w - (P.length + n)) (lenA b L (w - P.length) (at_ + (lookP modesF [] (L.drop at_)).1) 0).1 0).1, .error e)
          | .ok m => readGR L top w f (lenA (!b) L (w - (P.length + n)) (lenA b L (w - P.length) (at_ + (lookP modesF [] (L.drop at_)).1) 0).1 0).1 (P.length + n + m + 1) (P ++ List.replicate n b ++ List.replicate m (!b)) b
      else if a + 3 ≤ (nx w top b a).1 + i ∧ (nx w top b a).1 + i ≤ w + 3 then
        readGR L top w f (at_ + (lookP modesF [] (L.drop at_)).1) ((nx w top b a).1 + i - 3 + 1) (P ++ List.replicate ((nx w top b a).1 + i - 3 - P.length) b) (!b)
      else (at_ + (lookP modesF [] (L.drop at_)).1, .error 3)
theorem mode_lt {L : List Bool} {at_ i : Nat} (ha : at_ ≤ L.length) (h : (lookP modesF [] (L.drop at_)).2 = .ok i) : at_ < at_ + (lookP modesF [] (L.drop at_)).1 ∧ at_ + (lookP modesF [] (L.drop at_)).1 ≤ L.length := by
  have hle := lookP_le modesF (L.drop at_) []
  rw [List.length_nil, List.length_drop] at hle
  have hd : L.drop at_ ≠ [] := by
    intro hd
    rw [hd] at h
    cases h
  have h3 := hle.2.2 hd
  omega
theorem readG_fuel (L : List Bool) (top : List Nat) (w : Nat) : ∀ (f g at_ a : Nat) (P : List Bool) (b : Bool), L.length + 2 ≤ f + at_ → L.length + 2 ≤ g + at_ → at_ ≤ L.length → readGR L top w f at_ a P b = readGR L top w g at_ a P b
  | 0, g, at_, a, P, b, hf, hg, ha => by omega
  | f + 1, 0, at_, a, P, b, hf, hg, ha => by omega
  | f + 1, g + 1, at_, a, P, b, hf, hg, ha => by
    rw [readGR, readGR]
    split
    · rfl
    · rcases hx : (lookP modesF [] (L.drop at_)).2 with e | i
      · rfl
      · obtain ⟨h1, h2⟩ := mode_lt ha hx
        simp only
        split
        · rfl
        · split
          · exact readG_fuel L top w f g _ _ _ _ (by omega) (by omega) h2
          · split
            · obtain ⟨h4, h5, h6⟩ := lenA_lt b (most := w - P.length) (n := 0) h2
              rcases hy : (lenA b L (w - P.length) (at_ + (lookP modesF [] (L.drop at_)).1) 0).2 with e | n
              · rfl
              · simp only
                obtain ⟨h7, h8, h9⟩ := lenA_lt (!b) (most := w - (P.length + n)) (n := 0) h4
                rcases hz : (lenA (!b) L (w - (P.length + n)) (lenA b L (w - P.length) (at_ + (lookP modesF [] (L.drop at_)).1) 0).1 0).2 with e | m
                · rfl
                · exact readG_fuel L top w f g _ _ _ _ (by omega) (by omega) h7
            · split
              · exact readG_fuel L top w f g _ _ _ _ (by omega) (by omega) h2
              · rfl
def readGA (L : List Bool) (top : List Nat) (w at_ a : Nat) (P : List Bool) (b : Bool) : Nat × Except Nat (List Bool) := readGR L top w (L.length + 2 - at_) at_ a P b
/-- one mode more -/
theorem readGA_eq (L : List Bool) (top : List Nat) (w at_ a : Nat) (P : List Bool) (b : Bool) (ha : at_ ≤ L.length) : readGA L top w at_ a P b =
    if w < a then (at_, .ok P)
    else match (lookP modesF [] (L.drop at_)).2 with
    | .error e => (at_ + (lookP modesF [] (L.drop at_)).1, .error e)
    | .ok i =>
      if i = 9 then (at_ + (lookP modesF [] (L.drop at_)).1, .error 9)
      else if i = 8 then readGA L top w (at_ + (lookP modesF [] (L.drop at_)).1) ((nx w top b a).2 + 1) (P ++ List.replicate ((nx w top b a).2 - P.length) b) b
      else if i = 7 then match (lenA b L (w - P.length) (at_ + (lookP modesF [] (L.drop at_)).1) 0).2 with
        | .error e => ((lenA b L (w - P.length) (at_ + (lookP modesF [] (L.drop at_)).1) 0).1, .error e)
        | .ok n => match (lenA (!b) L (w - (P.length + n)) (lenA b L (w - P.length) (at_ + (lookP modesF [] (L.drop at_)).1) 0).1 0).2 with
          | .error e => ((lenA (!b) L (w - (P.length + n)) (lenA b L (w - P.length) (at_ + (lookP modesF [] (L.drop at_)).1) 0).1 0).1, .error e)
          | .ok m => readGA L top w (lenA (!b) L (w - (P.length + n)) (lenA b L (w - P.length) (at_ + (lookP modesF [] (L.drop at_)).1) 0).1 0).1 (P.length + n + m + 1) (P ++ List.replicate n b ++ List.replicate m (!b)) b
      else if a + 3 ≤ (nx w top b a).1 + i ∧ (nx w top b a).1 + i ≤ w + 3 then
        readGA L top w (at_ + (lookP modesF [] (L.drop at_)).1) ((nx w top b a).1 + i - 3 + 1) (P ++ List.replicate ((nx w top b a).1 + i - 3 - P.length) b) (!b)
      else (at_ + (lookP modesF [] (L.drop at_)).1, .error 3) := by
  unfold readGA
  rw [show L.length + 2 - at_ = (L.length + 1 - at_) + 1 from by omega, readGR]
  split
  · rfl
  · rcases hx : (lookP modesF [] (L.drop at_)).2 with e | i
    · rfl
    · obtain ⟨h1, h2⟩ := mode_lt ha hx
      simp only
      split
      · rfl
      · split
        · exact readG_fuel L top w _ _ _ _ _ _ (by omega) (by omega) h2
        · split
          · obtain ⟨h4, h5, h6⟩ := lenA_lt b (most := w - P.length) (n := 0) h2
            rcases hy : (lenA b L (w - P.length) (at_ + (lookP modesF [] (L.drop at_)).1) 0).2 with e | n
            · rfl
            · simp only
              obtain ⟨h7, h8, h9⟩ := lenA_lt (!b) (most := w - (P.length + n)) (n := 0) h4
              rcases hz : (lenA (!b) L (w - (P.length + n)) (lenA b L (w - P.length) (at_ + (lookP modesF [] (L.drop at_)).1) 0).1 0).2 with e | m
              · rfl
              · exact readG_fuel L top w _ _ _ _ _ _ (by omega) (by omega) h7
          · split
            · exact readG_fuel L top w _ _ _ _ _ _ (by omega) (by omega) h2
            · rfl
end Go.Proofs.YtidicajedckaoaaGreatDoor.Mh
/- A row that is told by the row above is read; no program in sight. -/
namespace Go.Proofs.YtidicajedckaoaaGreatDoor.Mh
open Go.Proofs.YtidicajedckaoaaGreatDoor.Bit Go.Proofs.YtidicajedckaoaaGreatDoor.Hf Go.Proofs.YtidicajedckaoaaGreatDoor.Inf Go.Proofs.YtidicajedckaoaaGreatDoor.Fx Go.Proofs.YtidicajedckaoaaGreatDoor.Rn
set_option linter.unusedVariables false
set_option linter.unusedSimpArgs false
set_option maxRecDepth 100000

/-- a place and a colour on the way through a row: d are the changes that are ahead -/
def On (c : List Nat) (a : Nat) (b : Bool) (d : List Nat) : Prop := ∃ c1, c = c1 ++ d ∧ (∀ x ∈ c1, x < a) ∧ (∀ x ∈ d, a ≤ x) ∧ b = (c1.length % 2 == 1)
theorem On.start (c : List Nat) : On c 0 false c := ⟨[], rfl, by simp, fun x _ => Nat.zero_le _, rfl⟩
theorem On.nx {c d : List Nat} {w a : Nat} {b : Bool} (h : On c a b d) : Mh.nx w c b a = (d.headD w, d.tail.headD w) := by
  obtain ⟨c1, rfl, h1, h2, h3⟩ := h
  refine nextF_split w d a h2 c1 (!b) h1 ?_
  rw [h3]
  rcases (show c1.length % 2 = 0 ∨ c1.length % 2 = 1 by omega) with q | q <;> rw [q] <;> rfl
theorem On.flip {c d : List Nat} {w a x : Nat} {b : Bool} (h : On c a b (x :: d)) (hv : Valid c w) : On c (x + 1) (!b) d := by
  obtain ⟨c1, rfl, h1, h2, h3⟩ := h
  have hp := (List.pairwise_append.1 hv.1).2.1
  have hq := List.pairwise_cons.1 hp
  refine ⟨c1 ++ [x], by simp, fun y hy => ?_, fun y hy => hq.1 y hy, ?_⟩
  · rcases List.mem_append.1 hy with hy | hy
    · have := h1 y hy; have := h2 x (by simp); omega
    · have : y = x := by simpa using hy
      omega
  · rw [List.length_append, List.length_singleton, h3]
    rcases (show c1.length % 2 = 0 ∨ c1.length % 2 = 1 by omega) with q | q
    · rw [q, show (c1.length + 1) % 2 = 1 from by omega]; rfl
    · rw [q, show (c1.length + 1) % 2 = 0 from by omega]; rfl
theorem On.head {c d : List Nat} {w a : Nat} {b : Bool} (h : On c a b d) (hv : Valid c w) (ha : a ≤ w) : a ≤ d.headD w ∧ d.headD w ≤ w ∧ ∀ x ∈ d, d.headD w ≤ x := by
  obtain ⟨c1, rfl, h1, h2, h3⟩ := h
  have hp := (List.pairwise_append.1 hv.1).2.1
  cases d with
  | nil => exact ⟨ha, Nat.le_refl _, fun x hx => by cases hx⟩
  | cons x d =>
    have hq := List.pairwise_cons.1 hp
    have hw := hv.2 x (by simp)
    refine ⟨h2 x (by simp), by show x ≤ w; omega, fun y hy => ?_⟩
    rcases List.mem_cons.1 hy with rfl | hy
    · exact Nat.le_refl _
    · have := hq.1 y hy; show x ≤ y; omega
theorem On.pass {c d : List Nat} {w a y : Nat} {b : Bool} (h : On c a b d) (hv : Valid c w) (ha : a ≤ w) (hy : a ≤ y + 1) (hd : y < d.headD w) : On c (y + 1) b d := by
  have hh := (h.head hv ha).2.2
  obtain ⟨c1, hc, h1, h2, h3⟩ := h
  exact ⟨c1, hc, fun x hx => by have := h1 x hx; omega, fun x hx => by have := hh x hx; omega, h3⟩
/-- up to the next change the pixels are of the colour -/
theorem On.take {X : List Bool} {d : List Nat} {a y : Nat} {b : Bool} (h : On (changes X) a b d) (ha : a ≤ X.length) (hy : a - 1 ≤ y) (hd : y ≤ d.headD X.length) : X.take y = X.take (a - 1) ++ List.replicate (y - (a - 1)) b := by
  have hv := changes_valid X
  obtain ⟨g1, g2, g3⟩ := h.head hv ha
  obtain ⟨c1, hc, h1, h2, h3⟩ := h
  apply List.ext_getElem
  · rw [List.length_append, List.length_take, List.length_take, List.length_replicate]; omega
  · intro j hj hj2
    rw [List.length_take] at hj
    rw [List.getElem_take]
    by_cases hja : j < a - 1
    · rw [List.getElem_append_left (by rw [List.length_take]; omega), List.getElem_take]
    · rw [List.getElem_append_right (by rw [List.length_take]; omega), List.getElem_replicate]
      have hx := pix_changes X
      have hjx : j < X.length := by omega
      have e : X[j] = (pix (changes X) X.length)[j]'(by rw [hx]; exact hjx) := by
        have this : (pix (changes X) X.length)[j]? = X[j]? := by rw [hx]
        rw [List.getElem?_eq_getElem hjx, List.getElem?_eq_getElem (by rw [hx]; exact hjx)] at this
        exact (Option.some.inj this).symm
      rw [e, pix_get, hc, List.countP_append]
      have k1 : c1.countP (· ≤ j) = c1.length := List.countP_eq_length.2 fun x hx => by have := h1 x hx; simp; omega
      have k2 : d.countP (· ≤ j) = 0 := List.countP_eq_zero.2 fun x hx => by have := g3 x hx; simp; omega
      rw [k1, k2, Nat.add_zero, ← h3]
theorem mode_there {L r : List Bool} {at_ i : Nat} (hi : i < 10) (h : L.drop at_ = modesF.getD i [] ++ r) : lookP modesF [] (L.drop at_) = ((modesF.getD i []).length, .ok i) := by
  rw [h]
  exact lookP_fre (modes_fre i hi) r
/-- a row that is told by the row above is read -/
theorem read_against_from {X L r : List Bool} {top : List Nat} (ht : Valid top X.length) : ∀ (n a at_ : Nat) (b : Bool) (d : List Nat), X.length + 1 ≤ n + a → (a ≤ X.length → On (changes X) a b d) →
    L.drop at_ = againstA (changes X) top X.length a b ++ r → at_ ≤ L.length → readGA L top X.length at_ a (X.take (a - 1)) b = (at_ + (againstA (changes X) top X.length a b).length, .ok X)
  | 0, a, at_, b, d, hn, ho, h, ha => by
    rw [readGA_eq _ _ _ _ _ _ _ ha, if_pos (by omega), againstA_end b (by omega), List.take_of_length_le (by omega)]
    rfl
  | n + 1, a, at_, b, d, hn, ho, h, ha => by
    by_cases hw : X.length < a
    · rw [readGA_eq _ _ _ _ _ _ _ ha, if_pos hw, againstA_end b hw, List.take_of_length_le (by omega)]
      rfl
    · have hw' : a ≤ X.length := by omega
      have hO := ho hw'
      have hv := changes_valid X
      have hnx := hO.nx (w := X.length)
      obtain ⟨g1, g2, g3⟩ := hO.head hv hw'
      have t1 := nextF_ge X.length top (!b) a hw' ht.2
      have t2 := nextF_le X.length top (!b) a ht
      have e2 : nx X.length top b a = nextF X.length top (!b) a := rfl
      rw [← e2] at t1 t2
      have hPl : (X.take (a - 1)).length = a - 1 := by rw [List.length_take]; omega
      rw [againstA_eq hv ht b hw', hnx] at h ⊢
      simp only at h ⊢
      rw [readGA_eq _ _ _ _ _ _ _ ha, if_neg hw]
      generalize hb : nx X.length top b a = bb at *
      obtain ⟨b1, b2⟩ := bb
      simp only at h t1 t2 ⊢
      by_cases c1 : b2 < d.headD X.length
      · rw [if_pos c1] at h ⊢
        rw [List.append_assoc] at h
        rw [mode_there (by decide) h]
        simp only
        rw [if_neg (by decide), if_pos trivial, hPl]
        obtain ⟨h1, h2⟩ := drop_more h ha
        have hPt := hO.take hw' (y := b2) (by omega) (by omega)
        rw [← hPt]
        have ih := read_against_from ht n (b2 + 1) (at_ + (modesF.getD 8 []).length) b d (by omega) (fun _ => hO.pass hv hw' (by omega) c1) h1 h2
        rw [Nat.add_sub_cancel] at ih
        rw [ih, List.length_append]
        congr 1
        omega
      · rw [if_neg c1] at h ⊢
        by_cases c2 : d.headD X.length ≤ b1 + 3 ∧ b1 ≤ d.headD X.length + 3
        · rw [if_pos c2] at h ⊢
          rw [List.append_assoc] at h
          have hi : d.headD X.length + 3 - b1 < 7 := by omega
          rw [mode_there (by omega) h]
          simp only
          rw [if_neg (by omega), if_neg (by omega), if_neg (by omega), if_pos (by omega), hPl, show b1 + (d.headD X.length + 3 - b1) - 3 = d.headD X.length from by omega]
          obtain ⟨h1, h2⟩ := drop_more h ha
          have hPt := hO.take hw' (y := d.headD X.length) (by omega) (Nat.le_refl _)
          rw [← hPt]
          have ih := read_against_from ht n (d.headD X.length + 1) (at_ + (modesF.getD (d.headD X.length + 3 - b1) []).length) (!b) d.tail (by omega) (fun q => by
            cases d with
            | nil => exact absurd q (by show ¬ X.length + 1 ≤ X.length; omega)
            | cons x d => exact hO.flip hv) h1 h2
          rw [Nat.add_sub_cancel] at ih
          rw [ih, List.length_append]
          congr 1
          omega
        · rw [if_neg c2] at h ⊢
          rw [List.append_assoc, List.append_assoc, List.append_assoc] at h
          rw [mode_there (by decide) h]
          simp only
          rw [if_neg (by decide), if_neg (by decide), if_pos trivial, hPl]
          obtain ⟨h1, h2⟩ := drop_more h ha
          rw [read_tell b h1 h2 (by omega)]
          simp only
          obtain ⟨h3, h4⟩ := drop_more h1 h2
          rw [show a - 1 + (d.headD X.length - (a - 1)) = d.headD X.length from by omega]
          -- the second run
          have hO2 : d.headD X.length < X.length → On (changes X) (d.headD X.length + 1) (!b) d.tail := fun q => by
            cases d with
            | nil => exact absurd q (by show ¬ X.length < X.length; omega)
            | cons x d => exact hO.flip hv
          have hle2 : d.headD X.length ≤ d.tail.headD X.length ∧ d.tail.headD X.length ≤ X.length := by
            by_cases q : d.headD X.length < X.length
            · have := (hO2 q).head hv q
              omega
            · cases d with
              | nil => exact ⟨Nat.le_refl _, Nat.le_refl _⟩
              | cons x d =>
                exfalso
                obtain ⟨c0, hc0, _⟩ := hO
                have := hv.2 x (by rw [hc0]; simp)
                exact q this
          rw [read_tell (!b) h3 h4 (by omega)]
          simp only
          obtain ⟨h5, h6⟩ := drop_more h3 h4
          rw [show d.headD X.length + (d.tail.headD X.length - d.headD X.length) = d.tail.headD X.length from by omega]
          have hPt := hO.take hw' (y := d.headD X.length) (by omega) (Nat.le_refl _)
          have hPt2 : X.take (d.tail.headD X.length) = X.take (d.headD X.length) ++ List.replicate (d.tail.headD X.length - d.headD X.length) (!b) := by
            by_cases q : d.headD X.length < X.length
            · have := (hO2 q).take (X := X) q (y := d.tail.headD X.length) (by omega) (Nat.le_refl _)
              rwa [Nat.add_sub_cancel] at this
            · rw [show d.tail.headD X.length = d.headD X.length from by omega, Nat.sub_self]
              simp
          rw [← hPt, ← hPt2]
          have ih := read_against_from ht n (d.tail.headD X.length + 1) _ b d.tail.tail (by omega) (fun q => by
            have q1 : d.headD X.length < X.length := by omega
            have o2 := hO2 q1
            cases hd : d.tail with
            | nil => rw [hd] at q; exact absurd q (by show ¬ X.length + 1 ≤ X.length; omega)
            | cons y e =>
              rw [hd] at o2
              have := o2.flip hv
              rw [Bool.not_not] at this
              exact this) h5 h6
          rw [Nat.add_sub_cancel] at ih
          rw [ih, List.length_append, List.length_append, List.length_append]
          congr 1
          omega
/-- a row that is told by the row above is read -/
theorem read_against {X L r : List Bool} {top : List Nat} {at_ : Nat} (ht : Valid top X.length) (h : L.drop at_ = againstA (changes X) top X.length 0 false ++ r) (ha : at_ ≤ L.length) :
    readGA L top X.length at_ 0 [] false = (at_ + (againstA (changes X) top X.length 0 false).length, .ok X) := by
  have := read_against_from ht (X.length + 1) 0 at_ false (changes X) (by omega) (fun _ => On.start _) h ha
  rwa [show X.take (0 - 1) = [] from by simp] at this
end Go.Proofs.YtidicajedckaoaaGreatDoor.Mh
/- A row's lengths as they are counted pixel by pixel; a page's ends of lines; no program in sight. -/
namespace Go.Proofs.YtidicajedckaoaaGreatDoor.Mh
open Go.Proofs.YtidicajedckaoaaGreatDoor.Bit Go.Proofs.YtidicajedckaoaaGreatDoor.Hf Go.Proofs.YtidicajedckaoaaGreatDoor.Inf Go.Proofs.YtidicajedckaoaaGreatDoor.Fx Go.Proofs.YtidicajedckaoaaGreatDoor.Rn
set_option linter.unusedVariables false
set_option linter.unusedSimpArgs false
set_option maxRecDepth 100000

/-- the runs of what is ahead, so many pixels of the colour being there already -/
def runsN (b : Bool) (n : Nat) : List Bool → List Nat
  | [] => [n]
  | x :: l => if x = b then runsN b (n + 1) l else n :: runsN (!b) 1 l
theorem runsN_lens : ∀ (l : List Bool) (b : Bool) (n j : Nat), n ≤ j → runsN b n l = lensL (j - n) (chg b j l) (j + l.length)
  | [], b, n, j, h => by
    rw [runsN, chg, lensL, List.length_nil]
    congr 1
    omega
  | x :: l, b, n, j, h => by
    rw [runsN, chg, List.length_cons, show j + (l.length + 1) = j + 1 + l.length from by omega]
    by_cases hx : x = b
    · rw [if_pos hx, if_pos hx, hx, runsN_lens l b (n + 1) (j + 1) (by omega), Nat.add_sub_add_right]
    · have hb : (!b) = x := by cases b <;> cases x <;> simp_all
      rw [if_neg hx, if_neg hx, lensL, hb, runsN_lens l x 1 (j + 1) (by omega), Nat.add_sub_cancel]
      congr 1
      omega
/-- a row by its lengths, counted pixel by pixel -/
theorem rowF_runs (X : List Bool) : rowF X = tellR false (runsN false 0 X) := by
  rw [runsN_lens X false 0 0 (Nat.le_refl _), Nat.zero_add]
  rfl
/-- what is told when the pixels up to a place have been passed -/
def restR (b : Bool) (n : Nat) (l : List Bool) : List Bool := tellR b (runsN b n l)
theorem restR_nil (b : Bool) (n : Nat) : restR b n [] = tellF b n := by
  unfold restR
  rw [runsN, tellR, tellR, List.append_nil]
theorem restR_same (b : Bool) (n : Nat) (l : List Bool) : restR b n (b :: l) = restR b (n + 1) l := by
  unfold restR
  rw [runsN, if_pos rfl]
theorem restR_turn (b : Bool) (n : Nat) (l : List Bool) : restR b n ((!b) :: l) = tellF b n ++ restR (!b) 1 l := by
  unfold restR
  rw [runsN, if_neg (by cases b <;> simp), tellR]
/-- bounds: a row by its lengths is not long -/
theorem tellF_len (b : Bool) (n : Nat) (hn : n ≤ 32768) : (tellF b n).length ≤ 200 := by
  have hw : ∀ i, ((wordsF b).getD i []).length ≤ 13 := fun i => by
    rw [List.getD_eq_getElem?_getD]
    rcases hi : (wordsF b)[i]? with _ | x
    · simp
    · exact (words_len b x (List.mem_of_getElem? hi)).2
  unfold tellF
  rw [List.length_append, List.length_append, List.length_flatten, List.map_replicate, List.sum_replicate_nat]
  have h1 := hw 103
  have h2 := hw (63 + n % 2560 / 64)
  have h3 := hw (n % 64)
  have h4 : n / 2560 ≤ 12 := by omega
  have h5 : n / 2560 * ((wordsF b).getD 103 []).length ≤ 12 * 13 := Nat.mul_le_mul h4 h1
  split
  · simp only [List.length_nil]
    omega
  · omega
/-- the end of a line -/
def endF (s : List Bool) (two aligned single : Bool) : List Bool :=
  s ++ List.replicate (if aligned then (8 - (s.length + 12) % 8) % 8 else 0) false ++ eol ++ (if two then [single] else [])
/-- how many noughts are ahead of the first one -/
def zerosF : List Bool → Nat
  | [] => 0
  | b :: l => if b then 0 else zerosF l + 1
theorem zeros_eol (k : Nat) (r : List Bool) : zerosF (List.replicate k false ++ (eol ++ r)) = k + 11 ∧ (List.replicate k false ++ (eol ++ r)).drop (k + 12) = r := by
  have he : eol = List.replicate 11 false ++ [true] := rfl
  constructor
  · rw [he]
    have h : ∀ m, zerosF (List.replicate m false ++ ([true] ++ r)) = m := by
      intro m
      induction m with
      | zero => rfl
      | succ m ih => rw [List.replicate_succ, List.cons_append, zerosF, ih]; rfl
    have := h (k + 11)
    rw [show List.replicate (k + 11) false = List.replicate k false ++ List.replicate 11 false from List.replicate_append_replicate.symm] at this
    rw [← this]
    simp only [List.append_assoc]
  · rw [← List.append_assoc, List.drop_left']
    rw [List.length_append, List.length_replicate]
    rfl
end Go.Proofs.YtidicajedckaoaaGreatDoor.Mh

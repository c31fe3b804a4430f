
/- Pages of T.4 in plain words: as they are told, and what bits tell; what is told is read; no program in sight. -/
import Derived.Test.YtmbfgejephgojaaGreatDoorMhP
import Derived.Test.YtmbfgejephgojaaGreatDoorMiN
import Derived.Test.YtmbfgejephgojaaGreatDoorMiR
namespace Go.Proofs.YtmbfgejephgojaaGreatDoor.Gt
open Go.Proofs.YtmbfgejephgojaaGreatDoor.Bit Go.Proofs.YtmbfgejephgojaaGreatDoor.Hf Go.Proofs.YtmbfgejephgojaaGreatDoor.Inf Go.Proofs.YtmbfgejephgojaaGreatDoor.Fx Go.Proofs.YtmbfgejephgojaaGreatDoor.Rn Go.Proofs.YtmbfgejephgojaaGreatDoor.Mh
set_option linter.unusedVariables false
set_option linter.unusedSimpArgs false
set_option maxRecDepth 100000

/-- a row behind the end of a line -/
def lineF (single : Bool) (w : Nat) (above X : List Bool) : List Bool := if single then rowF X else againstA (changes X) (changes above) w 0 false
/-- the rows from the i-th on, behind what is told -/
def rowsF (two aligned : Bool) (every w : Nat) : Nat → List Bool → List (List Bool) → List Bool → List Bool
  | i, above, [], s => s
  | i, above, X :: l, s => rowsF two aligned every w (i + 1) X l (endF s two aligned (!two || i % every == 0) ++ lineF (!two || i % every == 0) w above X)
theorem rowsF_more (two aligned : Bool) (every w : Nat) : ∀ (l : List (List Bool)) (i : Nat) (above s : List Bool), ∃ t, rowsF two aligned every w i above l s = s ++ t
  | [], i, above, s => ⟨[], (List.append_nil s).symm⟩
  | X :: l, i, above, s => by
    obtain ⟨t, ht⟩ := rowsF_more two aligned every w l (i + 1) X (endF s two aligned (!two || i % every == 0) ++ lineF (!two || i % every == 0) w above X)
    rw [rowsF, ht]
    unfold endF
    exact ⟨List.replicate (if aligned then (8 - (s.length + 12) % 8) % 8 else 0) false ++ (eol ++ ((if two then [!two || i % every == 0] else []) ++ (lineF (!two || i % every == 0) w above X ++ t))), by simp only [List.append_assoc]⟩
/-- so many rows, read from a place on -/
def readF (two : Bool) (L : List Bool) (w : Nat) : Nat → Nat → List Bool → Except Nat (List (List Bool))
  | 0, at_, above => .ok []
  | n + 1, at_, above =>
    if L.length ≤ at_ + zerosF (L.drop at_) then .error 2
    else if zerosF (L.drop at_) < 11 then .error 3
    else if two = true ∧ L.length ≤ at_ + zerosF (L.drop at_) + 1 then .error 2
    else match (if (!two || (L.getD (at_ + zerosF (L.drop at_) + 1) false)) = true then readRowA L w (at_ + zerosF (L.drop at_) + 1 + (if two then 1 else 0)) [] false
        else readGA L (changes above) w (at_ + zerosF (L.drop at_) + 1 + (if two then 1 else 0)) 0 [] false) with
      | (_, .error e) => .error e
      | (b, .ok X) => match readF two L w n b X with
        | .error e => .error e
        | .ok l => .ok (X :: l)
theorem drop_len {L x : List Bool} {a : Nat} (h : L.drop a = x) (hx : 0 < x.length) : L.length = a + x.length := by
  have := congrArg List.length h
  rw [List.length_drop] at this
  omega
/-- one row that is told is read -/
theorem line_read {two single : Bool} {L r above X : List Bool} {w at_ k n : Nat} (hw : X.length = w) (h0 : 0 < w) (ha : above.length = w) (hs : two = false → single = true)
    (h : L.drop at_ = List.replicate k false ++ (eol ++ ((if two then [single] else []) ++ (lineF single w above X ++ r)))) :
    readF two L w (n + 1) at_ above = match readF two L w n (at_ + (k + 12) + (if two then 1 else 0) + (lineF single w above X).length) X with
      | .error e => .error e
      | .ok l => .ok (X :: l) := by
  have hel : (if two then [single] else [] : List Bool).length = if two then 1 else 0 := by cases two <;> rfl
  have hz := zeros_eol k ((if two then [single] else []) ++ (lineF single w above X ++ r))
  have hlen := drop_len h (by rw [List.length_append, List.length_append]; show 0 < _ + (12 + _); omega)
  rw [List.length_append, List.length_append, List.length_append, List.length_append, List.length_replicate, hel, show eol.length = 12 from rfl] at hlen
  have h12 : L.drop (at_ + (k + 12)) = (if two then [single] else []) ++ (lineF single w above X ++ r) := by rw [← List.drop_drop, h, hz.2]
  have hrow : L.drop (at_ + (k + 12) + (if two then 1 else 0)) = lineF single w above X ++ r := by
    rw [← List.drop_drop, h12, ← hel, List.drop_left']
    rfl
  have hcond : (!two || L.getD (at_ + (k + 11) + 1) false) = single := by
    cases two
    · rw [hs rfl]; rfl
    · have : L[at_ + (k + 12)]? = some single := by
        have := congrArg (fun l : List Bool => l[0]?) h12
        rw [show (L.drop (at_ + (k + 12)))[0]? = L[at_ + (k + 12)]? from by rw [List.getElem?_drop, Nat.add_zero]] at this
        exact this
      rw [List.getD_eq_getElem?_getD, show at_ + (k + 11) + 1 = at_ + (k + 12) from by omega, this]
      rfl
  have hle : at_ + (k + 12) + (if two then 1 else 0) ≤ L.length := by omega
  rw [readF, h, hz.1, if_neg (by omega), if_neg (by omega), if_neg (by
    rintro ⟨q, q2⟩
    rw [q] at hlen
    simp only [if_true] at hlen
    omega), hcond, show at_ + (k + 11) + 1 = at_ + (k + 12) from by omega]
  subst hw
  cases single
  · rw [if_neg (by simp)]
    have hv := changes_valid above
    rw [ha] at hv
    have hr : L.drop (at_ + (k + 12) + (if two then 1 else 0)) = againstA (changes X) (changes above) X.length 0 false ++ r := hrow
    rw [read_against hv hr hle]
    rfl
  · rw [if_pos rfl]
    have hr : L.drop (at_ + (k + 12) + (if two then 1 else 0)) = rowF X ++ r := hrow
    rw [read_row h0 hr hle]
    rfl
/-- rows that are told are read, whatever is behind them -/
theorem rows_read {two aligned : Bool} {every w : Nat} (h0 : 0 < w) : ∀ (l : List (List Bool)) (i k at_ : Nat) (above s L r : List Bool), (∀ X ∈ l, X.length = w) → above.length = w →
    (∀ t, rowsF two aligned every w i above l s = s ++ t → L.drop at_ = List.replicate k false ++ (t ++ r)) → readF two L w l.length at_ above = .ok l
  | [], i, k, at_, above, s, L, r, hl, ha, h => rfl
  | X :: l, i, k, at_, above, s, L, r, hl, ha, h => by
    have hX := hl X (by simp)
    obtain ⟨t, ht⟩ := rowsF_more two aligned every w l (i + 1) X (endF s two aligned (!two || i % every == 0) ++ lineF (!two || i % every == 0) w above X)
    generalize hsg : (!two || i % every == 0) = single at ht
    have hsingle : two = false → single = true := fun q => by rw [← hsg, q]; rfl
    generalize hz : (if aligned then (8 - (s.length + 12) % 8) % 8 else 0) = z
    have hd := h (List.replicate z false ++ eol ++ (if two then [single] else []) ++ lineF single w above X ++ t) (by
      rw [rowsF, hsg, ht]
      unfold endF
      rw [hz]
      simp only [List.append_assoc])
    have hd2 : L.drop at_ = List.replicate (k + z) false ++ (eol ++ ((if two then [single] else []) ++ (lineF single w above X ++ (t ++ r)))) := by
      rw [hd, ← List.replicate_append_replicate]
      simp only [List.append_assoc]
    rw [List.length_cons, line_read (n := l.length) hX h0 ha hsingle hd2]
    have hel : (if two then [single] else [] : List Bool).length = if two then 1 else 0 := by cases two <;> rfl
    have hdt : L.drop (at_ + (k + z + 12) + (if two then 1 else 0) + (lineF single w above X).length) = t ++ r := by
      have e1 : L.drop (at_ + (k + z + 12)) = (if two then [single] else []) ++ (lineF single w above X ++ (t ++ r)) := by
        rw [← List.drop_drop, hd2, (zeros_eol _ _).2]
      have e2 : L.drop (at_ + (k + z + 12) + (if two then 1 else 0)) = lineF single w above X ++ (t ++ r) := by
        rw [← List.drop_drop, e1, ← hel, List.drop_left']
        rfl
      rw [← List.drop_drop, e2, List.drop_left']
      rfl
    rw [rows_read h0 l (i + 1) 0 _ X (endF s two aligned single ++ lineF single w above X) L r (fun Y hY => hl Y (by simp [hY])) hX (fun t2 ht2 => by
      rw [hsg] at *
      rw [ht] at ht2
      rw [hdt, List.replicate_zero, List.nil_append, List.append_cancel_left ht2])]
/-- a page that is told is read, noughts ahead of it, whatever is behind -/
theorem page_read {two aligned : Bool} {every w : Nat} (h0 : 0 < w) (l : List (List Bool)) (k : Nat) (r : List Bool) (hl : ∀ X ∈ l, X.length = w) :
    readF two (List.replicate k false ++ (rowsF two aligned every w 0 (List.replicate w false) l [] ++ r)) w l.length 0 (List.replicate w false) = .ok l :=
  rows_read h0 l 0 k 0 (List.replicate w false) [] _ r hl (by simp) fun t ht => by
    rw [List.nil_append] at ht
    rw [ht, List.drop_zero]
end Go.Proofs.YtmbfgejephgojaaGreatDoor.Gt
/- Pages of T.4 by steps: as a loop tells them and reads them; how long they are. No program in sight. -/
namespace Go.Proofs.YtmbfgejephgojaaGreatDoor.Gt
open Go.Proofs.YtmbfgejephgojaaGreatDoor.Bit Go.Proofs.YtmbfgejephgojaaGreatDoor.Hf Go.Proofs.YtmbfgejephgojaaGreatDoor.Inf Go.Proofs.YtmbfgejephgojaaGreatDoor.Fx Go.Proofs.YtmbfgejephgojaaGreatDoor.Rn Go.Proofs.YtmbfgejephgojaaGreatDoor.Mh
set_option linter.unusedVariables false
set_option linter.unusedSimpArgs false
set_option maxRecDepth 100000

/-- the row above the one behind these -/
def topF (above : List Bool) (l : List (List Bool)) : List Bool := l.getLast?.getD above
theorem topF_nil (above : List Bool) : topF above [] = above := rfl
theorem topF_one (above X : List Bool) (l : List (List Bool)) : topF above (l ++ [X]) = X := by simp [topF]
/-- one row more -/
def nextF (two aligned : Bool) (every w i : Nat) (above X s : List Bool) : List Bool := endF s two aligned (!two || i % every == 0) ++ lineF (!two || i % every == 0) w above X
theorem rowsF_snoc (two aligned : Bool) (every w : Nat) : ∀ (l : List (List Bool)) (i : Nat) (above s X : List Bool), rowsF two aligned every w i above (l ++ [X]) s = nextF two aligned every w (i + l.length) (topF above l) X (rowsF two aligned every w i above l s)
  | [], i, above, s, X => rfl
  | Y :: l, i, above, s, X => by
    rw [List.cons_append, rowsF, rowsF_snoc two aligned every w l (i + 1) Y _ X, List.length_cons, show i + (l.length + 1) = i + 1 + l.length from by omega]
    have : topF above (Y :: l) = topF Y l := by
      unfold topF
      rcases l with _ | ⟨Z, l⟩
      · rfl
      · rw [List.getLast?_cons_cons]
        rcases h : (Z :: l).getLast? with _ | V
        · simp at h
        · rfl
    rw [this]
    rfl
/-- the ends of lines behind a page -/
def endsF (two : Bool) : Nat → List Bool → List Bool
  | 0, s => s
  | n + 1, s => endF (endsF two n s) two false true
/-- a page -/
def pageG (two aligned ends : Bool) (every w : Nat) (l : List (List Bool)) : List Bool :=
  if ends then endsF two 5 (endF (rowsF two aligned every w 0 (List.replicate w false) l []) two aligned true) else rowsF two aligned every w 0 (List.replicate w false) l []
theorem endsF_more (two : Bool) : ∀ (n : Nat) (s : List Bool), ∃ t, endsF two n s = s ++ t
  | 0, s => ⟨[], (List.append_nil s).symm⟩
  | n + 1, s => by
    obtain ⟨t, ht⟩ := endsF_more two n s
    rw [endsF, ht]
    unfold endF
    exact ⟨t ++ (List.replicate (if false then (8 - ((s ++ t).length + 12) % 8) % 8 else 0) false ++ (eol ++ (if two then [true] else []))), by simp only [List.append_assoc]⟩
/-- what is behind the rows of a page -/
theorem pageG_more (two aligned ends : Bool) (every w : Nat) (l : List (List Bool)) : ∃ t, pageG two aligned ends every w l = rowsF two aligned every w 0 (List.replicate w false) l [] ++ t := by
  unfold pageG
  cases ends
  · exact ⟨[], (List.append_nil _).symm⟩
  · obtain ⟨t, ht⟩ := endsF_more two 5 (endF (rowsF two aligned every w 0 (List.replicate w false) l []) two aligned true)
    rw [if_pos rfl, ht]
    unfold endF
    exact ⟨_, by simp only [List.append_assoc]; rfl⟩
theorem endF_len (s : List Bool) (two aligned single : Bool) : (endF s two aligned single).length ≤ s.length + 20 := by
  unfold endF
  rw [List.length_append, List.length_append, List.length_append, List.length_replicate, show eol.length = 12 from rfl]
  have h1 : (if two = true then [single] else []).length ≤ 1 := by cases two <;> simp
  have h2 : (if aligned = true then (8 - (s.length + 12) % 8) % 8 else 0) ≤ 7 := by split <;> omega
  omega
theorem endsF_len (two : Bool) : ∀ (n : Nat) (s : List Bool), (endsF two n s).length ≤ s.length + 20 * n
  | 0, s => by simp [endsF]
  | n + 1, s => by
    have h1 := endsF_len two n s
    have h2 := endF_len (endsF two n s) two false true
    rw [endsF]
    omega
theorem rowsF_len {two aligned : Bool} {every w c : Nat} : ∀ (l : List (List Bool)) (i : Nat) (above s : List Bool), above.length = w → (∀ X ∈ l, X.length = w) → (∀ single above X, above.length = w → X.length = w → (lineF single w above X).length ≤ c) → (rowsF two aligned every w i above l s).length ≤ s.length + (c + 20) * l.length
  | [], i, above, s, ha, hl, hc => by simp [rowsF]
  | X :: l, i, above, s, ha, hl, hc => by
    have hX := hl X (by simp)
    rw [rowsF]
    refine Nat.le_trans (rowsF_len l (i + 1) X _ hX (fun Y hY => hl Y (by simp [hY])) hc) ?_
    rw [List.length_append, List.length_cons, Nat.mul_succ]
    have h1 := hc (!two || i % every == 0) above X ha hX
    have h2 := endF_len s two aligned (!two || i % every == 0)
    omega
/-- a row of up to 400 pixels -/
theorem lineF_len {single : Bool} {w : Nat} {above X : List Bool} (ha : above.length = w) (hX : X.length = w) (hw : w ≤ 400) : (lineF single w above X).length ≤ 80300 := by
  have h1 := Rn.chg_len X false 0
  have h2 := Rn.chg_len above false 0
  have hv := changes_valid X
  have hv2 := changes_valid above
  cases single
  · have := against_len0 (T := 26) (hX ▸ hv) (ha ▸ hv2) (fun b x hx => tell_len2 b (n := x) (by omega))
    change (againstA (changes X) (changes above) w 0 false).length ≤ _
    unfold changes at this
    unfold changes
    have h3 : (2 * 26 + 7) * ((Rn.chg false 0 X).length + (Rn.chg false 0 above).length + 1) ≤ 59 * (801) := Nat.mul_le_mul (by omega) (by omega)
    omega
  · have := rowC_len hv (by omega)
    change (rowC (changes X) X.length).length ≤ _
    unfold changes at this
    unfold changes
    have h3 : 200 * ((Rn.chg false 0 X).length + 1) ≤ 200 * 401 := Nat.mul_le_mul_left _ (by omega)
    omega
/-- a page of up to 20 rows of up to 400 pixels -/
theorem pageG_len {two aligned ends : Bool} {every w : Nat} {l : List (List Bool)} (hl : ∀ X ∈ l, X.length = w) (hw : w ≤ 400) (hn : l.length ≤ 20) : (pageG two aligned ends every w l).length ≤ 1606700 := by
  have h := rowsF_len (two := two) (aligned := aligned) (every := every) (c := 80300) l 0 (List.replicate w false) [] (by simp) hl (fun single above X ha hX => lineF_len ha hX hw)
  have h2 : (80300 + 20) * l.length ≤ 80320 * 20 := Nat.mul_le_mul_left _ hn
  simp only [List.length_nil] at h
  unfold pageG
  split
  · have h3 := endF_len (rowsF two aligned every w 0 (List.replicate w false) l []) two aligned true
    have h4 := endsF_len two 5 (endF (rowsF two aligned every w 0 (List.replicate w false) l []) two aligned true)
    omega
  · omega
/-- noughts one by one -/
theorem zerosF_one {L : List Bool} {p : Nat} (h : L[p]? = some true) : zerosF (L.drop p) = 0 := by
  obtain ⟨hl, hp⟩ := List.getElem?_eq_some_iff.1 h
  rw [List.drop_eq_getElem_cons hl, hp, zerosF, if_pos rfl]
theorem zerosF_nought {L : List Bool} {p : Nat} (h : L[p]? = some false) : zerosF (L.drop p) = zerosF (L.drop (p + 1)) + 1 := by
  obtain ⟨hl, hp⟩ := List.getElem?_eq_some_iff.1 h
  rw [List.drop_eq_getElem_cons hl, hp, zerosF, if_neg (by decide)]
theorem zerosF_end {L : List Bool} {p : Nat} (h : L.length ≤ p) : zerosF (L.drop p) = 0 := by
  rw [List.drop_eq_nil_of_le h]; rfl
theorem zerosF_le : ∀ l : List Bool, zerosF l ≤ l.length
  | [] => Nat.le_refl _
  | b :: l => by
    have := zerosF_le l
    rw [zerosF, List.length_cons]
    split <;> omega
/-- behind the noughts is a one -/
theorem zerosF_at : ∀ (l : List Bool), zerosF l < l.length → l[zerosF l]? = some true
  | [], h => by simp at h
  | true :: l, h => by simp [zerosF]
  | false :: l, h => by
    rw [zerosF, if_neg (by decide)] at h ⊢
    simp only [List.length_cons] at h
    rw [List.getElem?_cons_succ]
    exact zerosF_at l (by omega)
/-- all that is ahead of it is noughts -/
theorem zerosF_ahead : ∀ (l : List Bool) (i : Nat), i < zerosF l → l[i]? = some false
  | [], i, h => by simp [zerosF] at h
  | true :: l, i, h => by simp [zerosF] at h
  | false :: l, 0, h => rfl
  | false :: l, i + 1, h => by
    rw [zerosF, if_neg (by decide)] at h
    rw [List.getElem?_cons_succ]
    exact zerosF_ahead l i (by omega)
/-- the end of a line, read: where the row is, and whether by its lengths -/
def headF (two : Bool) (L : List Bool) (p : Nat) : Except Nat (Nat × Bool) :=
  if L.length ≤ p + zerosF (L.drop p) then .error 2
  else if zerosF (L.drop p) < 11 then .error 3
  else if two = true ∧ L.length ≤ p + zerosF (L.drop p) + 1 then .error 2
  else .ok (p + zerosF (L.drop p) + 1 + (if two then 1 else 0), !two || L.getD (p + zerosF (L.drop p) + 1) false)
theorem headF_le {two : Bool} {L : List Bool} {p q : Nat} {s : Bool} (h : headF two L p = .ok (q, s)) : q ≤ L.length ∧ p < q := by
  unfold headF at h
  split at h
  · cases h
  · split at h
    · cases h
    · split at h
      · cases h
      · rename_i h1 h2 h3
        injection h with h
        injection h with h h'
        subst h
        cases two
        · simp only [Bool.false_eq_true, if_false]; omega
        · simp only [true_and] at h3
          simp only [if_true]
          omega
theorem headF_err {two : Bool} {L : List Bool} {p e : Nat} (h : headF two L p = .error e) : e = 2 ∨ e = 3 := by
  unfold headF at h
  split at h
  · injection h with h; exact .inl h.symm
  · split at h
    · injection h with h; exact .inr h.symm
    · split at h
      · injection h with h; exact .inl h.symm
      · cases h
/-- a row read behind it -/
def oneF (single : Bool) (L : List Bool) (w p : Nat) (above : List Bool) : Nat × Except Nat (List Bool) := if single then readRowA L w p [] false else readGA L (changes above) w p 0 [] false
theorem readF_eq (two : Bool) (L : List Bool) (w n p : Nat) (above : List Bool) : readF two L w (n + 1) p above = match headF two L p with
    | .error e => .error e
    | .ok (q, s) => match oneF s L w q above with
      | (_, .error e) => .error e
      | (b, .ok X) => match readF two L w n b X with
        | .error e => .error e
        | .ok l => .ok (X :: l) := by
  rw [readF]
  unfold headF oneF
  split
  · rfl
  · split
    · rfl
    · split
      · rfl
      · rfl
theorem readGA_le {L : List Bool} {top : List Nat} {n : Nat} : ∀ (f t a : Nat) (P : List Bool) (b : Bool), L.length + 2 ≤ f + t → t ≤ L.length → (readGA L top n t a P b).1 ≤ L.length
  | 0, t, a, P, b, hf, ht => by omega
  | f + 1, t, a, P, b, hf, ht => by
    by_cases hn : a ≤ n
    · rw [readGA_step L top n t a P b ht hn]
      have hsl := stepA_le (L := L) (top := top) (n := n) (t := t) (a := a) (P := P) (b := b) ht
      rcases hy : stepA L top n t a P b with ⟨t1, e | s⟩
      · rw [hy] at hsl
        exact hsl.1
      · rw [hy] at hsl
        simp only at hsl ⊢
        exact readGA_le f t1 s.1 s.2.1 s.2.2 (by have := hsl.2.2 s rfl; omega) hsl.1
    · rw [readGA_eq L top n t a P b ht, if_pos (by omega)]
      exact ht
theorem readRowA_le1 {L : List Bool} {wd : Nat} : ∀ (f t : Nat) (P : List Bool) (b : Bool), L.length + 1 ≤ f + t → t ≤ L.length → (readRowA L wd t P b).1 ≤ L.length
  | 0, t, P, b, hf, ht => by omega
  | f + 1, t, P, b, hf, ht => by
    rw [readRowA_eq L wd t P b ht]
    have h1 := lenA_lt b (L := L) (most := wd - P.length) (n := 0) ht
    rcases hy : Fx.lenA b L (wd - P.length) t 0 with ⟨t1, c | m⟩
    · rw [hy] at h1
      exact h1.1
    · rw [hy] at h1
      simp only at h1 ⊢
      split
      · exact h1.1
      · exact readRowA_le1 f t1 _ _ (by have := (h1.2.2 m rfl).1; omega) h1.1
theorem oneF_le {single : Bool} {L : List Bool} {w p : Nat} {above : List Bool} (hp : p ≤ L.length) : (oneF single L w p above).1 ≤ L.length := by
  unfold oneF
  cases single
  · exact readGA_le (L.length + 2) p 0 [] false (by omega) hp
  · exact readRowA_le1 (L.length + 1) p [] false (by omega) hp
theorem oneF_len {single : Bool} {L : List Bool} {w p : Nat} {above X : List Bool} (h1 : 1 ≤ w) (ha : above.length = w) (hp : p ≤ L.length) (h : (oneF single L w p above).2 = .ok X) : X.length = w := by
  unfold oneF at h
  have hv := changes_valid above
  rw [ha] at hv
  cases single
  · exact readGA_len h1 hv (L.length + 2) p 0 [] false (by omega) hp rfl (by omega) h
  · exact readRowA_len (L.length + 1) p [] false (by omega) hp h
/-- rows read, behind what was read -/
def readB (two : Bool) (L : List Bool) (w : Nat) : Nat → Nat → List Bool → List (List Bool) → Except Nat (List (List Bool))
  | 0, p, above, acc => .ok acc
  | n + 1, p, above, acc => match headF two L p with
    | .error e => .error e
    | .ok (q, s) => match oneF s L w q above with
      | (_, .error e) => .error e
      | (b, .ok X) => readB two L w n b X (acc ++ [X])
theorem readB_eq (two : Bool) (L : List Bool) (w : Nat) : ∀ (n p : Nat) (above : List Bool) (acc : List (List Bool)), readB two L w n p above acc = match readF two L w n p above with
    | .error e => .error e
    | .ok l => .ok (acc ++ l)
  | 0, p, above, acc => by rw [readB, readF]; simp
  | n + 1, p, above, acc => by
    rw [readB, readF_eq]
    rcases headF two L p with e | ⟨q, s⟩
    · rfl
    · simp only
      rcases oneF s L w q above with ⟨b, e | X⟩
      · rfl
      · simp only
        rw [readB_eq two L w n b X (acc ++ [X])]
        rcases readF two L w n b X with e | l
        · rfl
        · simp
theorem readB_nil (two : Bool) (L : List Bool) (w n p : Nat) (above : List Bool) : readB two L w n p above [] = readF two L w n p above := by
  rw [readB_eq]
  rcases readF two L w n p above with e | l <;> rfl
theorem readB_len {two : Bool} {L : List Bool} {w : Nat} (h1 : 1 ≤ w) {Xs : List (List Bool)} : ∀ (n p : Nat) (above : List Bool) (acc : List (List Bool)), p ≤ L.length → above.length = w → (∀ X ∈ acc, X.length = w) → readB two L w n p above acc = .ok Xs → (∀ X ∈ Xs, X.length = w) ∧ Xs.length = acc.length + n
  | 0, p, above, acc, hp, ha, hx, h => by
    injection h with h
    subst h
    exact ⟨hx, rfl⟩
  | n + 1, p, above, acc, hp, ha, hx, h => by
    rw [readB] at h
    rcases hy : headF two L p with e | ⟨q, s⟩
    · rw [hy] at h; cases h
    · rw [hy] at h
      simp only at h
      have hq := headF_le hy
      have hle := oneF_le (single := s) (w := w) (above := above) hq.1
      have hlen := fun X hX => oneF_len (single := s) (X := X) h1 ha hq.1 hX
      rcases hz : oneF s L w q above with ⟨b, e | X⟩
      · rw [hz] at h; cases h
      · rw [hz] at h hle hlen
        simp only at h hle hlen
        have hX := hlen X rfl
        have := readB_len h1 n b X (acc ++ [X]) hle hX (fun Y hY => by
          rcases List.mem_append.1 hY with hY | hY
          · exact hx Y hY
          · rw [List.mem_singleton] at hY; rw [hY]; exact hX) h
        rw [List.length_append, List.length_singleton] at this
        exact ⟨this.1, by omega⟩
theorem oneF_ne {single : Bool} {L : List Bool} {w p e : Nat} {above : List Bool} (hp : p ≤ L.length) (h : (oneF single L w p above).2 = .error e) : ((e : Int) != 0) = true := by
  unfold oneF at h
  cases single
  · exact readGA_ne (L.length + 2) p 0 [] false (by omega) hp h
  · exact lenA_ne0 (L.length + 1) p [] false (by omega) hp h
end Go.Proofs.YtmbfgejephgojaaGreatDoor.Gt


/- Pages of T.6 by steps: as a loop tells them and reads them; how long they are. No program in sight. -/
import Derived.Test.YtmbfgejephgojaaGreatDoorGfM
import Derived.Test.YtmbfgejephgojaaGreatDoorMiN
import Derived.Test.YtmbfgejephgojaaGreatDoorMiR
namespace Go.Proofs.YtmbfgejephgojaaGreatDoor.Gf
open Go.Proofs.YtmbfgejephgojaaGreatDoor.Bit Go.Proofs.YtmbfgejephgojaaGreatDoor.Hf Go.Proofs.YtmbfgejephgojaaGreatDoor.Inf Go.Proofs.YtmbfgejephgojaaGreatDoor.Fx Go.Proofs.YtmbfgejephgojaaGreatDoor.Rn Go.Proofs.YtmbfgejephgojaaGreatDoor.Mh
set_option linter.unusedVariables false
set_option linter.unusedSimpArgs false
set_option maxRecDepth 100000

/-- the row above the one behind these -/
def topP (above : List Bool) (l : List (List Bool)) : List Bool := l.getLast?.getD above
theorem topP_nil (above : List Bool) : topP above [] = above := rfl
theorem topP_one (above X : List Bool) (l : List (List Bool)) : topP above (l ++ [X]) = X := by simp [topP]
theorem rowsP_snoc (w : Nat) : ∀ (l : List (List Bool)) (above X : List Bool), rowsP w above (l ++ [X]) = rowsP w above l ++ againstA (changes X) (changes (topP above l)) w 0 false
  | [], above, X => by simp [rowsP, topP]
  | Y :: l, above, X => by
    rw [List.cons_append, rowsP, rowsP, rowsP_snoc w l Y X, List.append_assoc]
    have : topP above (Y :: l) = topP Y l := by
      unfold topP
      rcases l with _ | ⟨Z, l⟩
      · rfl
      · rw [List.getLast?_cons_cons]
        rcases h : (Z :: l).getLast? with _ | V
        · simp at h
        · rfl
    rw [this]
/-- a row of up to 400 pixels -/
theorem againstA_len {w : Nat} {above X : List Bool} (ha : above.length = w) (hX : X.length = w) (hw : w ≤ 400) : (againstA (changes X) (changes above) w 0 false).length ≤ 47259 := by
  have h1 := Rn.chg_len X false 0
  have h2 := Rn.chg_len above false 0
  have hv := changes_valid X
  have hv2 := changes_valid above
  have := against_len0 (T := 26) (hX ▸ hv) (ha ▸ hv2) (fun b x hx => tell_len2 b (n := x) (by omega))
  unfold changes at this
  unfold changes
  have h3 : (2 * 26 + 7) * ((Rn.chg false 0 X).length + (Rn.chg false 0 above).length + 1) ≤ 59 * 801 := Nat.mul_le_mul (by omega) (by omega)
  omega
/-- rows of up to 400 pixels -/
theorem rowsP_len {w : Nat} (hw : w ≤ 400) : ∀ (l : List (List Bool)) (above : List Bool), above.length = w → (∀ X ∈ l, X.length = w) → (rowsP w above l).length ≤ 47259 * l.length
  | [], above, ha, hl => by simp [rowsP]
  | X :: l, above, ha, hl => by
    have hX := hl X (by simp)
    have h1 := againstA_len ha hX hw
    have h2 := rowsP_len hw l X hX (fun Y hY => hl Y (by simp [hY]))
    rw [rowsP, List.length_append, List.length_cons, Nat.mul_succ]
    omega
theorem readGA_le {L : List Bool} {top : List Nat} {n : Nat} : ∀ (f t a : Nat) (P : List Bool) (b : Bool), L.length + 2 ≤ f + t → t ≤ L.length → (readGA L top n t a P b).1 ≤ L.length
  | 0, t, a, P, b, hf, ht => by omega
  | f + 1, t, a, P, b, hf, ht => by
    by_cases hn : a ≤ n
    · rw [readGA_step L top n t a P b ht hn]
      have hsl := stepA_le (L := L) (top := top) (n := n) (t := t) (a := a) (P := P) (b := b) ht
      rcases hy : stepA L top n t a P b with ⟨t1, e | s⟩
      · rw [hy] at hsl
        exact hsl.1
      · rw [hy] at hsl
        simp only at hsl ⊢
        exact readGA_le f t1 s.1 s.2.1 s.2.2 (by have := hsl.2.2 s rfl; omega) hsl.1
    · rw [readGA_eq L top n t a P b ht, if_pos (by omega)]
      exact ht
/-- the end of a page is here -/
def atEnd (L : List Bool) (p : Nat) : Prop := p + 24 ≤ L.length ∧ (L.drop p).take 24 = eofb
instance (L : List Bool) (p : Nat) : Decidable (atEnd L p) := inferInstanceAs (Decidable (_ ∧ _))
/-- rows read, behind what was read -/
def readQ (L : List Bool) (w : Nat) : Nat → Nat → List Bool → List (List Bool) → Except Nat (List (List Bool))
  | 0, p, above, acc => .ok acc
  | n + 1, p, above, acc => if atEnd L p then .error 2
    else match readGA L (changes above) w p 0 [] false with
      | (_, .error e) => .error e
      | (b, .ok X) => readQ L w n b X (acc ++ [X])
theorem readQ_eq (L : List Bool) (w : Nat) : ∀ (n p : Nat) (above : List Bool) (acc : List (List Bool)), readQ L w n p above acc = match readP L w n p above with
    | .error e => .error e
    | .ok l => .ok (acc ++ l)
  | 0, p, above, acc => by rw [readQ, readP]; simp
  | n + 1, p, above, acc => by
    rw [readQ, readP]
    by_cases hE : p + 24 ≤ L.length ∧ (L.drop p).take 24 = eofb
    · have hE2 : atEnd L p := hE
      rw [if_pos hE, if_pos hE2]
    · have hE2 : ¬ atEnd L p := hE
      rw [if_neg hE, if_neg hE2]
      rcases readGA L (changes above) w p 0 [] false with ⟨b, e | X⟩
      · rfl
      · simp only
        rw [readQ_eq L w n b X (acc ++ [X])]
        rcases readP L w n b X with e | l
        · rfl
        · simp
theorem readQ_nil (L : List Bool) (w n p : Nat) (above : List Bool) : readQ L w n p above [] = readP L w n p above := by
  rw [readQ_eq]
  rcases readP L w n p above with e | l <;> rfl
theorem readQ_len {L : List Bool} {w : Nat} (h1 : 1 ≤ w) {Xs : List (List Bool)} : ∀ (n p : Nat) (above : List Bool) (acc : List (List Bool)), p ≤ L.length → above.length = w → (∀ X ∈ acc, X.length = w) → readQ L w n p above acc = .ok Xs → (∀ X ∈ Xs, X.length = w) ∧ Xs.length = acc.length + n
  | 0, p, above, acc, hp, ha, hx, h => by
    injection h with h
    subst h
    exact ⟨hx, rfl⟩
  | n + 1, p, above, acc, hp, ha, hx, h => by
    rw [readQ] at h
    split at h
    · cases h
    · have hv := changes_valid above
      rw [ha] at hv
      have hle := readGA_le (L := L) (top := changes above) (n := w) (L.length + 2) p 0 [] false (by omega) hp
      have hlen := fun X hX => readGA_len (L := L) (X := X) h1 hv (L.length + 2) p 0 [] false (by omega) hp rfl (by omega) hX
      rcases hz : readGA L (changes above) w p 0 [] false with ⟨b, e | X⟩
      · rw [hz] at h; cases h
      · rw [hz] at h hle hlen
        simp only at h hle hlen
        have hX := hlen X rfl
        have := readQ_len h1 n b X (acc ++ [X]) hle hX (fun Y hY => by
          rcases List.mem_append.1 hY with hY | hY
          · exact hx Y hY
          · rw [List.mem_singleton] at hY; rw [hY]; exact hX) h
        rw [List.length_append, List.length_singleton] at this
        exact ⟨this.1, by omega⟩
/-- fewer rows than are told -/
theorem rows_few {w : Nat} {L r : List Bool} (h0 : 0 < w) : ∀ (l : List (List Bool)) (k at_ : Nat) (above : List Bool), k ≤ l.length → (∀ X ∈ l, X.length = w) → above.length = w → L.drop at_ = rowsP w above l ++ r → readP L w k at_ above = .ok (l.take k)
  | l, 0, at_, above, hk, hl, ha, h => by rw [readP, List.take_zero]
  | [], k + 1, at_, above, hk, hl, ha, h => by simp at hk
  | X :: l, k + 1, at_, above, hk, hl, ha, h => by
    have hX := hl X (by simp)
    have hv := changes_valid above
    have hx := changes_valid X
    rw [ha] at hv
    rw [hX] at hx
    obtain ⟨i, t, hi, hm⟩ := against_mode hx hv
    rw [rowsP, List.append_assoc] at h
    have hlen := congrArg List.length h
    have hpos : 0 < (againstA (changes X) (changes above) w 0 false).length := by
      rw [hm, List.length_append]
      have hq : modesF[i]? = some (modesF.getD i []) := by
        rw [List.getD_eq_getElem?_getD, List.getElem?_eq_getElem (by rw [modesF_length]; omega)]
        rfl
      have := modes_len _ (List.mem_of_getElem? hq)
      omega
    rw [List.length_drop, List.length_append] at hlen
    have hne : (L.drop at_).take 24 ≠ eofb := by
      rw [h, hm, List.append_assoc]
      exact mode_end (by omega) _
    have hr : readGA L (changes above) w at_ 0 [] false = (at_ + (againstA (changes X) (changes above) w 0 false).length, .ok X) := by
      subst hX
      exact read_against hv h (by omega)
    have hd : L.drop (at_ + (againstA (changes X) (changes above) w 0 false).length) = rowsP w X l ++ r := by
      rw [← List.drop_drop, h, List.drop_left']
      rfl
    rw [List.take_succ_cons, readP, if_neg (fun q => hne q.2), hr]
    simp only
    rw [rows_few h0 l k _ X (by simpa using hk) (fun Y hY => hl Y (by simp [hY])) hX hd]
/-- a page of any number of rows -/
theorem rowsP_lenW {w : Nat} (hw : w ≤ 400) : ∀ (l : List (List Bool)) (above : List Bool), above.length = w → (∀ X ∈ l, X.length = w) → (rowsP w above l).length ≤ (118 * w + 59) * l.length
  | [], above, ha, hl => by simp [rowsP]
  | X :: l, above, ha, hl => by
    have hX := hl X (by simp)
    have h1 := Rn.chg_len X false 0
    have h2 := Rn.chg_len above false 0
    have hv := changes_valid X
    have hv2 := changes_valid above
    have := against_len0 (T := 26) (hX ▸ hv) (ha ▸ hv2) (fun b x hx => tell_len2 b (n := x) (by omega))
    have h3 : (2 * 26 + 7) * ((changes X).length + (changes above).length + 1) ≤ 59 * (w + w + 1) := Nat.mul_le_mul (by omega) (by unfold changes; omega)
    have h4 := rowsP_lenW hw l X hX (fun Y hY => hl Y (by simp [hY]))
    rw [rowsP, List.length_append, List.length_cons, Nat.mul_succ]
    omega
end Go.Proofs.YtmbfgejephgojaaGreatDoor.Gf

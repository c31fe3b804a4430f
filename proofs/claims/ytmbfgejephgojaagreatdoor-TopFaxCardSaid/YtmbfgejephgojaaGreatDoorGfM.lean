
/- Pages of T.6 in plain words: as they are told, and what bits tell; what is told is read, one row more is not there; no program in sight. -/
import Derived.Test.YtmbfgejephgojaaGreatDoorMhP
namespace Go.Proofs.YtmbfgejephgojaaGreatDoor.Gf
open Go.Proofs.YtmbfgejephgojaaGreatDoor.Bit Go.Proofs.YtmbfgejephgojaaGreatDoor.Hf Go.Proofs.YtmbfgejephgojaaGreatDoor.Inf Go.Proofs.YtmbfgejephgojaaGreatDoor.Fx Go.Proofs.YtmbfgejephgojaaGreatDoor.Rn Go.Proofs.YtmbfgejephgojaaGreatDoor.Mh
set_option linter.unusedVariables false
set_option linter.unusedSimpArgs false
set_option maxRecDepth 100000

/-- the end of a page -/
def eofb : List Bool := eol ++ eol
/-- rows, each by the one above it -/
def rowsP (w : Nat) : List Bool → List (List Bool) → List Bool
  | above, [] => []
  | above, X :: l => againstA (changes X) (changes above) w 0 false ++ rowsP w X l
/-- so many rows, read from a place on -/
def readP (L : List Bool) (w : Nat) : Nat → Nat → List Bool → Except Nat (List (List Bool))
  | 0, at_, above => .ok []
  | n + 1, at_, above =>
    if at_ + 24 ≤ L.length ∧ (L.drop at_).take 24 = eofb then .error 2
    else match readGA L (changes above) w at_ 0 [] false with
      | (_, .error e) => .error e
      | (b, .ok X) => match readP L w n b X with
        | .error e => .error e
        | .ok l => .ok (X :: l)
theorem against_mode {c top : List Nat} {w : Nat} (hc : Valid c w) (ht : Valid top w) : ∃ i t, i < 9 ∧ againstA c top w 0 false = modesF.getD i [] ++ t := by
  rw [againstA_eq hc ht false (Nat.zero_le _)]
  split
  · exact ⟨8, _, by decide, rfl⟩
  · split
    · rename_i h
      exact ⟨_, _, by omega, rfl⟩
    · exact ⟨7, _, by decide, rfl⟩
/-- a mode's word isn't the end of a page -/
theorem mode_end {i : Nat} (hi : i < 10) (t : List Bool) : (modesF.getD i [] ++ t).take 24 ≠ eofb := by
  intro h
  have hm : modesF[i]? = some (modesF.getD i []) := by
    rw [List.getD_eq_getElem?_getD, List.getElem?_eq_getElem (by rw [modesF_length]; exact hi)]
    rfl
  have hl := modes_len _ (List.mem_of_getElem? hm)
  have hp : modesF.getD i [] <+: eol := by
    have e1 : modesF.getD i [] = ((modesF.getD i [] ++ t).take 24).take (modesF.getD i []).length := by
      rw [List.take_take, Nat.min_eq_left (by omega), List.take_left']
      rfl
    have e2 : modesF.getD i [] = eol.take (modesF.getD i []).length := by
      rw [h] at e1
      rw [e1]
      unfold eofb
      rw [List.length_take, List.take_append_of_le_length (by rw [show eol.length = 12 from rfl]; omega)]
      congr 1
      rw [List.length_append, show eol.length = 12 from rfl]
      omega
    rw [e2]
    exact List.take_prefix _ _
  have hf := free_of modes_eol 10 (by decide)
  have hg : (modesF ++ [eol]).getD 10 [] = eol := rfl
  have := hf.2 i (modesF.getD i []) (by rw [List.getElem?_append_left (by rw [modesF_length]; exact hi)]; exact hm) (by rw [hg]; exact hp) (fun e => by rw [e] at hl; simp at hl)
  omega
/-- rows that are told are read; behind the end there is none -/
theorem rows_read {w : Nat} {L r : List Bool} (h0 : 0 < w) : ∀ (l : List (List Bool)) (at_ : Nat) (above : List Bool), (∀ X ∈ l, X.length = w) → above.length = w → L.drop at_ = rowsP w above l ++ (eofb ++ r) →
    readP L w l.length at_ above = .ok l ∧ readP L w (l.length + 1) at_ above = .error 2
  | [], at_, above, hl, ha, h => by
    refine ⟨rfl, ?_⟩
    rw [show rowsP w above [] = [] from rfl, List.nil_append] at h
    have hlen := congrArg List.length h
    rw [List.length_drop, List.length_append, show eofb.length = 24 from rfl] at hlen
    rw [List.length_nil, readP, if_pos ⟨by omega, by rw [h]; rfl⟩]
  | X :: l, at_, above, hl, ha, h => by
    have hX := hl X (by simp)
    have hv := changes_valid above
    have hx := changes_valid X
    rw [ha] at hv
    rw [hX] at hx
    obtain ⟨i, t, hi, hm⟩ := against_mode hx hv
    rw [rowsP, List.append_assoc] at h
    have hlen := congrArg List.length h
    have hpos : 0 < (againstA (changes X) (changes above) w 0 false).length := by
      rw [hm, List.length_append]
      have hq : modesF[i]? = some (modesF.getD i []) := by
        rw [List.getD_eq_getElem?_getD, List.getElem?_eq_getElem (by rw [modesF_length]; omega)]
        rfl
      have := modes_len _ (List.mem_of_getElem? hq)
      omega
    rw [List.length_drop, List.length_append] at hlen
    have hne : (L.drop at_).take 24 ≠ eofb := by
      rw [h, hm, List.append_assoc]
      exact mode_end (by omega) _
    have hr : readGA L (changes above) w at_ 0 [] false = (at_ + (againstA (changes X) (changes above) w 0 false).length, .ok X) := by
      subst hX
      exact read_against hv h (by omega)
    have hd : L.drop (at_ + (againstA (changes X) (changes above) w 0 false).length) = rowsP w X l ++ (eofb ++ r) := by
      rw [← List.drop_drop, h, List.drop_left']
      rfl
    obtain ⟨h1, h2⟩ := rows_read h0 l _ X (fun Y hY => hl Y (by simp [hY])) hX hd
    constructor
    · rw [List.length_cons, readP, if_neg (fun q => hne q.2), hr]
      simp only
      rw [h1]
    · rw [List.length_cons, readP, if_neg (fun q => hne q.2), hr]
      simp only
      rw [h2]
end Go.Proofs.YtmbfgejephgojaaGreatDoor.Gf


/- The walk of MhReads. -/
import Derived.Test.YtmbfgejephgojaaGreatDoorMiM
import Derived.Test.YtmbfgejephgojaaGreatDoorMiR
import Derived.Test.YtmbfgejephgojaaGreatDoorBitF
namespace Go.Proofs.YtmbfgejephgojaaGreatDoor.Mh
open Go.RowKit Go.Proofs.YtmbfgejephgojaaGreatDoor.Oct Go.Proofs.YtmbfgejephgojaaGreatDoor.Bit
open Go.Proofs.YtmbfgejephgojaaGreatDoor.Fx (Tab Cd Out codes_any TrueT RS modeZ lenA)
open Go.Proofs.YtmbfgejephgojaaGreatDoor.Rn (changes zl zl_length Valid)
open Go.Proofs.YtmbfgejephgojaaGreatDoor.Lp (VRow ints ints_length)
set_option linter.unusedVariables false
set_option linter.unusedSimpArgs false
set_option maxRecDepth 100000

theorem twoA_ne {L : List Bool} {n t e : Nat} {P : List Bool} {b : Bool} (ht : t ≤ L.length) (h : (twoA L n t P b).2 = .error e) : ((e : Int) != 0) = true := by
  have h1 := lenA_lt b (L := L) (most := n - P.length) (n := 0) ht
  unfold twoA at h
  rcases hy : lenA b L (n - P.length) t 0 with ⟨t1, c | m⟩
  · rw [hy] at h
    simp only at h
    injection h with h
    subst h
    exact lenA_ne ht (by rw [hy])
  · rw [hy] at h h1
    simp only at h h1
    rcases hz : lenA (!b) L (n - (P.length + m)) t1 0 with ⟨t2, c | k⟩
    · rw [hz] at h
      simp only at h
      injection h with h
      subst h
      exact lenA_ne h1.1 (by rw [hz])
    · rw [hz] at h; cases h
theorem stepA_ne {L : List Bool} {top : List Nat} {n t a e : Nat} {P : List Bool} {b : Bool} (ht : t ≤ L.length) (h : (stepA L top n t a P b).2 = .error e) : ((e : Int) != 0) = true := by
  have hml := modeZ_le ht
  unfold stepA at h
  rcases hy : modeZ L t with ⟨t1, c | i⟩
  · rw [hy] at h
    simp only at h
    injection h with h
    subst h
    exact modeZ_ne (by rw [hy])
  · rw [hy] at h hml
    simp only at h hml
    split at h
    · cases h
    · split at h
      · exact twoA_ne hml.1 h
      · split at h
        · cases h
        · injection h with h
          subst h
          rfl
theorem readGA_ne {L : List Bool} {top : List Nat} {n e : Nat} : ∀ (f t a : Nat) (P : List Bool) (b : Bool), L.length + 2 ≤ f + t → t ≤ L.length → (readGA L top n t a P b).2 = .error e → ((e : Int) != 0) = true
  | 0, t, a, P, b, hf, ht, h => by omega
  | f + 1, t, a, P, b, hf, ht, h => by
    by_cases hn : a ≤ n
    · rw [readGA_step L top n t a P b ht hn] at h
      have hsl := stepA_le (L := L) (top := top) (n := n) (t := t) (a := a) (P := P) (b := b) ht
      rcases hy : stepA L top n t a P b with ⟨t1, c | s⟩
      · rw [hy] at h
        simp only at h
        injection h with h
        subst h
        exact stepA_ne ht (by rw [hy])
      · rw [hy] at h hsl
        simp only at h hsl
        exact readGA_ne f t1 s.1 s.2.1 s.2.2 (by have := hsl.2.2 s rfl; omega) hsl.1 h
    · rw [readGA_eq L top n t a P b ht, if_pos (by omega)] at h
      cases h
theorem readRowA_len {L : List Bool} {n : Nat} {X : List Bool} : ∀ (f t : Nat) (P : List Bool) (b : Bool), L.length + 1 ≤ f + t → t ≤ L.length → (readRowA L n t P b).2 = .ok X → X.length = n
  | 0, t, P, b, hf, ht, h => by omega
  | f + 1, t, P, b, hf, ht, h => by
    rw [readRowA_eq L n t P b ht] at h
    have h1 := lenA_lt b (L := L) (most := n - P.length) (n := 0) ht
    rcases hy : lenA b L (n - P.length) t 0 with ⟨t1, c | m⟩
    · rw [hy] at h; cases h
    · rw [hy] at h h1
      simp only at h h1
      split at h
      · injection h with h
        subst h
        rw [List.length_append, List.length_replicate]
        assumption
      · exact readRowA_len f t1 _ _ (by have := (h1.2.2 m rfl).1; omega) h1.1 h
theorem rowS_le {x : Except Nat (List Bool)} {n : Nat} (h : ∀ X, x = .ok X → X.length = n) : (rowS x).length ≤ n := by
  rcases x with e | X
  · exact Nat.zero_le _
  · exact Nat.le_of_eq (h X rfl)
theorem chg_rowS (x : Except Nat (List Bool)) : changes (rowS x) = rowL x := by
  rcases x with e | X
  · rfl
  · rfl
end Go.Proofs.YtmbfgejephgojaaGreatDoor.Mh

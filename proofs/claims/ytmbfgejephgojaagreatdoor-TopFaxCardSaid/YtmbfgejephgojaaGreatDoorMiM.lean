
/- The document's ReadRow and ReadAgainst. -/
import Derived.Test.YtmbfgejephgojaaGreatDoorMiI
import Derived.Test.YtmbfgejephgojaaGreatDoorMiG
namespace Go.Proofs.YtmbfgejephgojaaGreatDoor.Mh
open Go.RowKit Go.Proofs.YtmbfgejephgojaaGreatDoor.Oct Go.Proofs.YtmbfgejephgojaaGreatDoor.Bit
open Go.Proofs.YtmbfgejephgojaaGreatDoor.Fx (lookP lookP_le lenA lenA_eq modeZ valR errR lenZ lenZ_nat wordsF RowN RReadP)
open Go.Proofs.YtmbfgejephgojaaGreatDoor.Hf (strs strs_length wordsU wordsU_length)
open Go.Proofs.YtmbfgejephgojaaGreatDoor.Rn (changes nextX nextF nextI zl zl_length nextI_zl Valid)
open Go.Proofs.YtmbfgejephgojaaGreatDoor.Lp (VRow ints ints_length)
set_option linter.unusedVariables false
set_option linter.unusedSimpArgs false
set_option maxRecDepth 100000

def rowS : Except Nat (List Bool) → List Bool
  | .ok X => X
  | .error _ => []
/-- a row of pixels, read: the row, the place behind it, the error -/
def RRowP (r : Nat × Except Nat (List Bool)) (e : Ending) : Prop := e = .returned (.tuple #[.string (ds (rowS r.2)), .int .i64 ((r.1 : Nat) : Int), .int .i64 (rowE r.2)])
/-- the words of both colours -/
def Two (w : World) (C g : Nat) (q0 q1 : Option Addr) (c0 c1 : Nat) : Prop := C ≤ w.heap.size ∧ g < C ∧ w.cell? ⟨g, 0, none⟩ = some (.slice q0 104 c0) ∧ w.cell? ⟨g, 1, none⟩ = some (.slice q1 104 c1) ∧ Hf.VRow w C q0 (strs (wordsU (wordsF false))) ∧ Hf.VRow w C q1 (strs (wordsU (wordsF true)))
theorem Two.below {w w' : World} {C g : Nat} {q0 q1 : Option Addr} {c0 c1 : Nat} (h : Two w C g q0 q1 c0 c1) (hb : Below C w w') : Two w' C g q0 q1 c0 c1 :=
  ⟨Nat.le_trans h.1 hb.size, h.2.1, (hb.cell (p := ⟨g, 0, none⟩) h.2.1).trans h.2.2.1, (hb.cell (p := ⟨g, 1, none⟩) h.2.1).trans h.2.2.2.1, h.2.2.2.2.1.below hb (Nat.le_refl _), h.2.2.2.2.2.below hb (Nat.le_refl _)⟩
theorem two_new {w1 w2 : World} {q0 q1 : Option Addr} {c0 c1 : Nat} (h0 : Hf.VRow w1 w1.heap.size q0 (strs (wordsU (wordsF false)))) (hb : Below w1.heap.size w1 w2) (h1 : Hf.VRow w2 w2.heap.size q1 (strs (wordsU (wordsF true)))) :
    Two (w2.alloc (.cells #[.slice q0 104 c0, .slice q1 104 c1] 66)) (w2.heap.size + 1) w2.heap.size q0 q1 c0 c1 := by
  have ha : Below w2.heap.size w2 (w2.alloc (.cells #[.slice q0 104 c0, .slice q1 104 c1] 66)) := (Below.refl _ w2).alloc (Nat.le_refl _) _
  exact ⟨by simp, by omega, by simp, by simp, ((h0.below hb (Nat.le_refl _)).mono hb.size |>.below ha (Nat.le_refl _)).mono (by omega), (h1.below ha (Nat.le_refl _)).mono (by omega)⟩
end Go.Proofs.YtmbfgejephgojaaGreatDoor.Mh
/- The document's ReadAgainst. -/
namespace Go.Proofs.YtmbfgejephgojaaGreatDoor.Mh
open Go.RowKit Go.Proofs.YtmbfgejephgojaaGreatDoor.Oct Go.Proofs.YtmbfgejephgojaaGreatDoor.Bit
open Go.Proofs.YtmbfgejephgojaaGreatDoor.Fx (lookP lookP_le lenA lenA_eq modeZ valR errR lenZ lenZ_nat wordsF RowN RReadP)
open Go.Proofs.YtmbfgejephgojaaGreatDoor.Hf (strs strs_length wordsU wordsU_length)
open Go.Proofs.YtmbfgejephgojaaGreatDoor.Rn (changes nextX nextF nextI zl zl_length nextI_zl Valid)
open Go.Proofs.YtmbfgejephgojaaGreatDoor.Lp (VRow ints ints_length)
set_option linter.unusedVariables false
set_option linter.unusedSimpArgs false
set_option maxRecDepth 100000

theorem twoA_inv {L : List Bool} {n t : Nat} {P : List Bool} {b : Bool} {s : Nat × List Bool × Bool} (hP : P.length ≤ n) (ht : t ≤ L.length) (h : (twoA L n t P b).2 = .ok s) : s.2.1.length = s.1 - 1 ∧ s.1 ≤ n + 1 ∧ s.2.2 = b ∧ 1 ≤ s.1 := by
  have h1 := lenA_lt b (L := L) (most := n - P.length) (n := 0) ht
  unfold twoA at h
  rcases hy : lenA b L (n - P.length) t 0 with ⟨t1, e | m⟩
  · rw [hy] at h; cases h
  · rw [hy] at h h1
    simp only at h h1
    have hm := (h1.2.2 m rfl).2
    have h2 := lenA_lt (!b) (L := L) (most := n - (P.length + m)) (n := 0) h1.1
    rcases hz : lenA (!b) L (n - (P.length + m)) t1 0 with ⟨t2, e | k⟩
    · rw [hz] at h; cases h
    · rw [hz] at h h2
      simp only at h h2
      have hk := (h2.2.2 k rfl).2
      injection h with h
      subst h
      refine ⟨?_, ?_, rfl, ?_⟩
      · simp only [List.length_append, List.length_replicate]; omega
      · simp only; omega
      · simp only; omega
theorem stepA_inv {L : List Bool} {top : List Nat} {n t a : Nat} {P : List Bool} {b : Bool} {s : Nat × List Bool × Bool} (hP : P.length = a - 1) (ha : a ≤ n) (h1 : 1 ≤ n) (hv : Valid top n) (ht : t ≤ L.length) (h : (stepA L top n t a P b).2 = .ok s) : s.2.1.length = s.1 - 1 ∧ s.1 ≤ n + 1 := by
  have hge := nextF_ge n top (!b) a ha hv.2
  have hle := nextF_le n top (!b) a hv
  have hml := modeZ_le ht
  have hmo := fun i hi => modeZ_ok (L := L) (t := t) (i := i) hi
  have hdef : nx n top b a = nextF n top (!b) a := rfl
  unfold stepA at h
  rw [hdef] at h
  generalize nextF n top (!b) a = nn at *
  obtain ⟨n1, n2⟩ := nn
  rcases hy : modeZ L t with ⟨t1, e | i⟩
  · rw [hy] at h; cases h
  · rw [hy] at h hml hmo
    simp only at h hml hmo hge hle
    split at h
    · injection h with h
      subst h
      refine ⟨?_, by simp only; omega⟩
      simp only [List.length_append, List.length_replicate]; omega
    · split at h
      · have h4 := twoA_inv (by omega) hml.1 h
        exact ⟨h4.1, h4.2.1⟩
      · split at h
        · rename_i hc
          injection h with h
          subst h
          refine ⟨?_, by simp only; omega⟩
          simp only [List.length_append, List.length_replicate]; omega
        · cases h
/-- a row that is read is as wide as it should be -/
theorem readGA_len {L : List Bool} {top : List Nat} {n : Nat} {X : List Bool} (h1 : 1 ≤ n) (hv : Valid top n) : ∀ (f t a : Nat) (P : List Bool) (b : Bool), L.length + 2 ≤ f + t → t ≤ L.length → P.length = a - 1 → a ≤ n + 1 → (readGA L top n t a P b).2 = .ok X → X.length = n
  | 0, t, a, P, b, hf, ht, hP, ha, h => by omega
  | f + 1, t, a, P, b, hf, ht, hP, ha, h => by
    by_cases hn : a ≤ n
    · rw [readGA_step L top n t a P b ht hn] at h
      have hsl := stepA_le (L := L) (top := top) (n := n) (t := t) (a := a) (P := P) (b := b) ht
      have hin := fun s hs => stepA_inv (L := L) (top := top) (n := n) (t := t) (a := a) (P := P) (b := b) (s := s) hP hn h1 hv ht hs
      rcases hy : stepA L top n t a P b with ⟨t1, e | s⟩
      · rw [hy] at h; cases h
      · rw [hy] at h hsl hin
        simp only at h hsl hin
        have h4 := hin s rfl
        exact readGA_len h1 hv f t1 s.1 s.2.1 s.2.2 (by have := hsl.2.2 s rfl; omega) hsl.1 h4.1 h4.2 h
    · rw [readGA_eq L top n t a P b ht, if_pos (by omega)] at h
      injection h with h
      subst h
      omega
/-- behind so many of the two lengths -/
def innerA (L : List Bool) (n i t : Nat) (P : List Bool) (b : Bool) : Nat × Except Nat (Nat × List Bool × Bool) := match i with
  | 0 => twoA L n t P b
  | 1 => oneA L n t P b
  | _ => (t, .ok (P.length + 1, P, b))
theorem innerA_next (L : List Bool) (n i t : Nat) (P : List Bool) (b : Bool) (hi : i < 2) : innerA L n i t P b = match (lenA b L (n - P.length) t 0).2 with
    | .error e => ((lenA b L (n - P.length) t 0).1, .error e)
    | .ok m => innerA L n (i + 1) (lenA b L (n - P.length) t 0).1 (P ++ List.replicate m b) (!b) := by
  rcases (show i = 0 ∨ i = 1 by omega) with rfl | rfl
  · show twoA L n t P b = _
    rw [twoA_one]
    unfold oneA
    rcases hy : (lenA b L (n - P.length) t 0).2 with e | m
    · rfl
    · rfl
  · show oneA L n t P b = _
    unfold oneA
    rcases hy : (lenA b L (n - P.length) t 0).2 with e | m
    · rfl
    · simp only [innerA, List.length_append, List.length_replicate]
end Go.Proofs.YtmbfgejephgojaaGreatDoor.Mh

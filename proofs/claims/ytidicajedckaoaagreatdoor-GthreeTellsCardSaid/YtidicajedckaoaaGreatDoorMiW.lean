
/- The walk of MhPages. -/
import Derived.Test.YtidicajedckaoaaGreatDoorMiV
namespace Go.Proofs.YtidicajedckaoaaGreatDoor.Mh
open Go.RowKit Go.Proofs.YtidicajedckaoaaGreatDoor.Oct Go.Proofs.YtidicajedckaoaaGreatDoor.Bit
open Go.Proofs.YtidicajedckaoaaGreatDoor.Fx (Tab TrueT)
open Go.Proofs.YtidicajedckaoaaGreatDoor.Rn (changes zl zl_length Valid rchanges_new)
open Go.Proofs.YtidicajedckaoaaGreatDoor.Lp (VRow ints ints_length)
set_option linter.unusedVariables false
set_option linter.unusedSimpArgs false
set_option maxRecDepth 100000

theorem restR_len2 : ∀ (l : List Bool) (b : Bool) (n : Nat), n + l.length ≤ 2000 → (restR b n l).length ≤ 26 * (l.length + 1)
  | [], b, n, h => by
    rw [restR_nil]
    simpa using tell_len2 b (n := n) (by simp at h; omega)
  | x :: l, b, n, h => by
    rw [List.length_cons] at h ⊢
    by_cases hx : x = b
    · subst hx
      rw [restR_same]
      have := restR_len2 l x (n + 1) (by omega)
      omega
    · have hb : (!b) = x := by cases b <;> cases x <;> simp_all
      subst hb
      rw [restR_turn, List.length_append]
      have h1 := restR_len2 l (!b) 1 (by omega)
      have h2 := tell_len2 b (n := n) (by omega)
      omega
theorem decB_len {L : List Bool} {wd : Nat} {Xs : List (List Bool)} (hL : ∃ m, L.length = 8 * m) : ∀ (j t : Nat) (acc : List (List Bool)), t ≤ L.length → (∀ X ∈ acc, X.length = wd) → decB L wd j t acc = .ok Xs → (∀ X ∈ Xs, X.length = wd) ∧ Xs.length = acc.length + j
  | 0, t, acc, ht, ha, h => by
    injection h with h
    subst h
    exact ⟨ha, rfl⟩
  | j + 1, t, acc, ht, ha, h => by
    obtain ⟨m, hm⟩ := hL
    have h8 : 8 * ((t + 7) / 8) ≤ L.length := by omega
    rw [decB] at h
    have hle := readRowA_le (L := L) (wd := wd) (L.length + 1) (8 * ((t + 7) / 8)) [] false (by omega) h8
    have hlen := fun X hX => readRowA_len (L := L) (n := wd) (X := X) (L.length + 1) (8 * ((t + 7) / 8)) [] false (by omega) h8 hX
    rcases hy : readRowA L wd (8 * ((t + 7) / 8)) [] false with ⟨t1, c | X⟩
    · rw [hy] at h; cases h
    · rw [hy] at h hle hlen
      simp only at h hle hlen
      have h9 := decB_len ⟨m, hm⟩ j t1 (acc ++ [X]) hle (fun Y hY => by
        rcases List.mem_append.1 hY with e | e
        · exact ha Y e
        · rw [List.mem_singleton.1 e]; exact hlen X rfl) h
      refine ⟨h9.1, ?_⟩
      rw [h9.2, List.length_append]
      simp
      omega
def decF (L : List Bool) (z n : Int) : List (List Bool) × Int := if wideM z = true ∧ 0 ≤ n then match decB L z.toNat n.toNat 0 [] with
  | .ok Xs => (Xs, 0)
  | .error e => ([], (e : Int))
  else ([], 1)
theorem decF_len {L : List Bool} {z n : Int} (hL : ∃ m, L.length = 8 * m) (hz : z ≤ 1000) (hn : n ≤ 1000) : (∀ X ∈ (decF L z n).1, X.length ≤ 1000) ∧ (decF L z n).1.length ≤ 1000 := by
  unfold decF
  split
  · rename_i h
    have h0 := of_decide_eq_true h.1
    rcases hy : decB L z.toNat n.toNat 0 [] with e | Xs
    · exact ⟨fun X h => (by cases h), Nat.zero_le _⟩
    · have h1 := decB_len hL n.toNat 0 [] (Nat.zero_le _) (fun X h => by cases h) hy
      refine ⟨fun X hX => ?_, ?_⟩
      · have := h1.1 X hX; omega
      · have h2 := h1.2
        simp only [List.length_nil] at h2
        show Xs.length ≤ 1000
        omega
  · exact ⟨fun X h => (by cases h), Nat.zero_le _⟩
end Go.Proofs.YtidicajedckaoaaGreatDoor.Mh


/- The contracts of move, readLength, readTwo and readStep. -/
import Derived.Test.YtidicajedckaoaaGreatDoorMiB
import Derived.Lib.MinMax
namespace Go.Proofs.YtidicajedckaoaaGreatDoor.Mh
open Go.RowKit Go.Proofs.YtidicajedckaoaaGreatDoor.Oct Go.Proofs.YtidicajedckaoaaGreatDoor.Bit
open Go.Proofs.YtidicajedckaoaaGreatDoor.Fx (lookP lookP_le lenA lenA_eq lenF wordsF modesF modeZ valR errR look_err look_ok lenZ lenZ_nat Cd Out cread_any creadm_any CReadP rd_only)
open Go.Proofs.YtidicajedckaoaaGreatDoor.Rn (changes togX cur cur_run cur_flip nextX nextF nextI zl zl_length zl_append zl_get nextI_zl IOwn Valid)
open Go.Proofs.YtidicajedckaoaaGreatDoor.Lp (VRow ints ints_length ints_append ints_one vrow_own)
set_option linter.unusedVariables false
set_option linter.unusedSimpArgs false
set_option maxRecDepth 100000

theorem lenA_err (b : Bool) (L : List Bool) (most : Nat) : ∀ (f t n e : Nat), L.length + 1 ≤ f + t → t ≤ L.length → (lenA b L most t n).2 = .error e → e = 2 ∨ e = 6 ∨ e = 5
  | 0, t, n, e, hf, ht, h => by omega
  | f + 1, t, n, e, hf, ht, h => by
    rw [lenA_eq b L most t n ht] at h
    have hle := lookP_le (wordsF b) (L.drop t) []
    rw [List.length_nil, List.length_drop] at hle
    rcases hx : lookP (wordsF b) [] (L.drop t) with ⟨k, c | i⟩
    · rw [hx] at h
      simp only at h
      injection h with h
      subst h
      rcases look_err _ _ hx with h | h
      · exact .inl h
      · exact .inr (.inl h)
    · rw [hx] at h hle
      simp only at h
      have hd : L.drop t ≠ [] := by
        intro hd
        rw [hd] at hx
        cases hx
      have h3 := hle.2.2 hd
      simp only at h3
      split at h
      · injection h with h
        exact .inr (.inr h.symm)
      · split at h
        · cases h
        · exact lenA_err b L most f (t + k) _ e (by omega) (by have := hle.2.1; simp only at this; omega) h
theorem lenA_ne {b : Bool} {L : List Bool} {most t n e : Nat} (ht : t ≤ L.length) (h : (lenA b L most t n).2 = .error e) : ((e : Int) != 0) = true := by
  rcases lenA_err b L most (L.length + 1) t n e (by omega) ht h with rfl | rfl | rfl <;> rfl
theorem modeZ_ne {L : List Bool} {t e : Nat} (h : (modeZ L t).2 = .error e) : ((e : Int) != 0) = true := by
  unfold modeZ at h
  rcases hx : lookP modesF [] (L.drop t) with ⟨k, c | i⟩
  · rw [hx] at h
    simp only at h
    injection h with h
    subst h
    rcases look_err _ _ hx with rfl | rfl <;> rfl
  · rw [hx] at h
    simp only at h
    split at h
    · injection h with h
      subst h
      rfl
    · cases h
theorem modeZ_ok {L : List Bool} {t i : Nat} (h : (modeZ L t).2 = .ok i) : i < 9 := by
  unfold modeZ at h
  rcases hx : lookP modesF [] (L.drop t) with ⟨k, c | j⟩
  · rw [hx] at h
    cases h
  · rw [hx] at h
    simp only at h
    have hj := look_ok _ _ hx
    rw [show modesF.length = 10 from Fx.modesF_length] at hj
    split at h
    · cases h
    · injection h with h
      omega
theorem modeZ_le {L : List Bool} {t : Nat} (ht : t ≤ L.length) : (modeZ L t).1 ≤ L.length ∧ t ≤ (modeZ L t).1 ∧ ∀ i, (modeZ L t).2 = .ok i → t < (modeZ L t).1 := by
  have hle := lookP_le modesF (L.drop t) []
  rw [List.length_nil, List.length_drop] at hle
  unfold modeZ
  rcases hx : (lookP modesF [] (L.drop t)).2 with e | i
  · exact ⟨by show t + _ ≤ _; omega, by show t ≤ t + _; omega, fun i h => by cases h⟩
  · have hd : L.drop t ≠ [] := by
      intro hd
      rw [hd] at hx
      cases hx
    have h3 := hle.2.2 hd
    exact ⟨by show t + _ ≤ _; omega, by show t ≤ t + _; omega, fun _ _ => by show t < t + _; omega⟩
/-- the two lengths behind Two -/
def twoA (L : List Bool) (n t : Nat) (P : List Bool) (b : Bool) : Nat × Except Nat (Nat × List Bool × Bool) := match (lenA b L (n - P.length) t 0).2 with
  | .error e => ((lenA b L (n - P.length) t 0).1, .error e)
  | .ok m => match (lenA (!b) L (n - (P.length + m)) (lenA b L (n - P.length) t 0).1 0).2 with
    | .error e => ((lenA (!b) L (n - (P.length + m)) (lenA b L (n - P.length) t 0).1 0).1, .error e)
    | .ok k => ((lenA (!b) L (n - (P.length + m)) (lenA b L (n - P.length) t 0).1 0).1, .ok (P.length + m + k + 1, P ++ List.replicate m b ++ List.replicate k (!b), b))
/-- one step by the row above: the place behind it, and where the row is then, or the error -/
def stepA (L : List Bool) (top : List Nat) (n t a : Nat) (P : List Bool) (b : Bool) : Nat × Except Nat (Nat × List Bool × Bool) := match (modeZ L t).2 with
  | .error e => ((modeZ L t).1, .error e)
  | .ok i => if i = 8 then ((modeZ L t).1, .ok ((nx n top b a).2 + 1, P ++ List.replicate ((nx n top b a).2 - P.length) b, b))
    else if i = 7 then twoA L n (modeZ L t).1 P b
    else if a + 3 ≤ (nx n top b a).1 + i ∧ (nx n top b a).1 + i ≤ n + 3 then ((modeZ L t).1, .ok ((nx n top b a).1 + i - 3 + 1, P ++ List.replicate ((nx n top b a).1 + i - 3 - P.length) b, !b))
    else ((modeZ L t).1, .error 3)
theorem readGA_step (L : List Bool) (top : List Nat) (n t a : Nat) (P : List Bool) (b : Bool) (ht : t ≤ L.length) (ha : a ≤ n) : readGA L top n t a P b = match (stepA L top n t a P b).2 with
    | .error e => ((stepA L top n t a P b).1, .error e)
    | .ok s => readGA L top n (stepA L top n t a P b).1 s.1 s.2.1 s.2.2 := by
  rw [readGA_eq L top n t a P b ht, if_neg (by omega)]
  unfold stepA modeZ
  rcases hx : (lookP modesF [] (L.drop t)).2 with e | i
  · rfl
  · simp only
    by_cases h9 : i = 9
    · rw [if_pos h9, if_pos h9]
    · rw [if_neg h9, if_neg h9]
      simp only
      split
      · rfl
      · split
        · unfold twoA
          rcases hy : (lenA b L (n - P.length) (t + (lookP modesF [] (L.drop t)).1) 0).2 with e | m
          · rfl
          · simp only
            rcases hz : (lenA (!b) L (n - (P.length + m)) (lenA b L (n - P.length) (t + (lookP modesF [] (L.drop t)).1) 0).1 0).2 with e | k
            · rfl
            · rfl
        · split
          · rfl
          · rfl
theorem twoA_le {L : List Bool} {n t : Nat} {P : List Bool} {b : Bool} (ht : t ≤ L.length) : (twoA L n t P b).1 ≤ L.length ∧ t ≤ (twoA L n t P b).1 := by
  obtain ⟨h1, h2, h3⟩ := lenA_lt b (L := L) (most := n - P.length) (n := 0) ht
  unfold twoA
  rcases hy : (lenA b L (n - P.length) t 0).2 with e | m
  · exact ⟨h1, h2⟩
  · obtain ⟨h4, h5, h6⟩ := lenA_lt (!b) (L := L) (most := n - (P.length + m)) (n := 0) h1
    simp only
    rcases hz : (lenA (!b) L (n - (P.length + m)) (lenA b L (n - P.length) t 0).1 0).2 with e | k
    · exact ⟨h4, by simp only; omega⟩
    · exact ⟨h4, by simp only; omega⟩
theorem stepA_le {L : List Bool} {top : List Nat} {n t a : Nat} {P : List Bool} {b : Bool} (ht : t ≤ L.length) : (stepA L top n t a P b).1 ≤ L.length ∧ t ≤ (stepA L top n t a P b).1 ∧ ∀ s, (stepA L top n t a P b).2 = .ok s → t < (stepA L top n t a P b).1 := by
  obtain ⟨h1, h2, h3⟩ := modeZ_le ht
  unfold stepA
  rcases hx : (modeZ L t).2 with e | i
  · exact ⟨h1, h2, fun s h => by cases h⟩
  · have h4 := h3 i hx
    simp only
    split
    · exact ⟨h1, h2, fun _ _ => h4⟩
    · split
      · have h5 := twoA_le (n := n) (P := P) (b := b) h1
        exact ⟨h5.1, by omega, fun _ _ => by omega⟩
      · split
        · exact ⟨h1, h2, fun _ _ => h4⟩
        · exact ⟨h1, h2, fun _ _ => h4⟩
/-- a row under way: its pixels up to a place -/
def LinP (w : World) (E g a : Nat) (P : List Bool) (b : Bool) (n : Nat) : Prop := P.length = a - 1 ∧ a ≤ n + 1 ∧ ∃ v, Lin w E g v ((a : Int) - 1) b (chgs P b n) n
theorem LinP.only {S : Nat → Prop} {w w' : World} {E g a n : Nat} {P : List Bool} {b : Bool} (h : LinP w E g a P b n) (ho : Only S w w') (hg : ¬ S g) (hE : ∀ k, E ≤ k → ¬ S k) : LinP w' E g a P b n := by
  obtain ⟨h1, h2, v, h3⟩ := h
  exact ⟨h1, h2, v, h3.only ho hg hE⟩
/-- which blocks reading turns -/
def LS (gr g E k : Nat) : Prop := k = gr ∨ k = g ∨ E ≤ k
/-- the row has come to a place, or there is an error -/
def GoP (gr : Nat) (p : Option Addr) (cap : Nat) (xs : List UInt8) (low : Bool) (E g n : Nat) (S : Nat → Prop) (w : World) (r : Nat × Except Nat (Nat × List Bool × Bool)) (e : Ending) (w' : World) : Prop :=
  Rd w' gr p cap xs r.1 low ∧ Only S w w' ∧ match r.2 with
    | .error ce => e = .returned (.int .i64 (ce : Int)) ∧ ((ce : Int) != 0) = true
    | .ok s => e = .returned (.int .i64 0) ∧ LinP w' E g s.1 s.2.1 s.2.2 n
/-- one length -/
def oneA (L : List Bool) (n t : Nat) (P : List Bool) (b : Bool) : Nat × Except Nat (Nat × List Bool × Bool) := match (lenA b L (n - P.length) t 0).2 with
  | .error e => ((lenA b L (n - P.length) t 0).1, .error e)
  | .ok m => ((lenA b L (n - P.length) t 0).1, .ok (P.length + m + 1, P ++ List.replicate m b, !b))
set_option maxHeartbeats 4000000 in
theorem readLength_any (w : World) (B C c gr : Nat) (p : Option Addr) (cap : Nat) (xs : List UInt8) (t : Nat) (low : Bool) (E g n a : Nat) (P : List Bool) (b : Bool) (hC : Cd w B C c) (hO : Out B C gr) (hCg : C ≤ g) (hg : gr < g) (hR : Rd w gr p cap xs t low) (hL : LinP w E g a P b n) (hn : n ≤ 32768) :
    Calls Tryz.prog 73 #[.pointer (some ⟨g, 0, none⟩), .pointer (some ⟨gr, 0, none⟩), .pointer (some ⟨c, 0, none⟩)] w (GoP gr p cap xs low E g n (LS gr g E) w (oneA (bitsOf low xs) n t P b)) := by
  obtain ⟨hPl, han, v, hlin⟩ := hL
  have hal : t ≤ (bitsOf low xs).length := by rw [bitsOf_length]; exact hR.2.2.1
  unfold oneA
  have HLEN := Lib.hid (chgs_len P b n)
  have HTX := Lib.hid (fun x => chgs_turn P b x n)
  have HPP := Lib.hid (fun m => show (P ++ List.replicate m b).length = P.length + m from by rw [List.length_append, List.length_replicate])
  generalize P.length = q0 at *
  have hPn : q0 ≤ n := by omega
  obtain ⟨mo, hmo⟩ : ∃ mo, mo = n - q0 := ⟨_, rfl⟩
  have hle := lenA_lt b (L := bitsOf low xs) (most := mo) (n := 0) hal
  have HRD := Lib.hid (fun w9 (hd : Drawn w w9) => cread_any w9 B C c gr p cap xs t low (mo : Int) b (hC.only (Only.drawn (fun _ => False) hd) (fun _ e => e.elim)) hO (rd_only hR (Only.drawn (fun _ => False) hd) (fun e => e) (fun _ _ _ e => e)) (by omega) (by omega))
  have HNE := Lib.hid (fun e h => lenA_ne (b := b) (most := mo) (n := 0) (e := e) hal h)
  have HLT := Lib.hid hle.2.2
  rw [lenZ_nat] at HRD
  rw [← hmo]
  have k0 := hlin.c0
  have k1 := hlin.c1
  have k3 := hlin.c3
  have HL := Lib.hid hlin
  have hgE := hlin.1
  have HGE := Lib.hid hgE
  have e0 : max ((a : Int) - 1) 0 = (q0 : Int) := by omega
  generalize lenA b (bitsOf low xs) mo t 0 = r at *
  obtain ⟨t1, x⟩ := r
  simp only at HRD HNE HLT ⊢
  have hw1 : IntKind.i64.wrap ((n : Int) - (q0 : Int)) = (mo : Int) := by rw [IntKind.wrap_i64]; omega
  have HPL := Lib.hid hPl
  have HMO := Lib.hid hmo
  have kd3 : w.drew.cell? ⟨g, 3, none⟩ = some (.int .i64 (n : Int)) := k3
  have kd1 : w.drew.cell? ⟨g, 1, none⟩ = some (.bool b) := k1
  clear hC hR hlin hal hle hgE hPl hmo
  go_enter Tryz.func73, Tryz.ntmps73
  go_wp2_with fail
  refine wp_region_held_drew (S := (fun w' => w'.cell? ⟨g, 3, none⟩ = some (.int .i64 (n : Int)) ∧ w'.cell? ⟨g, 1, none⟩ = some (.bool b))) (by kernel_rfl) ⟨kd3, kd1⟩ (fun hHeld => ?_)
  refine wpAnyH_take (i := 0) (v := ?v1) rfl (by kernel_rfl) (by kernel_rfl) (by kernel_rfl) (fun _ _ _ h => h) (Or.inl ⟨by rfl, fun w hSw => ?y1⟩) hHeld ?r1
  case y1 => (try dsimp only at hSw); first | (go_simp; done) | (go_simp; with_reducible rfl)
  try simp only [Act.put, List.setIfInBounds_toArray, List.set_cons_zero, List.set_cons_succ, List.getElem_toArray, List.getElem_cons_zero, List.getElem_cons_succ]
  refine wpAnyH_take (i := 1) (v := ?v2) rfl (by kernel_rfl) (by kernel_rfl) (by kernel_rfl) (fun _ _ _ h => h) (Or.inl ⟨by rfl, fun w hSw => ?y2⟩) hHeld ?r2
  case y2 => (try dsimp only at hSw); first | (go_simp; done) | (go_simp; with_reducible rfl)
  try simp only [Act.put, List.setIfInBounds_toArray, List.set_cons_zero, List.set_cons_succ, List.getElem_toArray, List.getElem_cons_zero, List.getElem_cons_succ]
  refine wpAnyH_take (i := 2) (v := ?v3) rfl (by kernel_rfl) (by kernel_rfl) (by kernel_rfl) (fun _ _ _ h => h) (Or.inl ⟨by rfl, fun w hSw => ?y3⟩) hHeld ?r3
  case y3 => (try dsimp only at hSw); first | (go_simp; done) | (go_simp; with_reducible rfl)
  try simp only [Act.put, List.setIfInBounds_toArray, List.set_cons_zero, List.set_cons_succ, List.getElem_toArray, List.getElem_cons_zero, List.getElem_cons_succ]
  refine wpAnyH_take (i := 3) (v := ?v4) rfl (by kernel_rfl) (by kernel_rfl) (by kernel_rfl) (fun _ _ _ h => h) (Or.inl ⟨by rfl, fun w hSw => ?y4⟩) hHeld ?r4
  case y4 => (try dsimp only at hSw); first | (go_simp; done) | (go_simp; with_reducible rfl)
  try simp only [Act.put, List.setIfInBounds_toArray, List.set_cons_zero, List.set_cons_succ, List.getElem_toArray, List.getElem_cons_zero, List.getElem_cons_succ]
  refine wpAnyH_take (i := 4) (v := ?v5) rfl (by kernel_rfl) (by kernel_rfl) (by kernel_rfl) (fun _ _ _ h => h) (Or.inl ⟨by rfl, fun w hSw => ?y5⟩) hHeld ?r5
  case y5 => (try dsimp only at hSw); first | (go_simp; done) | (go_simp; with_reducible rfl)
  try simp only [Act.put, List.setIfInBounds_toArray, List.set_cons_zero, List.set_cons_succ, List.getElem_toArray, List.getElem_cons_zero, List.getElem_cons_succ]
  refine wpAnyH_take (i := 5) (v := ?v6) rfl (by kernel_rfl) (by kernel_rfl) (by kernel_rfl) (fun _ _ _ h => h) (Or.inl ⟨by rfl, fun w hSw => ?y6⟩) hHeld ?r6
  case y6 => (try dsimp only at hSw); first | (go_simp; done) | (go_simp; with_reducible rfl)
  try simp only [Act.put, List.setIfInBounds_toArray, List.set_cons_zero, List.set_cons_succ, List.getElem_toArray, List.getElem_cons_zero, List.getElem_cons_succ]
  refine wpAnyH_take (i := 6) (v := ?v7) rfl (by kernel_rfl) (by kernel_rfl) (by kernel_rfl) (fun _ _ _ h => h) (Or.inl ⟨by rfl, fun w hSw => ?y7⟩) hHeld ?r7
  case y7 => (try dsimp only at hSw); first | (go_simp; done) | (go_simp; with_reducible rfl)
  try simp only [Act.put, List.setIfInBounds_toArray, List.set_cons_zero, List.set_cons_succ, List.getElem_toArray, List.getElem_cons_zero, List.getElem_cons_succ]
  refine wpAnyH_take (i := 7) (v := ?v8) rfl (by kernel_rfl) (by kernel_rfl) (by kernel_rfl) (fun _ _ _ h => h) (Or.inl ⟨by rfl, fun w hSw => ?y8⟩) hHeld ?r8
  case y8 => (try dsimp only at hSw); first | (go_simp; done) | (go_simp; with_reducible rfl)
  try simp only [Act.put, List.setIfInBounds_toArray, List.set_cons_zero, List.set_cons_succ, List.getElem_toArray, List.getElem_cons_zero, List.getElem_cons_succ]
  refine wpAnyH_take (i := 8) (v := ?v9) rfl (by kernel_rfl) (by kernel_rfl) (by kernel_rfl) (fun _ _ _ h => h) (Or.inl ⟨by rfl, fun w hSw => ?y9⟩) hHeld ?r9
  case y9 => (try dsimp only at hSw); first | (go_simp; done) | (go_simp; with_reducible rfl)
  try simp only [Act.put, List.setIfInBounds_toArray, List.set_cons_zero, List.set_cons_succ, List.getElem_toArray, List.getElem_cons_zero, List.getElem_cons_succ]
  refine wpAnyH_take (i := 9) (v := ?v10) rfl (by kernel_rfl) (by kernel_rfl) (by kernel_rfl) (fun _ _ _ h => h) (Or.inl ⟨by rfl, fun w hSw => ?y10⟩) hHeld ?r10
  case y10 => (try dsimp only at hSw); first | (go_simp; done) | (go_simp; with_reducible rfl)
  try simp only [Act.put, List.setIfInBounds_toArray, List.set_cons_zero, List.set_cons_succ, List.getElem_toArray, List.getElem_cons_zero, List.getElem_cons_succ]
  refine wpAnyH_take (i := 10) (v := ?v11) rfl (by kernel_rfl) (by kernel_rfl) (by kernel_rfl) (fun _ _ _ h => h) (Or.inl ⟨by rfl, fun w hSw => ?y11⟩) hHeld ?r11
  case y11 => (try dsimp only at hSw); first | (go_simp; done) | (go_simp; with_reducible rfl)
  try simp only [Act.put, List.setIfInBounds_toArray, List.set_cons_zero, List.set_cons_succ, List.getElem_toArray, List.getElem_cons_zero, List.getElem_cons_succ]
  refine wpAnyH_take (i := 11) (v := ?v12) rfl (by kernel_rfl) (by kernel_rfl) (by kernel_rfl) (fun _ _ _ h => h) (Or.inl ⟨by rfl, fun w hSw => ?y12⟩) hHeld ?r12
  case y12 => (try dsimp only at hSw); first | (go_simp; done) | (go_simp; with_reducible rfl)
  try simp only [Act.put, List.setIfInBounds_toArray, List.set_cons_zero, List.set_cons_succ, List.getElem_toArray, List.getElem_cons_zero, List.getElem_cons_succ]
  refine wpAnyH_ready (rs := [12]) (by kernel_rfl) (by simp) ?_
  refine AllReadyH.cons rfl (fun K hK => ?_) AllReadyH.nil
  go_simp
  first | rw [hw1] | skip
  refine (HRD.out w.drew ⟨1, rfl⟩).mono ?_
  rintro e w2 ⟨rfl, hr2, ho2, hz2⟩
  have HR2 := Lib.hid hr2
  have HO2 : Hid (Only (· = gr) w w2) := Lib.hid ((Only.drawn _ ⟨1, rfl⟩).trans ho2)
  have HS2 : Hid (w2.cell? ⟨g, 3, none⟩ = some (.int .i64 (n : Int)) ∧ w2.cell? ⟨g, 1, none⟩ = some (.bool b)) := by
    have hl2 := HL.out.only HO2.out (by omega) (fun k hk e => by have := HGE.out; omega)
    exact Lib.hid ⟨hl2.c3, hl2.c1⟩
  clear hr2 ho2 hz2
  go_wp2_with fail
  refine hK.out _ _ HS2.out (fun hHeld2 => ?_)
  clear hK K
  try simp only [Act.put, List.setIfInBounds_toArray, List.set_cons_zero, List.set_cons_succ, List.getElem_toArray, List.getElem_cons_zero, List.getElem_cons_succ]
  refine wpAnyH_take (i := 13) (v := ?v13) rfl (by kernel_rfl) (by kernel_rfl) (by kernel_rfl) (fun _ _ _ h => h) (Or.inl ⟨by rfl, fun w hSw => ?y13⟩) hHeld2 ?r13
  case y13 => (try dsimp only at hSw); first | (go_simp; done) | (go_simp; with_reducible rfl)
  try simp only [Act.put, List.setIfInBounds_toArray, List.set_cons_zero, List.set_cons_succ, List.getElem_toArray, List.getElem_cons_zero, List.getElem_cons_succ]
  refine wpAnyH_take (i := 14) (v := ?v14) rfl (by kernel_rfl) (by kernel_rfl) (by kernel_rfl) (fun _ _ _ h => h) (Or.inl ⟨by rfl, fun w hSw => ?y14⟩) hHeld2 ?r14
  case y14 => (try dsimp only at hSw); first | (go_simp; done) | (go_simp; with_reducible rfl)
  try simp only [Act.put, List.setIfInBounds_toArray, List.set_cons_zero, List.set_cons_succ, List.getElem_toArray, List.getElem_cons_zero, List.getElem_cons_succ]
  refine wpAnyH_take (i := 15) (v := ?v15) rfl (by kernel_rfl) (by kernel_rfl) (by kernel_rfl) (fun _ _ _ h => h) (Or.inl ⟨by rfl, fun w hSw => ?y15⟩) hHeld2 ?r15
  case y15 => (try dsimp only at hSw); first | (go_simp; done) | (go_simp; with_reducible rfl)
  try simp only [Act.put, List.setIfInBounds_toArray, List.set_cons_zero, List.set_cons_succ, List.getElem_toArray, List.getElem_cons_zero, List.getElem_cons_succ]
  refine wpAnyH_take (i := 16) (v := ?v16) rfl (by kernel_rfl) (by kernel_rfl) (by kernel_rfl) (fun _ _ _ h => h) (Or.inl ⟨by rfl, fun w hSw => ?y16⟩) hHeld2 ?r16
  case y16 => (try dsimp only at hSw); first | (go_simp; done) | (go_simp; with_reducible rfl)
  try simp only [Act.put, List.setIfInBounds_toArray, List.set_cons_zero, List.set_cons_succ, List.getElem_toArray, List.getElem_cons_zero, List.getElem_cons_succ]
  refine wpAnyH_take (i := 17) (v := ?v17) rfl (by kernel_rfl) (by kernel_rfl) (by kernel_rfl) (fun _ _ _ h => h) (Or.inl ⟨by rfl, fun w hSw => ?y17⟩) hHeld2 ?r17
  case y17 => (try dsimp only at hSw); first | (go_simp; done) | (go_simp; with_reducible rfl)
  try simp only [Act.put, List.setIfInBounds_toArray, List.set_cons_zero, List.set_cons_succ, List.getElem_toArray, List.getElem_cons_zero, List.getElem_cons_succ]
  refine wpAnyH_done (by kernel_rfl) ?_ _
  have HL2 := Lib.hid (HL.out.only HO2.out (by omega) (fun k hk e => by have := HGE.out; omega))
  have HOS : Hid (Only (LS gr g E) w w2) := Lib.hid (HO2.out.mono fun k _ e => .inl e)
  clear hHeld hHeld2 HS2 kd1 kd3 k0 k1 k3
  rcases x with ce | m
  · have hne := HNE.out ce rfl
    simp only [valR, errR]
    go_wp2_with fail
    go_ret
    exact ⟨HR2.out, HOS.out, rfl, HNE.out ce rfl⟩
  · have hm := (HLT.out m rfl).2
    have HM := Lib.hid hm
    have hq0 : q0 + m ≤ n := by have := HMO.out; omega
    have hs : (q0 : Int) + (m : Int) = ((q0 + m : Nat) : Int) := by omega
    have HTN := Lib.hid (turn_any w2 E g n (q0 + m) v _ b (chgs P b n) HL2.out (by have := HLEN.out; omega) (by omega) (by omega))
    have HTX2 := Lib.hid (HTX.out (q0 + m) (by omega) hq0)
    rw [Nat.add_sub_cancel_left] at HTX2
    have hml : m ≤ 32768 := by omega
    have hpl : q0 ≤ 32768 := by omega
    obtain ⟨q, hq⟩ : ∃ q, q = q0 + m := ⟨_, rfl⟩
    rw [← hq] at hs HTN HTX2
    have HQ := Lib.hid hq
    simp only [valR, errR, Int.sub_zero]
    clear hm hq
    go_wp2_with fail
    refine HTN.out.mono ?_
    rintro e w3 ⟨rfl, ⟨v3, hl3⟩, ho3⟩
    have HL3 := Lib.hid hl3
    have HO3 := Lib.hid ho3
    clear hl3 ho3
    go_wp2_with fail
    go_ret
    refine ⟨rd_only HR2.out HO3.out (fun e => ?_) (fun ad _ hb e => ?_), HOS.out.trans (HO3.out.mono fun k _ e => .inr e), rfl, ?_, ?_, v3, ?_⟩
    · have := HGE.out; rcases e with e | e <;> omega
    · have := HGE.out; rcases e with e | e <;> omega
    · simp only; rw [HPP.out]; omega
    · simp only; omega
    · have h5 := HL3.out
      rw [HTX2.out] at h5
      have e5 : ((q0 + m + 1 : Nat) : Int) - 1 = (q : Int) := by have := HQ.out; omega
      simp only
      rw [e5]
      exact h5
end Go.Proofs.YtidicajedckaoaaGreatDoor.Mh
/- The contracts of move, readTwo and readStep. -/
namespace Go.Proofs.YtidicajedckaoaaGreatDoor.Mh
open Go.RowKit Go.Proofs.YtidicajedckaoaaGreatDoor.Oct Go.Proofs.YtidicajedckaoaaGreatDoor.Bit
open Go.Proofs.YtidicajedckaoaaGreatDoor.Fx (lookP lookP_le lenA lenA_eq modeZ valR errR Cd Out cread_any creadm_any CReadP rd_only)
open Go.Proofs.YtidicajedckaoaaGreatDoor.Rn (changes togX cur cur_run cur_flip nextX nextF nextI zl zl_length zl_append zl_get nextI_zl IOwn Valid)
open Go.Proofs.YtidicajedckaoaaGreatDoor.Lp (VRow ints ints_length ints_append ints_one vrow_own)
set_option linter.unusedVariables false
set_option linter.unusedSimpArgs false
set_option maxRecDepth 100000

set_option maxHeartbeats 2000000 in
theorem move_ok (w : World) (E g n a y : Nat) (P : List Bool) (b : Bool) (hL : LinP w E g a P b n) (hy : a ≤ y) (hyn : y ≤ n) (hn : n ≤ 32768) :
    Calls Tryz.prog 104 #[.pointer (some ⟨g, 0, none⟩), .int .i64 (y : Int)] w fun e w' => e = .returned (.int .i64 0) ∧ Only (LnS g E) w w' ∧ LinP w' E g (y + 1) (P ++ List.replicate (y - P.length) b) (!b) n := by
  obtain ⟨hPl, han, v, hlin⟩ := hL
  have k0 := hlin.c0
  have k3 := hlin.c3
  have HTN := Lib.hid (turn_any w E g n y v _ b (chgs P b n) hlin (by have := chgs_len P b n; omega) (by omega) (by omega))
  have HTX := Lib.hid (chgs_turn P b y n (by omega) hyn)
  have HRL := Lib.hid (run_len P b y (by omega))
  have d1 : decide ((y : Int) ≤ (a : Int) - 1) = false := by simp; omega
  have d2 : decide ((n : Int) < (y : Int)) = false := by simp; omega
  clear hlin hPl
  go_enter Tryz.func104, Tryz.ntmps104
  go_wp2_with fail
  refine HTN.out.mono ?_
  rintro e w3 ⟨rfl, ⟨v3, hl3⟩, ho3⟩
  have HL3 := Lib.hid hl3
  have HO3 := Lib.hid ho3
  clear hl3 ho3
  go_wp2_with fail
  go_ret
  refine ⟨rfl, HO3.out, by rw [HRL.out]; omega, by omega, v3, ?_⟩
  have h5 := HL3.out
  rw [HTX.out] at h5
  have e5 : ((y + 1 : Nat) : Int) - 1 = (y : Int) := by omega
  rw [e5]
  exact h5
theorem move_bad (w : World) (E g n a : Nat) (x : Int) (P : List Bool) (b : Bool) (hL : LinP w E g a P b n) (hx : x < (a : Int) ∨ (n : Int) < x) :
    Calls Tryz.prog 104 #[.pointer (some ⟨g, 0, none⟩), .int .i64 x] w fun e w' => e = .returned (.int .i64 3) ∧ w = w' := by
  obtain ⟨hPl, han, v, hlin⟩ := hL
  have k0 := hlin.c0
  have k3 := hlin.c3
  clear hlin hPl
  by_cases h1 : x < (a : Int)
  · have d1 : decide (x ≤ (a : Int) - 1) = true := by simp; omega
    clear hx h1
    go_enter Tryz.func104, Tryz.ntmps104
    go_wp2_with fail
    go_ret
    exact ⟨rfl, rfl⟩
  · have d1 : decide (x ≤ (a : Int) - 1) = false := by simp; omega
    have d2 : decide ((n : Int) < x) = true := by simp; omega
    clear hx h1
    go_enter Tryz.func104, Tryz.ntmps104
    go_wp2_with fail
    go_ret
    exact ⟨rfl, rfl⟩
theorem twoA_one (L : List Bool) (n t : Nat) (P : List Bool) (b : Bool) : twoA L n t P b = match (oneA L n t P b).2 with
    | .error e => ((oneA L n t P b).1, .error e)
    | .ok s => oneA L n (oneA L n t P b).1 s.2.1 s.2.2 := by
  unfold twoA oneA
  rcases hy : (lenA b L (n - P.length) t 0).2 with e | m
  · rfl
  · simp only [List.length_append, List.length_replicate]
    rcases hz : (lenA (!b) L (n - (P.length + m)) (lenA b L (n - P.length) t 0).1 0).2 with e | k
    · rfl
    · simp only [Bool.not_not]
theorem LS.out {B C c gr g E : Nat} {w : World} (hC : Cd w B C c) (hO : Out B C gr) (hCg : C ≤ g) (hgE : g < E) : ∀ k, LS gr g E k → Out B C k := by
  intro k hk
  rcases hk with e | e | e
  · rw [e]; exact hO
  · exact .inr (by omega)
  · exact .inr (by omega)
set_option maxHeartbeats 2000000 in
theorem readTwo_any (w : World) (B C c gr : Nat) (p : Option Addr) (cap : Nat) (xs : List UInt8) (t : Nat) (low : Bool) (E g n a : Nat) (P : List Bool) (b : Bool) (hC : Cd w B C c) (hO : Out B C gr) (hCg : C ≤ g) (hg : gr < g) (hR : Rd w gr p cap xs t low) (hL : LinP w E g a P b n) (hn : n ≤ 32768) :
    Calls Tryz.prog 103 #[.pointer (some ⟨g, 0, none⟩), .pointer (some ⟨gr, 0, none⟩), .pointer (some ⟨c, 0, none⟩)] w (GoP gr p cap xs low E g n (LS gr g E) w (twoA (bitsOf low xs) n t P b)) := by
  have HRA := Lib.hid (readLength_any w B C c gr p cap xs t low E g n a P b hC hO hCg hg hR hL hn)
  have HC := Lib.hid hC
  have HO := Lib.hid hO
  have HGE : Hid (g < E) := Lib.hid (by obtain ⟨_, _, v, hl⟩ := hL; exact hl.1)
  rw [twoA_one]
  generalize hL0 : bitsOf low xs = L at *
  generalize oneA L n t P b = r at *
  obtain ⟨t1, x⟩ := r
  clear hC hO hR hL
  go_enter Tryz.func103, Tryz.ntmps103
  go_wp2_with fail
  refine HRA.out.mono ?_
  rintro e w1 ⟨hr1, ho1, hres⟩
  rcases x with ce | s
  · obtain ⟨rfl, hne⟩ := hres
    have HR1 := Lib.hid hr1
    have HO1 := Lib.hid ho1
    clear hr1 ho1
    go_wp2_with fail
    go_ret
    exact ⟨HR1.out, HO1.out, rfl, hne⟩
  · obtain ⟨rfl, hl1⟩ := hres
    have HO1 := Lib.hid ho1
    have HRB := Lib.hid (readLength_any w1 B C c gr p cap xs t1 low E g n s.1 s.2.1 s.2.2 (HC.out.only ho1 (LS.out HC.out HO.out hCg HGE.out)) HO.out hCg hg hr1 hl1 hn)
    rw [hL0] at HRB
    clear hr1 ho1 hl1
    go_wp2_with fail
    refine HRB.out.mono ?_
    intro e w2 hgo
    have HF : Hid (GoP gr p cap xs low E g n (LS gr g E) w (oneA L n t1 s.2.1 s.2.2) e w2) := Lib.hid ⟨hgo.1, HO1.out.trans hgo.2.1, hgo.2.2⟩
    have hres := hgo.2.2
    clear hgo
    rcases hx : (oneA L n t1 s.2.1 s.2.2).2 with ce | s2
    · rw [hx] at hres
      obtain ⟨rfl, hne⟩ := hres
      clear hx
      go_wp2_with fail
      go_ret
      exact HF.out
    · rw [hx] at hres
      obtain ⟨rfl, hne⟩ := hres
      clear hx hne
      go_wp2_with fail
      go_ret
      exact HF.out
/-- which blocks a step turns -/
def S3 (gr g gu E k : Nat) : Prop := k = gr ∨ k = g ∨ k = gu ∨ E ≤ k
theorem S3.out {B C c gr g gu E : Nat} {w : World} (hC : Cd w B C c) (hO : Out B C gr) (hCg : C ≤ g) (hCu : C ≤ gu) (hgE : g < E) : ∀ k, S3 gr g gu E k → Out B C k := by
  intro k hk
  rcases hk with e | e | e | e
  · rw [e]; exact hO
  · exact .inr (by omega)
  · exact .inr (by omega)
  · exact .inr (by omega)
/-- a step is done -/
def StepP (gr : Nat) (p : Option Addr) (cap : Nat) (xs : List UInt8) (low : Bool) (E g n gu : Nat) (K : Nat → Prop) (top : List Nat) (w : World) (r : Nat × Except Nat (Nat × List Bool × Bool)) (e : Ending) (w' : World) : Prop :=
  Rd w' gr p cap xs r.1 low ∧ Only (S3 gr g gu E) w w' ∧ match r.2 with
    | .error ce => e = .returned (.int .i64 (ce : Int)) ∧ ((ce : Int) != 0) = true
    | .ok s => e = .returned (.int .i64 0) ∧ LinP w' E g s.1 s.2.1 s.2.2 n ∧ Up w' K gu top n s.1
theorem GoP.step {gr : Nat} {p : Option Addr} {cap : Nat} {xs : List UInt8} {low : Bool} {E g n gu a : Nat} {K : Nat → Prop} {top : List Nat} {w0 w w' : World} {r : Nat × Except Nat (Nat × List Bool × Bool)} {e : Ending}
    (h : GoP gr p cap xs low E g n (LS gr g E) w r e w') (ho : Only (S3 gr g gu E) w0 w) (hU : Up w K gu top n a) (hK : ∀ k, K k → k < g ∧ k ≠ gr) (hgu : gu ≠ g) (hgur : gu ≠ gr) (huE : gu < E) (hgE : g < E) (ha : ∀ s, r.2 = .ok s → a ≤ s.1) : StepP gr p cap xs low E g n gu K top w0 r e w' := by
  obtain ⟨h1, h2, h3⟩ := h
  have h2' : Only (S3 gr g gu E) w w' := h2.mono (fun k _ hk => by
    rcases hk with e | e | e
    · exact .inl e
    · exact .inr (.inl e)
    · exact .inr (.inr (.inr e)))
  refine ⟨h1, ho.trans h2', ?_⟩
  rcases hr : r.2 with ce | s
  · rw [hr] at h3
    exact h3
  · rw [hr] at h3
    obtain ⟨h4, h5⟩ := h3
    refine ⟨h4, h5, (hU.only h2 (fun hk => ?_) (fun k hk hs => ?_)).mono (ha s hr)⟩
    · rcases hk with e | e | e
      · exact hgur e
      · exact hgu e
      · omega
    · have := hK k hk
      rcases hs with e | e | e
      · exact this.2 e
      · omega
      · omega
theorem twoA_ge {L : List Bool} {n t : Nat} {P : List Bool} {b : Bool} {s : Nat × List Bool × Bool} (h : (twoA L n t P b).2 = .ok s) : P.length + 1 ≤ s.1 := by
  unfold twoA at h
  rcases hy : (lenA b L (n - P.length) t 0).2 with e | m
  · rw [hy] at h; cases h
  · rw [hy] at h
    simp only at h
    rcases hz : (lenA (!b) L (n - (P.length + m)) (lenA b L (n - P.length) t 0).1 0).2 with e | k
    · rw [hz] at h; cases h
    · rw [hz] at h
      injection h with h
      rw [← h]
      simp only
      omega
set_option maxHeartbeats 8000000 in
theorem readStep_any (w : World) (B C c gr : Nat) (p : Option Addr) (cap : Nat) (xs : List UInt8) (t : Nat) (low : Bool) (E g n a gu : Nat) (K : Nat → Prop) (top : List Nat) (P : List Bool) (b : Bool) (hC : Cd w B C c) (hO : Out B C gr) (hCg : C ≤ g) (hCu : C ≤ gu) (hg : gr < g) (hgu : gr < gu) (hne : gu ≠ g) (huE : gu < E) (hK : ∀ k, K k → k < g ∧ k ≠ gr) (hR : Rd w gr p cap xs t low) (hL : LinP w E g a P b n) (hU : Up w K gu top n a) (hv : Valid top n) (hn : n ≤ 32768) (h1 : 1 ≤ n) (han : a ≤ n) :
    Calls Tryz.prog 77 #[.pointer (some ⟨g, 0, none⟩), .pointer (some ⟨gr, 0, none⟩), .pointer (some ⟨c, 0, none⟩), .pointer (some ⟨gu, 0, none⟩)] w (StepP gr p cap xs low E g n gu K top w (stepA (bitsOf low xs) top n t a P b)) := by
  have HRM := Lib.hid (creadm_any w B C c gr p cap xs t low hC hO hR)
  have HC := Lib.hid hC
  have HO := Lib.hid hO
  have HGE : Hid (g < E) := Lib.hid (by obtain ⟨_, _, v, hl⟩ := hL; exact hl.1)
  have hPl := hL.1
  have HPL := Lib.hid hPl
  have HNE := Lib.hid (fun e h => modeZ_ne (L := bitsOf low xs) (t := t) (e := e) h)
  have HMI := Lib.hid (fun i h => modeZ_ok (L := bitsOf low xs) (t := t) (i := i) h)
  have hge := nextF_ge n top (!b) a han hv.2
  have hle := nextF_le n top (!b) a hv
  have HL := Lib.hid hL
  have HU := Lib.hid hU
  have HK := Lib.hid hK
  unfold stepA
  generalize hL0 : bitsOf low xs = L at *
  generalize modeZ L t = r at *
  obtain ⟨t1, x⟩ := r
  have hdef : nx n top b a = nextF n top (!b) a := rfl
  have HNX : Hid (∀ w9, Up w9 K gu top n a → Calls Tryz.prog 68 #[.pointer (some ⟨gu, 0, none⟩), .int .i64 ((a : Int) - 1), .bool (!b)] w9 (fun e w' => e = .returned (.tuple #[.int .i64 (((nextF n top (!b) a).1 : Nat) : Int), .int .i64 (((nextF n top (!b) a).2 : Nat) : Int)]) ∧ Only (· = gu) w9 w' ∧ Up w' K gu top n a)) := Lib.hid (fun w9 hu => (next_any w9 K gu n a top (!b) _ rfl hu).mono fun _ _ h => ⟨h.1, h.2.1, h.2.2.2⟩)
  rw [hdef]
  generalize nextF n top (!b) a = nn at *
  obtain ⟨n1, n2⟩ := nn
  simp only at HNX hge hle HNE HMI ⊢
  clear hC hO hR hL hU hdef hK
  go_enter Tryz.func77, Tryz.ntmps77
  go_wp2_with fail
  refine HRM.out.mono ?_
  rintro e w1 ⟨rfl, hr1, ho1, hz1⟩
  have HR1 := Lib.hid hr1
  have HO1 := Lib.hid ho1
  clear hr1 ho1
  rcases x with ce | i
  · have hce := HNE.out ce rfl
    simp only [valR, errR]
    go_wp2_with fail
    go_ret
    exact ⟨HR1.out, HO1.out.mono fun k _ e => .inl e, rfl, hce⟩
  · have hi9 := HMI.out i rfl
    simp only [valR, errR]
    have HL1 := Lib.hid (HL.out.only HO1.out (by omega) (fun k hk e => by have := HGE.out; omega))
    have HU1 := Lib.hid (HU.out.only HO1.out (by omega) (fun k hk e => (HK.out k hk).2 e))
    obtain ⟨v, hlin⟩ := HL1.out.2.2
    have HLV := Lib.hid hlin
    have k0 := hlin.c0
    have k1 := hlin.c1
    have kd0 : w1.drew.cell? ⟨g, 0, none⟩ = some (.int .i64 ((a : Int) - 1)) := k0
    have kd1 : w1.drew.cell? ⟨g, 1, none⟩ = some (.bool b) := k1
    have hOD : Only (fun _ => False) w1 w1.drew := Only.drawn _ ⟨1, rfl⟩
    have HND := Lib.hid (HNX.out w1.drew (HU1.out.only hOD (fun e => e) (fun _ _ e => e)))
    have HLVD := Lib.hid (hlin.only hOD (fun e => e) (fun _ _ e => e))
    clear hlin hPl
    generalize hz : (i : Int) - 3 = z
    have HZ := Lib.hid hz
    clear hz
    go_wp2_with fail
    refine wp_region_held_drew (S := (fun w' => w'.cell? ⟨g, 0, none⟩ = some (.int .i64 ((a : Int) - 1)) ∧ w'.cell? ⟨g, 1, none⟩ = some (.bool b))) (by kernel_rfl) ⟨kd0, kd1⟩ (fun hHeld => ?_)
    refine wpAnyH_take (i := 0) (v := ?v1) rfl (by kernel_rfl) (by kernel_rfl) (by kernel_rfl) (fun _ _ _ h => h) (Or.inl ⟨by rfl, fun w hSw => ?y1⟩) hHeld ?r1
    case y1 => (try dsimp only at hSw); first | (go_simp; done) | (go_simp; with_reducible rfl)
    try simp only [Act.put, List.setIfInBounds_toArray, List.set_cons_zero, List.set_cons_succ, List.getElem_toArray, List.getElem_cons_zero, List.getElem_cons_succ]
    refine wpAnyH_take (i := 1) (v := ?v2) rfl (by kernel_rfl) (by kernel_rfl) (by kernel_rfl) (fun _ _ _ h => h) (Or.inl ⟨by rfl, fun w hSw => ?y2⟩) hHeld ?r2
    case y2 => (try dsimp only at hSw); first | (go_simp; done) | (go_simp; with_reducible rfl)
    try simp only [Act.put, List.setIfInBounds_toArray, List.set_cons_zero, List.set_cons_succ, List.getElem_toArray, List.getElem_cons_zero, List.getElem_cons_succ]
    refine wpAnyH_take (i := 2) (v := ?v3) rfl (by kernel_rfl) (by kernel_rfl) (by kernel_rfl) (fun _ _ _ h => h) (Or.inl ⟨by rfl, fun w hSw => ?y3⟩) hHeld ?r3
    case y3 => (try dsimp only at hSw); first | (go_simp; done) | (go_simp; with_reducible rfl)
    try simp only [Act.put, List.setIfInBounds_toArray, List.set_cons_zero, List.set_cons_succ, List.getElem_toArray, List.getElem_cons_zero, List.getElem_cons_succ]
    refine wpAnyH_take (i := 3) (v := ?v4) rfl (by kernel_rfl) (by kernel_rfl) (by kernel_rfl) (fun _ _ _ h => h) (Or.inl ⟨by rfl, fun w hSw => ?y4⟩) hHeld ?r4
    case y4 => (try dsimp only at hSw); first | (go_simp; done) | (go_simp; with_reducible rfl)
    try simp only [Act.put, List.setIfInBounds_toArray, List.set_cons_zero, List.set_cons_succ, List.getElem_toArray, List.getElem_cons_zero, List.getElem_cons_succ]
    refine wpAnyH_take (i := 4) (v := ?v5) rfl (by kernel_rfl) (by kernel_rfl) (by kernel_rfl) (fun _ _ _ h => h) (Or.inl ⟨by rfl, fun w hSw => ?y5⟩) hHeld ?r5
    case y5 => (try dsimp only at hSw); first | (go_simp; done) | (go_simp; with_reducible rfl)
    try simp only [Act.put, List.setIfInBounds_toArray, List.set_cons_zero, List.set_cons_succ, List.getElem_toArray, List.getElem_cons_zero, List.getElem_cons_succ]
    refine wpAnyH_take (i := 5) (v := ?v6) rfl (by kernel_rfl) (by kernel_rfl) (by kernel_rfl) (fun _ _ _ h => h) (Or.inl ⟨by rfl, fun w hSw => ?y6⟩) hHeld ?r6
    case y6 => (try dsimp only at hSw); first | (go_simp; done) | (go_simp; with_reducible rfl)
    try simp only [Act.put, List.setIfInBounds_toArray, List.set_cons_zero, List.set_cons_succ, List.getElem_toArray, List.getElem_cons_zero, List.getElem_cons_succ]
    refine wpAnyH_take (i := 6) (v := ?v7) rfl (by kernel_rfl) (by kernel_rfl) (by kernel_rfl) (fun _ _ _ h => h) (Or.inl ⟨by rfl, fun w hSw => ?y7⟩) hHeld ?r7
    case y7 => (try dsimp only at hSw); first | (go_simp; done) | (go_simp; with_reducible rfl)
    try simp only [Act.put, List.setIfInBounds_toArray, List.set_cons_zero, List.set_cons_succ, List.getElem_toArray, List.getElem_cons_zero, List.getElem_cons_succ]
    refine wpAnyH_take (i := 7) (v := ?v8) rfl (by kernel_rfl) (by kernel_rfl) (by kernel_rfl) (fun _ _ _ h => h) (Or.inl ⟨by rfl, fun w hSw => ?y8⟩) hHeld ?r8
    case y8 => (try dsimp only at hSw); first | (go_simp; done) | (go_simp; with_reducible rfl)
    try simp only [Act.put, List.setIfInBounds_toArray, List.set_cons_zero, List.set_cons_succ, List.getElem_toArray, List.getElem_cons_zero, List.getElem_cons_succ]
    refine wpAnyH_take (i := 8) (v := ?v9) rfl (by kernel_rfl) (by kernel_rfl) (by kernel_rfl) (fun _ _ _ h => h) (Or.inl ⟨by rfl, fun w hSw => ?y9⟩) hHeld ?r9
    case y9 => (try dsimp only at hSw); first | (go_simp; done) | (go_simp; with_reducible rfl)
    try simp only [Act.put, List.setIfInBounds_toArray, List.set_cons_zero, List.set_cons_succ, List.getElem_toArray, List.getElem_cons_zero, List.getElem_cons_succ]
    refine wpAnyH_take (i := 9) (v := ?v10) rfl (by kernel_rfl) (by kernel_rfl) (by kernel_rfl) (fun _ _ _ h => h) (Or.inl ⟨by rfl, fun w hSw => ?y10⟩) hHeld ?r10
    case y10 => (try dsimp only at hSw); first | (go_simp; done) | (go_simp; with_reducible rfl)
    try simp only [Act.put, List.setIfInBounds_toArray, List.set_cons_zero, List.set_cons_succ, List.getElem_toArray, List.getElem_cons_zero, List.getElem_cons_succ]
    refine wpAnyH_ready (rs := [10]) (by kernel_rfl) (by simp) ?_
    refine AllReadyH.cons rfl (fun K hK => ?_) AllReadyH.nil
    go_simp
    refine HND.out.mono ?_
    rintro e w2 ⟨rfl, ho2, hu2⟩
    have HU2 := Lib.hid hu2
    have HL2 := Lib.hid (HLVD.out.only ho2 (by omega) (fun k hk e => by omega))
    have HO2 : Hid (Only (S3 gr g gu E) w w2) := Lib.hid ((HO1.out.mono fun k _ e => .inl e : Only (S3 gr g gu E) w w1).trans (((Only.drawn _ ⟨1, rfl⟩) : Only (S3 gr g gu E) w1 w1.drew).trans (ho2.mono fun k _ e => .inr (.inr (.inl e)))))
    have HR2 := Lib.hid (rd_only (rd_only HR1.out hOD (fun e => e) (fun _ _ _ e => e)) ho2 (by omega) (fun ad _ hb e => by omega))
    have HS2 : Hid (w2.cell? ⟨g, 0, none⟩ = some (.int .i64 ((a : Int) - 1)) ∧ w2.cell? ⟨g, 1, none⟩ = some (.bool b)) := Lib.hid ⟨HL2.out.c0, HL2.out.c1⟩
    clear hu2 ho2
    go_wp2_with fail
    refine hK.out _ _ HS2.out (fun hHeld2 => ?_)
    clear hK K
    try simp only [Act.put, List.setIfInBounds_toArray, List.set_cons_zero, List.set_cons_succ, List.getElem_toArray, List.getElem_cons_zero, List.getElem_cons_succ]
    refine wpAnyH_take (i := 11) (v := ?v11) rfl (by kernel_rfl) (by kernel_rfl) (by kernel_rfl) (fun _ _ _ h => h) (Or.inl ⟨by rfl, fun w hSw => ?y11⟩) hHeld2 ?r11
    case y11 => (try dsimp only at hSw); first | (go_simp; done) | (go_simp; with_reducible rfl)
    try simp only [Act.put, List.setIfInBounds_toArray, List.set_cons_zero, List.set_cons_succ, List.getElem_toArray, List.getElem_cons_zero, List.getElem_cons_succ]
    refine wpAnyH_take (i := 12) (v := ?v12) rfl (by kernel_rfl) (by kernel_rfl) (by kernel_rfl) (fun _ _ _ h => h) (Or.inl ⟨by rfl, fun w hSw => ?y12⟩) hHeld2 ?r12
    case y12 => (try dsimp only at hSw); first | (go_simp; done) | (go_simp; with_reducible rfl)
    try simp only [Act.put, List.setIfInBounds_toArray, List.set_cons_zero, List.set_cons_succ, List.getElem_toArray, List.getElem_cons_zero, List.getElem_cons_succ]
    refine wpAnyH_take (i := 13) (v := ?v13) rfl (by kernel_rfl) (by kernel_rfl) (by kernel_rfl) (fun _ _ _ h => h) (Or.inl ⟨by rfl, fun w hSw => ?y13⟩) hHeld2 ?r13
    case y13 => (try dsimp only at hSw); first | (go_simp; done) | (go_simp; with_reducible rfl)
    try simp only [Act.put, List.setIfInBounds_toArray, List.set_cons_zero, List.set_cons_succ, List.getElem_toArray, List.getElem_cons_zero, List.getElem_cons_succ]
    refine wpAnyH_take (i := 14) (v := ?v14) rfl (by kernel_rfl) (by kernel_rfl) (by kernel_rfl) (fun _ _ _ h => h) (Or.inl ⟨by rfl, fun w hSw => ?y14⟩) hHeld2 ?r14
    case y14 => (try dsimp only at hSw); first | (go_simp; done) | (go_simp; with_reducible rfl)
    try simp only [Act.put, List.setIfInBounds_toArray, List.set_cons_zero, List.set_cons_succ, List.getElem_toArray, List.getElem_cons_zero, List.getElem_cons_succ]
    refine wpAnyH_take (i := 15) (v := ?v15) rfl (by kernel_rfl) (by kernel_rfl) (by kernel_rfl) (fun _ _ _ h => h) (Or.inl ⟨by rfl, fun w hSw => ?y15⟩) hHeld2 ?r15
    case y15 => (try dsimp only at hSw); first | (go_simp; done) | (go_simp; with_reducible rfl)
    try simp only [Act.put, List.setIfInBounds_toArray, List.set_cons_zero, List.set_cons_succ, List.getElem_toArray, List.getElem_cons_zero, List.getElem_cons_succ]
    refine wpAnyH_done (by kernel_rfl) ?_ _
    clear hHeld hHeld2 kd0 kd1 k0 k1 HLVD HND HLV hOD
    have HP2 : Hid (LinP w2 E g a P b n) := Lib.hid ⟨HPL.out, HL1.out.2.1, v, HL2.out⟩
    have j0 := HL2.out.c0
    have jf := HL2.out.fz 0
    have HC2 := Lib.hid (HC.out.only HO2.out (S3.out HC.out HO.out hCg hCu HGE.out))
    by_cases h8 : i = 8
    · have hz5 : z = 5 := by have := HZ.out; omega
      have HSET := Lib.hid (HL2.out.setAt ((n2 : Nat) : Int))
      have HOS : Hid (Only (· = g) w2 (w2.setCell ⟨g, 0, none⟩ (.int .i64 ((n2 : Nat) : Int)))) := Lib.hid (Only.setCell (S := (· = g)) (p := ⟨g, 0, none⟩) (by rfl) _)
      have HCP := Lib.hid (chgs_pass P b n2 n (by have := HPL.out; omega) (by omega) (by have := HPL.out; omega))
      have HRL := Lib.hid (run_len P b n2 (by have := HPL.out; omega))
      subst hz5
      have H8 := Lib.hid h8
      clear h8
      go_wp2_with fail
      go_ret
      dsimp only
      try rw [if_pos H8.out]
      refine ⟨rd_only HR2.out HOS.out (by omega) (fun ad _ hb e => by omega), HO2.out.trans (HOS.out.mono fun k _ e => .inr (.inl e)), rfl, ⟨?_, ?_, v, ?_⟩, ?_⟩
      · simp only; rw [HRL.out]; omega
      · simp only; omega
      · have h5 := HSET.out
        rw [HCP.out] at h5
        have e5 : ((n2 + 1 : Nat) : Int) - 1 = (n2 : Int) := by omega
        simp only
        rw [e5]
        exact h5
      · exact (HU2.out.only HOS.out hne (fun k hk e => by have := HK.out k hk; omega)).mono (by simp only; omega)
    · have H8 := Lib.hid h8
      have d5 : (z == 5) = false := by have := HZ.out; simp; omega
      by_cases h7 : i = 7
      · have H7 := Lib.hid h7
        have hz4 : z = 4 := by have := HZ.out; omega
        have HTW := Lib.hid (readTwo_any w2 B C c gr p cap xs t1 low E g n a P b HC2.out HO.out hCg hg HR2.out HP2.out hn)
        rw [hL0] at HTW
        have HGA := Lib.hid (fun s hs => twoA_ge (L := L) (n := n) (t := t1) (P := P) (b := b) (s := s) hs)
        subst hz4
        clear h7 h8 d5 j0 jf
        go_wp2_with fail
        refine HTW.out.mono ?_
        intro e w3 hgo
        have hst := hgo.step (a := a) HO2.out HU2.out HK.out hne (by omega) huE HGE.out (fun s hs => by have := HGA.out s hs; have := HPL.out; omega)
        have HST := Lib.hid hst
        have hres := hst.2.2
        clear hst hgo
        rcases hx : (twoA L n t1 P b).2 with ce | s
        · rw [hx] at hres
          obtain ⟨rfl, hne⟩ := hres
          clear hx
          go_wp2_with fail
          go_ret
          dsimp only
          try rw [if_neg H8.out]
          try rw [if_pos H7.out]
          exact HST.out
        · rw [hx] at hres
          obtain ⟨rfl, hne⟩ := hres
          clear hx hne
          go_wp2_with fail
          go_ret
          dsimp only
          try rw [if_neg H8.out]
          try rw [if_pos H7.out]
          exact HST.out
      · have H7 := Lib.hid h7
        have d4 : (z == 4) = false := by have := HZ.out; simp; omega
        have hz0 : z = (i : Int) - 3 := HZ.out.symm
        have hi3 : -3 ≤ z ∧ z ≤ 3 := by omega
        have hsum : (n1 : Int) + z = (n1 : Int) + (i : Int) - 3 := by omega
        clear h7 h8 j0 jf
        by_cases hc : a + 3 ≤ n1 + i ∧ n1 + i ≤ n + 3
        · have HCC := Lib.hid hc
          obtain ⟨y, hy⟩ : ∃ y, y = n1 + i - 3 := ⟨_, rfl⟩
          have HMV := Lib.hid (move_ok w2 E g n a y P b HP2.out (by omega) (by omega) hn)
          have hxy : (n1 : Int) + z = (y : Int) := by omega
          have HY := Lib.hid hy
          have hay : a ≤ y := by omega
          clear hy hsum hz0 hc
          go_wp2_with fail
          refine HMV.out.mono ?_
          rintro e w3 ⟨rfl, ho3, hl3⟩
          have HO3 := Lib.hid ho3
          have HL3 := Lib.hid hl3
          have HUU := Lib.hid ((HU2.out.only ho3 (fun e => by have := HGE.out; rcases e with e | e <;> omega) (fun k hk e => by have := HK.out k hk; have := HGE.out; rcases e with e | e <;> omega)).mono (show a ≤ y + 1 by omega))
          have HRR := Lib.hid (rd_only HR2.out ho3 (fun e => by have := HGE.out; rcases e with e | e <;> omega) (fun ad _ hb e => by have := HGE.out; rcases e with e | e <;> omega))
          clear ho3 hl3
          go_wp2_with fail
          go_ret
          dsimp only
          try rw [if_neg H8.out]
          try rw [if_neg H7.out]
          try rw [if_pos HCC.out]
          try rw [← HY.out]
          exact ⟨HRR.out, HO2.out.trans (HO3.out.mono fun k _ e => by
            rcases e with e | e
            · exact .inr (.inl e)
            · exact .inr (.inr (.inr e))), rfl, HL3.out, HUU.out⟩
        · have HCC := Lib.hid hc
          have HMV := Lib.hid (move_bad w2 E g n a ((n1 : Int) + z) P b HP2.out (by omega))
          have hb1 : IntKind.i64.wrap ((n1 : Int) + z) = (n1 : Int) + z := by rw [IntKind.wrap_i64]; omega
          clear hsum hz0 hc
          go_wp2_with fail
          refine HMV.out.mono ?_
          rintro e w3 ⟨rfl, rfl⟩
          go_wp2_with fail
          go_ret
          dsimp only
          try rw [if_neg H8.out]
          try rw [if_neg H7.out]
          try rw [if_neg HCC.out]
          exact ⟨HR2.out, HO2.out, rfl, by decide⟩
end Go.Proofs.YtidicajedckaoaaGreatDoor.Mh

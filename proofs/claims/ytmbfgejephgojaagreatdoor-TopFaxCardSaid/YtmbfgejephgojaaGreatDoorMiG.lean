
/- The contracts of move, readLength, readTwo and readStep. -/
import Derived.Test.YtmbfgejephgojaaGreatDoorMiB
import Derived.Lib.MinMax
namespace Go.Proofs.YtmbfgejephgojaaGreatDoor.Mh
open Go.RowKit Go.Proofs.YtmbfgejephgojaaGreatDoor.Oct Go.Proofs.YtmbfgejephgojaaGreatDoor.Bit
open Go.Proofs.YtmbfgejephgojaaGreatDoor.Fx (lookP lookP_le lenA lenA_eq lenF wordsF modesF modeZ valR errR look_err look_ok lenZ lenZ_nat Cd Out cread_any creadm_any CReadP rd_only)
open Go.Proofs.YtmbfgejephgojaaGreatDoor.Rn (changes togX cur cur_run cur_flip nextX nextF nextI zl zl_length zl_append zl_get nextI_zl IOwn Valid)
open Go.Proofs.YtmbfgejephgojaaGreatDoor.Lp (VRow ints ints_length ints_append ints_one vrow_own)
set_option linter.unusedVariables false
set_option linter.unusedSimpArgs false
set_option maxRecDepth 100000

theorem lenA_err (b : Bool) (L : List Bool) (most : Nat) : ∀ (f t n e : Nat), L.length + 1 ≤ f + t → t ≤ L.length → (lenA b L most t n).2 = .error e → e = 2 ∨ e = 6 ∨ e = 5
  | 0, t, n, e, hf, ht, h => by omega
  | f + 1, t, n, e, hf, ht, h => by
    rw [lenA_eq b L most t n ht] at h
    have hle := lookP_le (wordsF b) (L.drop t) []
    rw [List.length_nil, List.length_drop] at hle
    rcases hx : lookP (wordsF b) [] (L.drop t) with ⟨k, c | i⟩
    · rw [hx] at h
      simp only at h
      injection h with h
      subst h
      rcases look_err _ _ hx with h | h
      · exact .inl h
      · exact .inr (.inl h)
    · rw [hx] at h hle
      simp only at h
      have hd : L.drop t ≠ [] := by
        intro hd
        rw [hd] at hx
        cases hx
      have h3 := hle.2.2 hd
      simp only at h3
      split at h
      · injection h with h
        exact .inr (.inr h.symm)
      · split at h
        · cases h
        · exact lenA_err b L most f (t + k) _ e (by omega) (by have := hle.2.1; simp only at this; omega) h
theorem lenA_ne {b : Bool} {L : List Bool} {most t n e : Nat} (ht : t ≤ L.length) (h : (lenA b L most t n).2 = .error e) : ((e : Int) != 0) = true := by
  rcases lenA_err b L most (L.length + 1) t n e (by omega) ht h with rfl | rfl | rfl <;> rfl
theorem modeZ_ne {L : List Bool} {t e : Nat} (h : (modeZ L t).2 = .error e) : ((e : Int) != 0) = true := by
  unfold modeZ at h
  rcases hx : lookP modesF [] (L.drop t) with ⟨k, c | i⟩
  · rw [hx] at h
    simp only at h
    injection h with h
    subst h
    rcases look_err _ _ hx with rfl | rfl <;> rfl
  · rw [hx] at h
    simp only at h
    split at h
    · injection h with h
      subst h
      rfl
    · cases h
theorem modeZ_ok {L : List Bool} {t i : Nat} (h : (modeZ L t).2 = .ok i) : i < 9 := by
  unfold modeZ at h
  rcases hx : lookP modesF [] (L.drop t) with ⟨k, c | j⟩
  · rw [hx] at h
    cases h
  · rw [hx] at h
    simp only at h
    have hj := look_ok _ _ hx
    rw [show modesF.length = 10 from Fx.modesF_length] at hj
    split at h
    · cases h
    · injection h with h
      omega
theorem modeZ_le {L : List Bool} {t : Nat} (ht : t ≤ L.length) : (modeZ L t).1 ≤ L.length ∧ t ≤ (modeZ L t).1 ∧ ∀ i, (modeZ L t).2 = .ok i → t < (modeZ L t).1 := by
  have hle := lookP_le modesF (L.drop t) []
  rw [List.length_nil, List.length_drop] at hle
  unfold modeZ
  rcases hx : (lookP modesF [] (L.drop t)).2 with e | i
  · exact ⟨by show t + _ ≤ _; omega, by show t ≤ t + _; omega, fun i h => by cases h⟩
  · have hd : L.drop t ≠ [] := by
      intro hd
      rw [hd] at hx
      cases hx
    have h3 := hle.2.2 hd
    exact ⟨by show t + _ ≤ _; omega, by show t ≤ t + _; omega, fun _ _ => by show t < t + _; omega⟩
/-- the two lengths behind Two -/
def twoA (L : List Bool) (n t : Nat) (P : List Bool) (b : Bool) : Nat × Except Nat (Nat × List Bool × Bool) := match (lenA b L (n - P.length) t 0).2 with
  | .error e => ((lenA b L (n - P.length) t 0).1, .error e)
  | .ok m => match (lenA (!b) L (n - (P.length + m)) (lenA b L (n - P.length) t 0).1 0).2 with
    | .error e => ((lenA (!b) L (n - (P.length + m)) (lenA b L (n - P.length) t 0).1 0).1, .error e)
    | .ok k => ((lenA (!b) L (n - (P.length + m)) (lenA b L (n - P.length) t 0).1 0).1, .ok (P.length + m + k + 1, P ++ List.replicate m b ++ List.replicate k (!b), b))
/-- one step by the row above: the place behind it, and where the row is then, or the error -/
def stepA (L : List Bool) (top : List Nat) (n t a : Nat) (P : List Bool) (b : Bool) : Nat × Except Nat (Nat × List Bool × Bool) := match (modeZ L t).2 with
  | .error e => ((modeZ L t).1, .error e)
  | .ok i => if i = 8 then ((modeZ L t).1, .ok ((nx n top b a).2 + 1, P ++ List.replicate ((nx n top b a).2 - P.length) b, b))
    else if i = 7 then twoA L n (modeZ L t).1 P b
    else if a + 3 ≤ (nx n top b a).1 + i ∧ (nx n top b a).1 + i ≤ n + 3 then ((modeZ L t).1, .ok ((nx n top b a).1 + i - 3 + 1, P ++ List.replicate ((nx n top b a).1 + i - 3 - P.length) b, !b))
    else ((modeZ L t).1, .error 3)
theorem readGA_step (L : List Bool) (top : List Nat) (n t a : Nat) (P : List Bool) (b : Bool) (ht : t ≤ L.length) (ha : a ≤ n) : readGA L top n t a P b = match (stepA L top n t a P b).2 with
    | .error e => ((stepA L top n t a P b).1, .error e)
    | .ok s => readGA L top n (stepA L top n t a P b).1 s.1 s.2.1 s.2.2 := by
  rw [readGA_eq L top n t a P b ht, if_neg (by omega)]
  unfold stepA modeZ
  rcases hx : (lookP modesF [] (L.drop t)).2 with e | i
  · rfl
  · simp only
    by_cases h9 : i = 9
    · rw [if_pos h9, if_pos h9]
    · rw [if_neg h9, if_neg h9]
      simp only
      split
      · rfl
      · split
        · unfold twoA
          rcases hy : (lenA b L (n - P.length) (t + (lookP modesF [] (L.drop t)).1) 0).2 with e | m
          · rfl
          · simp only
            rcases hz : (lenA (!b) L (n - (P.length + m)) (lenA b L (n - P.length) (t + (lookP modesF [] (L.drop t)).1) 0).1 0).2 with e | k
            · rfl
            · rfl
        · split
          · rfl
          · rfl
theorem twoA_le {L : List Bool} {n t : Nat} {P : List Bool} {b : Bool} (ht : t ≤ L.length) : (twoA L n t P b).1 ≤ L.length ∧ t ≤ (twoA L n t P b).1 := by
  obtain ⟨h1, h2, h3⟩ := lenA_lt b (L := L) (most := n - P.length) (n := 0) ht
  unfold twoA
  rcases hy : (lenA b L (n - P.length) t 0).2 with e | m
  · exact ⟨h1, h2⟩
  · obtain ⟨h4, h5, h6⟩ := lenA_lt (!b) (L := L) (most := n - (P.length + m)) (n := 0) h1
    simp only
    rcases hz : (lenA (!b) L (n - (P.length + m)) (lenA b L (n - P.length) t 0).1 0).2 with e | k
    · exact ⟨h4, by simp only; omega⟩
    · exact ⟨h4, by simp only; omega⟩
theorem stepA_le {L : List Bool} {top : List Nat} {n t a : Nat} {P : List Bool} {b : Bool} (ht : t ≤ L.length) : (stepA L top n t a P b).1 ≤ L.length ∧ t ≤ (stepA L top n t a P b).1 ∧ ∀ s, (stepA L top n t a P b).2 = .ok s → t < (stepA L top n t a P b).1 := by
  obtain ⟨h1, h2, h3⟩ := modeZ_le ht
  unfold stepA
  rcases hx : (modeZ L t).2 with e | i
  · exact ⟨h1, h2, fun s h => by cases h⟩
  · have h4 := h3 i hx
    simp only
    split
    · exact ⟨h1, h2, fun _ _ => h4⟩
    · split
      · have h5 := twoA_le (n := n) (P := P) (b := b) h1
        exact ⟨h5.1, by omega, fun _ _ => by omega⟩
      · split
        · exact ⟨h1, h2, fun _ _ => h4⟩
        · exact ⟨h1, h2, fun _ _ => h4⟩
/-- a row under way: its pixels up to a place -/
def LinP (w : World) (E g a : Nat) (P : List Bool) (b : Bool) (n : Nat) : Prop := P.length = a - 1 ∧ a ≤ n + 1 ∧ ∃ v, Lin w E g v ((a : Int) - 1) b (chgs P b n) n
theorem LinP.only {S : Nat → Prop} {w w' : World} {E g a n : Nat} {P : List Bool} {b : Bool} (h : LinP w E g a P b n) (ho : Only S w w') (hg : ¬ S g) (hE : ∀ k, E ≤ k → ¬ S k) : LinP w' E g a P b n := by
  obtain ⟨h1, h2, v, h3⟩ := h
  exact ⟨h1, h2, v, h3.only ho hg hE⟩
/-- which blocks reading turns -/
def LS (gr g E k : Nat) : Prop := k = gr ∨ k = g ∨ E ≤ k
/-- the row has come to a place, or there is an error -/
def GoP (gr : Nat) (p : Option Addr) (cap : Nat) (xs : List UInt8) (low : Bool) (E g n : Nat) (S : Nat → Prop) (w : World) (r : Nat × Except Nat (Nat × List Bool × Bool)) (e : Ending) (w' : World) : Prop :=
  Rd w' gr p cap xs r.1 low ∧ Only S w w' ∧ match r.2 with
    | .error ce => e = .returned (.int .i64 (ce : Int)) ∧ ((ce : Int) != 0) = true
    | .ok s => e = .returned (.int .i64 0) ∧ LinP w' E g s.1 s.2.1 s.2.2 n
/-- one length -/
def oneA (L : List Bool) (n t : Nat) (P : List Bool) (b : Bool) : Nat × Except Nat (Nat × List Bool × Bool) := match (lenA b L (n - P.length) t 0).2 with
  | .error e => ((lenA b L (n - P.length) t 0).1, .error e)
  | .ok m => ((lenA b L (n - P.length) t 0).1, .ok (P.length + m + 1, P ++ List.replicate m b, !b))
set_option maxHeartbeats 4000000 in
theorem readLength_any (w : World) (B C c gr : Nat) (p : Option Addr) (cap : Nat) (xs : List UInt8) (t : Nat) (low : Bool) (E g n a : Nat) (P : List Bool) (b : Bool) (hC : Cd w B C c) (hO : Out B C gr) (hCg : C ≤ g) (hg : gr < g) (hR : Rd w gr p cap xs t low) (hL : LinP w E g a P b n) (hn : n ≤ 32768) :
    Calls Tryz.prog 49 #[.pointer (some ⟨g, 0, none⟩), .pointer (some ⟨gr, 0, none⟩), .pointer (some ⟨c, 0, none⟩)] w (GoP gr p cap xs low E g n (LS gr g E) w (oneA (bitsOf low xs) n t P b)) := by
  obtain ⟨hPl, han, v, hlin⟩ := hL
  have hal : t ≤ (bitsOf low xs).length := by rw [bitsOf_length]; exact hR.2.2.1
  unfold oneA
  have HLEN := Lib.hid (chgs_len P b n)
  have HTX := Lib.hid (fun x => chgs_turn P b x n)
  have HPP := Lib.hid (fun m => show (P ++ List.replicate m b).length = P.length + m from by rw [List.length_append, List.length_replicate])
  generalize P.length = q0 at *
  have hPn : q0 ≤ n := by omega
  obtain ⟨mo, hmo⟩ : ∃ mo, mo = n - q0 := ⟨_, rfl⟩
  have hle := lenA_lt b (L := bitsOf low xs) (most := mo) (n := 0) hal
  have HRD := Lib.hid (fun w9 (hd : Drawn w w9) => cread_any w9 B C c gr p cap xs t low (mo : Int) b (hC.only (Only.drawn (fun _ => False) hd) (fun _ e => e.elim)) hO (rd_only hR (Only.drawn (fun _ => False) hd) (fun e => e) (fun _ _ _ e => e)) (by omega) (by omega))
  have HNE := Lib.hid (fun e h => lenA_ne (b := b) (most := mo) (n := 0) (e := e) hal h)
  have HLT := Lib.hid hle.2.2
  rw [lenZ_nat] at HRD
  rw [← hmo]
  have k0 := hlin.c0
  have k1 := hlin.c1
  have k3 := hlin.c3
  have HL := Lib.hid hlin
  have hgE := hlin.1
  have HGE := Lib.hid hgE
  have e0 : max ((a : Int) - 1) 0 = (q0 : Int) := by omega
  generalize lenA b (bitsOf low xs) mo t 0 = r at *
  obtain ⟨t1, x⟩ := r
  simp only at HRD HNE HLT ⊢
  have hw1 : IntKind.i64.wrap ((n : Int) - (q0 : Int)) = (mo : Int) := by rw [IntKind.wrap_i64]; omega
  have HPL := Lib.hid hPl
  have HMO := Lib.hid hmo
  have kd3 : w.drew.cell? ⟨g, 3, none⟩ = some (.int .i64 (n : Int)) := k3
  have kd1 : w.drew.cell? ⟨g, 1, none⟩ = some (.bool b) := k1
  clear hC hR hlin hal hle hgE hPl hmo
  go_enter Tryz.func49, Tryz.ntmps49
  go_wp2_with fail
  refine wp_region_held_drew (S := (fun w' => w'.cell? ⟨g, 3, none⟩ = some (.int .i64 (n : Int)) ∧ w'.cell? ⟨g, 1, none⟩ = some (.bool b))) (by kernel_rfl) ⟨kd3, kd1⟩ (fun hHeld => ?_)
  refine wpAnyH_take (i := 0) (v := ?v1) rfl (by kernel_rfl) (by kernel_rfl) (by kernel_rfl) (fun _ _ _ h => h) (Or.inl ⟨by rfl, fun w hSw => ?y1⟩) hHeld ?r1
  case y1 => (try dsimp only at hSw); first | (go_simp; done) | (go_simp; with_reducible rfl)
  try simp only [Act.put, List.setIfInBounds_toArray, List.set_cons_zero, List.set_cons_succ, List.getElem_toArray, List.getElem_cons_zero, List.getElem_cons_succ]
  refine wpAnyH_take (i := 1) (v := ?v2) rfl (by kernel_rfl) (by kernel_rfl) (by kernel_rfl) (fun _ _ _ h => h) (Or.inl ⟨by rfl, fun w hSw => ?y2⟩) hHeld ?r2
  case y2 => (try dsimp only at hSw); first | (go_simp; done) | (go_simp; with_reducible rfl)
  try simp only [Act.put, List.setIfInBounds_toArray, List.set_cons_zero, List.set_cons_succ, List.getElem_toArray, List.getElem_cons_zero, List.getElem_cons_succ]
  refine wpAnyH_take (i := 2) (v := ?v3) rfl (by kernel_rfl) (by kernel_rfl) (by kernel_rfl) (fun _ _ _ h => h) (Or.inl ⟨by rfl, fun w hSw => ?y3⟩) hHeld ?r3
  case y3 => (try dsimp only at hSw); first | (go_simp; done) | (go_simp; with_reducible rfl)
  try simp only [Act.put, List.setIfInBounds_toArray, List.set_cons_zero, List.set_cons_succ, List.getElem_toArray, List.getElem_cons_zero, List.getElem_cons_succ]
  refine wpAnyH_take (i := 3) (v := ?v4) rfl (by kernel_rfl) (by kernel_rfl) (by kernel_rfl) (fun _ _ _ h => h) (Or.inl ⟨by rfl, fun w hSw => ?y4⟩) hHeld ?r4
  case y4 => (try dsimp only at hSw); first | (go_simp; done) | (go_simp; with_reducible rfl)
  try simp only [Act.put, List.setIfInBounds_toArray, List.set_cons_zero, List.set_cons_succ, List.getElem_toArray, List.getElem_cons_zero, List.getElem_cons_succ]
  refine wpAnyH_take (i := 4) (v := ?v5) rfl (by kernel_rfl) (by kernel_rfl) (by kernel_rfl) (fun _ _ _ h => h) (Or.inl ⟨by rfl, fun w hSw => ?y5⟩) hHeld ?r5
  case y5 => (try dsimp only at hSw); first | (go_simp; done) | (go_simp; with_reducible rfl)
  try simp only [Act.put, List.setIfInBounds_toArray, List.set_cons_zero, List.set_cons_succ, List.getElem_toArray, List.getElem_cons_zero, List.getElem_cons_succ]
  refine wpAnyH_take (i := 5) (v := ?v6) rfl (by kernel_rfl) (by kernel_rfl) (by kernel_rfl) (fun _ _ _ h => h) (Or.inl ⟨by rfl, fun w hSw => ?y6⟩) hHeld ?r6
  case y6 => (try dsimp only at hSw); first | (go_simp; done) | (go_simp; with_reducible rfl)
  try simp only [Act.put, List.setIfInBounds_toArray, List.set_cons_zero, List.set_cons_succ, List.getElem_toArray, List.getElem_cons_zero, List.getElem_cons_succ]
  refine wpAnyH_take (i := 6) (v := ?v7) rfl (by kernel_rfl) (by kernel_rfl) (by kernel_rfl) (fun _ _ _ h => h) (Or.inl ⟨by rfl, fun w hSw => ?y7⟩) hHeld ?r7
  case y7 => (try dsimp only at hSw); first | (go_simp; done) | (go_simp; with_reducible rfl)
  try simp only [Act.put, List.setIfInBounds_toArray, List.set_cons_zero, List.set_cons_succ, List.getElem_toArray, List.getElem_cons_zero, List.getElem_cons_succ]
  refine wpAnyH_take (i := 7) (v := ?v8) rfl (by kernel_rfl) (by kernel_rfl) (by kernel_rfl) (fun _ _ _ h => h) (Or.inl ⟨by rfl, fun w hSw => ?y8⟩) hHeld ?r8
  case y8 => (try dsimp only at hSw); first | (go_simp; done) | (go_simp; with_reducible rfl)
  try simp only [Act.put, List.setIfInBounds_toArray, List.set_cons_zero, List.set_cons_succ, List.getElem_toArray, List.getElem_cons_zero, List.getElem_cons_succ]
  refine wpAnyH_take (i := 8) (v := ?v9) rfl (by kernel_rfl) (by kernel_rfl) (by kernel_rfl) (fun _ _ _ h => h) (Or.inl ⟨by rfl, fun w hSw => ?y9⟩) hHeld ?r9
  case y9 => (try dsimp only at hSw); first | (go_simp; done) | (go_simp; with_reducible rfl)
  try simp only [Act.put, List.setIfInBounds_toArray, List.set_cons_zero, List.set_cons_succ, List.getElem_toArray, List.getElem_cons_zero, List.getElem_cons_succ]
  refine wpAnyH_take (i := 9) (v := ?v10) rfl (by kernel_rfl) (by kernel_rfl) (by kernel_rfl) (fun _ _ _ h => h) (Or.inl ⟨by rfl, fun w hSw => ?y10⟩) hHeld ?r10
  case y10 => (try dsimp only at hSw); first | (go_simp; done) | (go_simp; with_reducible rfl)
  try simp only [Act.put, List.setIfInBounds_toArray, List.set_cons_zero, List.set_cons_succ, List.getElem_toArray, List.getElem_cons_zero, List.getElem_cons_succ]
  refine wpAnyH_take (i := 10) (v := ?v11) rfl (by kernel_rfl) (by kernel_rfl) (by kernel_rfl) (fun _ _ _ h => h) (Or.inl ⟨by rfl, fun w hSw => ?y11⟩) hHeld ?r11
  case y11 => (try dsimp only at hSw); first | (go_simp; done) | (go_simp; with_reducible rfl)
  try simp only [Act.put, List.setIfInBounds_toArray, List.set_cons_zero, List.set_cons_succ, List.getElem_toArray, List.getElem_cons_zero, List.getElem_cons_succ]
  refine wpAnyH_take (i := 11) (v := ?v12) rfl (by kernel_rfl) (by kernel_rfl) (by kernel_rfl) (fun _ _ _ h => h) (Or.inl ⟨by rfl, fun w hSw => ?y12⟩) hHeld ?r12
  case y12 => (try dsimp only at hSw); first | (go_simp; done) | (go_simp; with_reducible rfl)
  try simp only [Act.put, List.setIfInBounds_toArray, List.set_cons_zero, List.set_cons_succ, List.getElem_toArray, List.getElem_cons_zero, List.getElem_cons_succ]
  refine wpAnyH_ready (rs := [12]) (by kernel_rfl) (by simp) ?_
  refine AllReadyH.cons rfl (fun K hK => ?_) AllReadyH.nil
  go_simp
  first | rw [hw1] | skip
  refine (HRD.out w.drew ⟨1, rfl⟩).mono ?_
  rintro e w2 ⟨rfl, hr2, ho2, hz2⟩
  have HR2 := Lib.hid hr2
  have HO2 : Hid (Only (· = gr) w w2) := Lib.hid ((Only.drawn _ ⟨1, rfl⟩).trans ho2)
  have HS2 : Hid (w2.cell? ⟨g, 3, none⟩ = some (.int .i64 (n : Int)) ∧ w2.cell? ⟨g, 1, none⟩ = some (.bool b)) := by
    have hl2 := HL.out.only HO2.out (by omega) (fun k hk e => by have := HGE.out; omega)
    exact Lib.hid ⟨hl2.c3, hl2.c1⟩
  clear hr2 ho2 hz2
  go_wp2_with fail
  refine hK.out _ _ HS2.out (fun hHeld2 => ?_)
  clear hK K
  try simp only [Act.put, List.setIfInBounds_toArray, List.set_cons_zero, List.set_cons_succ, List.getElem_toArray, List.getElem_cons_zero, List.getElem_cons_succ]
  refine wpAnyH_take (i := 13) (v := ?v13) rfl (by kernel_rfl) (by kernel_rfl) (by kernel_rfl) (fun _ _ _ h => h) (Or.inl ⟨by rfl, fun w hSw => ?y13⟩) hHeld2 ?r13
  case y13 => (try dsimp only at hSw); first | (go_simp; done) | (go_simp; with_reducible rfl)
  try simp only [Act.put, List.setIfInBounds_toArray, List.set_cons_zero, List.set_cons_succ, List.getElem_toArray, List.getElem_cons_zero, List.getElem_cons_succ]
  refine wpAnyH_take (i := 14) (v := ?v14) rfl (by kernel_rfl) (by kernel_rfl) (by kernel_rfl) (fun _ _ _ h => h) (Or.inl ⟨by rfl, fun w hSw => ?y14⟩) hHeld2 ?r14
  case y14 => (try dsimp only at hSw); first | (go_simp; done) | (go_simp; with_reducible rfl)
  try simp only [Act.put, List.setIfInBounds_toArray, List.set_cons_zero, List.set_cons_succ, List.getElem_toArray, List.getElem_cons_zero, List.getElem_cons_succ]
  refine wpAnyH_take (i := 15) (v := ?v15) rfl (by kernel_rfl) (by kernel_rfl) (by kernel_rfl) (fun _ _ _ h => h) (Or.inl ⟨by rfl, fun w hSw => ?y15⟩) hHeld2 ?r15
  case y15 => (try dsimp only at hSw); first | (go_simp; done) | (go_simp; with_reducible rfl)
  try simp only [Act.put, List.setIfInBounds_toArray, List.set_cons_zero, List.set_cons_succ, List.getElem_toArray, List.getElem_cons_zero, List.getElem_cons_succ]
  refine wpAnyH_take (i := 16) (v := ?v16) rfl (by kernel_rfl) (by kernel_rfl) (by kernel_rfl) (fun _ _ _ h => h) (Or.inl ⟨by rfl, fun w hSw => ?y16⟩) hHeld2 ?r16
  case y16 => (try dsimp only at hSw); first | (go_simp; done) | (go_simp; with_reducible rfl)
  try simp only [Act.put, List.setIfInBounds_toArray, List.set_cons_zero, List.set_cons_succ, List.getElem_toArray, List.getElem_cons_zero, List.getElem_cons_succ]
  refine wpAnyH_take (i := 17) (v := ?v17) rfl (by kernel_rfl) (by kernel_rfl) (by kernel_rfl) (fun _ _ _ h => h) (Or.inl ⟨by rfl, fun w hSw => ?y17⟩) hHeld2 ?r17
  case y17 => (try dsimp only at hSw); first | (go_simp; done) | (go_simp; with_reducible rfl)
  try simp only [Act.put, List.setIfInBounds_toArray, List.set_cons_zero, List.set_cons_succ, List.getElem_toArray, List.getElem_cons_zero, List.getElem_cons_succ]
  refine wpAnyH_done (by kernel_rfl) ?_ _
  have HL2 := Lib.hid (HL.out.only HO2.out (by omega) (fun k hk e => by have := HGE.out; omega))
  have HOS : Hid (Only (LS gr g E) w w2) := Lib.hid (HO2.out.mono fun k _ e => .inl e)
  clear hHeld hHeld2 HS2 kd1 kd3 k0 k1 k3
  rcases x with ce | m
  · have hne := HNE.out ce rfl
    simp only [valR, errR]
    go_wp2_with fail
    go_ret
    exact ⟨HR2.out, HOS.out, rfl, HNE.out ce rfl⟩
  · have hm := (HLT.out m rfl).2
    have HM := Lib.hid hm
    have hq0 : q0 + m ≤ n := by have := HMO.out; omega
    have hs : (q0 : Int) + (m : Int) = ((q0 + m : Nat) : Int) := by omega
    have HTN := Lib.hid (turn_any w2 E g n (q0 + m) v _ b (chgs P b n) HL2.out (by have := HLEN.out; omega) (by omega) (by omega))
    have HTX2 := Lib.hid (HTX.out (q0 + m) (by omega) hq0)
    rw [Nat.add_sub_cancel_left] at HTX2
    have hml : m ≤ 32768 := by omega
    have hpl : q0 ≤ 32768 := by omega
    obtain ⟨q, hq⟩ : ∃ q, q = q0 + m := ⟨_, rfl⟩
    rw [← hq] at hs HTN HTX2
    have HQ := Lib.hid hq
    simp only [valR, errR, Int.sub_zero]
    clear hm hq
    go_wp2_with fail
    refine HTN.out.mono ?_
    rintro e w3 ⟨rfl, ⟨v3, hl3⟩, ho3⟩
    have HL3 := Lib.hid hl3
    have HO3 := Lib.hid ho3
    clear hl3 ho3
    go_wp2_with fail
    go_ret
    refine ⟨rd_only HR2.out HO3.out (fun e => ?_) (fun ad _ hb e => ?_), HOS.out.trans (HO3.out.mono fun k _ e => .inr e), rfl, ?_, ?_, v3, ?_⟩
    · have := HGE.out; rcases e with e | e <;> omega
    · have := HGE.out; rcases e with e | e <;> omega
    · simp only; rw [HPP.out]; omega
    · simp only; omega
    · have h5 := HL3.out
      rw [HTX2.out] at h5
      have e5 : ((q0 + m + 1 : Nat) : Int) - 1 = (q : Int) := by have := HQ.out; omega
      simp only
      rw [e5]
      exact h5
end Go.Proofs.YtmbfgejephgojaaGreatDoor.Mh
/- The contracts of move, readTwo and readStep. -/
namespace Go.Proofs.YtmbfgejephgojaaGreatDoor.Mh
open Go.RowKit Go.Proofs.YtmbfgejephgojaaGreatDoor.Oct Go.Proofs.YtmbfgejephgojaaGreatDoor.Bit
open Go.Proofs.YtmbfgejephgojaaGreatDoor.Fx (lookP lookP_le lenA lenA_eq modeZ valR errR Cd Out cread_any creadm_any CReadP rd_only)
open Go.Proofs.YtmbfgejephgojaaGreatDoor.Rn (changes togX cur cur_run cur_flip nextX nextF nextI zl zl_length zl_append zl_get nextI_zl IOwn Valid)
open Go.Proofs.YtmbfgejephgojaaGreatDoor.Lp (VRow ints ints_length ints_append ints_one vrow_own)
set_option linter.unusedVariables false
set_option linter.unusedSimpArgs false
set_option maxRecDepth 100000

set_option maxHeartbeats 2000000 in
theorem move_ok (w : World) (E g n a y : Nat) (P : List Bool) (b : Bool) (hL : LinP w E g a P b n) (hy : a ≤ y) (hyn : y ≤ n) (hn : n ≤ 32768) :
    Calls Tryz.prog 96 #[.pointer (some ⟨g, 0, none⟩), .int .i64 (y : Int)] w fun e w' => e = .returned (.int .i64 0) ∧ Only (LnS g E) w w' ∧ LinP w' E g (y + 1) (P ++ List.replicate (y - P.length) b) (!b) n := by
  obtain ⟨hPl, han, v, hlin⟩ := hL
  have k0 := hlin.c0
  have k3 := hlin.c3
  have HTN := Lib.hid (turn_any w E g n y v _ b (chgs P b n) hlin (by have := chgs_len P b n; omega) (by omega) (by omega))
  have HTX := Lib.hid (chgs_turn P b y n (by omega) hyn)
  have HRL := Lib.hid (run_len P b y (by omega))
  have d1 : decide ((y : Int) ≤ (a : Int) - 1) = false := by simp; omega
  have d2 : decide ((n : Int) < (y : Int)) = false := by simp; omega
  clear hlin hPl
  go_enter Tryz.func96, Tryz.ntmps96
  go_wp2_with fail
  refine HTN.out.mono ?_
  rintro e w3 ⟨rfl, ⟨v3, hl3⟩, ho3⟩
  have HL3 := Lib.hid hl3
  have HO3 := Lib.hid ho3
  clear hl3 ho3
  go_wp2_with fail
  go_ret
  refine ⟨rfl, HO3.out, by rw [HRL.out]; omega, by omega, v3, ?_⟩
  have h5 := HL3.out
  rw [HTX.out] at h5
  have e5 : ((y + 1 : Nat) : Int) - 1 = (y : Int) := by omega
  rw [e5]
  exact h5
theorem move_bad (w : World) (E g n a : Nat) (x : Int) (P : List Bool) (b : Bool) (hL : LinP w E g a P b n) (hx : x < (a : Int) ∨ (n : Int) < x) :
    Calls Tryz.prog 96 #[.pointer (some ⟨g, 0, none⟩), .int .i64 x] w fun e w' => e = .returned (.int .i64 3) ∧ w = w' := by
  obtain ⟨hPl, han, v, hlin⟩ := hL
  have k0 := hlin.c0
  have k3 := hlin.c3
  clear hlin hPl
  by_cases h1 : x < (a : Int)
  · have d1 : decide (x ≤ (a : Int) - 1) = true := by simp; omega
    clear hx h1
    go_enter Tryz.func96, Tryz.ntmps96
    go_wp2_with fail
    go_ret
    exact ⟨rfl, rfl⟩
  · have d1 : decide (x ≤ (a : Int) - 1) = false := by simp; omega
    have d2 : decide ((n : Int) < x) = true := by simp; omega
    clear hx h1
    go_enter Tryz.func96, Tryz.ntmps96
    go_wp2_with fail
    go_ret
    exact ⟨rfl, rfl⟩
theorem twoA_one (L : List Bool) (n t : Nat) (P : List Bool) (b : Bool) : twoA L n t P b = match (oneA L n t P b).2 with
    | .error e => ((oneA L n t P b).1, .error e)
    | .ok s => oneA L n (oneA L n t P b).1 s.2.1 s.2.2 := by
  unfold twoA oneA
  rcases hy : (lenA b L (n - P.length) t 0).2 with e | m
  · rfl
  · simp only [List.length_append, List.length_replicate]
    rcases hz : (lenA (!b) L (n - (P.length + m)) (lenA b L (n - P.length) t 0).1 0).2 with e | k
    · rfl
    · simp only [Bool.not_not]
theorem LS.out {B C c gr g E : Nat} {w : World} (hC : Cd w B C c) (hO : Out B C gr) (hCg : C ≤ g) (hgE : g < E) : ∀ k, LS gr g E k → Out B C k := by
  intro k hk
  rcases hk with e | e | e
  · rw [e]; exact hO
  · exact .inr (by omega)
  · exact .inr (by omega)
set_option maxHeartbeats 2000000 in
theorem readTwo_any (w : World) (B C c gr : Nat) (p : Option Addr) (cap : Nat) (xs : List UInt8) (t : Nat) (low : Bool) (E g n a : Nat) (P : List Bool) (b : Bool) (hC : Cd w B C c) (hO : Out B C gr) (hCg : C ≤ g) (hg : gr < g) (hR : Rd w gr p cap xs t low) (hL : LinP w E g a P b n) (hn : n ≤ 32768) :
    Calls Tryz.prog 95 #[.pointer (some ⟨g, 0, none⟩), .pointer (some ⟨gr, 0, none⟩), .pointer (some ⟨c, 0, none⟩)] w (GoP gr p cap xs low E g n (LS gr g E) w (twoA (bitsOf low xs) n t P b)) := by
  have HRA := Lib.hid (readLength_any w B C c gr p cap xs t low E g n a P b hC hO hCg hg hR hL hn)
  have HC := Lib.hid hC
  have HO := Lib.hid hO
  have HGE : Hid (g < E) := Lib.hid (by obtain ⟨_, _, v, hl⟩ := hL; exact hl.1)
  rw [twoA_one]
  generalize hL0 : bitsOf low xs = L at *
  generalize oneA L n t P b = r at *
  obtain ⟨t1, x⟩ := r
  clear hC hO hR hL
  go_enter Tryz.func95, Tryz.ntmps95
  go_wp2_with fail
  refine HRA.out.mono ?_
  rintro e w1 ⟨hr1, ho1, hres⟩
  rcases x with ce | s
  · obtain ⟨rfl, hne⟩ := hres
    have HR1 := Lib.hid hr1
    have HO1 := Lib.hid ho1
    clear hr1 ho1
    go_wp2_with fail
    go_ret
    exact ⟨HR1.out, HO1.out, rfl, hne⟩
  · obtain ⟨rfl, hl1⟩ := hres
    have HO1 := Lib.hid ho1
    have HRB := Lib.hid (readLength_any w1 B C c gr p cap xs t1 low E g n s.1 s.2.1 s.2.2 (HC.out.only ho1 (LS.out HC.out HO.out hCg HGE.out)) HO.out hCg hg hr1 hl1 hn)
    rw [hL0] at HRB
    clear hr1 ho1 hl1
    go_wp2_with fail
    refine HRB.out.mono ?_
    intro e w2 hgo
    have HF : Hid (GoP gr p cap xs low E g n (LS gr g E) w (oneA L n t1 s.2.1 s.2.2) e w2) := Lib.hid ⟨hgo.1, HO1.out.trans hgo.2.1, hgo.2.2⟩
    have hres := hgo.2.2
    clear hgo
    rcases hx : (oneA L n t1 s.2.1 s.2.2).2 with ce | s2
    · rw [hx] at hres
      obtain ⟨rfl, hne⟩ := hres
      clear hx
      go_wp2_with fail
      go_ret
      exact HF.out
    · rw [hx] at hres
      obtain ⟨rfl, hne⟩ := hres
      clear hx hne
      go_wp2_with fail
      go_ret
      exact HF.out
/-- which blocks a step turns -/
def S3 (gr g gu E k : Nat) : Prop := k = gr ∨ k = g ∨ k = gu ∨ E ≤ k
theorem S3.out {B C c gr g gu E : Nat} {w : World} (hC : Cd w B C c) (hO : Out B C gr) (hCg : C ≤ g) (hCu : C ≤ gu) (hgE : g < E) : ∀ k, S3 gr g gu E k → Out B C k := by
  intro k hk
  rcases hk with e | e | e | e
  · rw [e]; exact hO
  · exact .inr (by omega)
  · exact .inr (by omega)
  · exact .inr (by omega)
/-- a step is done -/
def StepP (gr : Nat) (p : Option Addr) (cap : Nat) (xs : List UInt8) (low : Bool) (E g n gu : Nat) (K : Nat → Prop) (top : List Nat) (w : World) (r : Nat × Except Nat (Nat × List Bool × Bool)) (e : Ending) (w' : World) : Prop :=
  Rd w' gr p cap xs r.1 low ∧ Only (S3 gr g gu E) w w' ∧ match r.2 with
    | .error ce => e = .returned (.int .i64 (ce : Int)) ∧ ((ce : Int) != 0) = true
    | .ok s => e = .returned (.int .i64 0) ∧ LinP w' E g s.1 s.2.1 s.2.2 n ∧ Up w' K gu top n s.1
theorem GoP.step {gr : Nat} {p : Option Addr} {cap : Nat} {xs : List UInt8} {low : Bool} {E g n gu a : Nat} {K : Nat → Prop} {top : List Nat} {w0 w w' : World} {r : Nat × Except Nat (Nat × List Bool × Bool)} {e : Ending}
    (h : GoP gr p cap xs low E g n (LS gr g E) w r e w') (ho : Only (S3 gr g gu E) w0 w) (hU : Up w K gu top n a) (hK : ∀ k, K k → k < g ∧ k ≠ gr) (hgu : gu ≠ g) (hgur : gu ≠ gr) (huE : gu < E) (hgE : g < E) (ha : ∀ s, r.2 = .ok s → a ≤ s.1) : StepP gr p cap xs low E g n gu K top w0 r e w' := by
  obtain ⟨h1, h2, h3⟩ := h
  have h2' : Only (S3 gr g gu E) w w' := h2.mono (fun k _ hk => by
    rcases hk with e | e | e
    · exact .inl e
    · exact .inr (.inl e)
    · exact .inr (.inr (.inr e)))
  refine ⟨h1, ho.trans h2', ?_⟩
  rcases hr : r.2 with ce | s
  · rw [hr] at h3
    exact h3
  · rw [hr] at h3
    obtain ⟨h4, h5⟩ := h3
    refine ⟨h4, h5, (hU.only h2 (fun hk => ?_) (fun k hk hs => ?_)).mono (ha s hr)⟩
    · rcases hk with e | e | e
      · exact hgur e
      · exact hgu e
      · omega
    · have := hK k hk
      rcases hs with e | e | e
      · exact this.2 e
      · omega
      · omega
theorem twoA_ge {L : List Bool} {n t : Nat} {P : List Bool} {b : Bool} {s : Nat × List Bool × Bool} (h : (twoA L n t P b).2 = .ok s) : P.length + 1 ≤ s.1 := by
  unfold twoA at h
  rcases hy : (lenA b L (n - P.length) t 0).2 with e | m
  · rw [hy] at h; cases h
  · rw [hy] at h
    simp only at h
    rcases hz : (lenA (!b) L (n - (P.length + m)) (lenA b L (n - P.length) t 0).1 0).2 with e | k
    · rw [hz] at h; cases h
    · rw [hz] at h
      injection h with h
      rw [← h]
      simp only
      omega
set_option maxHeartbeats 8000000 in
theorem readStep_any (w : World) (B C c gr : Nat) (p : Option Addr) (cap : Nat) (xs : List UInt8) (t : Nat) (low : Bool) (E g n a gu : Nat) (K : Nat → Prop) (top : List Nat) (P : List Bool) (b : Bool) (hC : Cd w B C c) (hO : Out B C gr) (hCg : C ≤ g) (hCu : C ≤ gu) (hg : gr < g) (hgu : gr < gu) (hne : gu ≠ g) (huE : gu < E) (hK : ∀ k, K k → k < g ∧ k ≠ gr) (hR : Rd w gr p cap xs t low) (hL : LinP w E g a P b n) (hU : Up w K gu top n a) (hv : Valid top n) (hn : n ≤ 32768) (h1 : 1 ≤ n) (han : a ≤ n) :
    Calls Tryz.prog 76 #[.pointer (some ⟨g, 0, none⟩), .pointer (some ⟨gr, 0, none⟩), .pointer (some ⟨c, 0, none⟩), .pointer (some ⟨gu, 0, none⟩)] w (StepP gr p cap xs low E g n gu K top w (stepA (bitsOf low xs) top n t a P b)) := by
  have HRM := Lib.hid (creadm_any w B C c gr p cap xs t low hC hO hR)
  have HC := Lib.hid hC
  have HO := Lib.hid hO
  have HGE : Hid (g < E) := Lib.hid (by obtain ⟨_, _, v, hl⟩ := hL; exact hl.1)
  have hPl := hL.1
  have HPL := Lib.hid hPl
  have HNE := Lib.hid (fun e h => modeZ_ne (L := bitsOf low xs) (t := t) (e := e) h)
  have HMI := Lib.hid (fun i h => modeZ_ok (L := bitsOf low xs) (t := t) (i := i) h)
  have hge := nextF_ge n top (!b) a han hv.2
  have hle := nextF_le n top (!b) a hv
  have HL := Lib.hid hL
  have HU := Lib.hid hU
  have HK := Lib.hid hK
  unfold stepA
  generalize hL0 : bitsOf low xs = L at *
  generalize modeZ L t = r at *
  obtain ⟨t1, x⟩ := r
  have hdef : nx n top b a = nextF n top (!b) a := rfl
  have HNX : Hid (∀ w9, Up w9 K gu top n a → Calls Tryz.prog 44 #[.pointer (some ⟨gu, 0, none⟩), .int .i64 ((a : Int) - 1), .bool (!b)] w9 (fun e w' => e = .returned (.tuple #[.int .i64 (((nextF n top (!b) a).1 : Nat) : Int), .int .i64 (((nextF n top (!b) a).2 : Nat) : Int)]) ∧ Only (· = gu) w9 w' ∧ Up w' K gu top n a)) := Lib.hid (fun w9 hu => (next_any w9 K gu n a top (!b) _ rfl hu).mono fun _ _ h => ⟨h.1, h.2.1, h.2.2.2⟩)
  rw [hdef]
  generalize nextF n top (!b) a = nn at *
  obtain ⟨n1, n2⟩ := nn
  simp only at HNX hge hle HNE HMI ⊢
  clear hC hO hR hL hU hdef hK
  go_enter Tryz.func76, Tryz.ntmps76
  go_wp2_with fail
  refine HRM.out.mono ?_
  rintro e w1 ⟨rfl, hr1, ho1, hz1⟩
  have HR1 := Lib.hid hr1
  have HO1 := Lib.hid ho1
  clear hr1 ho1
  rcases x with ce | i
  · have hce := HNE.out ce rfl
    simp only [valR, errR]
    go_wp2_with fail
    go_ret
    exact ⟨HR1.out, HO1.out.mono fun k _ e => .inl e, rfl, hce⟩
  · have hi9 := HMI.out i rfl
    simp only [valR, errR]
    have HL1 := Lib.hid (HL.out.only HO1.out (by omega) (fun k hk e => by have := HGE.out; omega))
    have HU1 := Lib.hid (HU.out.only HO1.out (by omega) (fun k hk e => (HK.out k hk).2 e))
    obtain ⟨v, hlin⟩ := HL1.out.2.2
    have HLV := Lib.hid hlin
    have k0 := hlin.c0
    have k1 := hlin.c1
    have kd0 : w1.drew.cell? ⟨g, 0, none⟩ = some (.int .i64 ((a : Int) - 1)) := k0
    have kd1 : w1.drew.cell? ⟨g, 1, none⟩ = some (.bool b) := k1
    have hOD : Only (fun _ => False) w1 w1.drew := Only.drawn _ ⟨1, rfl⟩
    have HND := Lib.hid (HNX.out w1.drew (HU1.out.only hOD (fun e => e) (fun _ _ e => e)))
    have HLVD := Lib.hid (hlin.only hOD (fun e => e) (fun _ _ e => e))
    clear hlin hPl
    generalize hz : (i : Int) - 3 = z
    have HZ := Lib.hid hz
    clear hz
    go_wp2_with fail
    refine wp_region_held_drew (S := (fun w' => w'.cell? ⟨g, 0, none⟩ = some (.int .i64 ((a : Int) - 1)) ∧ w'.cell? ⟨g, 1, none⟩ = some (.bool b))) (by kernel_rfl) ⟨kd0, kd1⟩ (fun hHeld => ?_)
    refine wpAnyH_take (i := 0) (v := ?v1) rfl (by kernel_rfl) (by kernel_rfl) (by kernel_rfl) (fun _ _ _ h => h) (Or.inl ⟨by rfl, fun w hSw => ?y1⟩) hHeld ?r1
    case y1 => (try dsimp only at hSw); first | (go_simp; done) | (go_simp; with_reducible rfl)
    try simp only [Act.put, List.setIfInBounds_toArray, List.set_cons_zero, List.set_cons_succ, List.getElem_toArray, List.getElem_cons_zero, List.getElem_cons_succ]
    refine wpAnyH_take (i := 1) (v := ?v2) rfl (by kernel_rfl) (by kernel_rfl) (by kernel_rfl) (fun _ _ _ h => h) (Or.inl ⟨by rfl, fun w hSw => ?y2⟩) hHeld ?r2
    case y2 => (try dsimp only at hSw); first | (go_simp; done) | (go_simp; with_reducible rfl)
    try simp only [Act.put, List.setIfInBounds_toArray, List.set_cons_zero, List.set_cons_succ, List.getElem_toArray, List.getElem_cons_zero, List.getElem_cons_succ]
    refine wpAnyH_take (i := 2) (v := ?v3) rfl (by kernel_rfl) (by kernel_rfl) (by kernel_rfl) (fun _ _ _ h => h) (Or.inl ⟨by rfl, fun w hSw => ?y3⟩) hHeld ?r3
    case y3 => (try dsimp only at hSw); first | (go_simp; done) | (go_simp; with_reducible rfl)
    try simp only [Act.put, List.setIfInBounds_toArray, List.set_cons_zero, List.set_cons_succ, List.getElem_toArray, List.getElem_cons_zero, List.getElem_cons_succ]
    refine wpAnyH_take (i := 3) (v := ?v4) rfl (by kernel_rfl) (by kernel_rfl) (by kernel_rfl) (fun _ _ _ h => h) (Or.inl ⟨by rfl, fun w hSw => ?y4⟩) hHeld ?r4
    case y4 => (try dsimp only at hSw); first | (go_simp; done) | (go_simp; with_reducible rfl)
    try simp only [Act.put, List.setIfInBounds_toArray, List.set_cons_zero, List.set_cons_succ, List.getElem_toArray, List.getElem_cons_zero, List.getElem_cons_succ]
    refine wpAnyH_take (i := 4) (v := ?v5) rfl (by kernel_rfl) (by kernel_rfl) (by kernel_rfl) (fun _ _ _ h => h) (Or.inl ⟨by rfl, fun w hSw => ?y5⟩) hHeld ?r5
    case y5 => (try dsimp only at hSw); first | (go_simp; done) | (go_simp; with_reducible rfl)
    try simp only [Act.put, List.setIfInBounds_toArray, List.set_cons_zero, List.set_cons_succ, List.getElem_toArray, List.getElem_cons_zero, List.getElem_cons_succ]
    refine wpAnyH_take (i := 5) (v := ?v6) rfl (by kernel_rfl) (by kernel_rfl) (by kernel_rfl) (fun _ _ _ h => h) (Or.inl ⟨by rfl, fun w hSw => ?y6⟩) hHeld ?r6
    case y6 => (try dsimp only at hSw); first | (go_simp; done) | (go_simp; with_reducible rfl)
    try simp only [Act.put, List.setIfInBounds_toArray, List.set_cons_zero, List.set_cons_succ, List.getElem_toArray, List.getElem_cons_zero, List.getElem_cons_succ]
    refine wpAnyH_take (i := 6) (v := ?v7) rfl (by kernel_rfl) (by kernel_rfl) (by kernel_rfl) (fun _ _ _ h => h) (Or.inl ⟨by rfl, fun w hSw => ?y7⟩) hHeld ?r7
    case y7 => (try dsimp only at hSw); first | (go_simp; done) | (go_simp; with_reducible rfl)
    try simp only [Act.put, List.setIfInBounds_toArray, List.set_cons_zero, List.set_cons_succ, List.getElem_toArray, List.getElem_cons_zero, List.getElem_cons_succ]
    refine wpAnyH_take (i := 7) (v := ?v8) rfl (by kernel_rfl) (by kernel_rfl) (by kernel_rfl) (fun _ _ _ h => h) (Or.inl ⟨by rfl, fun w hSw => ?y8⟩) hHeld ?r8
    case y8 => (try dsimp only at hSw); first | (go_simp; done) | (go_simp; with_reducible rfl)
    try simp only [Act.put, List.setIfInBounds_toArray, List.set_cons_zero, List.set_cons_succ, List.getElem_toArray, List.getElem_cons_zero, List.getElem_cons_succ]
    refine wpAnyH_take (i := 8) (v := ?v9) rfl (by kernel_rfl) (by kernel_rfl) (by kernel_rfl) (fun _ _ _ h => h) (Or.inl ⟨by rfl, fun w hSw => ?y9⟩) hHeld ?r9
    case y9 => (try dsimp only at hSw); first | (go_simp; done) | (go_simp; with_reducible rfl)
    try simp only [Act.put, List.setIfInBounds_toArray, List.set_cons_zero, List.set_cons_succ, List.getElem_toArray, List.getElem_cons_zero, List.getElem_cons_succ]
    refine wpAnyH_take (i := 9) (v := ?v10) rfl (by kernel_rfl) (by kernel_rfl) (by kernel_rfl) (fun _ _ _ h => h) (Or.inl ⟨by rfl, fun w hSw => ?y10⟩) hHeld ?r10
    case y10 => (try dsimp only at hSw); first | (go_simp; done) | (go_simp; with_reducible rfl)
    try simp only [Act.put, List.setIfInBounds_toArray, List.set_cons_zero, List.set_cons_succ, List.getElem_toArray, List.getElem_cons_zero, List.getElem_cons_succ]
    refine wpAnyH_ready (rs := [10]) (by kernel_rfl) (by simp) ?_
    refine AllReadyH.cons rfl (fun K hK => ?_) AllReadyH.nil
    go_simp
    refine HND.out.mono ?_
    rintro e w2 ⟨rfl, ho2, hu2⟩
    have HU2 := Lib.hid hu2
    have HL2 := Lib.hid (HLVD.out.only ho2 (by omega) (fun k hk e => by omega))
    have HO2 : Hid (Only (S3 gr g gu E) w w2) := Lib.hid ((HO1.out.mono fun k _ e => .inl e : Only (S3 gr g gu E) w w1).trans (((Only.drawn _ ⟨1, rfl⟩) : Only (S3 gr g gu E) w1 w1.drew).trans (ho2.mono fun k _ e => .inr (.inr (.inl e)))))
    have HR2 := Lib.hid (rd_only (rd_only HR1.out hOD (fun e => e) (fun _ _ _ e => e)) ho2 (by omega) (fun ad _ hb e => by omega))
    have HS2 : Hid (w2.cell? ⟨g, 0, none⟩ = some (.int .i64 ((a : Int) - 1)) ∧ w2.cell? ⟨g, 1, none⟩ = some (.bool b)) := Lib.hid ⟨HL2.out.c0, HL2.out.c1⟩
    clear hu2 ho2
    go_wp2_with fail
    refine hK.out _ _ HS2.out (fun hHeld2 => ?_)
    clear hK K
    try simp only [Act.put, List.setIfInBounds_toArray, List.set_cons_zero, List.set_cons_succ, List.getElem_toArray, List.getElem_cons_zero, List.getElem_cons_succ]
    refine wpAnyH_take (i := 11) (v := ?v11) rfl (by kernel_rfl) (by kernel_rfl) (by kernel_rfl) (fun _ _ _ h => h) (Or.inl ⟨by rfl, fun w hSw => ?y11⟩) hHeld2 ?r11
    case y11 => (try dsimp only at hSw); first | (go_simp; done) | (go_simp; with_reducible rfl)
    try simp only [Act.put, List.setIfInBounds_toArray, List.set_cons_zero, List.set_cons_succ, List.getElem_toArray, List.getElem_cons_zero, List.getElem_cons_succ]
    refine wpAnyH_take (i := 12) (v := ?v12) rfl (by kernel_rfl) (by kernel_rfl) (by kernel_rfl) (fun _ _ _ h => h) (Or.inl ⟨by rfl, fun w hSw => ?y12⟩) hHeld2 ?r12
    case y12 => (try dsimp only at hSw); first | (go_simp; done) | (go_simp; with_reducible rfl)
    try simp only [Act.put, List.setIfInBounds_toArray, List.set_cons_zero, List.set_cons_succ, List.getElem_toArray, List.getElem_cons_zero, List.getElem_cons_succ]
    refine wpAnyH_take (i := 13) (v := ?v13) rfl (by kernel_rfl) (by kernel_rfl) (by kernel_rfl) (fun _ _ _ h => h) (Or.inl ⟨by rfl, fun w hSw => ?y13⟩) hHeld2 ?r13
    case y13 => (try dsimp only at hSw); first | (go_simp; done) | (go_simp; with_reducible rfl)
    try simp only [Act.put, List.setIfInBounds_toArray, List.set_cons_zero, List.set_cons_succ, List.getElem_toArray, List.getElem_cons_zero, List.getElem_cons_succ]
    refine wpAnyH_take (i := 14) (v := ?v14) rfl (by kernel_rfl) (by kernel_rfl) (by kernel_rfl) (fun _ _ _ h => h) (Or.inl ⟨by rfl, fun w hSw => ?y14⟩) hHeld2 ?r14
    case y14 => (try dsimp only at hSw); first | (go_simp; done) | (go_simp; with_reducible rfl)
    try simp only [Act.put, List.setIfInBounds_toArray, List.set_cons_zero, List.set_cons_succ, List.getElem_toArray, List.getElem_cons_zero, List.getElem_cons_succ]
    refine wpAnyH_take (i := 15) (v := ?v15) rfl (by kernel_rfl) (by kernel_rfl) (by kernel_rfl) (fun _ _ _ h => h) (Or.inl ⟨by rfl, fun w hSw => ?y15⟩) hHeld2 ?r15
    case y15 => (try dsimp only at hSw); first | (go_simp; done) | (go_simp; with_reducible rfl)
    try simp only [Act.put, List.setIfInBounds_toArray, List.set_cons_zero, List.set_cons_succ, List.getElem_toArray, List.getElem_cons_zero, List.getElem_cons_succ]
    refine wpAnyH_done (by kernel_rfl) ?_ _
    clear hHeld hHeld2 kd0 kd1 k0 k1 HLVD HND HLV hOD
    have HP2 : Hid (LinP w2 E g a P b n) := Lib.hid ⟨HPL.out, HL1.out.2.1, v, HL2.out⟩
    have j0 := HL2.out.c0
    have jf := HL2.out.fz 0
    have HC2 := Lib.hid (HC.out.only HO2.out (S3.out HC.out HO.out hCg hCu HGE.out))
    by_cases h8 : i = 8
    · have hz5 : z = 5 := by have := HZ.out; omega
      have HSET := Lib.hid (HL2.out.setAt ((n2 : Nat) : Int))
      have HOS : Hid (Only (· = g) w2 (w2.setCell ⟨g, 0, none⟩ (.int .i64 ((n2 : Nat) : Int)))) := Lib.hid (Only.setCell (S := (· = g)) (p := ⟨g, 0, none⟩) (by rfl) _)
      have HCP := Lib.hid (chgs_pass P b n2 n (by have := HPL.out; omega) (by omega) (by have := HPL.out; omega))
      have HRL := Lib.hid (run_len P b n2 (by have := HPL.out; omega))
      subst hz5
      have H8 := Lib.hid h8
      clear h8
      go_wp2_with fail
      go_ret
      dsimp only
      try rw [if_pos H8.out]
      refine ⟨rd_only HR2.out HOS.out (by omega) (fun ad _ hb e => by omega), HO2.out.trans (HOS.out.mono fun k _ e => .inr (.inl e)), rfl, ⟨?_, ?_, v, ?_⟩, ?_⟩
      · simp only; rw [HRL.out]; omega
      · simp only; omega
      · have h5 := HSET.out
        rw [HCP.out] at h5
        have e5 : ((n2 + 1 : Nat) : Int) - 1 = (n2 : Int) := by omega
        simp only
        rw [e5]
        exact h5
      · exact (HU2.out.only HOS.out hne (fun k hk e => by have := HK.out k hk; omega)).mono (by simp only; omega)
    · have H8 := Lib.hid h8
      have d5 : (z == 5) = false := by have := HZ.out; simp; omega
      by_cases h7 : i = 7
      · have H7 := Lib.hid h7
        have hz4 : z = 4 := by have := HZ.out; omega
        have HTW := Lib.hid (readTwo_any w2 B C c gr p cap xs t1 low E g n a P b HC2.out HO.out hCg hg HR2.out HP2.out hn)
        rw [hL0] at HTW
        have HGA := Lib.hid (fun s hs => twoA_ge (L := L) (n := n) (t := t1) (P := P) (b := b) (s := s) hs)
        subst hz4
        clear h7 h8 d5 j0 jf
        go_wp2_with fail
        refine HTW.out.mono ?_
        intro e w3 hgo
        have hst := hgo.step (a := a) HO2.out HU2.out HK.out hne (by omega) huE HGE.out (fun s hs => by have := HGA.out s hs; have := HPL.out; omega)
        have HST := Lib.hid hst
        have hres := hst.2.2
        clear hst hgo
        rcases hx : (twoA L n t1 P b).2 with ce | s
        · rw [hx] at hres
          obtain ⟨rfl, hne⟩ := hres
          clear hx
          go_wp2_with fail
          go_ret
          dsimp only
          try rw [if_neg H8.out]
          try rw [if_pos H7.out]
          exact HST.out
        · rw [hx] at hres
          obtain ⟨rfl, hne⟩ := hres
          clear hx hne
          go_wp2_with fail
          go_ret
          dsimp only
          try rw [if_neg H8.out]
          try rw [if_pos H7.out]
          exact HST.out
      · have H7 := Lib.hid h7
        have d4 : (z == 4) = false := by have := HZ.out; simp; omega
        have hz0 : z = (i : Int) - 3 := HZ.out.symm
        have hi3 : -3 ≤ z ∧ z ≤ 3 := by omega
        have hsum : (n1 : Int) + z = (n1 : Int) + (i : Int) - 3 := by omega
        clear h7 h8 j0 jf
        by_cases hc : a + 3 ≤ n1 + i ∧ n1 + i ≤ n + 3
        · have HCC := Lib.hid hc
          obtain ⟨y, hy⟩ : ∃ y, y = n1 + i - 3 := ⟨_, rfl⟩
          have HMV := Lib.hid (move_ok w2 E g n a y P b HP2.out (by omega) (by omega) hn)
          have hxy : (n1 : Int) + z = (y : Int) := by omega
          have HY := Lib.hid hy
          have hay : a ≤ y := by omega
          clear hy hsum hz0 hc
          go_wp2_with fail
          refine HMV.out.mono ?_
          rintro e w3 ⟨rfl, ho3, hl3⟩
          have HO3 := Lib.hid ho3
          have HL3 := Lib.hid hl3
          have HUU := Lib.hid ((HU2.out.only ho3 (fun e => by have := HGE.out; rcases e with e | e <;> omega) (fun k hk e => by have := HK.out k hk; have := HGE.out; rcases e with e | e <;> omega)).mono (show a ≤ y + 1 by omega))
          have HRR := Lib.hid (rd_only HR2.out ho3 (fun e => by have := HGE.out; rcases e with e | e <;> omega) (fun ad _ hb e => by have := HGE.out; rcases e with e | e <;> omega))
          clear ho3 hl3
          go_wp2_with fail
          go_ret
          dsimp only
          try rw [if_neg H8.out]
          try rw [if_neg H7.out]
          try rw [if_pos HCC.out]
          try rw [← HY.out]
          exact ⟨HRR.out, HO2.out.trans (HO3.out.mono fun k _ e => by
            rcases e with e | e
            · exact .inr (.inl e)
            · exact .inr (.inr (.inr e))), rfl, HL3.out, HUU.out⟩
        · have HCC := Lib.hid hc
          have HMV := Lib.hid (move_bad w2 E g n a ((n1 : Int) + z) P b HP2.out (by omega))
          have hb1 : IntKind.i64.wrap ((n1 : Int) + z) = (n1 : Int) + z := by rw [IntKind.wrap_i64]; omega
          clear hsum hz0 hc
          go_wp2_with fail
          refine HMV.out.mono ?_
          rintro e w3 ⟨rfl, rfl⟩
          go_wp2_with fail
          go_ret
          dsimp only
          try rw [if_neg H8.out]
          try rw [if_neg H7.out]
          try rw [if_neg HCC.out]
          exact ⟨HR2.out, HO2.out, rfl, by decide⟩
end Go.Proofs.YtmbfgejephgojaaGreatDoor.Mh
/- Lengths in a row that is new; which rows are rows; the contracts of writeLengths, writeTwo, WriteRow. -/
namespace Go.Proofs.YtmbfgejephgojaaGreatDoor.Rn
open Go.RowKit Go.Proofs.YtmbfgejephgojaaGreatDoor.Oct Go.Proofs.YtmbfgejephgojaaGreatDoor.Bit
open Go.Proofs.YtmbfgejephgojaaGreatDoor.Lp (VRow ints ints_length ints_append ints_one vrow_own wpList_append_vals Tryz.infoInt)
set_option linter.unusedVariables false
set_option linter.unusedSimpArgs false
set_option maxRecDepth 100000

/-- a new row of numbers and an error, given back -/
def LstF (w : World) (zs : List Int) (er : Int) (e : Ending) (w' : World) : Prop :=
  Below w.heap.size w w' ∧ ∃ q c, e = .returned (.tuple #[.slice q zs.length c, .int .i64 er]) ∧ VRow w' w'.heap.size q (ints zs) ∧ (q = none → c = 0) ∧ zs.length ≤ c ∧ c ≤ maxLen ∧ ∀ a, q = some a → w.heap.size ≤ a.block
set_option maxHeartbeats 2000000 in
theorem lengths_new (p : Option Addr) (len cap : Nat) (zs : List Int) (c : List Nat) (n : Nat) (w : World) (h : VRow w w.heap.size p (ints zs)) (hx : zs.length = len) (hl : len ≤ 100000) (hn : n ≤ 32768) (hc : zs = zl c) (hv : Valid c n) :
    Calls Tryz.prog 40 #[.slice p len cap, .int .i64 (n : Int)] w (LstF w (lensI 0 zs n) 0) := by
  obtain ⟨i0, hi, hz0, hz1, hz2⟩ := info_parts Tryz.infoInt
  have hwd : wideB (n : Int) = true := by unfold wideB; simp; omega
  have hrt := right_any p len cap zs (n : Int) w _ h hx (by unfold maxLen; omega)
  rw [show rightB zs (n : Int) = true from by rw [hc]; exact valid_right hv] at hrt
  obtain ⟨L, hL⟩ : ∃ L, L = lensI 0 zs n := ⟨_, rfl⟩
  rw [← hL]
  have HST : Hid (([] : List Int) ++ lensI ((0 : Nat) : Int) (zs.drop 0) n = L) := Lib.hid hL.symm
  have HH := Lib.hid h
  have HX := Lib.hid hx
  have HC := Lib.hid (show ∀ i (h : i < zs.length), ∃ x : Nat, zs[i] = (x : Int) ∧ x ≤ 32768 from fun i h => by
    obtain ⟨h', e⟩ := zl_nat hc i h
    exact ⟨c[i], e, by have := hv.2 _ (List.getElem_mem h'); omega⟩)
  have HRT := Lib.hid hrt
  clear h hx hL hc hv hrt
  go_enter Tryz.func40, Tryz.ntmps40
  go_wp2_with fail
  refine (isWidth_any _ _).mono ?_
  rintro e w' ⟨rfl, rfl⟩
  rw [hwd]
  clear hwd
  go_wp2_with fail
  refine HRT.out.mono ?_
  rintro e w' ⟨rfl, rfl⟩
  go_wp2_with (at_make; refine wpList_make_own _ rfl _ _ 38 rfl w.heap.size 3 i0 (.int .i64 0) 1 Tryz.underlying38 hi hz0 hz1 .i64 .i64 ((len : Int) + 1) (len + 1) rfl rfl ?c1 ?c2 ?c3 ?c4 ?_)
  case c1 => omega
  case c2 => rw [hz2]; omega
  case c3 => unfold maxLen; omega
  case c4 => omega
  intro w1 hown hgrow
  have hb1 : Below w.heap.size w w1 := (Below.refl _ _).grown hgrow (Nat.le_refl _) (fun k hk => by cases hk)
  have HO : Hid (IOwn w1 w.heap.size (.slice (some ⟨w.heap.size, 0, none⟩) 0 (len + 1)) []) := Lib.hid hown
  have HB := Lib.hid hb1
  clear hown hgrow hb1
  go_wp2_with fail
  go_loopw [6, 7, 9, 25] (fun v y _ i wr => ∃ (k s : Nat) (M : List Int), k ≤ len ∧ i = .int .i64 (k : Int) ∧ y = .int .i64 (s : Int) ∧ s ≤ 32768 ∧ Hid (M.length = k) ∧ Hid (M ++ lensI (s : Int) (zs.drop k) n = L) ∧ Hid (IOwn wr w.heap.size v M) ∧ Hid (Below w.heap.size w wr)) (fun _ _ _ i _ => len - (intOf i).toNat)
  case atStart => exact ⟨0, 0, [], by omega, rfl, rfl, by omega, Lib.hid rfl, HST, HO, HB⟩
  case round =>
    clear HST HO HB
    obtain ⟨k, s, M, hk, rfl, rfl, hs, HM, HR, HO, HB⟩ := hrel
    by_cases hlt : k < len
    · have hkl : k < zs.length := by rw [HX.out]; exact hlt
      obtain ⟨b, off, hq, hbl⟩ := HH.out.addr (by rw [ints_length]; omega)
      subst hq
      have hc0 := HH.out.int k hkl
      have hc : wr.cell? ⟨b, off + k, none⟩ = some (.int .i64 zs[k]) := (HB.out.cell (p := ⟨b, off + k, none⟩) hbl).trans hc0
      obtain ⟨x, hxe, hx32⟩ := HC.out k hkl
      have hr := HR.out
      rw [List.drop_eq_getElem_cons hkl, lensI, hxe] at hr
      rw [hxe] at hc
      have hd : decide ((k : Int) < (len : Int)) = true := by simp; omega
      have i1 : (0 : Int) ≤ (k : Int) := by omega
      have i2 : (k : Int) < (len : Int) := by omega
      have hb1 : Below wr.heap.size wr (wr.alloc (.cells (ints [(x : Int) - (s : Int)]).toArray 3)) := (Below.refl _ wr).alloc (Nat.le_refl _) _
      have HS := Lib.hid (ints_new wr [(x : Int) - (s : Int)] 3 (0, 0))
      have HOW := Lib.hid (own_below HO.out hb1)
      have HB2 := Lib.hid (HB.out.trans (hb1.mono HB.out.size))
      have HZ := Lib.hid HB2.out.size
      have HR2 : Hid ((M ++ [(x : Int) - (s : Int)]) ++ lensI (x : Int) (zs.drop (k + 1)) n = L) := Lib.hid (by rw [List.append_assoc]; exact hr)
      have HM1 := Lib.hid (show (M ++ [(x : Int) - (s : Int)]).length = k + 1 from by rw [List.length_append, HM.out]; rfl)
      have HMA : Hid (ints M ++ ints [(x : Int) - (s : Int)] = ints (M ++ [(x : Int) - (s : Int)])) := Lib.hid (ints_append _ _).symm
      have hMl : M.length ≤ 100000 := by rw [HM.out]; omega
      clear HR hr hc0 hkl hxe HO HB hb1
      go_wp2_with (at_builtin; refine wpList_append_vals Tryz.underlying38 hi hz0 hz1 hz2 rfl (by decide) rfl _ _ rfl w.heap.size _ M.length (ints M) rfl HOW.out (some ⟨wr.heap.size, 0, none⟩) 1 1 (ints [(x : Int) - (s : Int)]) rfl HS.out rfl (fun h => by cases h) ints_one (by omega) HZ.out ?_)
      intro v2 w2 hown2 _ hb3
      rw [HMA.out, show M.length + 1 = (M ++ [(x : Int) - (s : Int)]).length from by rw [List.length_append]; rfl] at hown2
      have HO3 : Hid (IOwn w2 w.heap.size v2 (M ++ [(x : Int) - (s : Int)])) := Lib.hid hown2
      have HB3 := Lib.hid (HB2.out.trans hb3)
      clear hown2 hb3 HOW HS HZ HB2 HMA
      go_wp2_with fail
      go_roundw
      case rel => exact ⟨k + 1, x, M ++ [(x : Int) - (s : Int)], by omega, by go_num, rfl, hx32, HM1, HR2, HO3, HB3⟩
      case measure => simp [intOf]; omega
    · have hke : k = len := by omega
      have hr := HR.out
      rw [List.drop_of_length_le (by rw [HX.out]; omega), lensI] at hr
      have hd : decide ((k : Int) < (len : Int)) = false := by simp; omega
      have hb1 : Below wr.heap.size wr (wr.alloc (.cells (ints [(n : Int) - (s : Int)]).toArray 3)) := (Below.refl _ wr).alloc (Nat.le_refl _) _
      have HS := Lib.hid (ints_new wr [(n : Int) - (s : Int)] 3 (0, 0))
      have HOW := Lib.hid (own_below HO.out hb1)
      have HB2 := Lib.hid (HB.out.trans (hb1.mono HB.out.size))
      have HZ := Lib.hid HB2.out.size
      have HMA : Hid (ints M ++ ints [(n : Int) - (s : Int)] = ints L ∧ M.length + 1 = L.length) := Lib.hid (by rw [← hr, ints_append]; exact ⟨rfl, by simp⟩)
      have hMl : M.length ≤ 100000 := by rw [HM.out]; omega
      clear HR hr HO HB hb1
      go_wp2_with (at_builtin; refine wpList_append_vals Tryz.underlying38 hi hz0 hz1 hz2 rfl (by decide) rfl _ _ rfl w.heap.size _ M.length (ints M) rfl HOW.out (some ⟨wr.heap.size, 0, none⟩) 1 1 (ints [(n : Int) - (s : Int)]) rfl HS.out rfl (fun h => by cases h) ints_one (by omega) HZ.out ?_)
      intro v2 w2 hown2 _ hb3
      rw [HMA.out.1, HMA.out.2] at hown2
      obtain ⟨q, c2, rfl, hq0, hqc, hcm, hv, hqn⟩ := vrow_own hown2 (by rw [ints_length])
      have HRES : Hid (Below w.heap.size w w2 ∧ VRow w2 w2.heap.size q (ints L) ∧ (q = none → c2 = 0) ∧ L.length ≤ c2 ∧ c2 ≤ maxLen ∧ ∀ a, q = some a → w.heap.size ≤ a.block) := Lib.hid ⟨HB2.out.trans hb3, hv, hq0, hqc, hcm, hqn⟩
      clear hown2 hb3 HOW HS HZ HB2 HMA hq0 hqc hcm hv hqn
      go_wp2_with fail
      go_ret2
      exact ⟨HRES.out.1, q, c2, rfl, HRES.out.2⟩
end Go.Proofs.YtmbfgejephgojaaGreatDoor.Rn
namespace Go.Proofs.YtmbfgejephgojaaGreatDoor.Mh
open Go.RowKit Go.Proofs.YtmbfgejephgojaaGreatDoor.Oct Go.Proofs.YtmbfgejephgojaaGreatDoor.Bit
open Go.Proofs.YtmbfgejephgojaaGreatDoor.Fx (tellF tellF modesF Cd Out OutW WrP cwrite_any cmode_any)
open Go.Proofs.YtmbfgejephgojaaGreatDoor.Rn (changes togX cur nextX nextF nextI zl zl_length zl_append zl_get nextI_zl IOwn Valid rightB lensI lensL lensI_zl lengths_new LstF right_any)
open Go.Proofs.YtmbfgejephgojaaGreatDoor.Lp (VRow ints ints_length ints_append ints_one vrow_own)
set_option linter.unusedVariables false
set_option linter.unusedSimpArgs false
set_option maxRecDepth 100000

/-- may a row be so wide? -/
def wideM (n : Int) : Bool := decide (1 ≤ n ∧ n ≤ 32768)
theorem mwidth_any (n : Int) (w : World) : Calls Tryz.prog 14 #[.int .i64 n] w fun e w' => e = .returned (.bool (wideM n)) ∧ w = w' := by
  by_cases h0 : 1 ≤ n
  · by_cases h1 : n ≤ 32768
    · have e : wideM n = true := by simp [wideM, h0, h1]
      rw [e]; clear e
      go_enter Tryz.func14, Tryz.ntmps14
      go_wp2
      go_ret
      exact ⟨rfl, rfl⟩
    · have e : wideM n = false := by simp [wideM, h1]
      rw [e]; clear e
      have hd : decide (n ≤ 32768) = false := by simpa using h1
      go_enter Tryz.func14, Tryz.ntmps14
      go_wp2
      go_ret
      exact ⟨rfl, rfl⟩
  · have e : wideM n = false := by simp [wideM, h0]
    rw [e]; clear e
    have hd : decide (1 ≤ n) = false := by simpa using h0
    go_enter Tryz.func14, Tryz.ntmps14
    go_wp2
    go_ret
    exact ⟨rfl, rfl⟩
/-- may a row of this width change so? -/
def rowB (zs : List Int) (z : Int) : Bool := wideM z && rightB zs z
theorem mrow_any (p : Option Addr) (len cap : Nat) (zs : List Int) (z : Int) (w : World) (C : Nat) (h : VRow w C p (ints zs)) (hx : zs.length = len) (hl : len ≤ maxLen) :
    Calls Tryz.prog 39 #[.slice p len cap, .int .i64 z] w fun e w' => e = .returned (.bool (rowB zs z)) ∧ w = w' := by
  have HR := Lib.hid (right_any p len cap zs z w C h hx hl)
  have HW := Lib.hid (mwidth_any z w)
  clear h hx
  by_cases hw : wideM z = true
  · have e : rowB zs z = rightB zs z := by unfold rowB; rw [hw]; rfl
    rw [e]
    rw [hw] at HW
    clear e hw
    go_enter Tryz.func39, Tryz.ntmps39
    go_wp2_with fail
    refine HW.out.mono ?_
    rintro e w' ⟨rfl, rfl⟩
    go_wp2_with fail
    refine HR.out.mono ?_
    rintro e w' ⟨rfl, rfl⟩
    go_wp2_with fail
    go_ret
    exact ⟨rfl, rfl⟩
  · have hw' : wideM z = false := by simpa using hw
    have e : rowB zs z = false := by unfold rowB; rw [hw']; rfl
    rw [e]
    rw [hw'] at HW
    clear e hw hw'
    go_enter Tryz.func39, Tryz.ntmps39
    go_wp2_with fail
    refine HW.out.mono ?_
    rintro e w' ⟨rfl, rfl⟩
    go_wp2_with fail
    go_ret
    exact ⟨rfl, rfl⟩
theorem rowB_valid {zs : List Int} {z : Int} (h : rowB zs z = true) : ∃ (c : List Nat) (n : Nat), zs = zl c ∧ z = (n : Int) ∧ 1 ≤ n ∧ n ≤ 32768 ∧ Valid c n := by
  unfold rowB at h
  rw [Bool.and_eq_true] at h
  have hz := of_decide_eq_true h.1
  obtain ⟨c, h1, h2⟩ := Rn.right_valid h.2
  exact ⟨c, z.toNat, h1, by omega, by omega, by omega, h2⟩
theorem valid_rowB {c : List Nat} {n : Nat} (h : Valid c n) (h1 : 1 ≤ n) (h2 : n ≤ 32768) : rowB (zl c) (n : Int) = true := by
  unfold rowB wideM
  rw [Rn.valid_right h, Bool.and_true]
  simp
  omega
theorem OutW.on {B C gw : Nat} {v v' : Value} {w : World} {c : Nat} (h : OutW B C gw v) (hC : Cd w B C c) (hv : ∀ k, v'.ownBlock = some k → v.ownBlock = some k ∨ w.heap.size ≤ k) : OutW B C gw v' := by
  intro k hk
  rcases hk with e | e
  · exact h k (.inl e)
  · rcases hv k e with e2 | e2
    · exact h k (.inr e2)
    · exact .inr (by have := hC.1; omega)
set_option maxHeartbeats 2000000 in
theorem writeLengths_any (w : World) (B C c gw : Nat) (v : Value) (l : List Bool) (low : Bool) (q : Option Addr) (m cap : Nat) (ns : List Nat) (b : Bool) (hC : Cd w B C c) (hW : Ws w gw v l low) (hO : OutW B C gw v) (hr : VRow w w.heap.size q (ints (zl ns))) (hm : ns.length = m) (hq : ∀ a, q = some a → ¬ Mine gw v a.block) (hns : ∀ x ∈ ns, x ≤ 32768) (hl : l.length + 200 * m ≤ 1800000) :
    Calls Tryz.prog 41 #[.pointer (some ⟨gw, 0, none⟩), .pointer (some ⟨c, 0, none⟩), .slice q m cap, .bool b] w (WrP w gw v l (tellR b ns) low) := by
  have HC := Lib.hid hC
  have HO := Lib.hid hO
  have HM := Lib.hid hm
  have HNS := Lib.hid hns
  have HR := Lib.hid (fun (wr : World) (ho : Only (Mine gw v) w wr) => vrow_far hr ho (Nat.le_refl _) (fun a ha _ => hq a ha))
  have HWS : Hid (WsT w gw v (l ++ []) low w) := Lib.hid (by rw [List.append_nil]; exact WrT.refl hW)
  clear hC hW hO hr hq hns
  go_enter Tryz.func41, Tryz.ntmps41
  go_wp2_with fail
  go_loopw [3, 10, 11, 14] (fun s3 s10 s11 s14 wr => ∃ (k : Nat) (d : List Bool) (bb : Bool), k ≤ m ∧ s14 = .int .i64 (k : Int) ∧ s3 = .bool bb ∧ d.length ≤ 200 * k ∧ Hid (d ++ tellR bb (ns.drop k) = tellR b ns) ∧ Hid (WsT w gw v (l ++ d) low wr)) (fun _ _ _ s14 _ => m - (intOf s14).toNat)
  case atStart => exact ⟨0, [], b, by omega, rfl, rfl, by simp, Lib.hid rfl, HWS⟩
  case round =>
    obtain ⟨k, d, bb, hk, rfl, rfl, hdl, HT, HWT⟩ := hrel
    by_cases hlt : k < m
    · have hkl : k < ns.length := by rw [HM.out]; exact hlt
      obtain ⟨v', hws, hon, hov⟩ := HWT.out
      have hvr := HR.out wr hon
      obtain ⟨rb, off, hq, _⟩ := hvr.addr (by rw [ints_length, zl_length]; omega)
      subst hq
      have hcell := hvr.int k (by rw [zl_length]; exact hkl)
      rw [zl_get ns _ _ hkl] at hcell
      have ht := HT.out
      rw [List.drop_eq_getElem_cons hkl, tellR, ← List.append_assoc] at ht
      have hx := HNS.out ns[k] (List.getElem_mem hkl)
      generalize ns[k] = x at hcell ht hx
      have htl := Fx.tell_len bb hx
      have hll : (l ++ d).length ≤ 1800000 := by rw [List.length_append]; omega
      have HCW := Lib.hid (cwrite_any wr B C c gw v' (l ++ d) low x bb (HC.out.only hon HO.out) hws (OutW.on HO.out HC.out hov) hx hll)
      have HT2 := Lib.hid ht
      have HON := Lib.hid hon
      have HOV := Lib.hid hov
      have hdl2 : (d ++ tellF bb x).length ≤ 200 * (k + 1) := by rw [List.length_append]; omega
      have hd : decide ((k : Int) < (m : Int)) = true := by simp; omega
      have i1 : (0 : Int) ≤ (k : Int) := by omega
      have i2 : (k : Int) < (m : Int) := by omega
      clear hvr ht htl hws hon hov hkl HT HWT HWS hm
      go_wp2_with fail
      refine HCW.out.mono ?_
      rintro e w2 ⟨rfl, hws⟩
      have HW2 : Hid (WsT w gw v (l ++ (d ++ tellF bb x)) low w2) := Lib.hid (by
        have h2 := WrT.more HON.out HOV.out hws
        rw [List.append_assoc] at h2
        exact h2)
      clear hws HCW
      go_wp2_with fail
      go_roundw
      case rel => exact ⟨k + 1, d ++ tellF bb x, !bb, by omega, by go_num, rfl, hdl2, HT2, HW2⟩
      case measure => simp [intOf]; omega
    · have hkm : k = m := by omega
      subst hkm
      have hd : decide ((k : Int) < (k : Int)) = false := by simp
      have HF : Hid (WsT w gw v (l ++ tellR b ns) low wr) := Lib.hid (by
        have h1 := HT.out
        rw [List.drop_of_length_le (by rw [HM.out]; exact Nat.le_refl _), tellR, List.append_nil] at h1
        rw [← h1]
        exact HWT.out)
      clear hm
      go_wp2_with fail
      go_ret
      exact ⟨rfl, HF.out⟩
/-- a writer behind words, then behind more -/
theorem WrP.then {w w1 w2 : World} {gw : Nat} {v : Value} {l m n : List Bool} {low : Bool} (h1 : WsT w gw v (l ++ m) low w1) (h2 : ∀ v1, Ws w1 gw v1 (l ++ m) low → WsT w1 gw v1 (l ++ m ++ n) low w2) : WsT w gw v (l ++ (m ++ n)) low w2 := by
  obtain ⟨v1, hw, ho, hv⟩ := h1
  rw [← List.append_assoc]
  exact WrT.more ho hv (h2 v1 hw)
set_option maxHeartbeats 2000000 in
theorem writeTwo_any (w : World) (B C c gw : Nat) (v : Value) (l : List Bool) (low : Bool) (q : Option Addr) (cap : Nat) (x y : Nat) (b : Bool) (hC : Cd w B C c) (hW : Ws w gw v l low) (hO : OutW B C gw v) (hr : VRow w w.heap.size q (ints (zl [x, y]))) (hq : ∀ a, q = some a → ¬ Mine gw v a.block) (hx : x ≤ 32768) (hy : y ≤ 32768) (hl : l.length ≤ 1700000) :
    Calls Tryz.prog 46 #[.pointer (some ⟨gw, 0, none⟩), .pointer (some ⟨c, 0, none⟩), .slice q 2 cap, .bool b] w (WrP w gw v l (modesF.getD 7 [] ++ (tellF b x ++ tellF (!b) y)) low) := by
  have HMD : Hid (Calls Tryz.prog 45 #[.pointer (some ⟨c, 0, none⟩), .pointer (some ⟨gw, 0, none⟩), .int .i64 4] w (WrP w gw v l (modesF.getD 7 []) low)) := Lib.hid (cmode_any w B C c gw v l low 7 hC hW (by decide) (by omega))
  have HC := Lib.hid hC
  have HO := Lib.hid hO
  have HR := Lib.hid hr
  have HQ := Lib.hid hq
  have h7 := (Fx.mode_len (i := 7) (by decide)).2
  have HQS : Hid (∀ a, q = some a → a.block < w.heap.size) := Lib.hid (fun a ha => by
    obtain ⟨rb, off, e, hb, _⟩ := hr (by simp [ints, zl])
    rw [ha] at e
    injection e with e
    rw [e]
    exact hb)
  clear hC hW hO hr hq
  go_enter Tryz.func46, Tryz.ntmps46
  go_wp2_with fail
  refine HMD.out.mono ?_
  rintro e w1 ⟨rfl, v1, hws, hon, hov⟩
  have HWL := Lib.hid (writeLengths_any w1 B C c gw v1 (l ++ modesF.getD 7 []) low q 2 cap [x, y] b (HC.out.only hon HO.out) hws (OutW.on HO.out HC.out hov) ((vrow_far HR.out hon (Nat.le_refl _) (fun a ha _ => HQ.out a ha)).mono hon.2.2.2.1) rfl (fun a ha hm => by
    rcases hm with e | e
    · exact HQ.out a ha (.inl e)
    · rcases hov _ e with e2 | e2
      · exact HQ.out a ha (.inr e2)
      · have := HQS.out a ha; omega) (by simp; exact ⟨hx, hy⟩) (by rw [List.length_append]; omega))
  have HON := Lib.hid hon
  have HOV := Lib.hid hov
  clear hws hon hov
  go_wp2_with fail
  refine HWL.out.mono ?_
  rintro e w2 ⟨rfl, hws⟩
  have HF : Hid (WsT w gw v (l ++ (modesF.getD 7 [] ++ (tellF b x ++ tellF (!b) y))) low w2) := Lib.hid (by
    have h2 := WrT.more HON.out HOV.out hws
    rw [tellR, tellR, tellR, List.append_nil, List.append_assoc] at h2
    exact h2)
  clear hws
  go_wp2_with fail
  go_ret
  exact ⟨rfl, HF.out⟩
theorem lens_le {c : List Nat} {n : Nat} (hv : Valid c n) : (∀ x ∈ lensL 0 c n, x ≤ n) ∧ (lensL 0 c n).length = c.length + 1 := by
  have hr := Rn.rise_of 0 hv (fun x _ => Nat.zero_le _) (Nat.zero_le _)
  have hs := Rn.lens_sum hr
  refine ⟨fun x hx => ?_, Rn.lensL_length c 0 n⟩
  have : x ≤ (lensL 0 c n).sum := by
    clear hs hr
    generalize lensL 0 c n = L at hx
    induction L with
    | nil => cases hx
    | cons y L ih =>
      rw [List.sum_cons]
      rcases List.mem_cons.1 hx with e | e
      · omega
      · have := ih e; omega
  omega
/-- a row by its lengths, as it changes -/
def rowC (c : List Nat) (n : Nat) : List Bool := tellR false (lensL 0 c n)
set_option maxHeartbeats 2000000 in
theorem writeRow_any (w : World) (B C c gw : Nat) (v : Value) (l : List Bool) (low : Bool) (p : Option Addr) (len cap : Nat) (row : List Nat) (n : Nat) (hC : Cd w B C c) (hW : Ws w gw v l low) (hO : OutW B C gw v) (hr : VRow w w.heap.size p (ints (zl row))) (hx : row.length = len) (hv : Valid row n) (h1 : 1 ≤ n) (hn : n ≤ 32768) (hl : l.length + 200 * (len + 1) ≤ 1800000) :
    Calls Tryz.prog 18 #[.pointer (some ⟨gw, 0, none⟩), .pointer (some ⟨c, 0, none⟩), .slice p len cap, .int .i64 (n : Int)] w (WrP w gw v l (rowC row n) low) := by
  have hok := mrow_any p len cap (zl row) n w _ hr (by rw [zl_length]; exact hx) (by unfold maxLen; omega)
  rw [valid_rowB hv h1 hn] at hok
  have HOK := Lib.hid hok
  have hln := lengths_new p len cap (zl row) row n w hr (by rw [zl_length]; exact hx) (by omega) hn rfl hv
  have hrise := Rn.rise_of 0 hv (fun x _ => Nat.zero_le _) (Nat.zero_le _)
  have e0 : lensI 0 (zl row) (n : Int) = zl (lensL 0 row n) := lensI_zl row 0 n hrise
  rw [e0] at hln
  obtain ⟨hle, hll⟩ := lens_le hv
  have HLN := Lib.hid hln
  have HLE := Lib.hid hle
  have HLL := Lib.hid (hll.trans (by rw [hx]))
  have HC := Lib.hid hC
  have HW := Lib.hid hW
  have HO := Lib.hid hO
  have hgl := Wr.lt hW
  have HMI : Hid (∀ k, Mine gw v k → k < w.heap.size) := Lib.hid (fun k hk => by
    rcases hk with e | e
    · rw [e]; exact hgl
    · exact (hW.2.1.lt k e).2)
  clear hok hln hrise e0 hle hll hC hW hO hr hgl
  unfold rowC
  generalize lensL 0 row n = ns at *
  go_enter Tryz.func18, Tryz.ntmps18
  go_wp2_with fail
  refine HOK.out.mono ?_
  rintro e w' ⟨rfl, rfl⟩
  go_wp2_with fail
  refine HLN.out.mono ?_
  rintro e w1 ⟨hb1, q, cq, rfl, hvr, hq0, hqc, hqm, hqn⟩
  rw [zl_length] at *
  have hof : Only (fun _ => False) w w1 := Only.of_below hb1
  have HWL := Lib.hid (writeLengths_any w1 B C c gw v l low q (len + 1) cq ns false (HC.out.below hb1 HC.out.1) (Wr.only HW.out hof (fun e => e) (fun _ _ e => e)) HO.out hvr HLL.out (fun a ha hm => by have h3 := hqn a ha; have h4 := HMI.out _ hm; omega) (fun x hx => Nat.le_trans (HLE.out x hx) hn) hl)
  rw [HLL.out]
  have HB1 := Lib.hid hb1
  clear hb1 hof hvr hq0 hqc hqm hqn
  go_wp2_with fail
  refine HWL.out.mono ?_
  rintro e w2 ⟨rfl, hws⟩
  have HF : Hid (WsT w gw v (l ++ tellR false ns) low w2) := Lib.hid (WrT.more (Only.of_below HB1.out) (fun k hk => .inl hk) hws)
  clear hws
  go_wp2_with fail
  go_ret
  exact ⟨rfl, HF.out⟩
end Go.Proofs.YtmbfgejephgojaaGreatDoor.Mh
/- The contracts of ReadRow and ReadAgainst. -/
namespace Go.Proofs.YtmbfgejephgojaaGreatDoor.Mh
open Go.RowKit Go.Proofs.YtmbfgejephgojaaGreatDoor.Oct Go.Proofs.YtmbfgejephgojaaGreatDoor.Bit
open Go.Proofs.YtmbfgejephgojaaGreatDoor.Fx (lookP lookP_le lenA lenA_eq modeZ Cd Out rd_only)
open Go.Proofs.YtmbfgejephgojaaGreatDoor.Rn (changes togX cur cur_run cur_flip nextX nextF nextI zl zl_length zl_append zl_get nextI_zl IOwn Valid)
open Go.Proofs.YtmbfgejephgojaaGreatDoor.Lp (VRow ints ints_length ints_append ints_one vrow_own)
open Go.Proofs.YtmbfgejephgojaaGreatDoor.Hf (rdAt rdAt_of)
set_option linter.unusedVariables false
set_option linter.unusedSimpArgs false
set_option maxRecDepth 100000

def rowL : Except Nat (List Bool) → List Nat
  | .ok X => changes X
  | .error _ => []
def rowE : Except Nat (List Bool) → Int
  | .ok _ => 0
  | .error e => (e : Int)
/-- a row is read -/
def RowP (gr : Nat) (p : Option Addr) (cap : Nat) (xs : List UInt8) (low : Bool) (w : World) (r : Nat × Except Nat (List Bool)) (e : Ending) (w' : World) : Prop :=
  Rd w' gr p cap xs r.1 low ∧ Only (· = gr) w w' ∧ ∃ q c, e = .returned (.tuple #[.slice q (rowL r.2).length c, .int .i64 (rowE r.2)]) ∧ VRow w' w'.heap.size q (ints (zl (rowL r.2))) ∧ (q = none → c = 0) ∧ (rowL r.2).length ≤ c ∧ c ≤ maxLen ∧ ∀ a, q = some a → w.heap.size ≤ a.block
theorem RowP.err {gr : Nat} {p : Option Addr} {cap : Nat} {xs : List UInt8} {low : Bool} {w w' : World} {t e : Nat} (hr : Rd w' gr p cap xs t low) (ho : Only (· = gr) w w') : RowP gr p cap xs low w (t, .error e) (.returned (.tuple #[.slice none 0 0, .int .i64 (e : Int)])) w' :=
  ⟨hr, ho, none, 0, rfl, fun h => absurd h (by simp [rowL, zl, ints]), fun _ => rfl, Nat.le_refl _, by simp [maxLen], fun a h => by cases h⟩
theorem RowP.good {gr : Nat} {p : Option Addr} {cap : Nat} {xs : List UInt8} {low : Bool} {w w' : World} {t E g n : Nat} {v : Value} {z : Int} {b : Bool} {P : List Bool} {q : Option Addr} {c : Nat} (hr : Rd w' gr p cap xs t low) (ho : Only (· = gr) w w') (hl : Lin w' E g v z b (chgs P b n) n) (hP : P.length = n) (hE : w.heap.size ≤ E) (hv : v = .slice q (changes P).length c) : RowP gr p cap xs low w (t, .ok P) (.returned (.tuple #[.slice q (changes P).length c, .int .i64 0])) w' := by
  subst hP
  rw [chgs_end] at hl
  obtain ⟨q', c', h1, h2, h3, h4, h5, h6⟩ := hl.form
  rw [h1] at hv
  injection hv with e1 e2 e3
  subst e1
  subst e3
  exact ⟨hr, ho, q', c', rfl, h5, h2, h3, h4, fun a ha => Nat.le_trans hE (h6 a ha)⟩
/-- a row that isn't begun yet -/
theorem lin_at {w : World} {E g n : Nat} (hb : w.heap[g]? = some (.cells #[.int .i64 (-1), .bool false, .slice none 0 0, .int .i64 (n : Int)] 95 (0, 0))) (hg : g < E) (hE : E ≤ w.heap.size) (h1 : 1 ≤ n) : LinP w E g 0 [] false n := by
  refine ⟨rfl, by omega, .slice none 0 0, hg, hE, hb, ?_⟩
  have : chgs [] false n = [] := by
    unfold chgs
    rw [if_pos (by simp; omega), Rn.cur_nil]
  rw [this]
  exact World.ownsRow_nil _ _ _ _
theorem lin_new (w : World) (n : Nat) (h1 : 1 ≤ n) : LinP (w.alloc (.cells #[.int .i64 (-1), .bool false, .slice none 0 0, .int .i64 (n : Int)] 95)) (w.heap.size + 1) w.heap.size 0 [] false n :=
  lin_at (by
    show (w.heap.push _)[w.heap.size]? = _
    simp) (by omega) (by simp) h1
theorem only_in {S : Nat → Prop} {gr : Nat} {w w1 w' : World} (hb : Below w.heap.size w w1) (ho : Only S w1 w') (hS : ∀ k, S k → k = gr ∨ w.heap.size ≤ k) : Only (· = gr) w w' := by
  have h0 : Only (fun k => k = gr ∨ w.heap.size ≤ k) w w' := (Only.of_below hb : Only (fun k => k = gr ∨ w.heap.size ≤ k) w w1).trans (ho.mono fun k _ h => hS k h)
  exact h0.mono fun k hk h => by
    rcases h with e | e
    · exact e
    · omega
set_option maxHeartbeats 4000000 in
theorem readRow_any (w : World) (B C c gr : Nat) (p : Option Addr) (cap : Nat) (xs : List UInt8) (t : Nat) (low : Bool) (n : Nat) (hC : Cd w B C c) (hO : Out B C gr) (hR : Rd w gr p cap xs t low) (h1 : 1 ≤ n) (hn : n ≤ 32768) :
    Calls Tryz.prog 28 #[.pointer (some ⟨gr, 0, none⟩), .pointer (some ⟨c, 0, none⟩), .int .i64 (n : Int)] w (RowP gr p cap xs low w (readRowA (bitsOf low xs) n t [] false)) := by
  have HWD := Lib.hid (mwidth_any (n : Int) w)
  have hwd : wideM (n : Int) = true := by unfold wideM; simp; omega
  rw [hwd] at HWD
  have hal : t ≤ (bitsOf low xs).length := by rw [bitsOf_length]; exact hR.2.2.1
  have hgr := hR.lt
  obtain ⟨L, hL0⟩ : ∃ L, L = bitsOf low xs := ⟨_, rfl⟩
  have HL0 := Lib.hid hL0
  rw [← hL0] at hal ⊢
  obtain ⟨r, hr⟩ : ∃ r, r = readRowA L n t [] false := ⟨_, rfl⟩
  rw [← hr]
  have HRES := Lib.hid hr.symm
  have hb1 : Below w.heap.size w (w.alloc (.cells #[.int .i64 (-1), .bool false, .slice none 0 0, .int .i64 (n : Int)] 95)) := (Below.refl _ w).alloc (Nat.le_refl _) _
  have HLN := Lib.hid (lin_new w n h1)
  have HC1 := Lib.hid (hC.below hb1 hC.1)
  have HR1 := Lib.hid (hR.below hb1 hgr)
  have HCZ := Lib.hid hC.1
  have HB1 := Lib.hid hb1
  have HO := Lib.hid hO
  clear hC hO hR hL0 hr hwd hb1
  go_enter Tryz.func28, Tryz.ntmps28
  go_wp2_with fail
  refine HWD.out.mono ?_
  rintro e w' ⟨rfl, rfl⟩
  go_wp2_with fail
  generalize hg : w.heap.size = g at *
  generalize hw1 : w.alloc (.cells #[.int .i64 (-1), .bool false, .slice none 0 0, .int .i64 (n : Int)] 95) = w1 at *
  have HG := Lib.hid hg
  clear hw1 hg
  go_loopw [9] (fun _ wr => ∃ (t1 a : Nat) (P : List Bool) (b : Bool), t1 ≤ L.length ∧ Hid (Rd wr gr p cap xs t1 low) ∧ Hid (Only (LS gr g (g + 1)) w1 wr) ∧ Hid (LinP wr (g + 1) g a P b n) ∧ ((a ≤ n ∧ P.length < n ∧ Hid (readRowA L n t1 P b = r)) ∨ (n < a ∧ P.length = n ∧ Hid (r = (t1, .ok P))))) (fun _ wr => L.length - rdAt gr wr)
  case atStart => exact ⟨t, 0, [], false, hal, HR1, Lib.hid (Only.refl _ _), HLN, .inl ⟨by omega, h1, HRES⟩⟩
  case round =>
    obtain ⟨t1, a, P, b, ht1, HRr, HOr, HLr, hway⟩ := hrel
    obtain ⟨hPl, han, v, hlin⟩ := HLr.out
    have k0 := hlin.c0
    have k2 := hlin.c2
    have HLV := Lib.hid hlin
    have HRT := Lib.hid (rdAt_of HRr.out)
    have hgE : g < g + 1 := by omega
    rcases hway with ⟨ha, hP, HE⟩ | ⟨ha, hP, HE⟩
    · have hd : decide ((a : Int) - 1 < (n : Int)) = true := by simp; omega
      have HRL := Lib.hid (readLength_any wr B C c gr p cap xs t1 low (g + 1) g n a P b (HC1.out.only HOr.out (LS.out HC1.out HO.out HCZ.out hgE)) HO.out HCZ.out hgr HRr.out HLr.out hn)
      have HQ := Lib.hid (readRowA_eq L n t1 P b ht1)
      have HLE := Lib.hid (lenA_lt b (L := L) (most := n - P.length) (n := 0) ht1)
      rw [← HL0.out] at HRL
      unfold oneA at HRL
      generalize lenA b L (n - P.length) t1 0 = lr at *
      obtain ⟨t2, x⟩ := lr
      clear hlin hPl HLV k2
      go_wp2_with fail
      refine HRL.out.mono ?_
      rintro e w2 ⟨hr2, ho2, hres⟩
      have HO2 := Lib.hid (HOr.out.trans ho2)
      have HR2 := Lib.hid hr2
      clear hr2 ho2
      have hq := HQ.out
      rw [HE.out] at hq
      rcases x with ce | m
      · obtain ⟨rfl, hne⟩ := hres
        have HQ2 := Lib.hid hq
        clear hq
        go_wp2_with fail
        go_ret2
        rw [HQ2.out]
        exact RowP.err HR2.out (only_in (by rw [HG.out]; exact HB1.out) HO2.out (fun k hk => by rw [HG.out]; rcases hk with e | e | e <;> omega))
      · obtain ⟨rfl, hl2⟩ := hres
        have HL2 := Lib.hid hl2
        have hlt := HLE.out.2.2 m rfl
        have htl := HLE.out.1
        simp only at hlt htl hq
        have HWAY : Hid ((P.length + m + 1 ≤ n ∧ (P ++ List.replicate m b).length < n ∧ Hid (readRowA L n t2 (P ++ List.replicate m b) (!b) = r)) ∨ (n < P.length + m + 1 ∧ (P ++ List.replicate m b).length = n ∧ Hid (r = (t2, .ok (P ++ List.replicate m b))))) := Lib.hid (by
          rw [List.length_append, List.length_replicate]
          by_cases hc : P.length + m = n
          · rw [if_pos hc] at hq
            exact .inr ⟨by omega, hc, Lib.hid hq⟩
          · rw [if_neg hc] at hq
            exact .inl ⟨by omega, by omega, Lib.hid hq.symm⟩)
        clear hq hl2
        go_wp2_with fail
        go_roundw
        case rel => exact ⟨t2, P.length + m + 1, P ++ List.replicate m b, !b, htl, HR2, HO2, HL2, HWAY.out⟩
        case measure => rw [HRT.out, rdAt_of HR2.out]; omega
    · have hd : decide ((a : Int) - 1 < (n : Int)) = false := by simp; omega
      obtain ⟨q, cq, hv, _⟩ := hlin.form
      have HV := Lib.hid hv
      have hcl : (chgs P b n).length = (changes P).length := by rw [← hP, chgs_end]
      rw [hv] at k2
      have HCL := Lib.hid hcl
      rw [hcl] at k2
      have HP := Lib.hid hP
      clear hlin hPl hv hcl hP
      go_wp2_with fail
      go_ret2
      rw [HE.out]
      exact RowP.good HRr.out (only_in (by rw [HG.out]; exact HB1.out) HOr.out (fun k hk => by rw [HG.out]; rcases hk with e | e | e <;> omega)) HLV.out HP.out (by rw [HG.out]; omega) (by rw [HV.out, HCL.out])
theorem alloc_last (w : World) (cs : Array Value) (T : TypeId) : (w.alloc (.cells cs T)).heap[w.heap.size]? = some (.cells cs T (0, 0)) := by
  show (w.heap.push _)[w.heap.size]? = _
  simp
theorem alloc_at (w : World) (o : Obj) (k : Nat) (h : k < w.heap.size) : (w.alloc o).heap[k]? = w.heap[k]? :=
  ((Below.refl w.heap.size w).alloc (Nat.le_refl _) o).block k h
/-- nothing of a row is behind -/
theorem rst_new {w : World} {K : Nat → Prop} {g n len cap : Nat} {p : Option Addr} {d : List Nat} (hb : w.heap[g]? = some (.cells #[.slice p len cap, .int .i64 (n : Int)] 85 (0, 0))) (hr : VRow w g p (ints (zl d))) (hx : d.length = len) (hl : len ≤ 100000) (hc : len ≤ cap) (hv : Valid d n) (hK : ∀ k, K k → k < g) (hp : ∀ ad, p = some ad → 0 < d.length → K ad.block) : Up w K g d n 0 := by
  subst hx
  exact ⟨d, ⟨hK, hl, hv.1, p, cap, hb, hr, hc, hp⟩, fun x h => h, fun _ _ _ => rfl⟩
set_option maxHeartbeats 4000000 in
theorem readAgainst_any (w : World) (B C c gr : Nat) (p : Option Addr) (cap : Nat) (xs : List UInt8) (t : Nat) (low : Bool) (p2 : Option Addr) (len2 cap2 : Nat) (top : List Nat) (n : Nat) (hC : Cd w B C c) (hO : Out B C gr) (hR : Rd w gr p cap xs t low) (hr2 : VRow w w.heap.size p2 (ints (zl top))) (hx2 : top.length = len2) (hl2 : len2 ≤ 100000) (hc2 : len2 ≤ cap2) (hp2 : ∀ a, p2 = some a → 0 < top.length → a.block ≠ gr) (hv : Valid top n) (h1 : 1 ≤ n) (hn : n ≤ 32768) :
    Calls Tryz.prog 52 #[.pointer (some ⟨gr, 0, none⟩), .pointer (some ⟨c, 0, none⟩), .slice p2 len2 cap2, .int .i64 (n : Int)] w (RowP gr p cap xs low w (readGA (bitsOf low xs) top n t 0 [] false)) := by
  have hok := mrow_any p2 len2 cap2 (zl top) n w _ hr2 (by rw [zl_length]; exact hx2) (by unfold maxLen; omega)
  rw [valid_rowB hv h1 hn] at hok
  have HOK := Lib.hid hok
  have hal : t ≤ (bitsOf low xs).length := by rw [bitsOf_length]; exact hR.2.2.1
  have hgr := hR.lt
  obtain ⟨L, hL0⟩ : ∃ L, L = bitsOf low xs := ⟨_, rfl⟩
  have HL0 := Lib.hid hL0
  rw [← hL0] at hal ⊢
  obtain ⟨r, hr⟩ : ∃ r, r = readGA L top n t 0 [] false := ⟨_, rfl⟩
  rw [← hr]
  have HRES := Lib.hid hr.symm
  have ha1 : Below w.heap.size w (w.alloc (.cells #[.int .i64 (-1), .bool false, .slice none 0 0, .int .i64 (n : Int)] 95)) := (Below.refl _ w).alloc (Nat.le_refl _) _
  have hs1 : (w.alloc (.cells #[.int .i64 (-1), .bool false, .slice none 0 0, .int .i64 (n : Int)] 95)).heap.size = w.heap.size + 1 := by simp
  have hb1 : Below w.heap.size w ((w.alloc (.cells #[.int .i64 (-1), .bool false, .slice none 0 0, .int .i64 (n : Int)] 95)).alloc (.cells #[.slice p2 len2 cap2, .int .i64 (n : Int)] 85)) := ha1.alloc (by omega) _
  have hs2 : ((w.alloc (.cells #[.int .i64 (-1), .bool false, .slice none 0 0, .int .i64 (n : Int)] 95)).alloc (.cells #[.slice p2 len2 cap2, .int .i64 (n : Int)] 85)).heap.size = w.heap.size + 2 := by simp
  have hat1 := (alloc_at (w.alloc (.cells #[.int .i64 (-1), .bool false, .slice none 0 0, .int .i64 (n : Int)] 95)) (.cells #[.slice p2 len2 cap2, .int .i64 (n : Int)] 85) w.heap.size (by omega)).trans (alloc_last w _ _)
  have hat2 := alloc_last (w.alloc (.cells #[.int .i64 (-1), .bool false, .slice none 0 0, .int .i64 (n : Int)] 95)) #[.slice p2 len2 cap2, .int .i64 (n : Int)] 85
  rw [hs1] at hat2
  have HLN := Lib.hid (lin_at (E := w.heap.size + 2) hat1 (by omega) (by omega) h1)
  have HUP := Lib.hid (rst_new (K := fun k => k < w.heap.size ∧ k ≠ gr) hat2 ((hr2.below hb1 (Nat.le_refl _)).mono (by omega)) hx2 hl2 hc2 hv (fun k hk => by have := hk.1; omega) (fun a ha h0 => ⟨by
    obtain ⟨b0, off0, e, hb, _⟩ := hr2 (by rw [ints_length, zl_length]; exact h0)
    rw [ha] at e
    injection e with e
    rw [e]
    exact hb, hp2 a ha h0⟩))
  have HC1 := Lib.hid (hC.below hb1 hC.1)
  have HR1 := Lib.hid (hR.below hb1 hgr)
  have hCZ := hC.1
  have HB1 := Lib.hid hb1
  have HO := Lib.hid hO
  have HV := Lib.hid hv
  clear hC hO hR hL0 hr hok hb1 ha1 hat1 hat2 hr2 hx2 hp2 hv hs2
  go_enter Tryz.func52, Tryz.ntmps52
  go_wp2_with fail
  refine HOK.out.mono ?_
  rintro e w' ⟨rfl, rfl⟩
  go_wp2_with fail
  clear hs1
  generalize hg : w.heap.size = g at *
  generalize hw1 : (w.alloc (.cells #[.int .i64 (-1), .bool false, .slice none 0 0, .int .i64 (n : Int)] 95)).alloc (.cells #[.slice p2 len2 cap2, .int .i64 (n : Int)] 85) = w1 at *
  have HG := Lib.hid hg
  clear hw1 hg
  go_loopw [12] (fun _ wr => ∃ (t1 a : Nat) (P : List Bool) (b : Bool), t1 ≤ L.length ∧ Hid (Rd wr gr p cap xs t1 low) ∧ Hid (Only (S3 gr g (g + 1) (g + 2)) w1 wr) ∧ Hid (LinP wr (g + 2) g a P b n) ∧ Hid (Up wr (fun k => k < g ∧ k ≠ gr) (g + 1) top n a) ∧ Hid (readGA L top n t1 a P b = r)) (fun _ wr => L.length - rdAt gr wr)
  case atStart => exact ⟨t, 0, [], false, hal, HR1, Lib.hid (Only.refl _ _), HLN, HUP, HRES⟩
  case round =>
    obtain ⟨t1, a, P, b, ht1, HRr, HOr, HLr, HUr, HE⟩ := hrel
    obtain ⟨hPl, han, v, hlin⟩ := HLr.out
    have k0 := hlin.c0
    have k2 := hlin.c2
    have HLV := Lib.hid hlin
    have HRT := Lib.hid (rdAt_of HRr.out)
    by_cases ha : a ≤ n
    · have hd : decide ((a : Int) - 1 < (n : Int)) = true := by simp; omega
      have HST := Lib.hid (readStep_any wr B C c gr p cap xs t1 low (g + 2) g n a (g + 1) _ top P b (HC1.out.only HOr.out (S3.out HC1.out HO.out hCZ (by omega) (by omega))) HO.out hCZ (by omega) hgr (by omega) (by omega) (by omega) (fun k hk => hk) HRr.out HLr.out HUr.out HV.out hn h1 ha)
      have HQ := Lib.hid (readGA_step L top n t1 a P b ht1 ha)
      have HLE := Lib.hid (stepA_le (L := L) (top := top) (n := n) (t := t1) (a := a) (P := P) (b := b) ht1)
      rw [← HL0.out] at HST
      generalize stepA L top n t1 a P b = sr at *
      obtain ⟨t2, x⟩ := sr
      clear hlin hPl HLV k2
      go_wp2_with fail
      refine HST.out.mono ?_
      rintro e w2 ⟨hr2, ho2, hres⟩
      have HO2 := Lib.hid (HOr.out.trans ho2)
      have HR2 := Lib.hid hr2
      clear hr2 ho2
      have hq := HQ.out
      rw [HE.out] at hq
      rcases x with ce | s
      · obtain ⟨rfl, hne⟩ := hres
        have HQ2 := Lib.hid hq
        clear hq
        go_wp2_with fail
        go_ret2
        rw [HQ2.out]
        exact RowP.err HR2.out (only_in (by rw [HG.out]; exact HB1.out) HO2.out (fun k hk => by rw [HG.out]; rcases hk with e | e | e | e <;> omega))
      · obtain ⟨rfl, hl2, hu2⟩ := hres
        have HL2 := Lib.hid hl2
        have HU2 := Lib.hid hu2
        have hlt := HLE.out.2.2 s rfl
        have htl := HLE.out.1
        simp only at hlt htl hq
        have HQ2 := Lib.hid hq.symm
        clear hq hl2 hu2
        go_wp2_with fail
        go_roundw
        case rel => exact ⟨t2, s.1, s.2.1, s.2.2, htl, HR2, HO2, HL2, HU2, HQ2⟩
        case measure => rw [HRT.out, rdAt_of HR2.out]; omega
    · have hd : decide ((a : Int) - 1 < (n : Int)) = false := by simp; omega
      have hP : P.length = n := by omega
      have HQ : Hid (r = (t1, .ok P)) := Lib.hid (by
        have h2 := readGA_eq L top n t1 a P b ht1
        rw [if_pos (by omega), HE.out] at h2
        exact h2)
      obtain ⟨q, cq, hv, _⟩ := hlin.form
      have HVV := Lib.hid hv
      have hcl : (chgs P b n).length = (changes P).length := by rw [← hP, chgs_end]
      rw [hv] at k2
      have HCL := Lib.hid hcl
      rw [hcl] at k2
      have HP := Lib.hid hP
      clear hlin hPl hv hcl hP
      go_wp2_with fail
      go_ret2
      rw [HQ.out]
      exact RowP.good HRr.out (only_in (by rw [HG.out]; exact HB1.out) HOr.out (fun k hk => by rw [HG.out]; rcases hk with e | e | e | e <;> omega)) HLV.out HP.out (by rw [HG.out]; omega) (by rw [HVV.out, HCL.out])
end Go.Proofs.YtmbfgejephgojaaGreatDoor.Mh
/- The contract of WriteAgainst. -/
namespace Go.Proofs.YtmbfgejephgojaaGreatDoor.Mh
open Go.RowKit Go.Proofs.YtmbfgejephgojaaGreatDoor.Oct Go.Proofs.YtmbfgejephgojaaGreatDoor.Bit
open Go.Proofs.YtmbfgejephgojaaGreatDoor.Fx (tellF modesF Cd Out OutW WrP cmode_any)
open Go.Proofs.YtmbfgejephgojaaGreatDoor.Rn (changes nextX nextF nextI zl zl_length zl_append zl_get nextI_zl Valid ints_new)
open Go.Proofs.YtmbfgejephgojaaGreatDoor.Lp (VRow ints ints_length ints_append ints_one vrow_own)
set_option linter.unusedVariables false
set_option linter.unusedSimpArgs false
set_option maxRecDepth 100000

/-- how many of these places lie from a place on -/
def cnt (c : List Nat) (a : Nat) : Nat := c.countP (fun x => decide (a ≤ x))
theorem cnt_mono (c : List Nat) {a a' : Nat} (h : a ≤ a') : cnt c a' ≤ cnt c a := by
  refine List.countP_mono_left (fun x _ hx => ?_)
  simp only [decide_eq_true_eq] at hx ⊢
  omega
theorem cnt_lt {c : List Nat} {a x : Nat} (hx : x ∈ c) (h : a ≤ x) : cnt c (x + 1) < cnt c a := by
  unfold cnt
  induction c with
  | nil => cases hx
  | cons y c ih =>
    rw [List.countP_cons, List.countP_cons]
    have hm := cnt_mono c (show a ≤ x + 1 by omega)
    unfold cnt at hm
    rcases List.mem_cons.1 hx with e | e
    · subst e
      simp only [decide_eq_true_eq]
      rw [if_neg (by omega), if_pos h]
      omega
    · have := ih e
      simp only [decide_eq_true_eq]
      by_cases h1 : x + 1 ≤ y
      · rw [if_pos h1, if_pos (by omega)]; omega
      · rw [if_neg h1]
        split <;> omega
theorem nextF_mem (w : Nat) : ∀ (c : List Nat) (b : Bool) (a : Nat), (nextF w c b a).1 ∈ c ∨ (nextF w c b a).1 = w
  | [], b, a => .inr rfl
  | x :: c, b, a => by
    rw [nextF]
    split
    · exact .inl (by simp)
    · rcases nextF_mem w c (!b) a with h | h
      · exact .inl (by simp [h])
      · exact .inr h
theorem nextF_mem2 (w : Nat) : ∀ (c : List Nat) (b : Bool) (a : Nat), (nextF w c b a).2 ∈ c ∨ (nextF w c b a).2 = w
  | [], b, a => .inr rfl
  | x :: c, b, a => by
    rw [nextF]
    split
    · cases c with
      | nil => exact .inr rfl
      | cons y c => exact .inl (by simp)
    · rcases nextF_mem2 w c (!b) a with h | h
      · exact .inl (by simp [h])
      · exact .inr h
/-- how long it is, what a row is told by another one by -/
theorem against_len {c top : List Nat} {w T : Nat} (hc : Valid c w) (ht : Valid top w) (hT : ∀ b x, x ≤ w → (tellF b x).length ≤ T) : ∀ (f a : Nat) (b : Bool), w + 1 ≤ f + a → a ≤ w → (againstA c top w a b).length ≤ (2 * T + 7) * (cnt c a + cnt top a + 1)
  | 0, a, b, hf, ha => by omega
  | f + 1, a, b, hf, ha => by
    have g1 := nextF_ge w c (!b) a ha hc.2
    have g2 := nextF_ge w top (!b) a ha ht.2
    have g3 := nextF_le w c (!b) a hc
    have g4 := nextF_le w top (!b) a ht
    have m1 := nextF_mem w c (!b) a
    have m2 := nextF_mem2 w c (!b) a
    have m3 := nextF_mem2 w top (!b) a
    rw [againstA_eq hc ht b ha]
    have e1 : nx w c b a = nextF w c (!b) a := rfl
    have e2 : nx w top b a = nextF w top (!b) a := rfl
    rw [e1, e2]
    generalize nextF w c (!b) a = r1 at *
    generalize nextF w top (!b) a = r2 at *
    obtain ⟨a1, a2⟩ := r1
    obtain ⟨b1, b2⟩ := r2
    simp only at *
    have key : ∀ (y : Nat) (bb : Bool), a ≤ y → y ≤ w → (y ∈ c ∨ y ∈ top ∨ y = w) → (againstA c top w (y + 1) bb).length + (2 * T + 7) ≤ (2 * T + 7) * (cnt c a + cnt top a + 1) := by
      intro y bb hy hyw hm
      by_cases he : y = w
      · rw [againstA_end bb (by omega), List.length_nil]
        have := Nat.le_mul_of_pos_right (2 * T + 7) (show 0 < cnt c a + cnt top a + 1 by omega)
        omega
      · have ih := against_len hc ht hT f (y + 1) bb (by omega) (by omega)
        have hlt : cnt c (y + 1) + cnt top (y + 1) + 1 ≤ cnt c a + cnt top a := by
          rcases hm with h | h | h
          · have := cnt_lt h hy; have := cnt_mono top (show a ≤ y + 1 by omega); omega
          · have := cnt_lt h hy; have := cnt_mono c (show a ≤ y + 1 by omega); omega
          · exact absurd h he
        have := Nat.mul_le_mul_left (2 * T + 7) hlt
        rw [Nat.mul_add, Nat.mul_one]
        omega
    split
    · rename_i h
      have := key b2 b (by omega) (by omega) (by rcases m3 with e | e <;> simp [e])
      have h8 := (Fx.mode_len (i := 8) (by decide)).2
      rw [List.length_append]
      omega
    · split
      · rename_i h
        have := key a1 (!b) (by omega) (by omega) (by rcases m1 with e | e <;> simp [e])
        have h8 := (Fx.mode_len (i := a1 + 3 - b1) (by omega)).2
        rw [List.length_append]
        omega
      · have := key a2 b (by omega) (by omega) (by rcases m2 with e | e <;> simp [e])
        have h8 := (Fx.mode_len (i := 7) (by decide)).2
        have t1 := hT b (a1 - (a - 1)) (by omega)
        have t2 := hT (!b) (a2 - a1) (by omega)
        rw [List.length_append, List.length_append, List.length_append]
        omega
theorem cnt_le (c : List Nat) (a : Nat) : cnt c a ≤ c.length := List.countP_le_length
theorem against_len0 {c top : List Nat} {w T : Nat} (hc : Valid c w) (ht : Valid top w) (hT : ∀ b x, x ≤ w → (tellF b x).length ≤ T) : (againstA c top w 0 false).length ≤ (2 * T + 7) * (c.length + top.length + 1) := by
  refine Nat.le_trans (against_len hc ht hT (w + 1) 0 false (by omega) (by omega)) (Nat.mul_le_mul_left _ ?_)
  have := cnt_le c 0
  have := cnt_le top 0
  omega
theorem tell_len2 (b : Bool) {n : Nat} (h : n < 2560) : (tellF b n).length ≤ 26 := by
  by_cases h1 : n < 64
  · rw [Fx.tell_last b h1]
    have := (Fx.word_len b (i := n) (by omega)).2
    omega
  · rw [Fx.tell_mid b (by omega) h, Fx.tell_last b (Nat.mod_lt _ (by decide)), List.length_append]
    have := (Fx.word_len b (i := 63 + n / 64) (by omega)).2
    have := (Fx.word_len b (i := n % 64) (by omega)).2
    omega
/-- which blocks writing by the row above turns -/
def SW (gw : Nat) (v : Value) (g k : Nat) : Prop := Mine gw v k ∨ k = g ∨ k = g + 1
/-- a writer under way, beside two rows of which less and less is to come -/
structure Wy (w1 : World) (gw : Nat) (v : Value) (l : List Bool) (low : Bool) (g : Nat) (K : Nat → Prop) (row top : List Nat) (n a : Nat) (d : List Bool) (wr : World) : Prop where
  ws : ∃ v', Ws wr gw v' (l ++ d) low ∧ (∀ k, v'.ownBlock = some k → v.ownBlock = some k ∨ g + 2 ≤ k)
  only : Only (SW gw v g) w1 wr
  own : Up wr K g row n a
  top : Up wr K (g + 1) top n a
section
variable {w1 : World} {gw : Nat} {v : Value} {l : List Bool} {low : Bool} {g : Nat} {K : Nat → Prop} {row top : List Nat} {n a : Nat} {d : List Bool} {wr w2 : World}
theorem Wy.next1 (h : Wy w1 gw v l low g K row top n a d wr) (hm : ∀ k, Mine gw v k → k < g) (hK : ∀ k, K k → k < g) (ho : Only (· = g) wr w2) (hu : Up w2 K g row n a) : Wy w1 gw v l low g K row top n a d w2 := by
  obtain ⟨⟨v', hw, hv⟩, h2, h3, h4⟩ := h
  refine ⟨⟨v', Wr.only hw ho (fun e => by have := hm gw (.inl rfl); omega) (fun k hk e => ?_), hv⟩, h2.trans (ho.mono fun k _ e => .inr (.inl e)), hu, h4.only ho (by omega) (fun k hk e => by have := hK k hk; omega)⟩
  rcases hv k hk with e2 | e2
  · have := hm k (.inr e2); omega
  · omega
theorem Wy.next2 (h : Wy w1 gw v l low g K row top n a d wr) (hm : ∀ k, Mine gw v k → k < g) (hK : ∀ k, K k → k < g) (ho : Only (· = g + 1) wr w2) (hu : Up w2 K (g + 1) top n a) : Wy w1 gw v l low g K row top n a d w2 := by
  obtain ⟨⟨v', hw, hv⟩, h2, h3, h4⟩ := h
  refine ⟨⟨v', Wr.only hw ho (fun e => by have := hm gw (.inl rfl); omega) (fun k hk e => ?_), hv⟩, h2.trans (ho.mono fun k _ e => .inr (.inr e)), h3.only ho (by omega) (fun k hk e => by have := hK k hk; omega), hu⟩
  rcases hv k hk with e2 | e2
  · have := hm k (.inr e2); omega
  · omega
/-- more is written -/
theorem Wy.wrote {m : List Bool} {a2 : Nat} {v' : Value} (h : Wy w1 gw v l low g K row top n a d wr) (hv' : Ws wr gw v' (l ++ d) low) (hvo : ∀ k, v'.ownBlock = some k → v.ownBlock = some k ∨ g + 2 ≤ k) (hm : ∀ k, Mine gw v k → k < g) (hK : ∀ k, K k → k < g ∧ ¬ Mine gw v k) (hz : w1.heap.size = g + 2) (ho : WsT wr gw v' (l ++ d ++ m) low w2) (ha : a ≤ a2) : Wy w1 gw v l low g K row top n a2 (d ++ m) w2 := by
  obtain ⟨_, h2, h3, h4⟩ := h
  obtain ⟨v2, hw2, ho2, hv2⟩ := ho
  have hz2 : g + 2 ≤ wr.heap.size := by have := h2.2.2.2.1; omega
  have hmine : ∀ k, Mine gw v' k → Mine gw v k ∨ g + 2 ≤ k := fun k hk => by
    rcases hk with e | e
    · exact .inl (.inl e)
    · rcases hvo k e with e2 | e2
      · exact .inl (.inr e2)
      · exact .inr e2
  have hno : ∀ k, k = g ∨ k = g + 1 → ¬ Mine gw v' k := fun k hk e => by
    rcases hmine k e with e2 | e2
    · have := hm k e2; omega
    · omega
  have hnK : ∀ k, K k → ¬ Mine gw v' k := fun k hk e => by
    rcases hmine k e with e2 | e2
    · exact (hK k hk).2 e2
    · have := (hK k hk).1; omega
  refine ⟨⟨v2, by rw [← List.append_assoc]; exact hw2, fun k hk => ?_⟩, ?_, (h3.only ho2 (hno g (.inl rfl)) hnK).mono ha, (h4.only ho2 (hno (g + 1) (.inr rfl)) hnK).mono ha⟩
  · rcases hv2 k hk with e | e
    · exact hvo k e
    · exact .inr (by omega)
  · refine ⟨ho2.1.trans h2.1, ho2.2.1.trans h2.2.1, ho2.2.2.1.trans h2.2.2.1, Nat.le_trans h2.2.2.2.1 ho2.2.2.2.1, fun k hk hn => ?_⟩
    have h0 := h2.2.2.2.2 k hk hn
    refine (ho2.2.2.2.2 k (by have := h2.2.2.2.1; omega) (fun e => ?_)).trans h0
    rcases hmine k e with e2 | e2
    · exact hn (.inl e2)
    · omega
end
set_option maxHeartbeats 8000000 in
theorem writeAgainst_any (w : World) (B C c gw : Nat) (v : Value) (l : List Bool) (low : Bool) (p1 : Option Addr) (len1 cap1 : Nat) (row : List Nat) (p2 : Option Addr) (len2 cap2 : Nat) (top : List Nat) (n : Nat) (hC : Cd w B C c) (hW : Ws w gw v l low) (hO : OutW B C gw v)
    (hr1 : VRow w w.heap.size p1 (ints (zl row))) (hx1 : row.length = len1) (hl1 : len1 ≤ 100000) (hc1 : len1 ≤ cap1) (hp1 : ∀ a, p1 = some a → 0 < row.length → ¬ Mine gw v a.block) (hv1 : Valid row n)
    (hr2 : VRow w w.heap.size p2 (ints (zl top))) (hx2 : top.length = len2) (hl2 : len2 ≤ 100000) (hc2 : len2 ≤ cap2) (hp2 : ∀ a, p2 = some a → 0 < top.length → ¬ Mine gw v a.block) (hv2 : Valid top n) (h1 : 1 ≤ n) (hn : n ≤ 32768) (hl : l.length + (againstA row top n 0 false).length ≤ 1700000) :
    Calls Tryz.prog 24 #[.pointer (some ⟨gw, 0, none⟩), .pointer (some ⟨c, 0, none⟩), .slice p1 len1 cap1, .slice p2 len2 cap2, .int .i64 (n : Int)] w (WrP w gw v l (againstA row top n 0 false) low) := by
  have hok1 := mrow_any p1 len1 cap1 (zl row) n w _ hr1 (by rw [zl_length]; exact hx1) (by unfold maxLen; omega)
  rw [valid_rowB hv1 h1 hn] at hok1
  have hok2 := mrow_any p2 len2 cap2 (zl top) n w _ hr2 (by rw [zl_length]; exact hx2) (by unfold maxLen; omega)
  rw [valid_rowB hv2 h1 hn] at hok2
  have HOK1 := Lib.hid hok1
  have HOK2 := Lib.hid hok2
  have hgl := Wr.lt hW
  have hmi : ∀ k, Mine gw v k → k < w.heap.size := fun k hk => by
    rcases hk with e | e
    · rw [e]; exact hgl
    · exact (hW.2.1.lt k e).2
  have HMI := Lib.hid hmi
  have ha1 : Below w.heap.size w (w.alloc (.cells #[.slice p1 len1 cap1, .int .i64 (n : Int)] 85)) := (Below.refl _ w).alloc (Nat.le_refl _) _
  have hs1 : (w.alloc (.cells #[.slice p1 len1 cap1, .int .i64 (n : Int)] 85)).heap.size = w.heap.size + 1 := by simp
  have hb1 : Below w.heap.size w ((w.alloc (.cells #[.slice p1 len1 cap1, .int .i64 (n : Int)] 85)).alloc (.cells #[.slice p2 len2 cap2, .int .i64 (n : Int)] 85)) := ha1.alloc (by omega) _
  have hs2 : ((w.alloc (.cells #[.slice p1 len1 cap1, .int .i64 (n : Int)] 85)).alloc (.cells #[.slice p2 len2 cap2, .int .i64 (n : Int)] 85)).heap.size = w.heap.size + 2 := by simp
  have hat1 := (alloc_at (w.alloc (.cells #[.slice p1 len1 cap1, .int .i64 (n : Int)] 85)) (.cells #[.slice p2 len2 cap2, .int .i64 (n : Int)] 85) w.heap.size (by omega)).trans (alloc_last w _ _)
  have hat2 := alloc_last (w.alloc (.cells #[.slice p1 len1 cap1, .int .i64 (n : Int)] 85)) #[.slice p2 len2 cap2, .int .i64 (n : Int)] 85
  rw [hs1] at hat2
  have inb : ∀ {p : Option Addr} {d : List Nat}, VRow w w.heap.size p (ints (zl d)) → ∀ a, p = some a → 0 < d.length → a.block < w.heap.size := fun {p d} hr a ha h0 => by
    obtain ⟨b0, off0, e, hb, _⟩ := hr (by rw [ints_length, zl_length]; exact h0)
    rw [ha] at e
    injection e with e
    rw [e]
    exact hb
  have HU1 := rst_new (K := fun k => k < w.heap.size ∧ ¬ Mine gw v k) hat1 (hr1.below hb1 (Nat.le_refl _)) hx1 hl1 hc1 hv1 (fun k hk => hk.1) (fun a ha h0 => ⟨inb hr1 a ha h0, hp1 a ha h0⟩)
  have HU2 := rst_new (K := fun k => k < w.heap.size ∧ ¬ Mine gw v k) hat2 ((hr2.below hb1 (Nat.le_refl _)).mono (by omega)) hx2 hl2 hc2 hv2 (fun k hk => by have := hk.1; omega) (fun a ha h0 => ⟨inb hr2 a ha h0, hp2 a ha h0⟩)
  have hWy : Wy ((w.alloc (.cells #[.slice p1 len1 cap1, .int .i64 (n : Int)] 85)).alloc (.cells #[.slice p2 len2 cap2, .int .i64 (n : Int)] 85)) gw v l low w.heap.size (fun k => k < w.heap.size ∧ ¬ Mine gw v k) row top n 0 [] ((w.alloc (.cells #[.slice p1 len1 cap1, .int .i64 (n : Int)] 85)).alloc (.cells #[.slice p2 len2 cap2, .int .i64 (n : Int)] 85)) :=
    ⟨⟨v, by rw [List.append_nil]; exact Wr.only hW (Only.of_below hb1 : Only (fun _ => False) _ _) (fun e => e) (fun _ _ e => e), fun k hk => .inl hk⟩, Only.refl _ _, HU1, HU2⟩
  have HWY := Lib.hid hWy
  have HC1 := Lib.hid (hC.below hb1 hC.1)
  have HB1 := Lib.hid hb1
  have HO := Lib.hid hO
  have hCz := hC.1
  have HV1 := Lib.hid hv1
  have HV2 := Lib.hid hv2
  obtain ⟨R, hR⟩ : ∃ R, R = againstA row top n 0 false := ⟨_, rfl⟩
  have HR := Lib.hid hR.symm
  rw [← hR] at hl ⊢
  have HSZ := Lib.hid hs2
  clear hok1 hok2 hC hW hO hr1 hx1 hp1 hv1 hr2 hx2 hp2 hv2 ha1 hb1 hat1 hat2 HU1 HU2 hWy hs2 inb hmi hgl hR hs1
  go_enter Tryz.func24, Tryz.ntmps24
  go_wp2_with fail
  refine HOK1.out.mono ?_
  rintro e w' ⟨rfl, rfl⟩
  go_wp2_with fail
  refine HOK2.out.mono ?_
  rintro e w' ⟨rfl, rfl⟩
  go_wp2_with fail
  generalize hg : w.heap.size = g at *
  generalize hw1 : (w.alloc (.cells #[.slice p1 len1 cap1, .int .i64 (n : Int)] 85)).alloc (.cells #[.slice p2 len2 cap2, .int .i64 (n : Int)] 85) = w1 at *
  have HG := Lib.hid hg
  clear hw1 hg HOK1 HOK2
  go_loopw [13, 14, 15, 16, 17, 18, 19, 20] (fun s13 s14 _ _ _ _ _ _ wr => ∃ (a : Nat) (b : Bool) (d : List Bool), a ≤ n + 1 ∧ s13 = .int .i64 ((a : Int) - 1) ∧ s14 = .bool b ∧ Hid (Wy w1 gw v l low g (fun k => k < g ∧ ¬ Mine gw v k) row top n a d wr) ∧ Hid (d ++ againstA row top n a b = R)) (fun s13 _ _ _ _ _ _ _ _ => n + 1 - (intOf s13 + 1).toNat)
  case atStart => exact ⟨0, false, [], by omega, rfl, rfl, HWY, HR⟩
  case round =>
    obtain ⟨a, b, d, han, rfl, rfl, HWr, HD⟩ := hrel
    by_cases ha : a ≤ n
    · have hd : decide ((a : Int) - 1 < (n : Int)) = true := by simp; omega
      have hN1 := next_any wr (fun k => k < g ∧ ¬ Mine gw v k) g n a row (!b) _ rfl HWr.out.own
      have HNT := Lib.hid (fun w2 h => next_any w2 (fun k => k < g ∧ ¬ Mine gw v k) (g + 1) n a top (!b) _ rfl h)
      have HQ := Lib.hid (againstA_eq HV1.out HV2.out b ha)
      have g1 := nextF_ge n row (!b) a ha HV1.out.2
      have g2 := nextF_ge n top (!b) a ha HV2.out.2
      have g3 := nextF_le n row (!b) a HV1.out
      have g4 := nextF_le n top (!b) a HV2.out
      have hKg : ∀ k, (k < g ∧ ¬ Mine gw v k) → k < g := fun k hk => hk.1
      unfold NextP at hN1
      unfold NextP at HNT
      have e1 : nx n row b a = nextF n row (!b) a := rfl
      have e2 : nx n top b a = nextF n top (!b) a := rfl
      have e3 : nextX n row (!b) a = nextF n row (!b) a := rfl
      have e4 : nextX n top (!b) a = nextF n top (!b) a := rfl
      rw [e3] at hN1
      rw [e4] at HNT
      rw [e1, e2] at HQ
      clear e1 e2 e3 e4
      generalize nextF n row (!b) a = r1 at *
      generalize nextF n top (!b) a = r2 at *
      obtain ⟨a1, a2⟩ := r1
      obtain ⟨b1, b2⟩ := r2
      simp only at hN1 HNT HQ g1 g2 g3 g4
      have HN1 := Lib.hid hN1
      clear hN1
      go_wp2_with fail
      refine HN1.out.mono ?_
      rintro e w2 ⟨rfl, ho2, hz2, hu2⟩
      have HW2 := Lib.hid (HWr.out.next1 HMI.out hKg ho2 hu2)
      have HN2 := Lib.hid (HNT.out w2 HW2.out.top)
      clear ho2 hu2 hz2
      go_wp2_with fail
      refine HN2.out.mono ?_
      rintro e w3 ⟨rfl, ho3, hz3, hu3⟩
      have HW3 := Lib.hid (HW2.out.next2 HMI.out hKg ho3 hu3)
      obtain ⟨v3, hws3, hvo3⟩ := HW3.out.ws
      have hdl : d.length ≤ R.length := by have := congrArg List.length HD.out; rw [List.length_append] at this; omega
      have hll : (l ++ d).length ≤ 1700000 := by rw [List.length_append]; omega
      have hout3 : OutW B C gw v3 := fun k hk => by
        rcases hk with e | e
        · exact HO.out k (.inl e)
        · rcases hvo3 k e with e2 | e2
          · exact HO.out k (.inr e2)
          · exact .inr (by omega)
      have hcd3 : Cd w3 B C c := HC1.out.only HW3.out.only (fun k hk => by
        rcases hk with e | e | e
        · exact HO.out k e
        · exact .inr (by omega)
        · exact .inr (by omega))
      have HCM := Lib.hid (fun i hi => cmode_any w3 B C c gw v3 (l ++ d) low i hcd3 hws3 hi (by omega))
      have HCD3 := Lib.hid hcd3
      have HWS3 := Lib.hid hws3
      have HVO3 := Lib.hid hvo3
      have HOU3 := Lib.hid hout3
      clear ho3 hu3 hz3 hws3 hvo3 hout3 hcd3
      have hK2 : ∀ k, (k < g ∧ ¬ Mine gw v k) → k < g ∧ ¬ Mine gw v k := fun k hk => hk
      by_cases hba : b2 < a1
      · have hd1 : decide ((b2 : Int) < (a1 : Int)) = true := by simp; omega
        have HC8 : Hid (Calls Tryz.prog 45 #[.pointer (some ⟨c, 0, none⟩), .pointer (some ⟨gw, 0, none⟩), .int .i64 5] w3 (WrP w3 gw v3 (l ++ d) (modesF.getD 8 []) low)) := Lib.hid (HCM.out 8 (by decide))
        have HD2 : Hid ((d ++ modesF.getD 8 []) ++ againstA row top n (b2 + 1) b = R) := Lib.hid (by
          have h2 := HD.out
          rw [HQ.out, if_pos hba, ← List.append_assoc] at h2
          exact h2)
        clear HCM
        go_wp2_with fail
        refine HC8.out.mono ?_
        rintro e w4 ⟨rfl, hws⟩
        have HW4 := Lib.hid (HW3.out.wrote HWS3.out HVO3.out HMI.out hK2 HSZ.out hws (show a ≤ b2 + 1 by omega))
        clear hws
        go_wp2_with fail
        go_roundw
        case rel => exact ⟨b2 + 1, b, _, by omega, by congr 1; omega, rfl, HW4, HD2⟩
        case measure => simp [intOf]; omega
      · have hd1 : decide (b2 < a1) = false := by simp; omega
        by_cases hc2 : a1 ≤ b1 + 3 ∧ b1 ≤ a1 + 3
        · have hd2 : decide (-3 ≤ (a1 : Int) - (b1 : Int)) = true := by simp; omega
          have hd3 : decide ((a1 : Int) - (b1 : Int) ≤ 3) = true := by simp; omega
          have hcm := HCM.out (a1 + 3 - b1) (by omega)
          rw [show (((a1 + 3 - b1 : Nat) : Int) - 3) = (a1 : Int) - (b1 : Int) by omega] at hcm
          have HCI := Lib.hid hcm
          have HD2 : Hid ((d ++ modesF.getD (a1 + 3 - b1) []) ++ againstA row top n (a1 + 1) (!b) = R) := Lib.hid (by
            have h2 := HD.out
            rw [HQ.out, if_neg hba, if_pos hc2, ← List.append_assoc] at h2
            exact h2)
          clear HCM hc2 hcm
          go_wp2_with fail
          refine HCI.out.mono ?_
          rintro e w4 ⟨rfl, hws⟩
          have HW4 := Lib.hid (HW3.out.wrote HWS3.out HVO3.out HMI.out hK2 HSZ.out hws (show a ≤ a1 + 1 by omega))
          clear hws
          go_wp2_with fail
          go_roundw
          case rel => exact ⟨a1 + 1, !b, _, by omega, by congr 1; omega, rfl, HW4, HD2⟩
          case measure => simp [intOf]; omega
        · obtain ⟨x, hx⟩ : ∃ x, x = a1 - (a - 1) := ⟨_, rfl⟩
          obtain ⟨y, hy⟩ : ∃ y, y = a2 - a1 := ⟨_, rfl⟩
          obtain ⟨am, ham⟩ : ∃ am, am = a - 1 := ⟨_, rfl⟩
          have HD2 : Hid ((d ++ (modesF.getD 7 [] ++ (tellF b x ++ tellF (!b) y))) ++ againstA row top n (a2 + 1) b = R) := Lib.hid (by
            have h2 := HD.out
            rw [HQ.out, if_neg hba, if_neg hc2, ← hx, ← hy] at h2
            simp only [List.append_assoc] at h2 ⊢
            exact h2)
          have hb4 : Below w3.heap.size w3 (w3.alloc (.cells (ints (zl [x, y])).toArray 3)) := (Below.refl _ w3).alloc (Nat.le_refl _) _
          have hon4 : Only (fun _ => False) w3 (w3.alloc (.cells (ints (zl [x, y])).toArray 3)) := Only.of_below hb4
          have hv4 := ints_new w3 (zl [x, y]) 3 (0, 0)
          have hlt3 := Wr.lt HWS3.out
          have hWT := writeTwo_any (w3.alloc (.cells (ints (zl [x, y])).toArray 3)) B C c gw v3 (l ++ d) low (some ⟨w3.heap.size, 0, none⟩) 2 x y b (HCD3.out.below hb4 HCD3.out.1) (Wr.only HWS3.out hon4 (fun e => e) (fun _ _ e => e)) HOU3.out hv4 (fun a0 ha0 hm0 => by
            injection ha0 with ha0
            subst ha0
            rcases hm0 with e | e
            · simp only at e; omega
            · have := (HWS3.out.2.1.lt _ e).2
              simp only at this
              omega) (by omega) (by omega) hll
          have HWT : Hid (Calls Tryz.prog 46 #[.pointer (some ⟨gw, 0, none⟩), .pointer (some ⟨c, 0, none⟩), .slice (some ⟨w3.heap.size, 0, none⟩) 2 2, .bool b] (w3.alloc (.cells #[.int .i64 (x : Int), .int .i64 (y : Int)] 3)) (WrP (w3.alloc (.cells (ints (zl [x, y])).toArray 3)) gw v3 (l ++ d) (modesF.getD 7 [] ++ (tellF b x ++ tellF (!b) y)) low)) := Lib.hid hWT
          have HB4 := Lib.hid hb4
          have hmx : max ((a : Int) - 1) 0 = (am : Int) := by omega
          have hxi : (a1 : Int) - (am : Int) = (x : Int) := by omega
          have hyi : (a2 : Int) - (a1 : Int) = (y : Int) := by omega
          have hways : (decide (-3 ≤ (a1 : Int) - (b1 : Int)) = false) ∨ (decide (-3 ≤ (a1 : Int) - (b1 : Int)) = true ∧ decide ((a1 : Int) - (b1 : Int) ≤ 3) = false) := by
            by_cases h3 : a1 + 3 < b1
            · left; simp; omega
            · right
              constructor
              · simp; omega
              · simp; omega
          have hbx : x ≤ 32768 := by omega
          have hby : y ≤ 32768 := by omega
          have ham2 : am ≤ 32768 := by omega
          have ha21 : a ≤ a2 + 1 := by omega
          clear HCM hc2 hWT hb4 hon4 hv4 hlt3 hx hy ham
          rcases hways with hw1 | ⟨hw1, hw2⟩
          · go_wp2_with fail
            refine HWT.out.mono ?_
            rintro e w4 ⟨rfl, hws⟩
            have HW4 := Lib.hid (HW3.out.wrote HWS3.out HVO3.out HMI.out hK2 HSZ.out (WrT.more (Only.of_below HB4.out) (fun k hk => .inl hk) hws) ha21)
            clear hws
            go_wp2_with fail
            go_roundw
            case rel => exact ⟨a2 + 1, b, _, by omega, by congr 1; omega, rfl, HW4, HD2⟩
            case measure => simp [intOf]; omega
          · go_wp2_with fail
            refine HWT.out.mono ?_
            rintro e w4 ⟨rfl, hws⟩
            have HW4 := Lib.hid (HW3.out.wrote HWS3.out HVO3.out HMI.out hK2 HSZ.out (WrT.more (Only.of_below HB4.out) (fun k hk => .inl hk) hws) ha21)
            clear hws
            go_wp2_with fail
            go_roundw
            case rel => exact ⟨a2 + 1, b, _, by omega, by congr 1; omega, rfl, HW4, HD2⟩
            case measure => simp [intOf]; omega
    · have hd : decide ((a : Int) - 1 < (n : Int)) = false := by simp; omega
      obtain ⟨v3, hws3, hvo3⟩ := HWr.out.ws
      have HF : Hid (WsT w gw v (l ++ R) low wr) := Lib.hid (by
        have h2 := HD.out
        rw [againstA_end b (by omega), List.append_nil] at h2
        subst h2
        refine ⟨v3, hws3, ?_, fun k hk => ?_⟩
        · have h0 := HWr.out.only
          have hB := HB1.out
          rw [← HG.out] at hB h0
          have hz0 := hB.size
          refine ⟨h0.1.trans hB.os, h0.2.1.trans hB.tape, h0.2.2.1.trans hB.output, Nat.le_trans hz0 h0.2.2.2.1, fun k hk hn => (h0.2.2.2.2 k (by omega) (fun e => ?_)).trans (hB.block k hk)⟩
          rcases e with e | e | e
          · exact hn e
          · omega
          · omega
        · rcases hvo3 k hk with e | e
          · exact .inl e
          · exact .inr (by rw [HG.out]; omega))
      clear hws3 hvo3
      go_wp2_with fail
      go_ret
      exact ⟨rfl, HF.out⟩
end Go.Proofs.YtmbfgejephgojaaGreatDoor.Mh

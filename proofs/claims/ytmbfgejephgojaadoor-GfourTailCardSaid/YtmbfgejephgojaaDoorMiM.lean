
/- The document's ReadRow and ReadAgainst. -/
import Derived.Test.YtmbfgejephgojaaDoorMiI
import Derived.Test.YtmbfgejephgojaaDoorMiG
namespace Go.Proofs.YtmbfgejephgojaaDoor.Mh
open Go.RowKit Go.Proofs.YtmbfgejephgojaaDoor.Oct Go.Proofs.YtmbfgejephgojaaDoor.Bit
open Go.Proofs.YtmbfgejephgojaaDoor.Fx (lookP lookP_le lenA lenA_eq modeZ valR errR lenZ lenZ_nat wordsF rwords_any RowN rread_all rreadm_all RReadP)
open Go.Proofs.YtmbfgejephgojaaDoor.Hf (strs strs_length wordsU wordsU_length)
open Go.Proofs.YtmbfgejephgojaaDoor.Rn (changes nextX nextF nextI zl zl_length nextI_zl Valid rchanges_new rnext_any)
open Go.Proofs.YtmbfgejephgojaaDoor.Lp (VRow ints ints_length)
set_option linter.unusedVariables false
set_option linter.unusedSimpArgs false
set_option maxRecDepth 100000

def rowS : Except Nat (List Bool) → List Bool
  | .ok X => X
  | .error _ => []
/-- a row of pixels, read: the row, the place behind it, the error -/
def RRowP (r : Nat × Except Nat (List Bool)) (e : Ending) : Prop := e = .returned (.tuple #[.string (ds (rowS r.2)), .int .i64 ((r.1 : Nat) : Int), .int .i64 (rowE r.2)])
/-- the words of both colours -/
def Two (w : World) (C g : Nat) (q0 q1 : Option Addr) (c0 c1 : Nat) : Prop := C ≤ w.heap.size ∧ g < C ∧ w.cell? ⟨g, 0, none⟩ = some (.slice q0 104 c0) ∧ w.cell? ⟨g, 1, none⟩ = some (.slice q1 104 c1) ∧ Hf.VRow w C q0 (strs (wordsU (wordsF false))) ∧ Hf.VRow w C q1 (strs (wordsU (wordsF true)))
theorem Two.below {w w' : World} {C g : Nat} {q0 q1 : Option Addr} {c0 c1 : Nat} (h : Two w C g q0 q1 c0 c1) (hb : Below C w w') : Two w' C g q0 q1 c0 c1 :=
  ⟨Nat.le_trans h.1 hb.size, h.2.1, (hb.cell (p := ⟨g, 0, none⟩) h.2.1).trans h.2.2.1, (hb.cell (p := ⟨g, 1, none⟩) h.2.1).trans h.2.2.2.1, h.2.2.2.2.1.below hb (Nat.le_refl _), h.2.2.2.2.2.below hb (Nat.le_refl _)⟩
theorem two_new {w1 w2 : World} {q0 q1 : Option Addr} {c0 c1 : Nat} (h0 : Hf.VRow w1 w1.heap.size q0 (strs (wordsU (wordsF false)))) (hb : Below w1.heap.size w1 w2) (h1 : Hf.VRow w2 w2.heap.size q1 (strs (wordsU (wordsF true)))) :
    Two (w2.alloc (.cells #[.slice q0 104 c0, .slice q1 104 c1] 24)) (w2.heap.size + 1) w2.heap.size q0 q1 c0 c1 := by
  have ha : Below w2.heap.size w2 (w2.alloc (.cells #[.slice q0 104 c0, .slice q1 104 c1] 24)) := (Below.refl _ w2).alloc (Nat.le_refl _) _
  exact ⟨by simp, by omega, by simp, by simp, ((h0.below hb (Nat.le_refl _)).mono hb.size |>.below ha (Nat.le_refl _)).mono (by omega), (h1.below ha (Nat.le_refl _)).mono (by omega)⟩
end Go.Proofs.YtmbfgejephgojaaDoor.Mh
/- The document's ReadAgainst. -/
namespace Go.Proofs.YtmbfgejephgojaaDoor.Mh
open Go.RowKit Go.Proofs.YtmbfgejephgojaaDoor.Oct Go.Proofs.YtmbfgejephgojaaDoor.Bit
open Go.Proofs.YtmbfgejephgojaaDoor.Fx (lookP lookP_le lenA lenA_eq modeZ valR errR lenZ lenZ_nat wordsF rwords_any RowN rread_all rreadm_all RReadP)
open Go.Proofs.YtmbfgejephgojaaDoor.Hf (strs strs_length wordsU wordsU_length)
open Go.Proofs.YtmbfgejephgojaaDoor.Rn (changes nextX nextF nextI zl zl_length nextI_zl Valid rchanges_new rnext_any)
open Go.Proofs.YtmbfgejephgojaaDoor.Lp (VRow ints ints_length)
set_option linter.unusedVariables false
set_option linter.unusedSimpArgs false
set_option maxRecDepth 100000

theorem twoA_inv {L : List Bool} {n t : Nat} {P : List Bool} {b : Bool} {s : Nat × List Bool × Bool} (hP : P.length ≤ n) (ht : t ≤ L.length) (h : (twoA L n t P b).2 = .ok s) : s.2.1.length = s.1 - 1 ∧ s.1 ≤ n + 1 ∧ s.2.2 = b ∧ 1 ≤ s.1 := by
  have h1 := lenA_lt b (L := L) (most := n - P.length) (n := 0) ht
  unfold twoA at h
  rcases hy : lenA b L (n - P.length) t 0 with ⟨t1, e | m⟩
  · rw [hy] at h; cases h
  · rw [hy] at h h1
    simp only at h h1
    have hm := (h1.2.2 m rfl).2
    have h2 := lenA_lt (!b) (L := L) (most := n - (P.length + m)) (n := 0) h1.1
    rcases hz : lenA (!b) L (n - (P.length + m)) t1 0 with ⟨t2, e | k⟩
    · rw [hz] at h; cases h
    · rw [hz] at h h2
      simp only at h h2
      have hk := (h2.2.2 k rfl).2
      injection h with h
      subst h
      refine ⟨?_, ?_, rfl, ?_⟩
      · simp only [List.length_append, List.length_replicate]; omega
      · simp only; omega
      · simp only; omega
theorem stepA_inv {L : List Bool} {top : List Nat} {n t a : Nat} {P : List Bool} {b : Bool} {s : Nat × List Bool × Bool} (hP : P.length = a - 1) (ha : a ≤ n) (h1 : 1 ≤ n) (hv : Valid top n) (ht : t ≤ L.length) (h : (stepA L top n t a P b).2 = .ok s) : s.2.1.length = s.1 - 1 ∧ s.1 ≤ n + 1 := by
  have hge := nextF_ge n top (!b) a ha hv.2
  have hle := nextF_le n top (!b) a hv
  have hml := modeZ_le ht
  have hmo := fun i hi => modeZ_ok (L := L) (t := t) (i := i) hi
  have hdef : nx n top b a = nextF n top (!b) a := rfl
  unfold stepA at h
  rw [hdef] at h
  generalize nextF n top (!b) a = nn at *
  obtain ⟨n1, n2⟩ := nn
  rcases hy : modeZ L t with ⟨t1, e | i⟩
  · rw [hy] at h; cases h
  · rw [hy] at h hml hmo
    simp only at h hml hmo hge hle
    split at h
    · injection h with h
      subst h
      refine ⟨?_, by simp only; omega⟩
      simp only [List.length_append, List.length_replicate]; omega
    · split at h
      · have h4 := twoA_inv (by omega) hml.1 h
        exact ⟨h4.1, h4.2.1⟩
      · split at h
        · rename_i hc
          injection h with h
          subst h
          refine ⟨?_, by simp only; omega⟩
          simp only [List.length_append, List.length_replicate]; omega
        · cases h
/-- a row that is read is as wide as it should be -/
theorem readGA_len {L : List Bool} {top : List Nat} {n : Nat} {X : List Bool} (h1 : 1 ≤ n) (hv : Valid top n) : ∀ (f t a : Nat) (P : List Bool) (b : Bool), L.length + 2 ≤ f + t → t ≤ L.length → P.length = a - 1 → a ≤ n + 1 → (readGA L top n t a P b).2 = .ok X → X.length = n
  | 0, t, a, P, b, hf, ht, hP, ha, h => by omega
  | f + 1, t, a, P, b, hf, ht, hP, ha, h => by
    by_cases hn : a ≤ n
    · rw [readGA_step L top n t a P b ht hn] at h
      have hsl := stepA_le (L := L) (top := top) (n := n) (t := t) (a := a) (P := P) (b := b) ht
      have hin := fun s hs => stepA_inv (L := L) (top := top) (n := n) (t := t) (a := a) (P := P) (b := b) (s := s) hP hn h1 hv ht hs
      rcases hy : stepA L top n t a P b with ⟨t1, e | s⟩
      · rw [hy] at h; cases h
      · rw [hy] at h hsl hin
        simp only at h hsl hin
        have h4 := hin s rfl
        exact readGA_len h1 hv f t1 s.1 s.2.1 s.2.2 (by have := hsl.2.2 s rfl; omega) hsl.1 h4.1 h4.2 h
    · rw [readGA_eq L top n t a P b ht, if_pos (by omega)] at h
      injection h with h
      subst h
      omega
/-- behind so many of the two lengths -/
def innerA (L : List Bool) (n i t : Nat) (P : List Bool) (b : Bool) : Nat × Except Nat (Nat × List Bool × Bool) := match i with
  | 0 => twoA L n t P b
  | 1 => oneA L n t P b
  | _ => (t, .ok (P.length + 1, P, b))
theorem innerA_next (L : List Bool) (n i t : Nat) (P : List Bool) (b : Bool) (hi : i < 2) : innerA L n i t P b = match (lenA b L (n - P.length) t 0).2 with
    | .error e => ((lenA b L (n - P.length) t 0).1, .error e)
    | .ok m => innerA L n (i + 1) (lenA b L (n - P.length) t 0).1 (P ++ List.replicate m b) (!b) := by
  rcases (show i = 0 ∨ i = 1 by omega) with rfl | rfl
  · show twoA L n t P b = _
    rw [twoA_one]
    unfold oneA
    rcases hy : (lenA b L (n - P.length) t 0).2 with e | m
    · rfl
    · rfl
  · show oneA L n t P b = _
    unfold oneA
    rcases hy : (lenA b L (n - P.length) t 0).2 with e | m
    · rfl
    · simp only [innerA, List.length_append, List.length_replicate]
set_option maxHeartbeats 16000000 in
theorem rreadAgainst_any (l Y : List Bool) (a0 n : Nat) (w : World) (ha0 : a0 ≤ l.length) (hl : l.length ≤ 100000) (hY : Y.length = n) (h1 : 1 ≤ n) (hn : n ≤ 1000) :
    Calls Tryd.prog 29 #[.string (ds l), .int .i64 (a0 : Int), .string (ds Y)] w fun e w' => RRowP (readGA l (changes Y) n a0 0 [] false) e ∧ Below w.heap.size w w' := by
  have hszY := (ds_size Y).trans hY
  have hv2 : Valid (changes Y) n := by rw [← hY]; exact Rn.changes_valid Y
  have HV2 := Lib.hid hv2
  have HC2 := Lib.hid (fun w9 => rchanges_new Y w9 (by omega))
  have hcl2 : (zl (changes Y)).length ≤ 1000 := by rw [zl_length]; have := Rn.chg_len Y false 0; unfold changes; omega
  obtain ⟨r, hr⟩ : ∃ r, r = readGA l (changes Y) n a0 0 [] false := ⟨_, rfl⟩
  rw [← hr]
  have HRES := Lib.hid hr.symm
  generalize changes Y = top at *
  generalize ds Y = SY at *
  clear hr hY hv2
  go_enter Tryd.func29, Tryd.ntmps29
  go_wp2_with fail
  refine (HC2.out _).mono ?_
  rintro e w0 ⟨hb0, q2, c2, rfl, hr2, _, _, _, _⟩
  have HB0 := Lib.hid hb0
  have HR2 := Lib.hid hr2
  obtain ⟨m2, hm2⟩ : ∃ m2, m2 = (zl top).length := ⟨_, rfl⟩
  rw [← hm2] at hcl2 ⊢
  have HM2 := Lib.hid hm2.symm
  clear hb0 hr2 hm2 HC2
  go_wp2_with fail
  refine (rwords_any false w0).mono ?_
  rintro e w1 ⟨hb1, q0, c0, rfl, hv0⟩
  have HV0 := Lib.hid hv0.1
  have HB1 := Lib.hid (HB0.out.trans (hb1.mono HB0.out.size))
  have HR21 := Lib.hid ((HR2.out.below hb1 (Nat.le_refl _)).mono hb1.size)
  rw [strs_length, wordsU_length, Fx.wordsF_length]
  clear hb1 hv0 HR2 HB0
  go_wp2_with fail
  refine (rwords_any true w1).mono ?_
  rintro e w2 ⟨hb2, q1, c1, rfl, hv1⟩
  rw [strs_length, wordsU_length, Fx.wordsF_length]
  have HTW := Lib.hid (two_new (c0 := c0) (c1 := c1) HV0.out hb2 hv1.1)
  have hb3 : Below w2.heap.size w2 (w2.alloc (.cells #[.slice q0 104 c0, .slice q1 104 c1] 24)) := (Below.refl _ w2).alloc (Nat.le_refl _) _
  have hz3 : (w2.alloc (.cells #[.slice q0 104 c0, .slice q1 104 c1] 24)).heap.size = w2.heap.size + 1 := by simp
  have HR23 := Lib.hid ((((HR21.out.below hb2 (Nat.le_refl _)).mono hb2.size).below hb3 (Nat.le_refl _)).mono (show w2.heap.size ≤ w2.heap.size + 1 by omega))
  have HB3 : Hid (Below w.heap.size w (w2.alloc (.cells #[.slice q0 104 c0, .slice q1 104 c1] 24))) := Lib.hid ((HB1.out.trans (hb2.mono HB1.out.size)).trans (hb3.mono (Nat.le_trans HB1.out.size hb2.size)))
  have HZ3 : Hid (w.heap.size ≤ w2.heap.size + 1) := Lib.hid (by have := HB3.out.size; omega)
  clear hb2 hv1 HV0 HB1 hb3 hz3 HR21
  go_wp2_with fail
  generalize hw3 : w2.alloc (.cells #[.slice q0 104 c0, .slice q1 104 c1] 24) = w3 at *
  generalize hg : w2.heap.size = g at *
  clear hw3 hg
  go_loopw [1, 12, 13, 14, 15, 16, 17, 18, 19, 20, 21, 22, 23, 24, 25] (fun sfr sp sb sat _ _ _ _ _ _ _ _ _ _ _ wr => ∃ (t a : Nat) (P : List Bool) (b : Bool), t ≤ l.length ∧ sfr = .int .i64 (t : Int) ∧ sp = .string (ds P) ∧ sb = .bool b ∧ sat = .int .i64 ((a : Int) - 1) ∧ P.length = a - 1 ∧ a ≤ n + 1 ∧ Hid (readGA l top n t a P b = r) ∧ Hid (Below (g + 1) w3 wr)) (fun sfr _ _ _ _ _ _ _ _ _ _ _ _ _ _ _ => l.length - (intOf sfr).toNat)
  case atStart => exact ⟨a0, 0, [], false, ha0, rfl, rfl, rfl, rfl, rfl, by omega, HRES, Lib.hid (Below.refl _ _)⟩
  case round =>
    obtain ⟨t, a, P, b, ht, rfl, rfl, rfl, rfl, hP, han, HE, HBr⟩ := hrel
    have HPA := Lib.hid hP
    obtain ⟨pl, hpl⟩ : ∃ pl, pl = P.length := ⟨_, rfl⟩
    have HPL := Lib.hid hpl
    have hsz := (ds_size P).trans hpl.symm
    have hpa : pl + 1 ≤ n + 1 := by omega
    clear hP hpl
    by_cases ha : a ≤ n
    · have hd : decide ((a : Int) - 1 < (n : Int)) = true := by simp; omega
      have HQ := Lib.hid (readGA_step l top n t a P b ht ha)
      have HSL := Lib.hid (stepA_le (L := l) (top := top) (n := n) (t := t) (a := a) (P := P) (b := b) ht)
      have HSI := Lib.hid (fun s hs => stepA_inv (L := l) (top := top) (n := n) (t := t) (a := a) (P := P) (b := b) (s := s) HPA.out ha h1 HV2.out ht hs)
      have HRM := Lib.hid (rreadm_all l t wr ht hl)
      have HNE := Lib.hid (fun e h => modeZ_ne (L := l) (t := t) (e := e) h)
      have HMI := Lib.hid (fun i h => modeZ_ok (L := l) (t := t) (i := i) h)
      have HML := Lib.hid (modeZ_le (L := l) (t := t) ht)
      have g2 := nextF_ge n top (!b) a ha HV2.out.2
      have g4 := nextF_le n top (!b) a HV2.out
      have HN2 := Lib.hid (fun w9 (hb : Below (g + 1) w3 w9) => rnext_any q2 m2 c2 (zl top) ((a : Int) - 1) (!b) n w9 _ (HR23.out.below hb (Nat.le_refl _)) HM2.out (by omega))
      rw [nextI_zl] at HN2
      have e2 : nx n top b a = nextF n top (!b) a := rfl
      have e4 : nextX n top (!b) a = nextF n top (!b) a := rfl
      rw [e4] at HN2
      have hst : ∃ x, stepA l top n t a P b = x := ⟨_, rfl⟩
      obtain ⟨st, hst⟩ := hst
      rw [hst] at HQ HSL HSI
      unfold stepA at hst
      rw [e2] at hst
      clear e2 e4
      generalize nextF n top (!b) a = nn at *
      obtain ⟨n1, n2⟩ := nn
      simp only at HN2 g2 g4
      rcases hm : modeZ l t with ⟨t1, x⟩
      rw [hm] at HRM HNE HMI HML hst
      simp only at HNE HMI HML hst
      have HST := Lib.hid hst
      clear hst hm
      go_wp2_with fail
      refine HRM.out.mono ?_
      rintro e w4 ⟨he, hb4⟩
      unfold RReadP at he
      subst he
      have HB4 := Lib.hid (HBr.out.trans (hb4.mono (Nat.le_trans HTW.out.1 HBr.out.size)))
      clear hb4 HRM
      rcases x with ce | i
      · have hce := HNE.out ce rfl
        simp only [valR, errR]
        have HQ2 : Hid (r = (t1, .error ce)) := Lib.hid (by
          have h2 := HQ.out
          rw [HE.out, ← HST.out] at h2
          exact h2)
        have HBF := Lib.hid (HB3.out.trans (HB4.out.mono HZ3.out))
        go_wp2_with fail
        go_ret3
        exact ⟨by unfold RRowP; rw [HQ2.out]; rfl, HBF.out⟩
      · have hi9 := HMI.out i rfl
        have htl1 := HML.out.1
        have hlt1 := HML.out.2.2 i rfl
        simp only [valR, errR]
        generalize hz : (i : Int) - 3 = z
        have HZ := Lib.hid hz
        clear hz
        go_wp2_with fail
        refine (HN2.out w4 HB4.out).mono ?_
        rintro e w5 ⟨rfl, hd5⟩
        have HB5 := Lib.hid (HB4.out.trans ((hd5.below (g + 1))))
        clear hd5 HN2
        by_cases h8 : i = 8
        · have hz5 : z = 5 := by have := HZ.out; omega
          have hs2 : st = (t1, .ok (n2 + 1, P ++ List.replicate (n2 - P.length) b, b)) := by
            have h2 := HST.out
            rw [if_pos h8] at h2
            exact h2.symm
          have HE2 : Hid (readGA l top n t1 (n2 + 1) (P ++ List.replicate (n2 - P.length) b) b = r) := Lib.hid (by
            have h2 := HQ.out
            rw [HE.out, hs2] at h2
            exact h2.symm)
          have HSI2 := Lib.hid (HSI.out _ (by rw [hs2]))
          obtain ⟨m, hmm⟩ : ∃ m, m = n2 - P.length := ⟨_, rfl⟩
          rw [← hmm] at HE2 HSI2
          have hmz : (n2 : Int) - (pl : Int) = (m : Int) := by have := HPL.out; have := HPA.out; omega
          have hm3 : m ≤ 1000 := by omega
          have HRN := Lib.hid (rrun_any m b w5 (by omega))
          have HAP := Lib.hid (ds_append P (List.replicate m b))
          have hrs := (ds_size (List.replicate m b)).trans (by rw [List.length_replicate])
          generalize ds (List.replicate m b) = T at *
          generalize hS : ds P = S at *
          subst hz5
          clear h8 hs2 hmm hS
          go_wp2_with fail
          refine HRN.out.mono ?_
          rintro e w6 ⟨rfl, rfl⟩
          go_wp2_with fail
          go_roundw
          case rel => exact ⟨t1, n2 + 1, _, b, htl1, rfl, by rw [← HAP.out], rfl, by congr 1; omega, HSI2.out.1, HSI2.out.2, HE2, HB5⟩
          case measure => simp [intOf]; omega
        · by_cases h7 : i = 7
          · have hz4 : z = 4 := by have := HZ.out; omega
            have HS2 : Hid (st = twoA l n t1 P b) := Lib.hid (by
              have h2 := HST.out
              rw [if_neg h8, if_pos h7] at h2
              exact h2.symm)
            subst hz4
            clear h7 h8
            have HTWr := Lib.hid (HTW.out.below HB5.out)
            have k0 := HTWr.out.2.2.1
            have k1 := HTWr.out.2.2.2.1
            have HVa := Lib.hid (HTWr.out.2.2.2.2.1.mono HTWr.out.1)
            have HVb := Lib.hid (HTWr.out.2.2.2.2.2.mono HTWr.out.1)
            have hPn : P.length ≤ n := by have := HPA.out; omega
            clear HBr HB4 hsz
            go_wp2_with fail
            go_loop [1, 12, 13, 20, 21, 22, 23, 24] (fun sfr sp sb si _ _ _ _ => ∃ (t2 i2 : Nat) (Q : List Bool) (c : Bool), t2 ≤ l.length ∧ t < t2 ∧ i2 ≤ 2 ∧ sfr = .int .i64 (t2 : Int) ∧ sp = .string (ds Q) ∧ sb = .bool c ∧ si = .int .i64 (i2 : Int) ∧ Q.length ≤ n ∧ Hid (st = innerA l n i2 t2 Q c)) (fun _ _ _ si _ _ _ _ => 2 - (intOf si).toNat)
            case atStart => exact ⟨t1, 0, P, b, htl1, hlt1, by omega, rfl, rfl, rfl, rfl, hPn, HS2⟩
            case round =>
              obtain ⟨t2, i2, Q, c, ht2, htt, hi2, rfl, rfl, rfl, rfl, hQ, HI⟩ := hrel
              have hsz2 := ds_size Q
              by_cases hlt : i2 < 2
              · have hd2 : decide ((i2 : Int) < 2) = true := by simp; omega
                have HIN := Lib.hid (innerA_next l n i2 t2 Q c hlt)
                have HLE := Lib.hid (lenA_lt c (L := l) (most := n - Q.length) (n := 0) ht2)
                have HN3 := Lib.hid (fun e h => lenA_ne (b := c) (L := l) (most := n - Q.length) (n := 0) (e := e) ht2 h)
                obtain ⟨mo, hmo⟩ : ∃ mo, mo = n - Q.length := ⟨_, rfl⟩
                have HMO := Lib.hid hmo
                rw [← hmo] at HIN HLE HN3
                have hsub : (n : Int) - (Q.length : Int) = (mo : Int) := by omega
                have HAP := Lib.hid (fun m => ds_append Q (List.replicate m c))
                have HPL2 := Lib.hid (fun m => show (Q ++ List.replicate m c).length = Q.length + m from by rw [List.length_append, List.length_replicate])
                have HSZ := Lib.hid (fun m : Nat => (ds_size (List.replicate m c)).trans (by rw [List.length_replicate]))
                generalize hS : ds Q = S at *
                clear hmo hS
                rcases c with _ | _
                · have HRD := Lib.hid (rread_all q0 c0 false l t2 (mo : Int) w5 HVa.out ht2 hl)
                  rw [lenZ_nat] at HRD
                  generalize lenA false l mo t2 0 = lr at *
                  obtain ⟨t3, x⟩ := lr
                  go_wp2_with fail
                  refine HRD.out.mono ?_
                  rintro e w6 ⟨he, rfl⟩
                  unfold RReadP at he
                  subst he
                  have hin := HIN.out
                  rw [← HI.out] at hin
                  rcases x with ce | m
                  · have hce := HN3.out ce rfl
                    simp only [valR, errR]
                    have HQ2 : Hid (r = (t3, .error ce)) := Lib.hid (by
                      have h2 := HQ.out
                      rw [HE.out, hin] at h2
                      exact h2)
                    have HBF := Lib.hid (HB3.out.trans (HB5.out.mono HZ3.out))
                    clear hin
                    go_wp2_with fail
                    go_ret3
                    exact ⟨by unfold RRowP; rw [HQ2.out]; rfl, HBF.out⟩
                  · have hm := (HLE.out.2.2 m rfl)
                    have htl := HLE.out.1
                    simp only at hm htl hin
                    have hmo2 := HMO.out
                    have hm3 : m ≤ 1000 := by omega
                    simp only [valR, errR, Int.sub_zero]
                    have HRN := Lib.hid (rrun_any m false w5 (by omega))
                    have hap := Lib.hid (HAP.out m)
                    have hrs := HSZ.out m
                    have hpl2 := Lib.hid (HPL2.out m)
                    generalize hT : ds (List.replicate m false) = T at *
                    have HI2 := Lib.hid hin
                    have hpq : Q.length + m ≤ n := by omega
                    clear hT hin
                    go_wp2_with fail
                    refine HRN.out.mono ?_
                    rintro e w6 ⟨rfl, rfl⟩
                    go_wp2_with fail
                    go_round
                    case rel => exact ⟨t3, i2 + 1, Q ++ List.replicate m false, !false, htl, by omega, by omega, rfl, by rw [← hap.out], rfl, by go_num, by rw [hpl2.out]; omega, HI2⟩
                    case measure => simp [intOf]; omega
                · have HRD := Lib.hid (rread_all q1 c1 true l t2 (mo : Int) w5 HVb.out ht2 hl)
                  rw [lenZ_nat] at HRD
                  generalize lenA true l mo t2 0 = lr at *
                  obtain ⟨t3, x⟩ := lr
                  go_wp2_with fail
                  refine HRD.out.mono ?_
                  rintro e w6 ⟨he, rfl⟩
                  unfold RReadP at he
                  subst he
                  have hin := HIN.out
                  rw [← HI.out] at hin
                  rcases x with ce | m
                  · have hce := HN3.out ce rfl
                    simp only [valR, errR]
                    have HQ2 : Hid (r = (t3, .error ce)) := Lib.hid (by
                      have h2 := HQ.out
                      rw [HE.out, hin] at h2
                      exact h2)
                    have HBF := Lib.hid (HB3.out.trans (HB5.out.mono HZ3.out))
                    clear hin
                    go_wp2_with fail
                    go_ret3
                    exact ⟨by unfold RRowP; rw [HQ2.out]; rfl, HBF.out⟩
                  · have hm := (HLE.out.2.2 m rfl)
                    have htl := HLE.out.1
                    simp only at hm htl hin
                    have hmo2 := HMO.out
                    have hm3 : m ≤ 1000 := by omega
                    simp only [valR, errR, Int.sub_zero]
                    have HRN := Lib.hid (rrun_any m true w5 (by omega))
                    have hap := Lib.hid (HAP.out m)
                    have hrs := HSZ.out m
                    have hpl2 := Lib.hid (HPL2.out m)
                    generalize hT : ds (List.replicate m true) = T at *
                    have HI2 := Lib.hid hin
                    have hpq : Q.length + m ≤ n := by omega
                    clear hT hin
                    go_wp2_with fail
                    refine HRN.out.mono ?_
                    rintro e w6 ⟨rfl, rfl⟩
                    go_wp2_with fail
                    go_round
                    case rel => exact ⟨t3, i2 + 1, Q ++ List.replicate m true, !true, htl, by omega, by omega, rfl, by rw [← hap.out], rfl, by go_num, by rw [hpl2.out]; omega, HI2⟩
                    case measure => simp [intOf]; omega
              · have hie : i2 = 2 := by omega
                subst hie
                have hd2 : decide (((2 : Nat) : Int) < 2) = false := by simp
                have hs2 : st = (t2, .ok (Q.length + 1, Q, c)) := HI.out
                have HE2 : Hid (readGA l top n t2 (Q.length + 1) Q c = r) := Lib.hid (by
                  have h2 := HQ.out
                  rw [HE.out, hs2] at h2
                  exact h2.symm)
                generalize hS : ds Q = S at *
                have HS := Lib.hid hS
                clear hs2 hS
                go_wp2_with fail
                go_roundw
                case rel => exact ⟨t2, Q.length + 1, Q, c, ht2, rfl, by rw [HS.out], rfl, by congr 1; omega, by omega, by omega, HE2, HB5⟩
                case measure => simp [intOf]; omega
          · have d5 : (z == 5) = false := by have := HZ.out; simp; omega
            have d4 : (z == 4) = false := by have := HZ.out; simp; omega
            have hz0 : z = (i : Int) - 3 := HZ.out.symm
            have hi3 : -3 ≤ z ∧ z ≤ 3 := by omega
            by_cases hc : a + 3 ≤ n1 + i ∧ n1 + i ≤ n + 3
            · obtain ⟨y, hy⟩ : ∃ y, y = n1 + i - 3 := ⟨_, rfl⟩
              have hs2 : st = (t1, .ok (y + 1, P ++ List.replicate (y - P.length) b, !b)) := by
                have h2 := HST.out
                rw [if_neg h8, if_neg h7, if_pos hc, ← hy] at h2
                exact h2.symm
              have HE2 : Hid (readGA l top n t1 (y + 1) (P ++ List.replicate (y - P.length) b) (!b) = r) := Lib.hid (by
                have h2 := HQ.out
                rw [HE.out, hs2] at h2
                exact h2.symm)
              have HSI2 := Lib.hid (HSI.out _ (by rw [hs2]))
              have hxy : (n1 : Int) + z = (y : Int) := by omega
              have hya : a ≤ y ∧ y ≤ n := by omega
              have q1 : decide ((y : Int) ≤ (a : Int) - 1) = false := by simp; omega
              have q2 : decide ((y : Int) < 0) = false := by simp
              have q3 : decide ((n : Int) < (y : Int)) = false := by simp; omega
              obtain ⟨m, hmm⟩ : ∃ m, m = y - P.length := ⟨_, rfl⟩
              rw [← hmm] at HE2 HSI2
              have hmz : (y : Int) - (pl : Int) = (m : Int) := by have := HPL.out; have := HPA.out; omega
              have hm3 : m ≤ 1000 := by omega
              have HRN := Lib.hid (rrun_any m b w5 (by omega))
              have HAP := Lib.hid (ds_append P (List.replicate m b))
              have hrs := (ds_size (List.replicate m b)).trans (by rw [List.length_replicate])
              generalize ds (List.replicate m b) = T at *
              generalize hS : ds P = S at *
              clear h7 h8 hs2 hmm hS hy hc hz0
              go_wp2_with fail
              refine HRN.out.mono ?_
              rintro e w6 ⟨rfl, rfl⟩
              go_wp2_with fail
              go_roundw
              case rel => exact ⟨t1, y + 1, _, !b, htl1, rfl, by rw [← HAP.out], rfl, by congr 1; omega, HSI2.out.1, HSI2.out.2, HE2, HB5⟩
              case measure => simp [intOf]; omega
            · have HQ2 : Hid (r = (t1, .error 3)) := Lib.hid (by
                have h2 := HST.out
                rw [if_neg h8, if_neg h7, if_neg hc] at h2
                have h3 := HQ.out
                rw [HE.out, ← h2] at h3
                exact h3)
              have HBF := Lib.hid (HB3.out.trans (HB5.out.mono HZ3.out))
              have hways : decide ((n1 : Int) + z ≤ (a : Int) - 1) = true ∨ (decide ((n1 : Int) + z ≤ (a : Int) - 1) = false ∧ decide ((n1 : Int) + z < 0) = false ∧ decide ((n : Int) < (n1 : Int) + z) = true) := by
                by_cases h3 : (n1 : Int) + z ≤ (a : Int) - 1
                · left; simpa using h3
                · right
                  refine ⟨by simpa using h3, ?_, ?_⟩
                  · simp; omega
                  · simp; omega
              clear h7 h8 hc hz0
              rcases hways with q1 | ⟨q1, q2, q3⟩
              · go_wp2_with fail
                go_ret3
                exact ⟨by unfold RRowP; rw [HQ2.out]; rfl, HBF.out⟩
              · go_wp2_with fail
                go_ret3
                exact ⟨by unfold RRowP; rw [HQ2.out]; rfl, HBF.out⟩
    · have hd : decide ((a : Int) - 1 < (n : Int)) = false := by simp; omega
      have HQ2 : Hid (r = (t, .ok P)) := Lib.hid (by
        have h2 := readGA_eq l top n t a P b ht
        rw [if_pos (by omega), HE.out] at h2
        exact h2)
      have HBF := Lib.hid (HB3.out.trans (HBr.out.mono HZ3.out))
      generalize hS : ds P = S at *
      have HS := Lib.hid hS
      clear hS
      go_wp2_with fail
      go_ret3
      exact ⟨by unfold RRowP; rw [HQ2.out]; simp only [rowS, rowE]; rw [HS.out]; rfl, HBF.out⟩
end Go.Proofs.YtmbfgejephgojaaDoor.Mh

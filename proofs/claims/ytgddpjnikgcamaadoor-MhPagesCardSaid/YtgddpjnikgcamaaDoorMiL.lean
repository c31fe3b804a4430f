
/- The document's ReadRow and ReadAgainst. -/
import Derived.Test.YtgddpjnikgcamaaDoorMiI
import Derived.Test.YtgddpjnikgcamaaDoorMiG
namespace Go.Proofs.YtgddpjnikgcamaaDoor.Mh
open Go.RowKit Go.Proofs.YtgddpjnikgcamaaDoor.Oct Go.Proofs.YtgddpjnikgcamaaDoor.Bit
open Go.Proofs.YtgddpjnikgcamaaDoor.Fx (lookP lookP_le lenA lenA_eq modeZ valR errR lenZ lenZ_nat wordsF rwords_any RowN rread_all rreadm_all RReadP)
open Go.Proofs.YtgddpjnikgcamaaDoor.Hf (strs strs_length wordsU wordsU_length)
open Go.Proofs.YtgddpjnikgcamaaDoor.Rn (changes nextX nextF nextI zl zl_length nextI_zl Valid rchanges_new rnext_any)
open Go.Proofs.YtgddpjnikgcamaaDoor.Lp (VRow ints ints_length)
set_option linter.unusedVariables false
set_option linter.unusedSimpArgs false
set_option maxRecDepth 100000

def rowS : Except Nat (List Bool) → List Bool
  | .ok X => X
  | .error _ => []
/-- a row of pixels, read: the row, the place behind it, the error -/
def RRowP (r : Nat × Except Nat (List Bool)) (e : Ending) : Prop := e = .returned (.tuple #[.string (ds (rowS r.2)), .int .i64 ((r.1 : Nat) : Int), .int .i64 (rowE r.2)])
/-- the words of both colours -/
def Two (w : World) (C g : Nat) (q0 q1 : Option Addr) (c0 c1 : Nat) : Prop := C ≤ w.heap.size ∧ g < C ∧ w.cell? ⟨g, 0, none⟩ = some (.slice q0 104 c0) ∧ w.cell? ⟨g, 1, none⟩ = some (.slice q1 104 c1) ∧ Hf.VRow w C q0 (strs (wordsU (wordsF false))) ∧ Hf.VRow w C q1 (strs (wordsU (wordsF true)))
theorem Two.below {w w' : World} {C g : Nat} {q0 q1 : Option Addr} {c0 c1 : Nat} (h : Two w C g q0 q1 c0 c1) (hb : Below C w w') : Two w' C g q0 q1 c0 c1 :=
  ⟨Nat.le_trans h.1 hb.size, h.2.1, (hb.cell (p := ⟨g, 0, none⟩) h.2.1).trans h.2.2.1, (hb.cell (p := ⟨g, 1, none⟩) h.2.1).trans h.2.2.2.1, h.2.2.2.2.1.below hb (Nat.le_refl _), h.2.2.2.2.2.below hb (Nat.le_refl _)⟩
theorem two_new {w1 w2 : World} {q0 q1 : Option Addr} {c0 c1 : Nat} (h0 : Hf.VRow w1 w1.heap.size q0 (strs (wordsU (wordsF false)))) (hb : Below w1.heap.size w1 w2) (h1 : Hf.VRow w2 w2.heap.size q1 (strs (wordsU (wordsF true)))) :
    Two (w2.alloc (.cells #[.slice q0 104 c0, .slice q1 104 c1] 56)) (w2.heap.size + 1) w2.heap.size q0 q1 c0 c1 := by
  have ha : Below w2.heap.size w2 (w2.alloc (.cells #[.slice q0 104 c0, .slice q1 104 c1] 56)) := (Below.refl _ w2).alloc (Nat.le_refl _) _
  exact ⟨by simp, by omega, by simp, by simp, ((h0.below hb (Nat.le_refl _)).mono hb.size |>.below ha (Nat.le_refl _)).mono (by omega), (h1.below ha (Nat.le_refl _)).mono (by omega)⟩
set_option maxHeartbeats 8000000 in
theorem rreadRow_any (l : List Bool) (a n : Nat) (w : World) (ha : a ≤ l.length) (hl : l.length ≤ 100000) (h1 : 1 ≤ n) (hn : n ≤ 32768) :
    Calls Tryd.prog 23 #[.string (ds l), .int .i64 (a : Int), .int .i64 (n : Int)] w fun e w' => RRowP (readRowA l n a [] false) e ∧ Below w.heap.size w w' := by
  obtain ⟨r, hr⟩ : ∃ r, r = readRowA l n a [] false := ⟨_, rfl⟩
  rw [← hr]
  have HRES := Lib.hid hr.symm
  clear hr
  go_enter Tryd.func23, Tryd.ntmps23
  go_wp2_with fail
  refine (rwords_any false w).mono ?_
  rintro e w1 ⟨hb1, q0, c0, rfl, hv0⟩
  have HV0 := Lib.hid hv0.1
  have HB1 := Lib.hid hb1
  rw [strs_length, wordsU_length, Fx.wordsF_length]
  clear hb1 hv0
  go_wp2_with fail
  refine (rwords_any true w1).mono ?_
  rintro e w2 ⟨hb2, q1, c1, rfl, hv1⟩
  rw [strs_length, wordsU_length, Fx.wordsF_length]
  have HTW := Lib.hid (two_new (c0 := c0) (c1 := c1) HV0.out hb2 hv1.1)
  have HB3 : Hid (Below w.heap.size w (w2.alloc (.cells #[.slice q0 104 c0, .slice q1 104 c1] 56))) := Lib.hid ((HB1.out.trans (hb2.mono HB1.out.size)).trans (((Below.refl _ w2).alloc (Nat.le_refl _) _).mono (Nat.le_trans HB1.out.size hb2.size)))
  clear hb2 hv1 HV0 HB1
  go_wp2_with fail
  generalize hw3 : w2.alloc (.cells #[.slice q0 104 c0, .slice q1 104 c1] 56) = w3 at *
  generalize hg : w2.heap.size = g at *
  obtain ⟨tz, tg, cl0, cl1, tv0, tv1⟩ := HTW.out
  have HV0 := Lib.hid (tv0.mono tz)
  have HV1 := Lib.hid (tv1.mono tz)
  clear hw3 hg tz tg tv0 tv1
  go_loop [1, 9, 10, 12, 13, 14, 15] (fun sat sp sb _ _ _ _ => ∃ (t : Nat) (P : List Bool) (b : Bool), t ≤ l.length ∧ sat = .int .i64 (t : Int) ∧ sp = .string (ds P) ∧ sb = .bool b ∧ P.length < n ∧ Hid (readRowA l n t P b = r)) (fun sat _ _ _ _ _ _ => l.length - (intOf sat).toNat)
  case atStart => exact ⟨a, [], false, ha, rfl, rfl, rfl, h1, HRES⟩
  case round =>
    obtain ⟨t, P, b, ht, rfl, rfl, rfl, hP, HE⟩ := hrel
    have hsz := ds_size P
    have HQ := Lib.hid (readRowA_eq l n t P b ht)
    have HLE := Lib.hid (lenA_lt b (L := l) (most := n - P.length) (n := 0) ht)
    have HNE := Lib.hid (fun e h => lenA_ne (b := b) (L := l) (most := n - P.length) (n := 0) (e := e) ht h)
    obtain ⟨mo, hmo⟩ : ∃ mo, mo = n - P.length := ⟨_, rfl⟩
    have HMO := Lib.hid hmo
    rw [← hmo] at HQ HLE HNE
    have hsub : (n : Int) - (P.length : Int) = (mo : Int) := by omega
    have HAP := Lib.hid (fun m => ds_append P (List.replicate m b))
    have HPL := Lib.hid (fun m => show (P ++ List.replicate m b).length = P.length + m from by rw [List.length_append, List.length_replicate])
    have HSZ := Lib.hid (fun m : Nat => (ds_size (List.replicate m b)).trans (by rw [List.length_replicate]))
    generalize hS : ds P = S at *
    clear hmo hS
    rcases b with _ | _
    · have HRD := Lib.hid (rread_all q0 c0 false l t (mo : Int) w3 HV0.out ht hl)
      rw [lenZ_nat] at HRD
      generalize lenA false l mo t 0 = lr at *
      obtain ⟨t1, x⟩ := lr
      go_wp2_with fail
      refine HRD.out.mono ?_
      rintro e w4 ⟨he, rfl⟩
      unfold RReadP at he
      subst he
      have hq := HQ.out
      rw [HE.out] at hq
      rcases x with ce | m
      · have hce := HNE.out ce rfl
        simp only [valR, errR]
        have HQ2 := Lib.hid hq
        clear hq
        go_wp2_with fail
        go_ret3
        exact ⟨by unfold RRowP; rw [HQ2.out]; rfl, HB3.out⟩
      · have hm := (HLE.out.2.2 m rfl)
        have htl := HLE.out.1
        simp only at hm htl hq
        have hmo2 := HMO.out
        have hm3 : m ≤ 32768 := by omega
        simp only [valR, errR, Int.sub_zero]
        have HRN := Lib.hid (rrun_any m false w3 (by omega))
        have hap := Lib.hid (HAP.out m)
        have hrs := HSZ.out m
        have hpl := Lib.hid (HPL.out m)
        generalize hT : ds (List.replicate m false) = T at *
        have hss : (S ++ T).size = S.size + T.size := ByteArray.size_append
        have hpq : P.length + m ≤ n := by omega
        clear hT
        by_cases hc : P.length + m = n
        · rw [if_pos hc] at hq
          have HQ2 := Lib.hid hq
          have hcc : ((S.size : Int) + (T.size : Int) == (n : Int)) = true := by simp; omega
          have hcd : (((P.length + m : Nat) : Int) == (n : Int)) = true := by simp; omega
          clear hq
          go_wp2_with fail
          refine HRN.out.mono ?_
          rintro e w4 ⟨rfl, rfl⟩
          go_wp2_with fail
          go_ret3
          exact ⟨by unfold RRowP; rw [HQ2.out]; simp only [rowS, rowE]; rw [← hap.out]; rfl, HB3.out⟩
        · rw [if_neg hc] at hq
          have HQ2 := Lib.hid hq.symm
          have hcc : ((S.size : Int) + (T.size : Int) == (n : Int)) = false := by simp; omega
          have hcd : (((P.length + m : Nat) : Int) == (n : Int)) = false := by simp; omega
          clear hq
          go_wp2_with fail
          refine HRN.out.mono ?_
          rintro e w4 ⟨rfl, rfl⟩
          go_wp2_with fail
          go_round
          case rel => exact ⟨t1, P ++ List.replicate m false, !false, htl, rfl, by rw [← hap.out], rfl, by rw [hpl.out]; omega, HQ2⟩
          case measure => simp [intOf]; omega
    · have HRD := Lib.hid (rread_all q1 c1 true l t (mo : Int) w3 HV1.out ht hl)
      rw [lenZ_nat] at HRD
      generalize lenA true l mo t 0 = lr at *
      obtain ⟨t1, x⟩ := lr
      go_wp2_with fail
      refine HRD.out.mono ?_
      rintro e w4 ⟨he, rfl⟩
      unfold RReadP at he
      subst he
      have hq := HQ.out
      rw [HE.out] at hq
      rcases x with ce | m
      · have hce := HNE.out ce rfl
        simp only [valR, errR]
        have HQ2 := Lib.hid hq
        clear hq
        go_wp2_with fail
        go_ret3
        exact ⟨by unfold RRowP; rw [HQ2.out]; rfl, HB3.out⟩
      · have hm := (HLE.out.2.2 m rfl)
        have htl := HLE.out.1
        simp only at hm htl hq
        have hmo2 := HMO.out
        have hm3 : m ≤ 32768 := by omega
        simp only [valR, errR, Int.sub_zero]
        have HRN := Lib.hid (rrun_any m true w3 (by omega))
        have hap := Lib.hid (HAP.out m)
        have hrs := HSZ.out m
        have hpl := Lib.hid (HPL.out m)
        generalize hT : ds (List.replicate m true) = T at *
        have hss : (S ++ T).size = S.size + T.size := ByteArray.size_append
        have hpq : P.length + m ≤ n := by omega
        clear hT
        by_cases hc : P.length + m = n
        · rw [if_pos hc] at hq
          have HQ2 := Lib.hid hq
          have hcc : ((S.size : Int) + (T.size : Int) == (n : Int)) = true := by simp; omega
          have hcd : (((P.length + m : Nat) : Int) == (n : Int)) = true := by simp; omega
          clear hq
          go_wp2_with fail
          refine HRN.out.mono ?_
          rintro e w4 ⟨rfl, rfl⟩
          go_wp2_with fail
          go_ret3
          exact ⟨by unfold RRowP; rw [HQ2.out]; simp only [rowS, rowE]; rw [← hap.out]; rfl, HB3.out⟩
        · rw [if_neg hc] at hq
          have HQ2 := Lib.hid hq.symm
          have hcc : ((S.size : Int) + (T.size : Int) == (n : Int)) = false := by simp; omega
          have hcd : (((P.length + m : Nat) : Int) == (n : Int)) = false := by simp; omega
          clear hq
          go_wp2_with fail
          refine HRN.out.mono ?_
          rintro e w4 ⟨rfl, rfl⟩
          go_wp2_with fail
          go_round
          case rel => exact ⟨t1, P ++ List.replicate m true, !true, htl, rfl, by rw [← hap.out], rfl, by rw [hpl.out]; omega, HQ2⟩
          case measure => simp [intOf]; omega
end Go.Proofs.YtgddpjnikgcamaaDoor.Mh

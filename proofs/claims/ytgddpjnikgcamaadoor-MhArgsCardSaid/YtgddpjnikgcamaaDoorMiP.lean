
/- The walk of MhArgs. -/
import Derived.Test.YtgddpjnikgcamaaDoorMiO
import Derived.Deep.DeepCutAuto
namespace Go.Proofs.YtgddpjnikgcamaaDoor.Mh
open Go.RowKit Go.Proofs.YtgddpjnikgcamaaDoor.Oct Go.Proofs.YtgddpjnikgcamaaDoor.Bit
open Go.Proofs.YtgddpjnikgcamaaDoor.Fx (Tab Cd Out OutW WrP CW codes_any TrueT rd_only)
open Go.Proofs.YtgddpjnikgcamaaDoor.Rn (changes zl zl_length Valid rightB rright_any)
open Go.Proofs.YtgddpjnikgcamaaDoor.Lp (VRow ints ints_length IsInts)
set_option linter.unusedVariables false
set_option linter.unusedSimpArgs false
set_option maxRecDepth 100000

set_option maxHeartbeats 16000000 in
theorem args_walk (p : Option Addr) (len cap : Nat) (p2 : Option Addr) (len2 cap2 : Nat) (z : Int) (w : World) (hT : Tab w) (hi1 : IsInts w p len cap) (hi2 : IsInts w p2 len2 cap2) (hz0 : (Lit.int .i64 z).wf = true) :
    Calls Tryd.prog 7 #[.slice p len cap, .slice p2 len2 cap2, .int .i64 z] w fun e w' => e = .returned (.bool true) ∧ Below w.heap.size w w' := by
  obtain ⟨zs, hx, hr, hlc, hcm, hnil⟩ := hi1
  obtain ⟨ys, hy, hr2, hlc2, hcm2, hnil2⟩ := hi2
  have HT := Lib.hid hT
  clear hT hz0 hnil hnil2 hcm hcm2
  by_cases hbad : 60 < len ∨ 60 < len2
  · have hways : decide (60 < (len : Int)) = true ∨ (decide (60 < (len : Int)) = false ∧ decide (60 < (len2 : Int)) = true) := by
      by_cases h1 : 60 < len
      · left; simp; omega
      · right
        constructor <;> simp <;> omega
    clear hbad hx hr hy hr2 hlc hlc2
    rcases hways with q1 | ⟨q1, q2⟩ <;>
      (go_enter Tryd.func7, Tryd.ntmps7
       go_wp2_with fail
       refine (lives_any w HT.out).mono ?_
       rintro e w1 ⟨rfl, hb1⟩
       have HB1 := Lib.hid hb1
       have HT1 := Lib.hid (HT.out.below hb1 HT.out.lt)
       clear hb1
       go_wp2_with fail
       refine (lives_any w1 HT1.out).mono ?_
       rintro e w2 ⟨rfl, hb2⟩
       have HB2 := Lib.hid (HB1.out.trans (hb2.mono HB1.out.size))
       clear hb2
       go_wp2_with fail
       go_ret
       exact ⟨rfl, HB2.out⟩)
  · have q1 : decide (60 < (len : Int)) = false := by simp; omega
    have q2 : decide (60 < (len2 : Int)) = false := by simp; omega
    have hl1 : len ≤ 60 := by omega
    have hl2 : len2 ≤ 60 := by omega
    have HX := Lib.hid hx
    have HY := Lib.hid hy
    have HR := Lib.hid hr
    have HR2 := Lib.hid hr2
    have inb : ∀ {q : Option Addr} {vs : List Int} {m : Nat}, VRow w w.heap.size q (ints vs) → vs.length = m → ∀ a, q = some a → 0 < m → a.block < w.heap.size := fun {q vs m} hv hm a ha h0 => by
      obtain ⟨b0, off0, e, hb, _⟩ := hv (by rw [ints_length, hm]; exact h0)
      rw [ha] at e
      injection e with e
      rw [e]
      exact hb
    have HI1 := Lib.hid (inb hr hx)
    have HI2 := Lib.hid (inb hr2 hy)
    clear hbad hx hr hy hr2 inb
    go_enter Tryd.func7, Tryd.ntmps7
    go_wp2_with fail
    refine (lives_any w HT.out).mono ?_
    rintro e w1 ⟨rfl, hb1⟩
    have HB1 := Lib.hid hb1
    have HT1 := Lib.hid (HT.out.below hb1 HT.out.lt)
    clear hb1
    go_wp2_with fail
    refine (codes_any w1 HT1.out).mono ?_
    rintro e w2 ⟨hb2, c, rfl, hc⟩
    have HB2 := Lib.hid hb2
    have HC2 := Lib.hid hc
    clear hb2 hc
    go_wp2_with fail
    refine (newWriter_any false w2).mono ?_
    rintro e w3 ⟨hb3, rfl, hw3⟩
    have H3 := Lib.hid (CW.second HC2.out HB2.out hw3 hb3)
    have HB13 := Lib.hid (HB2.out.trans (hb3.mono HB2.out.size))
    have HZ12 := Lib.hid (Nat.le_trans HB1.out.size HB2.out.size)
    obtain ⟨gw, hgw⟩ : ∃ gw, gw = w2.heap.size := ⟨_, rfl⟩
    have HGW := Lib.hid hgw
    rw [← hgw] at H3 ⊢
    clear hb3 hw3 HC2 HB2 hgw
    have hws : decide (1 ≤ z) = true ∧ decide (z ≤ 32768) = true ∧ wideM z = true ∨ (decide (1 ≤ z) = true ∧ decide (z ≤ 32768) = false ∧ wideM z = false) ∨ (decide (1 ≤ z) = false ∧ wideM z = false) := by
      unfold wideM
      simp only [decide_eq_true_eq, decide_eq_false_iff_not]
      omega
    have hsome : ∃ s, s = wideM z := ⟨_, rfl⟩
    obtain ⟨s, hs⟩ := hsome
    have HS := Lib.hid hs
    go_upto_region 5 with fail
    go_cut [9] (fun s9 wx => s9 = .bool s ∧ w3 = wx)
    case first =>
      rcases hws with ⟨k1, k2, k3⟩ | ⟨k1, k2, k3⟩ | ⟨k1, k3⟩
      · rw [k3] at hs
        go_wp2_with fail
        go_meet
        exact ⟨by rw [hs], rfl⟩
      · rw [k3] at hs
        go_wp2_with fail
        go_meet
        exact ⟨by rw [hs], rfl⟩
      · rw [k3] at hs
        go_wp2_with fail
        go_meet
        exact ⟨by rw [hs], rfl⟩
    case rest =>
      obtain ⟨rfl, rfl⟩ := hcut
      obtain ⟨r, hr⟩ : ∃ r, r = rightB zs z := ⟨_, rfl⟩
      obtain ⟨t, ht⟩ : ∃ t, t = rightB ys z := ⟨_, rfl⟩
      have hrow1 : rowB zs z = (s && r) := by unfold rowB; rw [hs, hr]
      have hrow2 : rowB ys z = (s && t) := by unfold rowB; rw [hs, ht]
      have HRR := Lib.hid (fun (w9 : World) (hb : Below w.heap.size w w9) => rright_any p len cap zs z w9 _ (HR.out.below hb (Nat.le_refl _)) HX.out (by unfold maxLen; omega))
      have HRT := Lib.hid (fun (w9 : World) (hb : Below w.heap.size w w9) => rright_any p2 len2 cap2 ys z w9 _ (HR2.out.below hb (Nat.le_refl _)) HY.out (by unfold maxLen; omega))
      rw [← hr] at HRR
      rw [← ht] at HRT
      have HW1 := Lib.hid hrow1
      have HW2 := Lib.hid hrow2
      have hb3 : Below w.heap.size w w3 := HB1.out.trans (HB13.out.mono HB1.out.size)
      generalize hB : w1.heap.size = B at *
      have HBS := Lib.hid hB
      clear hws hs hr ht hrow1 hrow2 hB
      go_wp2_with fail
      refine (HRR.out w3 hb3).mono ?_
      rintro e w4 ⟨rfl, hd4⟩
      have H4 := Lib.hid (H3.out.more (hd4.below _))
      have HB4 := Lib.hid (hb3.trans (hd4.below _))
      clear hd4 hb3
      go_wp2_with fail
      refine (HRT.out w4 HB4.out).mono ?_
      rintro e w5 ⟨rfl, hd5⟩
      have H5 := Lib.hid (H4.out.more (hd5.below _))
      have HB5 := Lib.hid (HB4.out.trans (hd5.below _))
      obtain ⟨er1, he1⟩ : ∃ er1 : Int, er1 = (if rowB zs z then 0 else 1) := ⟨_, rfl⟩
      obtain ⟨er2, he2⟩ : ∃ er2 : Int, er2 = (if (rowB zs z && rowB ys z) then 0 else 1) := ⟨_, rfl⟩
      obtain ⟨er3, he3⟩ : ∃ er3 : Int, er3 = (if wideM z then 2 else 1) := ⟨_, rfl⟩
      obtain ⟨er4, he4⟩ : ∃ er4 : Int, er4 = (if rowB ys z then 2 else 1) := ⟨_, rfl⟩
      have hWR := writeRow_gen w5 B gw c gw _ [] p len cap zs z H5.out.cd H5.out.ws H5.out.out ((HR.out.below HB5.out (Nat.le_refl _)).mono HB5.out.size) HX.out (by simp; omega)
      rw [← he1] at hWR
      have HWR := Lib.hid hWR
      have HE1 := Lib.hid he1
      have HE2 := Lib.hid he2
      have HE3 := Lib.hid he3
      have HE4 := Lib.hid he4
      clear hd5 hWR he1 he2 he3 he4 H4 HB4 HRR HRT
      go_wp2_with fail
      refine HWR.out.mono ?_
      rintro e w6 ⟨rfl, m6, hm6, hws6⟩
      obtain ⟨v6, h6⟩ := H5.out.wrote hws6
      have H6 := Lib.hid h6
      have hbz6 : Below w.heap.size w w6 := HB1.out.trans (H6.out.bel.mono (by rw [← HBS.out]; exact HB1.out.size))
      have hml : ∀ k, Mine gw v6 k → w.heap.size ≤ k := fun k hk => by have := H6.out.mine k hk; have := HBS.out; have := HB1.out.size; omega
      have hWA := writeAgainst_gen w6 B gw c gw v6 ([] ++ m6) p p2 len cap len2 cap2 zs ys z H6.out.cd H6.out.ws H6.out.out ((HR.out.below hbz6 (Nat.le_refl _)).mono hbz6.size) HX.out hlc (fun a ha h0 hm => by have := HI1.out a ha h0; have := hml _ hm; omega) ((HR2.out.below hbz6 (Nat.le_refl _)).mono hbz6.size) HY.out hlc2 (fun a ha h0 hm => by have := HI2.out a ha h0; have := hml _ hm; omega) (by omega) (by omega) (by rw [List.nil_append]; omega)
      rw [← HE2.out] at hWA
      have HWA := Lib.hid hWA
      clear h6 hws6 hbz6 hml hWA HWR
      go_wp2_with fail
      refine HWA.out.mono ?_
      rintro e w7 ⟨rfl, m7, hm7, hws7⟩
      obtain ⟨v7, h7⟩ := H6.out.wrote hws7
      have H7 := Lib.hid h7
      have HNR := Lib.hid (newReader_any none 0 0 [] false w7 (fun h => by simp at h) rfl (fun _ => rfl) (by omega))
      clear h7 hws7 HWA
      go_wp2_with fail
      refine HNR.out.mono ?_
      rintro e w8 ⟨hb8, g8, q8, c8, rfl, hg8, hr8, _⟩
      have H8 := Lib.hid (H7.out.more hb8)
      have hCz := H7.out.cd.1
      have hRD := readRow_gen w8 B gw c g8 q8 c8 z H8.out.cd (.inr (by omega)) hr8
      rw [← HE3.out] at hRD
      have HRD := Lib.hid hRD
      have HB8 := Lib.hid hb8
      have HG8 := Lib.hid hg8
      clear hb8 hg8 hr8 hRD HNR hCz
      go_wp2_with fail
      refine HRD.out.mono ?_
      rintro e w9 ⟨ho9, q9, n9, c9, rfl⟩
      have H9 := Lib.hid (H7.out.more (HB8.out.trans (ho9.below HB8.out.size (fun k hk e => by have := HG8.out; omega))))
      have HNR2 := Lib.hid (newReader_any none 0 0 [] false w9 (fun h => by simp at h) rfl (fun _ => rfl) (by omega))
      clear ho9 HRD
      go_wp2_with fail
      refine HNR2.out.mono ?_
      rintro e w10 ⟨hb10, g10, q10, c10, rfl, hg10, hr10, _⟩
      have H10 := Lib.hid (H9.out.more hb10)
      have hCz := H9.out.cd.1
      have hdz := H9.out.dz
      have hbz10 : Below w.heap.size w w10 := HB1.out.trans (H10.out.bel.mono (by rw [← HBS.out]; exact HB1.out.size))
      have hRA := readAgainst_gen w10 B gw c g10 q10 c10 p2 len2 cap2 ys z H10.out.cd (.inr (by omega)) hr10 ((HR2.out.below hbz10 (Nat.le_refl _)).mono hbz10.size) HY.out (by omega) hlc2 (fun a ha h0 => by have := HI2.out a ha h0; have := HBS.out; have := HB1.out.size; omega)
      rw [← HE4.out] at hRA
      have HRA := Lib.hid hRA
      have HB10 := Lib.hid hb10
      have HG10 := Lib.hid hg10
      clear hb10 hg10 hr10 hRA HNR2 hCz hbz10 hdz
      go_wp2_with fail
      refine HRA.out.mono ?_
      rintro e w11 ⟨ho11, q11, n11, c11, rfl⟩
      have H11 := Lib.hid (H9.out.more (HB10.out.trans (ho11.below HB10.out.size (fun k hk e => by have := HG10.out; omega))))
      have HFIN : Hid (Below w.heap.size w w11) := Lib.hid (HB1.out.trans (H11.out.bel.mono (by rw [← HBS.out]; exact HB1.out.size)))
      have N1 := Lib.hid (fun w9 => writeRow_nw w9 (some ⟨c, 0, none⟩) p len cap z)
      have N2 := Lib.hid (fun w9 => writeRow_nc w9 ⟨gw, 0, none⟩ p len cap z)
      have N3 := Lib.hid (fun w9 => writeAgainst_nw w9 (some ⟨c, 0, none⟩) p p2 len cap len2 cap2 z)
      have N4 := Lib.hid (fun w9 => writeAgainst_nc w9 ⟨gw, 0, none⟩ p p2 len cap len2 cap2 z)
      have f1 := HE1.out
      have f2 := HE2.out
      have f3 := HE3.out
      have f4 := HE4.out
      rw [HW1.out] at f1 f2
      rw [HW2.out] at f2 f4
      rw [← HS.out] at f3
      clear ho11 HRA H3 H5 H6 H7 H8 H9 H10 H11 HS HW1 HW2 HE1 HE2 HE3 HE4
      rcases s with _ | _ <;> rcases r with _ | _ <;> rcases t with _ | _ <;>
        (simp at f1 f2 f3 f4
         subst f1 f2 f3 f4
         go_wp2_with fail
         refine (N1.out _).mono ?_
         rintro e w' ⟨rfl, rfl⟩
         go_wp2_with fail
         refine (N2.out _).mono ?_
         rintro e w' ⟨rfl, rfl⟩
         go_wp2_with fail
         refine (N3.out _).mono ?_
         rintro e w' ⟨rfl, rfl⟩
         go_wp2_with fail
         refine (N4.out _).mono ?_
         rintro e w' ⟨rfl, rfl⟩
         go_wp2_with fail
         go_ret
         exact ⟨rfl, HFIN.out⟩)
end Go.Proofs.YtgddpjnikgcamaaDoor.Mh

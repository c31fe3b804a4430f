/- The walk of PackbitsJoins: it returns true for any three rows of bytes, and nothing that was there is written. -/
import Derived.Test.YtcgoejijeeeanaaPbL
namespace Go.Proofs.Ytcgoejijeeeanaa.Pb
open Go.RowKit Go.Proofs.Ytcgoejijeeeanaa.Oct
set_option linter.unusedVariables false

set_option maxHeartbeats 1000000 in
set_option maxRecDepth 100000 in
theorem joins_walk (p : Option Addr) (len cap : Nat) (zs0 : List Int) (p2 : Option Addr) (len2 cap2 : Nat) (zs2 : List Int) (p3 : Option Addr) (len3 cap3 : Nat) (zs3 : List Int) (w : World)
    (hr0 : IsRow .u8 w p len cap zs0) (hm : cap ≤ 140737488351232) (hr20 : IsRow .u8 w p2 len2 cap2 zs2) (hm2 : cap2 ≤ 140737488351232) (hr30 : IsRow .u8 w p3 len3 cap3 zs3) (hm3 : cap3 ≤ 140737488351232) :
    Calls Try.prog 6 #[.slice p len cap, .slice p2 len2 cap2, .slice p3 len3 cap3] w fun e w' => e = .returned (.bool true) ∧ Below w.heap.size w w' := by
  obtain ⟨xs, hx, hr, hlc, hcm, hnil⟩ := hr0.row
  obtain ⟨ys, hy, hrY, hlc2, hcm2, hnil2⟩ := hr20.row
  obtain ⟨ts, ht, hrT, hlc3, hcm3, hnil3⟩ := hr30.row
  clear hr0 hr20 hr30
  by_cases hbig : 3000 < len + len2 ∨ 100 < len3
  · have hd1 : decide (3000 < (len : Int) + (len2 : Int)) = true ∨ (decide (3000 < (len : Int) + (len2 : Int)) = false ∧ decide (100 < (len3 : Int)) = true) := by
      by_cases h : 3000 < len + len2
      · left; simp; omega
      · right; simp; omega
    rcases hd1 with hd | ⟨hd, hd'⟩
    all_goals
      go_enter Try.func6, Try.ntmps6
      go_wp2_with fail
      refine (lives_any _).mono ?_
      rintro e w1 ⟨rfl, hb1⟩
      go_wp2_with fail
      refine (lives_any _).mono ?_
      rintro e w2 ⟨rfl, hb2⟩
      go_wp2_with fail
      go_ret
      exact ⟨rfl, hb1.trans (hb2.mono hb1.size)⟩
  · have hd : decide (3000 < (len : Int) + (len2 : Int)) = false := by simp; omega
    have hd' : decide (100 < (len3 : Int)) = false := by simp; omega
    have HX := Lib.hid hx
    have HY := Lib.hid hy
    have HT := Lib.hid ht
    have HR := Lib.hid hr
    have HRY := Lib.hid hrY
    have HRT := Lib.hid hrT
    have HCM := Lib.hid hcm
    have HCM2 := Lib.hid hcm2
    clear hx hy ht hr hrY hrT hcm hcm2 hcm3
    go_enter Try.func6, Try.ntmps6
    go_wp2_with fail
    refine (lives_any _).mono ?_
    rintro e w1 ⟨rfl, hb1⟩
    have HB1 := Lib.hid hb1
    clear hb1
    go_wp2_with fail
    refine (encode_any _ _ _ xs _ (by exact HR.out.below HB1.out) HX.out hlc HCM.out (by omega)).mono ?_
    rintro e w2 ⟨v1, o1, rfl, hown1, hpk1, hsl1, hb2⟩
    have HB2 := Lib.hid (HB1.out.trans (hb2.mono HB1.out.size))
    have HP1 := Lib.hid hpk1
    have HO1 := Lib.hid hown1
    have HZ12 := Lib.hid hb2.size
    rw [HX.out] at hsl1
    obtain ⟨q1, c1, rfl, _, _, _, _⟩ := own_shape hown1 rfl
    clear hown1 hpk1 hb2
    go_wp2_with fail
    refine (encode_any _ _ _ ys _ (by exact HRY.out.below HB2.out) HY.out hlc2 HCM2.out (by omega)).mono ?_
    rintro e w3 ⟨v2, o2, rfl, hown2, hpk2, hsl2, hb3⟩
    have HB3 := Lib.hid (HB2.out.trans (hb3.mono HB2.out.size))
    have HPJ := Lib.hid (HP1.out.join hpk2)
    have HO3 := Lib.hid (own_below HO1.out hb3)
    have HZ13 := Lib.hid (Nat.le_trans HZ12.out hb3.size)
    rw [HY.out] at hsl2
    obtain ⟨q2, c2, rfl, hq2, _, _, hrow2⟩ := own_shape hown2 rfl
    have HRW2 := Lib.hid hrow2
    clear hown2 hpk2 hb3 hrow2 HP1 HO1 HZ12 HB2
    go_wp2_with (at_builtin; refine wpList_append_bytes rfl _ _ rfl w1.heap.size _ o1.length o1 rfl HO3.out q2 o2.length c2 o2 rfl HRW2.out rfl hq2 (by omega) HZ13.out ?_)
    intro v4 w4 hown4 hgrow4 _
    have hlo : (o1 ++ o2).length = o1.length + o2.length := List.length_append
    obtain ⟨q4, c4, rfl, hq4, _, _, hrow4⟩ := own_shape hown4 hlo
    have HB4 := Lib.hid (HB3.out.trans ((grown_below HO3.out hgrow4 HZ13.out).mono HB1.out.size))
    have HRW4 := Lib.hid hrow4
    have HLO := Lib.hid hlo
    have hown := World.ownsRow_made (base := w4.heap.size) (e := 5) (size := 1) w4 #[] 0 (Nat.le_refl _) (by simp [maxLen]) rfl
    have hbA : Below w4.heap.size w4 (w4.alloc (.cells #[] 5)) := (Below.refl _ w4).alloc (Nat.le_refl _) _
    have HRA := Lib.hid (HRW4.out.below hbA)
    have HBA := Lib.hid hbA
    clear hown4 hgrow4 hrow4 hlo HO3 HZ13 HRW2 HB3 hbA hq2
    go_wp2_with (at_builtin; refine wpList_append_bytes rfl _ _ rfl w4.heap.size _ 0 [] rfl hown q4 (o1.length + o2.length) c4 (o1 ++ o2) rfl HRA.out HLO.out hq4 (by omega) (by simp) ?_)
    intro v5 w5 hown5 hgrow5 hv5
    have HB5 := Lib.hid (HBA.out.trans (grown_below hown hgrow5 HBA.out.size))
    have HO5 := Lib.hid hown5
    have HRTA := Lib.hid (HRT.out.below (HB4.out.trans (HB5.out.mono HB4.out.size)))
    have HZ5 := Lib.hid HB5.out.size
    obtain ⟨q5, c5, rfl, _, _, _, _⟩ := own_shape hown5 HLO.out
    clear hown hown5 hgrow5 hv5 HRA HBA
    go_wp2_with (at_builtin; refine wpList_append_bytes rfl _ _ rfl w4.heap.size _ (o1.length + o2.length) (o1 ++ o2) rfl HO5.out p3 len3 cap3 ts rfl HRTA.out HT.out hnil3 (by omega) HZ5.out ?_)
    intro v6 w6 hown6 hgrow6 hv6
    have hl6 : (o1 ++ (o2 ++ ts)).length = o1.length + o2.length + len3 := by rw [List.length_append, List.length_append, HT.out]; omega
    obtain ⟨q6, c6, rfl, _, hc6, hm6, hrow6⟩ := own_shape hown6 hl6
    have HB6 := Lib.hid (HB5.out.trans (grown_below HO5.out hgrow6 HZ5.out))
    have HBW6 := Lib.hid (HB4.out.trans (HB6.out.mono HB4.out.size))
    have HRW6 := Lib.hid hrow6
    have HL6 := Lib.hid hl6
    have HM6 := Lib.hid hm6
    have hdz : decZ ((len : Int) + (len2 : Int)) (o1 ++ (o2 ++ ts)) = (xs ++ ys, o1.length + o2.length, 0) := by
      have h := HPJ.out.back ts
      rw [List.length_append, HX.out, HY.out, HLO.out, List.append_assoc] at h
      unfold decZ
      rw [if_neg (by omega), show ((len : Int) + (len2 : Int)).toNat = len + len2 by omega]
      exact h
    have HDZ := Lib.hid hdz
    clear hown6 hgrow6 hv6 hrow6 hl6 hm6 hdz HO5 HZ5 HRTA HB5 HPJ
    go_wp2_with fail
    refine (decodeZ_any _ _ _ _ (o1 ++ (o2 ++ ts)) _ (by exact HRW6.out) HL6.out hc6 HM6.out (by omega) (by omega)).mono ?_
    rintro e w7 ⟨q7, c7, rfl, hrow7, _, hb7⟩
    rw [HDZ.out] at hrow7 ⊢
    have hl7 : (xs ++ ys).length = len + len2 := by rw [List.length_append, HX.out, HY.out]
    have HB7 := Lib.hid (HBW6.out.trans (hb7.mono HBW6.out.size))
    have ca1 := conv_row (xs ++ ys).length c7 hrow7 rfl
    rw [hl7] at ca1
    have ca2 := conv_row len cap (HR.out.below HB7.out) HX.out
    have ca3 := conv_row len2 cap2 (HRY.out.below HB7.out) HY.out
    have hap := bs_append xs ys
    have hs1 : (bs xs).size = len := by rw [bs_size]; exact HX.out
    have hs2 : (bs ys).size = len2 := by rw [bs_size]; exact HY.out
    dsimp only
    rw [hl7]
    clear hrow7 hb7 hl7 HDZ
    go_wp2_with fail
    go_ret
    exact ⟨rfl, HB7.out⟩
end Go.Proofs.Ytcgoejijeeeanaa.Pb


/- The walk of GfourAgain. -/
import Derived.Test.YtmbfgejephgojaaDoorGfH
import Derived.BigQuiet
namespace Go.Proofs.YtmbfgejephgojaaDoor.Gf
open Go.RowKit Go.Proofs.YtmbfgejephgojaaDoor.Oct Go.Proofs.YtmbfgejephgojaaDoor.Bit
open Go.Proofs.YtmbfgejephgojaaDoor.Fx (Tab TrueT)
open Go.Proofs.YtmbfgejephgojaaDoor.Mh (vrow_far DecP EncP Tbl Rws Txs txt IsBytess same_in)
open Go.Proofs.YtmbfgejephgojaaDoor.Rn (changes zl zl_length Valid changes_valid)
open Go.Proofs.YtmbfgejephgojaaDoor.Lp (VRow ints ints_length)
set_option linter.unusedVariables false
set_option linter.unusedSimpArgs false
set_option maxRecDepth 100000

/-- the bits of a page that is told, whatever stands behind it -/
theorem page_bits (wd : Nat) (Xs : List (List Bool)) (a : List UInt8) : ∃ r, bitsOf false (packB false (rowsP wd (List.replicate wd false) Xs ++ eofb) ++ a) = rowsP wd (List.replicate wd false) Xs ++ (eofb ++ r) := by
  refine ⟨zs (8 * (((rowsP wd (List.replicate wd false) Xs ++ eofb).length + 7) / 8) - (rowsP wd (List.replicate wd false) Xs ++ eofb).length) ++ bitsOf false a, ?_⟩
  rw [bitsOf_append, bitsOf_packB, List.append_assoc, List.append_assoc]
/-- a page that is told is read, whatever stands behind it; one row more isn't there -/
theorem page_back {wd : Nat} (h0 : 0 < wd) (Xs : List (List Bool)) (a : List UInt8) (hl : ∀ X ∈ Xs, X.length = wd) :
    readQ (bitsOf false (packB false (rowsP wd (List.replicate wd false) Xs ++ eofb) ++ a)) wd Xs.length 0 (List.replicate wd false) [] = .ok Xs ∧
    readQ (bitsOf false (packB false (rowsP wd (List.replicate wd false) Xs ++ eofb))) wd (Xs.length + 1) 0 (List.replicate wd false) [] = .error 2 := by
  constructor
  · obtain ⟨r, hr⟩ := page_bits wd Xs a
    rw [readQ_nil]
    exact (rows_read h0 Xs 0 (List.replicate wd false) hl (by simp) (by rw [List.drop_zero, hr])).1
  · obtain ⟨r, hr⟩ := page_bits wd Xs []
    rw [List.append_nil] at hr
    rw [readQ_nil]
    exact (rows_read h0 Xs 0 (List.replicate wd false) hl (by simp) (by rw [List.drop_zero, hr])).2
theorem bytess_more {w w2 : World} {p : Option Addr} {len cap : Nat} (h : IsBytess w p len cap) (hb : Below w.heap.size w w2) : IsBytess w2 p len cap := by
  obtain ⟨x1, x2, x3⟩ := h
  refine ⟨x1, x2, fun h0 => ?_⟩
  obtain ⟨b, off, e, hbb, hc⟩ := x3 h0
  refine ⟨b, off, e, Nat.lt_of_lt_of_le hbb hb.size, fun i hi => ?_⟩
  obtain ⟨q, l, c, xs, y1, y2, y3, y4⟩ := hc i hi
  exact ⟨q, l, c, xs, (hb.cell (p := ⟨b, off + i, none⟩) hbb).trans y1, y2, y3.below hb, y4⟩
set_option maxHeartbeats 16000000 in
theorem again_walk (p : Option Addr) (len cap : Nat) (z : Int) (p2 : Option Addr) (len2 cap2 : Nat) (zs : List Int) (w : World) (hT : Tab w) (hbs : IsBytess w p len cap) (hr0 : IsRow .u8 w p2 len2 cap2 zs) :
    Calls Tryd.prog 5 #[.slice p len cap, .int .i64 z, .slice p2 len2 cap2] w fun e w' => e = .returned (.bool true) ∧ Below w.heap.size w w' := by
  obtain ⟨xs, hx, hr, hlc, hcm, hnil⟩ := hr0.row
  have HT := Lib.hid hT
  unfold maxLen at hcm
  have hlcap := hbs.1
  clear hr0 hT
  by_cases hbad : 20 < len ∨ z < 1 ∨ 300 < z ∨ 50 < len2
  · have hways : decide (20 < (len : Int)) = true ∨ (decide (20 < (len : Int)) = false ∧ (decide (z < 1) = true ∨ (decide (z < 1) = false ∧ (decide (300 < z) = true ∨ (decide (300 < z) = false ∧ decide (50 < (len2 : Int)) = true))))) := by
      by_cases h1 : 20 < len
      · left; simp; omega
      · right
        refine ⟨by simp; omega, ?_⟩
        by_cases h2 : z < 1
        · left; simpa using h2
        · right
          refine ⟨by simp; omega, ?_⟩
          by_cases h3 : 300 < z
          · left; simpa using h3
          · right
            constructor <;> simp <;> omega
    clear hbad hx hr hnil hlc hbs hlcap
    rcases hways with q1 | ⟨q1, q2 | ⟨q2, q3 | ⟨q3, q4⟩⟩⟩ <;>
      (go_enter Tryd.func5, Tryd.ntmps5
       go_wp2_with fail
       refine (lives_any w HT.out).mono ?_
       rintro e w1 ⟨rfl, hb1⟩
       have HB1 := Lib.hid hb1
       have HT1 := Lib.hid (HT.out.below hb1 HT.out.lt)
       clear hb1
       go_wp2_with fail
       refine (lives_any w1 HT1.out).mono ?_
       rintro e w2 ⟨rfl, hb2⟩
       have HB2 := Lib.hid (HB1.out.trans (hb2.mono HB1.out.size))
       clear hb2
       go_wp2_with fail
       go_ret
       exact ⟨rfl, HB2.out⟩)
  · obtain ⟨wd, rfl⟩ : ∃ n : Nat, z = (n : Int) := ⟨z.toNat, by omega⟩
    have q1 : decide (20 < (len : Int)) = false := by simp; omega
    have q2 : decide ((wd : Int) < 1) = false := by simp; omega
    have q3 : decide (300 < (wd : Int)) = false := by simp; omega
    have q4 : decide (50 < (len2 : Int)) = false := by simp; omega
    have hl20 : len ≤ 20 := by omega
    have hl50 : len2 ≤ 50 := by omega
    have h1 : 1 ≤ wd := by omega
    have hn300 : wd ≤ 300 := by omega
    have HX := Lib.hid hx
    have HR := Lib.hid hr
    have HNIL := Lib.hid hnil
    have HBS := Lib.hid hbs
    clear hbad hx hr hnil hlc hbs hlcap
    go_enter Tryd.func5, Tryd.ntmps5
    go_wp2_with fail
    refine (lives_any w HT.out).mono ?_
    rintro e w2 ⟨rfl, hb2⟩
    have HB2 := Lib.hid hb2
    have HT2 := Lib.hid (HT.out.below hb2 HT.out.lt)
    have HTX := Lib.hid (texts_any w2 p len cap wd (bytess_more HBS.out hb2) hl20 hn300)
    clear hb2
    go_wp2_with fail
    refine HTX.out.mono ?_
    rintro e w3 ⟨hb3, hres⟩
    have HT3 := Lib.hid (HT2.out.below hb3 HT2.out.lt)
    have HB3 := Lib.hid (HB2.out.trans (hb3.mono HB2.out.size))
    clear hb3 HTX
    rcases hres with rfl | ⟨Xs, qs, ql, cs, cl, rfl, hXl, hXw, hts, htl⟩
    · go_wp2_with fail
      go_ret
      exact ⟨rfl, HB3.out⟩
    · have HXL := Lib.hid hXl
      have HXW := Lib.hid hXw
      have HTL := Lib.hid htl
      have hkn : (118 * wd + 59) * (len + 1) ≤ 1400000 := Nat.le_trans (Nat.mul_le_mul (show 118 * wd + 59 ≤ 35459 by omega) (show len + 1 ≤ 21 by omega)) (by omega)
      have HEN := Lib.hid (hencode_any w3 HT3.out ql len cl Xs wd htl hXl (by omega) hXw h1 (by omega) _ rfl hkn)
      clear hXl hXw hts htl hkn
      go_wp2_with fail
      refine HEN.out.mono ?_
      rintro e w6 ⟨hb6, qe, cc1, rfl, hr6, hn6, hc6⟩
      have HT6 := Lib.hid (HT3.out.below hb6 HT3.out.lt)
      have HB6 := Lib.hid (HB3.out.trans (hb6.mono HB3.out.size))
      have HTL6 := Lib.hid ((HTL.out.below hb6).mono hb6.size)
      have hpl := rowsP_lenW (show wd ≤ 400 by omega) Xs (List.replicate wd false) (by simp) HXW.out
      have hpl2 : (118 * wd + 59) * Xs.length ≤ 35459 * 20 := Nat.mul_le_mul (by omega) (by rw [HXL.out]; exact hl20)
      have HPB := Lib.hid (page_back h1 Xs xs HXW.out)
      rw [HXL.out] at HPB
      have hbl : (packB false (rowsP wd (List.replicate wd false) Xs ++ eofb)).length ≤ 300000 := by rw [packB_length, List.length_append, show eofb.length = 24 from rfl]; omega
      obtain ⟨BT, hBT⟩ : ∃ BT, BT = packB false (rowsP wd (List.replicate wd false) Xs ++ eofb) := ⟨_, rfl⟩
      rw [← hBT] at hr6 hc6 hbl HPB ⊢
      obtain ⟨m1, hm1⟩ : ∃ m1, m1 = BT.length := ⟨_, rfl⟩
      rw [← hm1] at hc6 hbl ⊢
      have HRB := Lib.hid hr6
      have HM1 := Lib.hid hm1.symm
      have HN1 := Lib.hid hn6
      have hown := World.ownsRow_made (base := w6.heap.size) (e := 5) (size := 1) w6 #[] 0 (Nat.le_refl _) (by simp [maxLen]) rfl
      have hbA : Below w6.heap.size w6 (w6.alloc (.cells #[] 5)) := alloc_below w6 _
      have HRA := Lib.hid (hr6.below hbA)
      have HBA := Lib.hid hbA
      clear hb6 hr6 hn6 hpl hpl2 hBT hm1 HEN hbA
      go_wp2_with (at_builtin; refine wpList_append_bytes rfl _ _ rfl w6.heap.size _ 0 [] rfl hown qe m1 cc1 BT rfl HRA.out HM1.out HN1.out (by omega) (by simp) ?_)
      intro v7 w7 hown7 hgrow7 hv7
      have HB7 := Lib.hid (HBA.out.trans (grown_below hown hgrow7 HBA.out.size))
      have HO7 := Lib.hid hown7
      have HRT7 := Lib.hid (HR.out.below (HB6.out.trans (HB7.out.mono HB6.out.size)))
      have HZ7 := Lib.hid HB7.out.size
      obtain ⟨q7, c7, rfl, _, _, _, _⟩ := own_shape hown7 HM1.out
      clear hown hown7 hgrow7 hv7 HRA HBA
      go_wp2_with (at_builtin; refine wpList_append_bytes rfl _ _ rfl w6.heap.size _ m1 BT rfl HO7.out p2 len2 cap2 xs rfl HRT7.out HX.out HNIL.out (by omega) HZ7.out ?_)
      intro v8 w8 hown8 hgrow8 hv8
      obtain ⟨M2, hM2⟩ : ∃ M2, m1 + len2 = M2 := ⟨_, rfl⟩
      rw [hM2] at hown8
      have hM2b : M2 ≤ 300050 := by omega
      have HL8 : Hid ((BT ++ xs).length = M2) := Lib.hid (by rw [List.length_append, HM1.out, HX.out, hM2])
      obtain ⟨q8, c8, rfl, hq8, hc8, hm8, hrow8⟩ := own_shape hown8 HL8.out
      have HB8 := Lib.hid (HB7.out.trans (grown_below HO7.out hgrow8 HZ7.out))
      have HDE := Lib.hid (hdecode_any w8 (HT6.out.below HB8.out HT6.out.lt) q8 M2 c8 (BT ++ xs) wd len hrow8 HL8.out hq8 (by omega) h1 (by omega) (by omega))
      rw [HPB.out.1] at HDE
      have HT8 := Lib.hid (HT6.out.below HB8.out HT6.out.lt)
      clear hown8 hgrow8 hv8 hrow8 hq8 hc8 hm8 hM2 HO7 HZ7 HRT7 HB7 HL8
      go_wp2_with fail
      refine HDE.out.mono ?_
      rintro e w9 ⟨hb9, q9, c9, rfl, ht9⟩
      rw [HXL.out]
      have HB69 := Lib.hid (HB8.out.trans (hb9.mono HB8.out.size))
      have HBF := Lib.hid (HB6.out.trans (HB69.out.mono HB6.out.size))
      have HTl := Lib.hid (HTL6.out.below HB69.out)
      have HT9 := Lib.hid ht9
      have HTB9 := Lib.hid (HT8.out.below hb9 HT8.out.lt)
      have HZW := Lib.hid HB69.out.size
      clear hb9 ht9 HDE
      go_wp2_with fail
      go_loopw [14, 80] (fun _ sk wr => ∃ i : Nat, i ≤ len ∧ sk = .int .i64 (i : Int) ∧ Hid (Below w9.heap.size w9 wr)) (fun _ sk _ => len - (intOf sk).toNat)
      case atStart => exact ⟨0, by omega, rfl, Lib.hid (Below.refl _ _)⟩
      case round =>
        obtain ⟨i, hi, rfl, HBq⟩ := hrel
        by_cases hlti : i < len
        · have hdi : decide ((i : Int) < (len : Int)) = true := by simp; omega
          have hiX : i < Xs.length := by rw [HXL.out]; exact hlti
          have hiR : i < (Xs.map changes).length := by rw [List.length_map]; exact hiX
          obtain ⟨bx, o1, he1, qx, cx, hc1, hv1, _⟩ := (HTl.out.below (HBq.out.mono HZW.out)).get hiR
          obtain ⟨b2, o2, he2, qy, cy, hc2, hv2, _⟩ := (HT9.out.below HBq.out).get hiR
          have hX3 : (Xs.map changes)[i].length ≤ 300 := by
            rw [List.getElem_map]
            have h1 := HXW.out Xs[i] (List.getElem_mem hiX)
            have := Rn.chg_len Xs[i] false 0
            unfold changes
            omega
          generalize (Xs.map changes)[i] = d at *
          subst he1 he2
          obtain ⟨md, hmd⟩ : ∃ md, md = d.length := ⟨_, rfl⟩
          rw [← hmd] at hc1 hc2 hX3
          have HSM : Hid (∀ kk, Calls Tryd.prog 14 #[.slice qx md cx, .slice qy md cy] (wr.drewN kk) fun e w'' => e = .returned (.bool true) ∧ ∃ m, w'' = wr.drewN m) := Lib.hid (fun kk => by
            have hdk : Drawn wr (wr.drewN kk) := ⟨kk, rfl⟩
            exact Calls.quiet_of ((same_in qx qy md cx cy d (wr.drewN kk) _ _ (hv1.below (hdk.below _) (Nat.le_refl _)) (hv2.below (hdk.below _) (Nat.le_refl _)) hmd.symm (by omega)).mono fun _ _ h => h))
          have i1 : (0 : Int) ≤ (i : Int) := by omega
          have i2 : (i : Int) < (len : Int) := by omega
          clear hv1 hv2 hmd hiR hiX
          go_wp2_with fail
          go_quiet ((go_at_call 14; with_reducible exact HSM.out _))
          have HBq2 := Lib.hid (HBq.out.trans ((show Drawn wr (wr.drewN nq) from ⟨nq, rfl⟩).below _))
          try go_wp2_with fail
          go_roundw
          case rel => exact ⟨i + 1, by omega, by go_num, HBq2⟩
          case measure => simp [intOf]; omega
        · have hie : i = len := by omega
          subst hie
          have hdi : decide ((i : Int) < (i : Int)) = false := by simp
          have HBE := Lib.hid (HBF.out.trans (HBq.out.mono HBF.out.size))
          have hde := hdecode_any wr (HTB9.out.below HBq.out HTB9.out.lt) qe m1 cc1 BT wd (i + 1) (HRB.out.below (HB69.out.trans (HBq.out.mono HZW.out))) HM1.out HN1.out (by omega) h1 (by omega) (by omega)
          rw [HPB.out.2, show ((i + 1 : Nat) : Int) = (i : Int) + 1 from by omega] at hde
          have HDE := Lib.hid hde
          clear hde
          go_wp2_with fail
          refine HDE.out.mono ?_
          rintro e wz ⟨hbz, rfl⟩
          have HBZ := Lib.hid (HBE.out.trans (hbz.mono HBE.out.size))
          clear hbz
          go_wp2_with fail
          go_ret
          exact ⟨rfl, HBZ.out⟩
end Go.Proofs.YtmbfgejephgojaaDoor.Gf

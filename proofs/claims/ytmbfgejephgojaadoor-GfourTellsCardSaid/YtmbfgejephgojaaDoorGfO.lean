
/- The walk of GfourTells. -/
import Derived.Test.YtmbfgejephgojaaDoorGfJ
import Derived.Test.YtmbfgejephgojaaDoorGfI
namespace Go.Proofs.YtmbfgejephgojaaDoor.Gf
open Go.RowKit Go.Proofs.YtmbfgejephgojaaDoor.Oct Go.Proofs.YtmbfgejephgojaaDoor.Bit
open Go.Proofs.YtmbfgejephgojaaDoor.Fx (Tab TrueT)
open Go.Proofs.YtmbfgejephgojaaDoor.Mh (EncP Tbl Txs txt IsBytess wideM ArgR)
open Go.Proofs.YtmbfgejephgojaaDoor.Rn (changes)
open Go.Proofs.YtmbfgejephgojaaDoor.Lp (VRow)
set_option linter.unusedVariables false
set_option linter.unusedSimpArgs false
set_option maxRecDepth 100000

theorem drew_below (w : World) : Below w.heap.size w w.drew := (show Drawn w w.drew from ⟨1, rfl⟩).below _
set_option maxHeartbeats 16000000 in
theorem tells_walk (p : Option Addr) (len cap : Nat) (z : Int) (w : World) (hT : Tab w) (hbs : IsBytess w p len cap) (hz0 : (Lit.int .i64 z).wf = true) :
    Calls Tryd.prog 3 #[.slice p len cap, .int .i64 z] w fun e w' => e = .returned (.bool true) ∧ Below w.heap.size w w' := by
  have HT := Lib.hid hT
  have HBS := Lib.hid hbs
  clear hT hbs
  by_cases hbad : 12 < len ∨ 300 < z
  · have hways : decide (12 < (len : Int)) = true ∨ (decide (12 < (len : Int)) = false ∧ decide (300 < z) = true) := by
      by_cases h1 : 12 < len
      · left; simp; omega
      · right
        constructor <;> simp <;> omega
    clear hbad
    rcases hways with q1 | ⟨q1, q2⟩ <;>
      (go_enter Tryd.func3, Tryd.ntmps3
       go_wp2_with fail
       refine (lives_any w HT.out).mono ?_
       rintro e w1 ⟨rfl, hb1⟩
       have HB1 := Lib.hid hb1
       have HT1 := Lib.hid (HT.out.below hb1 HT.out.lt)
       clear hb1
       go_wp2_with fail
       refine (lives_any w1 HT1.out).mono ?_
       rintro e w2 ⟨rfl, hb2⟩
       have HB2 := Lib.hid (HB1.out.trans (hb2.mono HB1.out.size))
       clear hb2
       go_wp2_with fail
       go_ret
       exact ⟨rfl, HB2.out⟩)
  · have q1 : decide (12 < (len : Int)) = false := by simp; omega
    have q2 : decide (300 < z) = false := by simp; omega
    have hl12 : len ≤ 12 := by omega
    have hz300 : z ≤ 300 := by omega
    obtain ⟨wd, hwd⟩ : ∃ wd : Nat, wd = z.toNat := ⟨_, rfl⟩
    have hmax : max z 0 = (wd : Int) := by omega
    have hmax2 : max 0 z = (wd : Int) := by omega
    have hwd3 : wd ≤ 300 := by omega
    have HWD := Lib.hid hwd
    have HMAX := Lib.hid hmax
    clear hbad hwd hmax hmax2
    go_enter Tryd.func3, Tryd.ntmps3
    go_wp2_with fail
    refine (lives_any w HT.out).mono ?_
    rintro e w2 ⟨rfl, hb2⟩
    have HB2 := Lib.hid hb2
    have HT2 := Lib.hid (HT.out.below hb2 HT.out.lt)
    have HTX := Lib.hid (texts_any w2 p len cap wd (bytess_more HBS.out hb2) (by omega) hwd3)
    clear hb2
    go_wp2_with fail
    rw [HMAX.out]
    refine HTX.out.mono ?_
    rintro e w3 ⟨hb3, hres⟩
    have HT3 := Lib.hid (HT2.out.below hb3 HT2.out.lt)
    have HB3 := Lib.hid (HB2.out.trans (hb3.mono HB2.out.size))
    clear hb3 HTX
    rcases hres with rfl | ⟨Xs, qs, ql, cs, cl, rfl, hXl, hXw, hts, htl⟩
    · go_wp2_with fail
      go_ret
      exact ⟨rfl, HB3.out⟩
    · by_cases hz1 : z < 1
      · have d1 : decide (z < 1) = true := by simpa using hz1
        have HEN := Lib.hid (hencode_bad w3 ql len cl z (by unfold wideM; simp; omega))
        clear htl hts
        go_wp2_with fail
        refine HEN.out.mono ?_
        rintro e w5 ⟨rfl, rfl⟩
        go_wp2_with fail
        go_ret
        exact ⟨rfl, HB3.out⟩
      · have d1 : decide (z < 1) = false := by simpa using hz1
        obtain rfl : z = (wd : Int) := by have := HWD.out; omega
        have h1 : 1 ≤ wd := by omega
        have hkn : (118 * wd + 59) * (len + 1) ≤ 1400000 := Nat.le_trans (Nat.mul_le_mul (show 118 * wd + 59 ≤ 35459 by omega) (show len + 1 ≤ 13 by omega)) (by omega)
        have HEN := Lib.hid (hencode_any w3 HT3.out ql len cl Xs wd htl hXl (by omega) hXw h1 (by omega) _ rfl hkn)
        have HTS := Lib.hid hts
        have HXL := Lib.hid hXl
        have HXW := Lib.hid hXw
        clear htl hts hXl hXw hkn hz1
        go_wp2_with fail
        refine HEN.out.mono ?_
        rintro e w5 ⟨hb5, q5, c5, rfl, hr5, hn5, hc5⟩
        have HB35 := Lib.hid hb5
        have HB5 := Lib.hid (HB3.out.trans (hb5.mono HB3.out.size))
        obtain ⟨BT, hBT⟩ : ∃ BT, BT = packB false (rowsP wd (List.replicate wd false) Xs ++ eofb) := ⟨_, rfl⟩
        rw [← hBT] at hr5 hc5 ⊢
        obtain ⟨m5, hm5⟩ : ∃ m5, m5 = BT.length := ⟨_, rfl⟩
        rw [← hm5] at hc5 ⊢
        have HR5 := Lib.hid hr5
        have HBT := Lib.hid hBT.symm
        have HM5 := Lib.hid hm5.symm
        have hb9d : Below w5.heap.size w5 w5.drew := drew_below w5
        have HB9 := Lib.hid hb9d
        have hcv : ∀ W, Below w5.heap.size w5 W → (convert 28 9 (.slice q5 m5 c5)).run Tryd.prog W = .ok (.string (bs BT)) W := fun W hW => conv_row m5 c5 (HR5.out.below hW) HM5.out
        have HCV := Lib.hid hcv
        have kc := hcv w5.drew hb9d
        have HRE := Lib.hid (rhencode_any w5.drew qs len cs Xs wd ((HTS.out.below (HB35.out.trans (HB9.out.mono HB35.out.size)) (Nat.le_refl _)).mono (HB35.out.trans (HB9.out.mono HB35.out.size)).size) HXL.out hl12 HXW.out h1 hwd3)
        rw [HBT.out] at HRE
        obtain ⟨SB, hSB⟩ : ∃ SB, SB = bs BT := ⟨_, rfl⟩
        rw [← hSB] at HRE kc HCV
        have heq : (SB.toList == SB.toList) = true := by simp
        clear hb5 hr5 hn5 hc5 hBT hm5 HEN hb9d hcv hSB
        go_wp2_with fail
        refine wp_region_held_drew (S := fun W => (convert 28 9 (.slice q5 m5 c5)).run Tryd.prog W = .ok (.string SB) W) (by kernel_rfl) kc (fun hHeld => ?_)
        clear kc
        refine wpAnyH_take (i := 0) (v := ?v1) rfl (by kernel_rfl) (by kernel_rfl) (by kernel_rfl) (fun _ _ _ h => h) (Or.inl ⟨by rfl, fun w hSw => ?y1⟩) hHeld ?r1
        case y1 => (try dsimp only at hSw); first | (go_simp; done) | (go_simp; with_reducible rfl)
        try simp only [Act.put, List.setIfInBounds_toArray, List.set_cons_zero, List.set_cons_succ, List.getElem_toArray, List.getElem_cons_zero, List.getElem_cons_succ]
        refine wpAnyH_take (i := 1) (v := ?v2) rfl (by kernel_rfl) (by kernel_rfl) (by kernel_rfl) (fun _ _ _ h => h) (Or.inl ⟨by rfl, fun w hSw => ?y2⟩) hHeld ?r2
        case y2 => (try dsimp only at hSw); first | (go_simp; done) | (go_simp; with_reducible rfl)
        try simp only [Act.put, List.setIfInBounds_toArray, List.set_cons_zero, List.set_cons_succ, List.getElem_toArray, List.getElem_cons_zero, List.getElem_cons_succ]
        refine wpAnyH_take (i := 2) (v := ?v3) rfl (by kernel_rfl) (by kernel_rfl) (by kernel_rfl) (fun _ _ _ h => h) (Or.inl ⟨by rfl, fun w hSw => ?y3⟩) hHeld ?r3
        case y3 => (try dsimp only at hSw); first | (go_simp; done) | (go_simp; with_reducible rfl)
        try simp only [Act.put, List.setIfInBounds_toArray, List.set_cons_zero, List.set_cons_succ, List.getElem_toArray, List.getElem_cons_zero, List.getElem_cons_succ]
        refine wpAnyH_take (i := 3) (v := ?v4) rfl (by kernel_rfl) (by kernel_rfl) (by kernel_rfl) (fun _ _ _ h => h) (Or.inl ⟨by rfl, fun w hSw => ?y4⟩) hHeld ?r4
        case y4 => (try dsimp only at hSw); first | (go_simp; done) | (go_simp; with_reducible rfl)
        try simp only [Act.put, List.setIfInBounds_toArray, List.set_cons_zero, List.set_cons_succ, List.getElem_toArray, List.getElem_cons_zero, List.getElem_cons_succ]
        refine wpAnyH_take (i := 4) (v := ?v5) rfl (by kernel_rfl) (by kernel_rfl) (by kernel_rfl) (fun _ _ _ h => h) (Or.inl ⟨by rfl, fun w hSw => ?y5⟩) hHeld ?r5
        case y5 => (try dsimp only at hSw); first | (go_simp; done) | (go_simp; with_reducible rfl)
        try simp only [Act.put, List.setIfInBounds_toArray, List.set_cons_zero, List.set_cons_succ, List.getElem_toArray, List.getElem_cons_zero, List.getElem_cons_succ]
        refine wpAnyH_take (i := 5) (v := ?v6) rfl (by kernel_rfl) (by kernel_rfl) (by kernel_rfl) (fun _ _ _ h => h) (Or.inl ⟨by rfl, fun w hSw => ?y6⟩) hHeld ?r6
        case y6 => (try dsimp only at hSw); first | (go_simp; done) | (go_simp; with_reducible rfl)
        try simp only [Act.put, List.setIfInBounds_toArray, List.set_cons_zero, List.set_cons_succ, List.getElem_toArray, List.getElem_cons_zero, List.getElem_cons_succ]
        refine wpAnyH_take (i := 6) (v := ?v7) rfl (by kernel_rfl) (by kernel_rfl) (by kernel_rfl) (fun _ _ _ h => h) (Or.inl ⟨by rfl, fun w hSw => ?y7⟩) hHeld ?r7
        case y7 => (try dsimp only at hSw); first | (go_simp; done) | (go_simp; with_reducible rfl)
        try simp only [Act.put, List.setIfInBounds_toArray, List.set_cons_zero, List.set_cons_succ, List.getElem_toArray, List.getElem_cons_zero, List.getElem_cons_succ]
        refine wpAnyH_ready (rs := [7]) (by kernel_rfl) (by simp) ?_
        refine AllReadyH.cons rfl (fun K hK => ?_) AllReadyH.nil
        go_simp
        refine HRE.out.mono ?_
        rintro e w10 ⟨rfl, hb10⟩
        have HBX := Lib.hid hb10
        clear hb10
        go_wp2_with fail
        refine hK.out _ _ (HCV.out w10 (HB9.out.trans (HBX.out.mono HB9.out.size))) (fun hHeld2 => ?_)
        clear hK K
        try simp only [Act.put, List.setIfInBounds_toArray, List.set_cons_zero, List.set_cons_succ, List.getElem_toArray, List.getElem_cons_zero, List.getElem_cons_succ]
        refine wpAnyH_take (i := 8) (v := ?v8) rfl (by kernel_rfl) (by kernel_rfl) (by kernel_rfl) (fun _ _ _ h => h) (Or.inl ⟨by rfl, fun w hSw => ?y8⟩) hHeld2 ?r8
        case y8 => (try dsimp only at hSw); first | (go_simp; done) | (go_simp; with_reducible rfl)
        try simp only [Act.put, List.setIfInBounds_toArray, List.set_cons_zero, List.set_cons_succ, List.getElem_toArray, List.getElem_cons_zero, List.getElem_cons_succ]
        refine wpAnyH_take (i := 9) (v := ?v9) rfl (by kernel_rfl) (by kernel_rfl) (by kernel_rfl) (fun _ _ _ h => h) (Or.inl ⟨by rfl, fun w hSw => ?y9⟩) hHeld2 ?r9
        case y9 => (try dsimp only at hSw); first | (go_simp; done) | (go_simp; with_reducible rfl)
        try simp only [Act.put, List.setIfInBounds_toArray, List.set_cons_zero, List.set_cons_succ, List.getElem_toArray, List.getElem_cons_zero, List.getElem_cons_succ]
        refine wpAnyH_take (i := 10) (v := ?v10) rfl (by kernel_rfl) (by kernel_rfl) (by kernel_rfl) (fun _ _ _ h => h) (Or.inl ⟨by rfl, fun w hSw => ?y10⟩) hHeld2 ?r10
        case y10 => (try dsimp only at hSw); first | (go_simp; done) | (go_simp; with_reducible rfl)
        try simp only [Act.put, List.setIfInBounds_toArray, List.set_cons_zero, List.set_cons_succ, List.getElem_toArray, List.getElem_cons_zero, List.getElem_cons_succ]
        refine wpAnyH_done (by kernel_rfl) ?_ _
        have HBE := Lib.hid (HB5.out.trans ((HB9.out.trans (HBX.out.mono HB9.out.size)).mono HB5.out.size))
        clear hHeld hHeld2 heq
        go_wp2_with fail
        go_ret
        exact ⟨rfl, HBE.out⟩
end Go.Proofs.YtmbfgejephgojaaDoor.Gf

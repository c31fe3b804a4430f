
/- The walk of GthreeTells. -/
import Derived.Test.YtidicajedckaoaaGreatDoorGtJ
import Derived.Test.YtidicajedckaoaaGreatDoorGtH
namespace Go.Proofs.YtidicajedckaoaaGreatDoor.Gt
open Go.RowKit Go.Proofs.YtidicajedckaoaaGreatDoor.Oct Go.Proofs.YtidicajedckaoaaGreatDoor.Bit
open Go.Proofs.YtidicajedckaoaaGreatDoor.Fx (Tab TrueT)
open Go.Proofs.YtidicajedckaoaaGreatDoor.Mh (EncP Tbl Txs txt IsBytess)
open Go.Proofs.YtidicajedckaoaaGreatDoor.Rn (changes)
open Go.Proofs.YtidicajedckaoaaGreatDoor.Lp (VRow blk_set blk_frozen)
set_option linter.unusedVariables false
set_option linter.unusedSimpArgs false
set_option maxRecDepth 100000

set_option maxHeartbeats 16000000 in
theorem tells_walk (p : Option Addr) (len cap : Nat) (z : Int) (two : Bool) (every : Int) (al ends : Bool) (w : World) (hT : Tab w) (hbs : IsBytess w p len cap) (hz0 : (Lit.int .i64 z).wf = true) :
    Calls Tryz.prog 3 #[.slice p len cap, .int .i64 z, .agg #[.bool two, .int .i64 every, .bool al, .bool ends]] w fun e w' => e = .returned (.bool true) ∧ Below w.heap.size w w' := by
  have HT := Lib.hid hT
  have HBS := Lib.hid hbs
  obtain ⟨w0, hw0⟩ : ∃ w0, w0 = w.alloc (.cells #[.bool two, .int .i64 every, .bool al, .bool ends] 24) := ⟨_, rfl⟩
  have hbx0 : BxO w0 w.heap.size every two al ends := by rw [hw0]; exact bxO_new w every two al ends
  have hb0 : Below w.heap.size w w0 := by rw [hw0]; exact alloc_below w _
  have HB0 := Lib.hid hb0
  have HBX0 := Lib.hid hbx0
  have HT0 := Lib.hid (hT.below hb0 hT.lt)
  have HW0 := Lib.hid hw0
  clear hT hbs hbx0 hb0 hw0
  by_cases hbad : 12 < len ∨ 300 < z
  · have hways : decide (12 < (len : Int)) = true ∨ (decide (12 < (len : Int)) = false ∧ decide (300 < z) = true) := by
      by_cases h1 : 12 < len
      · left; simp; omega
      · right
        constructor <;> simp <;> omega
    clear hbad
    rcases hways with q1 | ⟨q1, q2⟩ <;>
      (go_enter Tryz.func3, Tryz.ntmps3
       go_wp2_with fail
       rw [← HW0.out]
       refine (lives_any w0 HT0.out).mono ?_
       rintro e w1 ⟨rfl, hb1⟩
       have HB1 := Lib.hid (HB0.out.trans (hb1.mono HB0.out.size))
       have HT1 := Lib.hid (HT0.out.below hb1 HT0.out.lt)
       clear hb1
       go_wp2_with fail
       refine (lives_any w1 HT1.out).mono ?_
       rintro e w2 ⟨rfl, hb2⟩
       have HB2 := Lib.hid (HB1.out.trans (hb2.mono HB1.out.size))
       clear hb2
       go_wp2_with fail
       go_ret
       exact ⟨rfl, HB2.out⟩)
  · have q1 : decide (12 < (len : Int)) = false := by simp; omega
    have q2 : decide (300 < z) = false := by simp; omega
    have hl12 : len ≤ 12 := by omega
    have hz300 : z ≤ 300 := by omega
    obtain ⟨wd, hwd⟩ : ∃ wd : Nat, wd = z.toNat := ⟨_, rfl⟩
    have hmax : max z 0 = (wd : Int) := by omega
    have hmax2 : max 0 z = (wd : Int) := by omega
    have hwd3 : wd ≤ 300 := by omega
    have HWD := Lib.hid hwd
    have HMAX := Lib.hid hmax
    clear hbad hwd hmax hmax2
    go_enter Tryz.func3, Tryz.ntmps3
    go_wp2_with fail
    rw [← HW0.out]
    refine (lives_any w0 HT0.out).mono ?_
    rintro e w2 ⟨rfl, hb2⟩
    have hbx2 := HBX0.out.below hb2 HBX0.out.lt
    have HBX2 := Lib.hid hbx2
    have HB2 := Lib.hid (HB0.out.trans (hb2.mono HB0.out.size))
    have HT2 := Lib.hid (HT0.out.below hb2 HT0.out.lt)
    obtain ⟨go, hgo⟩ : ∃ go, go = w.heap.size := ⟨_, rfl⟩
    rw [← hgo] at HBX2 ⊢
    clear hb2 hbx2 hgo
    have hbs2 : IsBytess w2 p len cap := by
      obtain ⟨x1, x2, x3⟩ := HBS.out
      refine ⟨x1, x2, fun h0 => ?_⟩
      obtain ⟨b, off, e, hb, hc⟩ := x3 h0
      refine ⟨b, off, e, Nat.lt_of_lt_of_le hb HB2.out.size, fun i hi => ?_⟩
      obtain ⟨q, l, c, xs, y1, y2, y3, y4⟩ := hc i hi
      exact ⟨q, l, c, xs, (HB2.out.cell (p := ⟨b, off + i, none⟩) hb).trans y1, y2, y3.below HB2.out, y4⟩
    have HTX := Lib.hid (texts_any w2 p len cap wd hbs2 (by omega) hwd3)
    clear hbs2
    go_wp2_with fail
    rw [HMAX.out]
    refine HTX.out.mono ?_
    rintro e w3 ⟨hb3, hres⟩
    have hbx3 := HBX2.out.below hb3 HBX2.out.lt
    have HBX3 := Lib.hid hbx3
    have HT3 := Lib.hid (HT2.out.below hb3 HT2.out.lt)
    have HB3 := Lib.hid (HB2.out.trans (hb3.mono HB2.out.size))
    clear hb3 hbx3 HTX
    rcases hres with rfl | ⟨Xs, qs, ql, cs, cl, rfl, hXl, hXw, hts, htl⟩
    · go_wp2_with fail
      go_ret
      exact ⟨rfl, HB3.out⟩
    · by_cases hz1 : z < 1
      · have d1 : decide (z < 1) = true := by simpa using hz1
        cases two
        · have hrt : ∀ W, Calls Tryz.prog 8 #[.agg #[.bool false, .int .i64 every, .bool al, .bool ends]] W fun e w' => e = .returned (.bool true) ∧ Below W.heap.size W w' := fun W => by
            have h := right_any false al ends every W
            rw [show (decide (1 ≤ every) || !false) = true from by simp] at h
            exact h
          have HRT := Lib.hid hrt
          clear hrt
          have HEN := Lib.hid (gencode_bad w3 ql len cl z every false al ends (.inr (by simp; omega)))
          obtain ⟨a0, a1, a2, a3⟩ := HBX3.out.cells
          clear htl hts
          go_wp2_with fail
          refine HEN.out.mono ?_
          rintro e w5 ⟨rfl, hb5⟩
          clear a0 a1 a2 a3
          have hbx5 := HBX3.out.below hb5 HBX3.out.lt
          obtain ⟨b0, b1, b2, b3⟩ := hbx5.cells
          have HB5 := Lib.hid (HB3.out.trans (hb5.mono HB3.out.size))
          clear hb5 hbx5
          go_wp2_with fail
          refine (HRT.out w5).mono ?_
          rintro e w6 ⟨rfl, hb6⟩
          have HB6 := Lib.hid (HB5.out.trans (hb6.mono HB5.out.size))
          clear hb6
          go_wp2_with fail
          go_ret
          exact ⟨rfl, HB6.out⟩
        · by_cases hev : 1 ≤ every
          · have dev : decide (1 ≤ every) = true := by simpa using hev
            have hrt : ∀ W, Calls Tryz.prog 8 #[.agg #[.bool true, .int .i64 every, .bool al, .bool ends]] W fun e w' => e = .returned (.bool true) ∧ Below W.heap.size W w' := fun W => by
              have h := right_any true al ends every W
              rw [show (decide (1 ≤ every) || !true) = true from by rw [dev]; rfl] at h
              exact h
            have HRT := Lib.hid hrt
            clear hrt
            have HEN := Lib.hid (gencode_bad w3 ql len cl z every true al ends (.inr (by simp; omega)))
            obtain ⟨a0, a1, a2, a3⟩ := HBX3.out.cells
            clear htl hts
            go_wp2_with fail
            refine HEN.out.mono ?_
            rintro e w5 ⟨rfl, hb5⟩
            clear a0 a1 a2 a3
            have hbx5 := HBX3.out.below hb5 HBX3.out.lt
            obtain ⟨b0, b1, b2, b3⟩ := hbx5.cells
            have HB5 := Lib.hid (HB3.out.trans (hb5.mono HB3.out.size))
            clear hb5 hbx5
            go_wp2_with fail
            refine (HRT.out w5).mono ?_
            rintro e w6 ⟨rfl, hb6⟩
            have HB6 := Lib.hid (HB5.out.trans (hb6.mono HB5.out.size))
            clear hb6
            go_wp2_with fail
            go_ret
            exact ⟨rfl, HB6.out⟩
          · have dev : decide (1 ≤ every) = false := by simpa using hev
            have hrt : ∀ W, Calls Tryz.prog 8 #[.agg #[.bool true, .int .i64 every, .bool al, .bool ends]] W fun e w' => e = .returned (.bool false) ∧ Below W.heap.size W w' := fun W => by
              have h := right_any true al ends every W
              rw [show (decide (1 ≤ every) || !true) = false from by rw [dev]; rfl] at h
              exact h
            have HRT := Lib.hid hrt
            clear hrt
            have HEN := Lib.hid (gencode_bad w3 ql len cl z every true al ends (.inl (by rw [dev]; rfl)))
            obtain ⟨a0, a1, a2, a3⟩ := HBX3.out.cells
            clear htl hts
            go_wp2_with fail
            refine HEN.out.mono ?_
            rintro e w5 ⟨rfl, hb5⟩
            clear a0 a1 a2 a3
            have hbx5 := HBX3.out.below hb5 HBX3.out.lt
            obtain ⟨b0, b1, b2, b3⟩ := hbx5.cells
            have HB5 := Lib.hid (HB3.out.trans (hb5.mono HB3.out.size))
            clear hb5 hbx5
            go_wp2_with fail
            refine (HRT.out w5).mono ?_
            rintro e w6 ⟨rfl, hb6⟩
            have HB6 := Lib.hid (HB5.out.trans (hb6.mono HB5.out.size))
            clear hb6
            go_wp2_with fail
            go_ret
            exact ⟨rfl, HB6.out⟩
      · have d1 : decide (z < 1) = false := by simpa using hz1
        cases two
        · have hrt : ∀ W, Calls Tryz.prog 8 #[.agg #[.bool false, .int .i64 every, .bool al, .bool ends]] W fun e w' => e = .returned (.bool true) ∧ Below W.heap.size W w' := fun W => by
            have h := right_any false al ends every W
            rw [show (decide (1 ≤ every) || !false) = true from by simp] at h
            exact h
          have HRT := Lib.hid hrt
          clear hrt
          have hzw : z = (wd : Int) := by have := HWD.out; have h1 := of_decide_eq_false d1; omega
          subst hzw
          have h1 : 1 ≤ wd := by have := of_decide_eq_false d1; omega
          have HEN := Lib.hid (gencode_any w3 HT3.out ql len cl Xs wd every false al ends htl hXl (by omega) hXw h1 (by omega) (fun h => by cases h))
          have HTS := Lib.hid hts
          have HXL := Lib.hid hXl
          have HXW := Lib.hid hXw
          obtain ⟨a0, a1, a2, a3⟩ := HBX3.out.cells
          clear htl hts hXl hXw
          go_wp2_with fail
          refine HEN.out.mono ?_
          rintro e w5 ⟨hb5, q5, c5, rfl, hr5, hn5, hc5⟩
          clear a0 a1 a2 a3
          have hbx5 := HBX3.out.below hb5 HBX3.out.lt
          obtain ⟨b0, b1, b2, b3⟩ := hbx5.cells
          have HBX5 := Lib.hid hbx5
          have HB35 := Lib.hid hb5
          have HB5 := Lib.hid (HB3.out.trans (hb5.mono HB3.out.size))
          obtain ⟨BT, hBT⟩ : ∃ BT, BT = packB false (pageG false al ends every.toNat wd Xs) := ⟨_, rfl⟩
          rw [← hBT] at hr5 hc5 ⊢
          obtain ⟨m5, hm5⟩ : ∃ m5, m5 = BT.length := ⟨_, rfl⟩
          rw [← hm5] at hc5 ⊢
          have HR5 := Lib.hid hr5
          have HBT := Lib.hid hBT.symm
          have HM5 := Lib.hid hm5.symm
          clear hb5 hbx5 hr5 hn5 hc5 hBT hm5 HEN
          go_wp2_with fail
          refine (HRT.out w5).mono ?_
          rintro e w6 ⟨rfl, hb6⟩
          have hbx6 := HBX5.out.below hb6 HBX5.out.lt
          obtain ⟨b0, b1, b2, b3⟩ := hbx6.cells
          have HB36 := Lib.hid (HB35.out.trans (hb6.mono HB35.out.size))
          have HB6 := Lib.hid (HB5.out.trans (hb6.mono HB5.out.size))
          have HR6 := Lib.hid (HR5.out.below hb6)
          clear hb6 hbx6
          go_wp2_with fail
          obtain ⟨W9, hW9⟩ : ∃ W9, W9 = w6.alloc (.cells #[.bool false, .int .i64 every, .bool al, .bool ends] 35) := ⟨_, rfl⟩
          have hbx9 : BxR W9 w6.heap.size every false al ends := by rw [hW9]; exact Array.getElem?_push_size
          have hb9 : Below w6.heap.size w6 W9 := by rw [hW9]; exact alloc_below w6 _
          rw [← hW9]
          obtain ⟨gr, hgr⟩ : ∃ gr, gr = w6.heap.size := ⟨_, rfl⟩
          rw [← hgr] at hbx9 ⊢
          have HBX9 := Lib.hid hbx9
          have hb9d : Below w6.heap.size w6 W9.drew := hb9.trans ((drew_below W9).mono hb9.size)
          have HB9 := Lib.hid hb9d
          have hcv : ∀ W, Below w6.heap.size w6 W → (convert 30 9 (.slice q5 m5 c5)).run Tryz.prog W = .ok (.string (bs BT)) W := fun W hW => conv_row m5 c5 (HR6.out.below hW) HM5.out
          have HCV := Lib.hid hcv
          have k0 := (HBX9.out.below (drew_below W9) HBX9.out.lt).cells
          have kc := hcv W9.drew hb9d
          have HRE := Lib.hid (rgencode_any W9.drew qs len cs Xs wd every false al ends ((HTS.out.below (HB36.out.trans (HB9.out.mono HB36.out.size)) (Nat.le_refl _)).mono (HB36.out.trans (HB9.out.mono HB36.out.size)).size) HXL.out hl12 HXW.out h1 hwd3 (fun h => by cases h))
          rw [HBT.out] at HRE
          obtain ⟨SB, hSB⟩ : ∃ SB, SB = bs BT := ⟨_, rfl⟩
          rw [← hSB] at HRE kc HCV
          have heq : (SB.toList == SB.toList) = true := by simp
          clear hW9 hgr hbx9 hb9 hb9d hcv hSB b0 b1 b2 b3
          go_wp2_with fail
          refine wp_region_held_drew (S := fun W => (W.cell? ⟨gr, 0, none⟩ = some (.bool false) ∧ W.cell? ⟨gr, 1, none⟩ = some (.int .i64 every) ∧ W.cell? ⟨gr, 2, none⟩ = some (.bool al) ∧ W.cell? ⟨gr, 3, none⟩ = some (.bool ends)) ∧ (convert 30 9 (.slice q5 m5 c5)).run Tryz.prog W = .ok (.string SB) W) (by kernel_rfl) ⟨k0, kc⟩ (fun hHeld => ?_)
          clear k0 kc
          refine wpAnyH_take (i := 0) (v := ?v1) rfl (by kernel_rfl) (by kernel_rfl) (by kernel_rfl) (fun _ _ _ h => h) (Or.inl ⟨by rfl, fun w hSw => ?y1⟩) hHeld ?r1
          case y1 => (try dsimp only at hSw); first | (go_simp; done) | (go_simp; with_reducible rfl)
          try simp only [Act.put, List.setIfInBounds_toArray, List.set_cons_zero, List.set_cons_succ, List.getElem_toArray, List.getElem_cons_zero, List.getElem_cons_succ]
          refine wpAnyH_take (i := 1) (v := ?v2) rfl (by kernel_rfl) (by kernel_rfl) (by kernel_rfl) (fun _ _ _ h => h) (Or.inl ⟨by rfl, fun w hSw => ?y2⟩) hHeld ?r2
          case y2 => (try dsimp only at hSw); first | (go_simp; done) | (go_simp; with_reducible rfl)
          try simp only [Act.put, List.setIfInBounds_toArray, List.set_cons_zero, List.set_cons_succ, List.getElem_toArray, List.getElem_cons_zero, List.getElem_cons_succ]
          refine wpAnyH_take (i := 2) (v := ?v3) rfl (by kernel_rfl) (by kernel_rfl) (by kernel_rfl) (fun _ _ _ h => h) (Or.inl ⟨by rfl, fun w hSw => ?y3⟩) hHeld ?r3
          case y3 => (try dsimp only at hSw); first | (go_simp; done) | (go_simp; with_reducible rfl)
          try simp only [Act.put, List.setIfInBounds_toArray, List.set_cons_zero, List.set_cons_succ, List.getElem_toArray, List.getElem_cons_zero, List.getElem_cons_succ]
          refine wpAnyH_take (i := 3) (v := ?v4) rfl (by kernel_rfl) (by kernel_rfl) (by kernel_rfl) (fun _ _ _ h => h) (Or.inl ⟨by rfl, fun w hSw => ?y4⟩) hHeld ?r4
          case y4 => (try dsimp only at hSw); first | (go_simp; done) | (go_simp; with_reducible rfl)
          try simp only [Act.put, List.setIfInBounds_toArray, List.set_cons_zero, List.set_cons_succ, List.getElem_toArray, List.getElem_cons_zero, List.getElem_cons_succ]
          refine wpAnyH_take (i := 4) (v := ?v5) rfl (by kernel_rfl) (by kernel_rfl) (by kernel_rfl) (fun _ _ _ h => h) (Or.inl ⟨by rfl, fun w hSw => ?y5⟩) hHeld ?r5
          case y5 => (try dsimp only at hSw); first | (go_simp; done) | (go_simp; with_reducible rfl)
          try simp only [Act.put, List.setIfInBounds_toArray, List.set_cons_zero, List.set_cons_succ, List.getElem_toArray, List.getElem_cons_zero, List.getElem_cons_succ]
          refine wpAnyH_take (i := 5) (v := ?v6) rfl (by kernel_rfl) (by kernel_rfl) (by kernel_rfl) (fun _ _ _ h => h) (Or.inl ⟨by rfl, fun w hSw => ?y6⟩) hHeld ?r6
          case y6 => (try dsimp only at hSw); first | (go_simp; done) | (go_simp; with_reducible rfl)
          try simp only [Act.put, List.setIfInBounds_toArray, List.set_cons_zero, List.set_cons_succ, List.getElem_toArray, List.getElem_cons_zero, List.getElem_cons_succ]
          refine wpAnyH_take (i := 6) (v := ?v7) rfl (by kernel_rfl) (by kernel_rfl) (by kernel_rfl) (fun _ _ _ h => h) (Or.inl ⟨by rfl, fun w hSw => ?y7⟩) hHeld ?r7
          case y7 => (try dsimp only at hSw); first | (go_simp; done) | (go_simp; with_reducible rfl)
          try simp only [Act.put, List.setIfInBounds_toArray, List.set_cons_zero, List.set_cons_succ, List.getElem_toArray, List.getElem_cons_zero, List.getElem_cons_succ]
          refine wpAnyH_ready (rs := [7]) (by kernel_rfl) (by simp) ?_
          refine AllReadyH.cons rfl (fun K hK => ?_) AllReadyH.nil
          go_simp
          refine HRE.out.mono ?_
          rintro e w10 ⟨rfl, hb10⟩
          have HBX := Lib.hid hb10
          clear hb10
          go_wp2_with fail
          refine hK.out _ _ ⟨((HBX9.out.below (drew_below W9) HBX9.out.lt).below HBX.out (HBX9.out.below (drew_below W9) HBX9.out.lt).lt).cells, HCV.out w10 (HB9.out.trans (HBX.out.mono HB9.out.size))⟩ (fun hHeld2 => ?_)
          clear hK K
          try simp only [Act.put, List.setIfInBounds_toArray, List.set_cons_zero, List.set_cons_succ, List.getElem_toArray, List.getElem_cons_zero, List.getElem_cons_succ]
          refine wpAnyH_take (i := 8) (v := ?v8) rfl (by kernel_rfl) (by kernel_rfl) (by kernel_rfl) (fun _ _ _ h => h) (Or.inl ⟨by rfl, fun w hSw => ?y8⟩) hHeld2 ?r8
          case y8 => (try dsimp only at hSw); first | (go_simp; done) | (go_simp; with_reducible rfl)
          try simp only [Act.put, List.setIfInBounds_toArray, List.set_cons_zero, List.set_cons_succ, List.getElem_toArray, List.getElem_cons_zero, List.getElem_cons_succ]
          refine wpAnyH_take (i := 9) (v := ?v9) rfl (by kernel_rfl) (by kernel_rfl) (by kernel_rfl) (fun _ _ _ h => h) (Or.inl ⟨by rfl, fun w hSw => ?y9⟩) hHeld2 ?r9
          case y9 => (try dsimp only at hSw); first | (go_simp; done) | (go_simp; with_reducible rfl)
          try simp only [Act.put, List.setIfInBounds_toArray, List.set_cons_zero, List.set_cons_succ, List.getElem_toArray, List.getElem_cons_zero, List.getElem_cons_succ]
          refine wpAnyH_take (i := 10) (v := ?v10) rfl (by kernel_rfl) (by kernel_rfl) (by kernel_rfl) (fun _ _ _ h => h) (Or.inl ⟨by rfl, fun w hSw => ?y10⟩) hHeld2 ?r10
          case y10 => (try dsimp only at hSw); first | (go_simp; done) | (go_simp; with_reducible rfl)
          try simp only [Act.put, List.setIfInBounds_toArray, List.set_cons_zero, List.set_cons_succ, List.getElem_toArray, List.getElem_cons_zero, List.getElem_cons_succ]
          refine wpAnyH_done (by kernel_rfl) ?_ _
          have HBE := Lib.hid (HB6.out.trans ((HB9.out.trans (HBX.out.mono HB9.out.size)).mono HB6.out.size))
          clear hHeld hHeld2 heq
          go_wp2_with fail
          go_ret
          exact ⟨rfl, HBE.out⟩
        · by_cases hev : 1 ≤ every
          · have dev : decide (1 ≤ every) = true := by simpa using hev
            have hrt : ∀ W, Calls Tryz.prog 8 #[.agg #[.bool true, .int .i64 every, .bool al, .bool ends]] W fun e w' => e = .returned (.bool true) ∧ Below W.heap.size W w' := fun W => by
              have h := right_any true al ends every W
              rw [show (decide (1 ≤ every) || !true) = true from by rw [dev]; rfl] at h
              exact h
            have HRT := Lib.hid hrt
            clear hrt
            have hzw : z = (wd : Int) := by have := HWD.out; have h1 := of_decide_eq_false d1; omega
            subst hzw
            have h1 : 1 ≤ wd := by have := of_decide_eq_false d1; omega
            have HEN := Lib.hid (gencode_any w3 HT3.out ql len cl Xs wd every true al ends htl hXl (by omega) hXw h1 (by omega) (fun _ => by simpa using dev))
            have HTS := Lib.hid hts
            have HXL := Lib.hid hXl
            have HXW := Lib.hid hXw
            have HEV : Hid (1 ≤ every) := Lib.hid (by simpa using dev)
            obtain ⟨a0, a1, a2, a3⟩ := HBX3.out.cells
            clear htl hts hXl hXw
            go_wp2_with fail
            refine HEN.out.mono ?_
            rintro e w5 ⟨hb5, q5, c5, rfl, hr5, hn5, hc5⟩
            clear a0 a1 a2 a3
            have hbx5 := HBX3.out.below hb5 HBX3.out.lt
            obtain ⟨b0, b1, b2, b3⟩ := hbx5.cells
            have HBX5 := Lib.hid hbx5
            have HB35 := Lib.hid hb5
            have HB5 := Lib.hid (HB3.out.trans (hb5.mono HB3.out.size))
            obtain ⟨BT, hBT⟩ : ∃ BT, BT = packB false (pageG true al ends every.toNat wd Xs) := ⟨_, rfl⟩
            rw [← hBT] at hr5 hc5 ⊢
            obtain ⟨m5, hm5⟩ : ∃ m5, m5 = BT.length := ⟨_, rfl⟩
            rw [← hm5] at hc5 ⊢
            have HR5 := Lib.hid hr5
            have HBT := Lib.hid hBT.symm
            have HM5 := Lib.hid hm5.symm
            clear hb5 hbx5 hr5 hn5 hc5 hBT hm5 HEN
            go_wp2_with fail
            refine (HRT.out w5).mono ?_
            rintro e w6 ⟨rfl, hb6⟩
            have hbx6 := HBX5.out.below hb6 HBX5.out.lt
            obtain ⟨b0, b1, b2, b3⟩ := hbx6.cells
            have HB36 := Lib.hid (HB35.out.trans (hb6.mono HB35.out.size))
            have HB6 := Lib.hid (HB5.out.trans (hb6.mono HB5.out.size))
            have HR6 := Lib.hid (HR5.out.below hb6)
            clear hb6 hbx6
            go_wp2_with fail
            obtain ⟨W9, hW9⟩ : ∃ W9, W9 = w6.alloc (.cells #[.bool true, .int .i64 every, .bool al, .bool ends] 35) := ⟨_, rfl⟩
            have hbx9 : BxR W9 w6.heap.size every true al ends := by rw [hW9]; exact Array.getElem?_push_size
            have hb9 : Below w6.heap.size w6 W9 := by rw [hW9]; exact alloc_below w6 _
            rw [← hW9]
            obtain ⟨gr, hgr⟩ : ∃ gr, gr = w6.heap.size := ⟨_, rfl⟩
            rw [← hgr] at hbx9 ⊢
            have HBX9 := Lib.hid hbx9
            have hb9d : Below w6.heap.size w6 W9.drew := hb9.trans ((drew_below W9).mono hb9.size)
            have HB9 := Lib.hid hb9d
            have hcv : ∀ W, Below w6.heap.size w6 W → (convert 30 9 (.slice q5 m5 c5)).run Tryz.prog W = .ok (.string (bs BT)) W := fun W hW => conv_row m5 c5 (HR6.out.below hW) HM5.out
            have HCV := Lib.hid hcv
            have k0 := (HBX9.out.below (drew_below W9) HBX9.out.lt).cells
            have kc := hcv W9.drew hb9d
            have HRE := Lib.hid (rgencode_any W9.drew qs len cs Xs wd every true al ends ((HTS.out.below (HB36.out.trans (HB9.out.mono HB36.out.size)) (Nat.le_refl _)).mono (HB36.out.trans (HB9.out.mono HB36.out.size)).size) HXL.out hl12 HXW.out h1 hwd3 (fun _ => HEV.out))
            rw [HBT.out] at HRE
            obtain ⟨SB, hSB⟩ : ∃ SB, SB = bs BT := ⟨_, rfl⟩
            rw [← hSB] at HRE kc HCV
            have heq : (SB.toList == SB.toList) = true := by simp
            clear hW9 hgr hbx9 hb9 hb9d hcv hSB b0 b1 b2 b3
            go_wp2_with fail
            refine wp_region_held_drew (S := fun W => (W.cell? ⟨gr, 0, none⟩ = some (.bool true) ∧ W.cell? ⟨gr, 1, none⟩ = some (.int .i64 every) ∧ W.cell? ⟨gr, 2, none⟩ = some (.bool al) ∧ W.cell? ⟨gr, 3, none⟩ = some (.bool ends)) ∧ (convert 30 9 (.slice q5 m5 c5)).run Tryz.prog W = .ok (.string SB) W) (by kernel_rfl) ⟨k0, kc⟩ (fun hHeld => ?_)
            clear k0 kc
            refine wpAnyH_take (i := 0) (v := ?v11) rfl (by kernel_rfl) (by kernel_rfl) (by kernel_rfl) (fun _ _ _ h => h) (Or.inl ⟨by rfl, fun w hSw => ?y11⟩) hHeld ?r11
            case y11 => (try dsimp only at hSw); first | (go_simp; done) | (go_simp; with_reducible rfl)
            try simp only [Act.put, List.setIfInBounds_toArray, List.set_cons_zero, List.set_cons_succ, List.getElem_toArray, List.getElem_cons_zero, List.getElem_cons_succ]
            refine wpAnyH_take (i := 1) (v := ?v12) rfl (by kernel_rfl) (by kernel_rfl) (by kernel_rfl) (fun _ _ _ h => h) (Or.inl ⟨by rfl, fun w hSw => ?y12⟩) hHeld ?r12
            case y12 => (try dsimp only at hSw); first | (go_simp; done) | (go_simp; with_reducible rfl)
            try simp only [Act.put, List.setIfInBounds_toArray, List.set_cons_zero, List.set_cons_succ, List.getElem_toArray, List.getElem_cons_zero, List.getElem_cons_succ]
            refine wpAnyH_take (i := 2) (v := ?v13) rfl (by kernel_rfl) (by kernel_rfl) (by kernel_rfl) (fun _ _ _ h => h) (Or.inl ⟨by rfl, fun w hSw => ?y13⟩) hHeld ?r13
            case y13 => (try dsimp only at hSw); first | (go_simp; done) | (go_simp; with_reducible rfl)
            try simp only [Act.put, List.setIfInBounds_toArray, List.set_cons_zero, List.set_cons_succ, List.getElem_toArray, List.getElem_cons_zero, List.getElem_cons_succ]
            refine wpAnyH_take (i := 3) (v := ?v14) rfl (by kernel_rfl) (by kernel_rfl) (by kernel_rfl) (fun _ _ _ h => h) (Or.inl ⟨by rfl, fun w hSw => ?y14⟩) hHeld ?r14
            case y14 => (try dsimp only at hSw); first | (go_simp; done) | (go_simp; with_reducible rfl)
            try simp only [Act.put, List.setIfInBounds_toArray, List.set_cons_zero, List.set_cons_succ, List.getElem_toArray, List.getElem_cons_zero, List.getElem_cons_succ]
            refine wpAnyH_take (i := 4) (v := ?v15) rfl (by kernel_rfl) (by kernel_rfl) (by kernel_rfl) (fun _ _ _ h => h) (Or.inl ⟨by rfl, fun w hSw => ?y15⟩) hHeld ?r15
            case y15 => (try dsimp only at hSw); first | (go_simp; done) | (go_simp; with_reducible rfl)
            try simp only [Act.put, List.setIfInBounds_toArray, List.set_cons_zero, List.set_cons_succ, List.getElem_toArray, List.getElem_cons_zero, List.getElem_cons_succ]
            refine wpAnyH_take (i := 5) (v := ?v16) rfl (by kernel_rfl) (by kernel_rfl) (by kernel_rfl) (fun _ _ _ h => h) (Or.inl ⟨by rfl, fun w hSw => ?y16⟩) hHeld ?r16
            case y16 => (try dsimp only at hSw); first | (go_simp; done) | (go_simp; with_reducible rfl)
            try simp only [Act.put, List.setIfInBounds_toArray, List.set_cons_zero, List.set_cons_succ, List.getElem_toArray, List.getElem_cons_zero, List.getElem_cons_succ]
            refine wpAnyH_take (i := 6) (v := ?v17) rfl (by kernel_rfl) (by kernel_rfl) (by kernel_rfl) (fun _ _ _ h => h) (Or.inl ⟨by rfl, fun w hSw => ?y17⟩) hHeld ?r17
            case y17 => (try dsimp only at hSw); first | (go_simp; done) | (go_simp; with_reducible rfl)
            try simp only [Act.put, List.setIfInBounds_toArray, List.set_cons_zero, List.set_cons_succ, List.getElem_toArray, List.getElem_cons_zero, List.getElem_cons_succ]
            refine wpAnyH_ready (rs := [7]) (by kernel_rfl) (by simp) ?_
            refine AllReadyH.cons rfl (fun K hK => ?_) AllReadyH.nil
            go_simp
            refine HRE.out.mono ?_
            rintro e w10 ⟨rfl, hb10⟩
            have HBX := Lib.hid hb10
            clear hb10
            go_wp2_with fail
            refine hK.out _ _ ⟨((HBX9.out.below (drew_below W9) HBX9.out.lt).below HBX.out (HBX9.out.below (drew_below W9) HBX9.out.lt).lt).cells, HCV.out w10 (HB9.out.trans (HBX.out.mono HB9.out.size))⟩ (fun hHeld2 => ?_)
            clear hK K
            try simp only [Act.put, List.setIfInBounds_toArray, List.set_cons_zero, List.set_cons_succ, List.getElem_toArray, List.getElem_cons_zero, List.getElem_cons_succ]
            refine wpAnyH_take (i := 8) (v := ?v18) rfl (by kernel_rfl) (by kernel_rfl) (by kernel_rfl) (fun _ _ _ h => h) (Or.inl ⟨by rfl, fun w hSw => ?y18⟩) hHeld2 ?r18
            case y18 => (try dsimp only at hSw); first | (go_simp; done) | (go_simp; with_reducible rfl)
            try simp only [Act.put, List.setIfInBounds_toArray, List.set_cons_zero, List.set_cons_succ, List.getElem_toArray, List.getElem_cons_zero, List.getElem_cons_succ]
            refine wpAnyH_take (i := 9) (v := ?v19) rfl (by kernel_rfl) (by kernel_rfl) (by kernel_rfl) (fun _ _ _ h => h) (Or.inl ⟨by rfl, fun w hSw => ?y19⟩) hHeld2 ?r19
            case y19 => (try dsimp only at hSw); first | (go_simp; done) | (go_simp; with_reducible rfl)
            try simp only [Act.put, List.setIfInBounds_toArray, List.set_cons_zero, List.set_cons_succ, List.getElem_toArray, List.getElem_cons_zero, List.getElem_cons_succ]
            refine wpAnyH_take (i := 10) (v := ?v20) rfl (by kernel_rfl) (by kernel_rfl) (by kernel_rfl) (fun _ _ _ h => h) (Or.inl ⟨by rfl, fun w hSw => ?y20⟩) hHeld2 ?r20
            case y20 => (try dsimp only at hSw); first | (go_simp; done) | (go_simp; with_reducible rfl)
            try simp only [Act.put, List.setIfInBounds_toArray, List.set_cons_zero, List.set_cons_succ, List.getElem_toArray, List.getElem_cons_zero, List.getElem_cons_succ]
            refine wpAnyH_done (by kernel_rfl) ?_ _
            have HBE := Lib.hid (HB6.out.trans ((HB9.out.trans (HBX.out.mono HB9.out.size)).mono HB6.out.size))
            clear hHeld hHeld2 heq
            go_wp2_with fail
            go_ret
            exact ⟨rfl, HBE.out⟩
          · have dev : decide (1 ≤ every) = false := by simpa using hev
            have hrt : ∀ W, Calls Tryz.prog 8 #[.agg #[.bool true, .int .i64 every, .bool al, .bool ends]] W fun e w' => e = .returned (.bool false) ∧ Below W.heap.size W w' := fun W => by
              have h := right_any true al ends every W
              rw [show (decide (1 ≤ every) || !true) = false from by rw [dev]; rfl] at h
              exact h
            have HRT := Lib.hid hrt
            clear hrt
            have HEN := Lib.hid (gencode_bad w3 ql len cl z every true al ends (.inl (by rw [dev]; rfl)))
            obtain ⟨a0, a1, a2, a3⟩ := HBX3.out.cells
            clear htl hts
            go_wp2_with fail
            refine HEN.out.mono ?_
            rintro e w5 ⟨rfl, hb5⟩
            clear a0 a1 a2 a3
            have hbx5 := HBX3.out.below hb5 HBX3.out.lt
            obtain ⟨b0, b1, b2, b3⟩ := hbx5.cells
            have HB5 := Lib.hid (HB3.out.trans (hb5.mono HB3.out.size))
            clear hb5 hbx5
            go_wp2_with fail
            refine (HRT.out w5).mono ?_
            rintro e w6 ⟨rfl, hb6⟩
            have HB6 := Lib.hid (HB5.out.trans (hb6.mono HB5.out.size))
            clear hb6
            go_wp2_with fail
            go_ret
            exact ⟨rfl, HB6.out⟩
end Go.Proofs.YtidicajedckaoaaGreatDoor.Gt

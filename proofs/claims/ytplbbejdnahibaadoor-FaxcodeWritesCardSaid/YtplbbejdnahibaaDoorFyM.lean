
/- The walk of FaxcodeWrites. -/
import Derived.Test.YtplbbejdnahibaaDoorFyJ
import Derived.Test.YtplbbejdnahibaaDoorBitV
import Derived.Deep.RegionHeld3
namespace Go.Proofs.YtplbbejdnahibaaDoor.Fx
open Go.RowKit Go.Proofs.YtplbbejdnahibaaDoor.Oct Go.Proofs.YtplbbejdnahibaaDoor.Bit Go.Proofs.YtplbbejdnahibaaDoor.Hf Go.Proofs.YtplbbejdnahibaaDoor.Inf
set_option linter.unusedVariables false
set_option linter.unusedSimpArgs false

/-- a writer made beside books that are there -/
theorem CW.third {D : Nat} {W0 w w' : World} {B C c : Nat} {low : Bool} (hc : Cd w B C c) (hb : Below D W0 w) (hd : D ≤ w.heap.size) (hw : Ws w' w.heap.size (.slice none 0 0) [] low) (hb2 : Below w.heap.size w w') : CW D W0 B C c w.heap.size (.slice none 0 0) [] low w' := by
  have key : ∀ k, Mine w.heap.size (.slice none 0 0) k → k = w.heap.size := fun k hk => by
    rcases hk with e | e
    · exact e
    · cases e
  exact ⟨hc.below hb2 hc.1, hw, fun k hk => by rw [key k hk]; exact .inr hc.1, fun k hk => by rw [key k hk]; exact hd, hb.trans (hb2.mono hd), Nat.le_trans hd hb2.size⟩
set_option maxHeartbeats 16000000 in
set_option maxRecDepth 100000 in
theorem writes_walk (n : Int) (b : Bool) (mode : Int) (w : World) (hT : Tab w) (hn0 : (Lit.int .i64 n).wf = true) (hm0 : (Lit.int .i64 mode).wf = true) :
    Calls Tryd.prog 4 #[.int .i64 n, .bool b, .int .i64 mode] w fun e w' => e = .returned (.bool true) ∧ Below w.heap.size w w' := by
  obtain ⟨hnl, hnu⟩ := bounds_i64 hn0
  obtain ⟨hml, hmu⟩ := bounds_i64 hm0
  have HT := Lib.hid hT
  have hmode : (mode < -3 ∨ 5 < mode) ∨ ∃ i : Nat, i < 9 ∧ (i : Int) - 3 = mode := by
    by_cases h : mode < -3 ∨ 5 < mode
    · exact .inl h
    · exact .inr ⟨(mode + 3).toNat, by omega, by omega⟩
  clear hT hn0 hm0
  go_enter Tryd.func4, Tryd.ntmps4
  go_wp2_with fail
  refine (lives_any w HT.out).mono ?_
  rintro e w1 ⟨rfl, hb1⟩
  have HB1 := Lib.hid hb1
  have HT1 := Lib.hid (HT.out.below hb1 HT.out.lt)
  clear hb1
  go_wp2_with fail
  refine (codes_any w1 HT1.out).mono ?_
  rintro e w2 ⟨hb2, c, rfl, hc⟩
  have HB2 := Lib.hid hb2
  have HC := Lib.hid hc
  clear hb2 hc
  go_wp2_with fail
  refine (newWriter_any false w2).mono ?_
  rintro e w3 ⟨hb3, rfl, hw3⟩
  have HCW := Lib.hid (CW.second HC.out HB2.out hw3 hb3)
  generalize hz1 : w1.heap.size = D at *
  generalize hz2 : w2.heap.size = C at *
  have HZ1 := Lib.hid hz1
  have HFIN := Lib.hid (fun (wr : World) (hb : Below D w1 wr) => show Below w.heap.size w wr from HB1.out.trans (hb.mono (by have := HB1.out.size; have := HZ1.out; omega)))
  clear hb3 hw3 hz1 hz2
  by_cases hbad : n < 0 ∨ 32768 < n
  · have HWB := Lib.hid (cwrite_bad w3 c (.pointer (some ⟨C, 0, none⟩)) n b hbad)
    have HL0 := Lib.hid (len_any w3 C _ [] false HCW.out.ws)
    have HCD := Lib.hid HCW.out.cd
    have HBW := Lib.hid HCW.out.bel
    have HDZ := Lib.hid HCW.out.dz
    have hnd : decide (n < 0) = true ∨ (decide (n < 0) = false ∧ decide (32768 < n) = true) := by
      simp only [decide_eq_true_eq, decide_eq_false_iff_not]
      omega
    clear hbad
    go_wp2_with fail
    refine HWB.out.mono ?_
    rintro e w4 ⟨rfl, rfl⟩
    rcases hnd with q1 | ⟨q1, q2⟩
    · go_wp2_with fail
      refine HL0.out.mono ?_
      rintro e w5 ⟨rfl, rfl⟩
      go_wp2_with fail
      refine (newWriter_any false w3).mono ?_
      rintro e w10 ⟨hb10, rfl, hw10⟩
      have H10 := Lib.hid (CW.third HCD.out HBW.out HDZ.out hw10 hb10)
      obtain ⟨gx, hgx⟩ : ∃ gx, gx = w3.heap.size := ⟨_, rfl⟩
      rw [← hgx] at H10 ⊢
      clear hb10 hw10 hgx
      rcases hmode with hmb | ⟨i, hi9, hie⟩
      · have HWM := Lib.hid (cmode_bad w10 c (.pointer (some ⟨gx, 0, none⟩)) mode hmb)
        have HLX := Lib.hid (len_any w10 gx _ [] false H10.out.ws)
        have hmd : decide (mode < -3) = true ∨ (decide (mode < -3) = false ∧ decide (5 < mode) = true) := by
          simp only [decide_eq_true_eq, decide_eq_false_iff_not]
          omega
        clear hmb
        go_wp2_with fail
        refine HWM.out.mono ?_
        rintro e w11 ⟨rfl, rfl⟩
        rcases hmd with q1 | ⟨q1, q2⟩ <;>
          (go_wp2_with fail
           refine HLX.out.mono ?_
           rintro e w11 ⟨rfl, rfl⟩
           go_wp2_with fail
           go_ret
           exact ⟨rfl, HFIN.out _ H10.out.bel⟩)
      · subst hie
        have HWM := Lib.hid (cmode_any w10 D C c gx _ [] false i H10.out.cd H10.out.ws hi9 (by simp))
        obtain ⟨z, hz⟩ : ∃ z : Int, (i : Int) - 3 = z := ⟨_, rfl⟩
        rw [hz] at HWM ⊢
        have q1 : decide (z < -3) = false := by simp; omega
        have q2 : decide (5 < z) = false := by simp; omega
        have q3 : z + 3 = (i : Int) := by omega
        have q4 : -3 ≤ z ∧ z ≤ 5 := by omega
        obtain ⟨q4, q5⟩ := q4
        clear hz
        go_wp2_with fail
        refine HWM.out.mono ?_
        rintro e w12 ⟨rfl, hw12⟩
        obtain ⟨v12, h12⟩ := H10.out.wrote hw12
        rw [List.nil_append] at h12
        have H12 := Lib.hid h12
        clear hw12 h12
        go_wp2_with fail
        refine (rmodes_any w12).mono ?_
        rintro e w13 ⟨hb13, q13, c13, rfl, hv13⟩
        have H13 := Lib.hid (H12.out.more hb13)
        obtain ⟨bb, off, rfl, _⟩ := hv13.1.addr (by rw [strs_length, wordsU_length, modesF_length]; omega)
        have hc13 : w13.cell? ⟨bb, off + i, none⟩ = some (.string (ds (modesF.getD i []))) := strs_word hv13.1 (by rw [modesF_length]; omega)
        rw [strs_length, wordsU_length, modesF_length]
        have hL6 : (modesF.getD i []).length ≤ 200 := by have := (mode_len (i := i) (by omega)).2; omega
        have i1 : (0 : Int) ≤ (i : Int) := by omega
        have i2 : (i : Int) < 10 := by omega
        have HWS := Lib.hid H13.out.ws
        obtain ⟨L2, hL2e⟩ : ∃ L2, L2 = modesF.getD i [] := ⟨_, rfl⟩
        rw [← hL2e] at HWS hL6 hc13
        clear hb13 hv13 hL2e HWM
        have hsz2 := ds_size L2
        have HLEN := Lib.hid (len_any w13.drew gx v12 L2 false (by exact HWS.out))
        have HBY := Lib.hid (bytes_any w13.drew gx v12 L2 false (by exact HWS.out) (by omega))
        go_wp2_with fail
        refine wp_region_held_drew (S := fun _ => True) (by kernel_rfl) trivial (fun hHeld => ?_)
        refine wpAnyH_take (i := 0) (v := ?v1) rfl (by kernel_rfl) (by kernel_rfl) (by kernel_rfl) (fun _ _ _ h => h) (Or.inl ⟨by rfl, fun w hSw => ?y1⟩) trivial ?r1
        case y1 => (try dsimp only at hSw); first | (go_simp; done) | (go_simp; with_reducible rfl)
        try simp only [Act.put, List.setIfInBounds_toArray, List.set_cons_zero, List.set_cons_succ, List.getElem_toArray, List.getElem_cons_zero, List.getElem_cons_succ]
        refine wpAnyH_take (i := 1) (v := ?v2) rfl (by kernel_rfl) (by kernel_rfl) (by kernel_rfl) (fun _ _ _ h => h) (Or.inl ⟨by rfl, fun w hSw => ?y2⟩) trivial ?r2
        case y2 => (try dsimp only at hSw); first | (go_simp; done) | (go_simp; with_reducible rfl)
        try simp only [Act.put, List.setIfInBounds_toArray, List.set_cons_zero, List.set_cons_succ, List.getElem_toArray, List.getElem_cons_zero, List.getElem_cons_succ]
        refine wpAnyH_take (i := 2) (v := ?v3) rfl (by kernel_rfl) (by kernel_rfl) (by kernel_rfl) (fun _ _ _ h => h) (Or.inl ⟨by rfl, fun w hSw => ?y3⟩) trivial ?r3
        case y3 => (try dsimp only at hSw); first | (go_simp; done) | (go_simp; with_reducible rfl)
        try simp only [Act.put, List.setIfInBounds_toArray, List.set_cons_zero, List.set_cons_succ, List.getElem_toArray, List.getElem_cons_zero, List.getElem_cons_succ]
        refine wpAnyH_take (i := 3) (v := ?v4) rfl (by kernel_rfl) (by kernel_rfl) (by kernel_rfl) (fun _ _ _ h => h) (Or.inl ⟨by rfl, fun w hSw => ?y4⟩) trivial ?r4
        case y4 => (try dsimp only at hSw); first | (go_simp; done) | (go_simp; with_reducible rfl)
        try simp only [Act.put, List.setIfInBounds_toArray, List.set_cons_zero, List.set_cons_succ, List.getElem_toArray, List.getElem_cons_zero, List.getElem_cons_succ]
        refine wpAnyH_take (i := 5) (v := ?v5) rfl (by kernel_rfl) (by kernel_rfl) (by kernel_rfl) (fun _ _ _ h => h) (Or.inl ⟨by rfl, fun w hSw => ?y5⟩) trivial ?r5
        case y5 => (try dsimp only at hSw); first | (go_simp; done) | (go_simp; with_reducible rfl)
        try simp only [Act.put, List.setIfInBounds_toArray, List.set_cons_zero, List.set_cons_succ, List.getElem_toArray, List.getElem_cons_zero, List.getElem_cons_succ]
        refine wpAnyH_take (i := 6) (v := ?v6) rfl (by kernel_rfl) (by kernel_rfl) (by kernel_rfl) (fun _ _ _ h => h) (Or.inl ⟨by rfl, fun w hSw => ?y6⟩) trivial ?r6
        case y6 => (try dsimp only at hSw); first | (go_simp; done) | (go_simp; with_reducible rfl)
        try simp only [Act.put, List.setIfInBounds_toArray, List.set_cons_zero, List.set_cons_succ, List.getElem_toArray, List.getElem_cons_zero, List.getElem_cons_succ]
        refine wpAnyH_ready (rs := [4]) (by kernel_rfl) (by simp) ?_
        refine AllReadyH.cons rfl (fun K hK => ?_) AllReadyH.nil
        go_simp
        refine HLEN.out.mono ?_
        rintro e w' ⟨rfl, rfl⟩
        go_wp2_with fail
        refine hK.out _ _ trivial (fun hH1 => ?_)
        clear hK K
        try simp only [Act.put, List.setIfInBounds_toArray, List.set_cons_zero, List.set_cons_succ, List.getElem_toArray, List.getElem_cons_zero, List.getElem_cons_succ]
        refine wpAnyH_take (i := 7) (v := ?v7) rfl (by kernel_rfl) (by kernel_rfl) (by kernel_rfl) (fun _ _ _ h => h) (Or.inl ⟨by rfl, fun w hSw => ?y7⟩) trivial ?r7
        case y7 => (try dsimp only at hSw); first | (go_simp; done) | (go_simp; with_reducible rfl)
        try simp only [Act.put, List.setIfInBounds_toArray, List.set_cons_zero, List.set_cons_succ, List.getElem_toArray, List.getElem_cons_zero, List.getElem_cons_succ]
        refine wpAnyH_take (i := 8) (v := ?v8) rfl (by kernel_rfl) (by kernel_rfl) (by kernel_rfl) (fun _ _ _ h => h) (Or.inl ⟨by rfl, fun w hSw => ?y8⟩) trivial ?r8
        case y8 => (try dsimp only at hSw); first | (go_simp; done) | (go_simp; with_reducible rfl)
        try simp only [Act.put, List.setIfInBounds_toArray, List.set_cons_zero, List.set_cons_succ, List.getElem_toArray, List.getElem_cons_zero, List.getElem_cons_succ]
        refine wpAnyH_take (i := 9) (v := ?v9) rfl (by kernel_rfl) (by kernel_rfl) (by kernel_rfl) (fun _ _ _ h => h) (Or.inl ⟨by rfl, fun w hSw => ?y9⟩) trivial ?r9
        case y9 => (try dsimp only at hSw); first | (go_simp; done) | (go_simp; with_reducible rfl)
        try simp only [Act.put, List.setIfInBounds_toArray, List.set_cons_zero, List.set_cons_succ, List.getElem_toArray, List.getElem_cons_zero, List.getElem_cons_succ]
        refine wpAnyH_take (i := 10) (v := ?v10) rfl (by kernel_rfl) (by kernel_rfl) (by kernel_rfl) (fun _ _ _ h => h) (Or.inl ⟨by rfl, fun w hSw => ?y10⟩) trivial ?r10
        case y10 => (try dsimp only at hSw); first | (go_simp; done) | (go_simp; with_reducible rfl)
        try simp only [Act.put, List.setIfInBounds_toArray, List.set_cons_zero, List.set_cons_succ, List.getElem_toArray, List.getElem_cons_zero, List.getElem_cons_succ]
        refine wpAnyH_take (i := 13) (v := ?v11) rfl (by kernel_rfl) (by kernel_rfl) (by kernel_rfl) (fun _ _ _ h => h) (Or.inl ⟨by rfl, fun w hSw => ?y11⟩) trivial ?r11
        case y11 => (try dsimp only at hSw); first | (go_simp; done) | (go_simp; with_reducible rfl)
        try simp only [Act.put, List.setIfInBounds_toArray, List.set_cons_zero, List.set_cons_succ, List.getElem_toArray, List.getElem_cons_zero, List.getElem_cons_succ]
        refine wpAnyH_ready (rs := [11]) (by kernel_rfl) (by simp) ?_
        refine AllReadyH.cons rfl (fun K hK => ?_) AllReadyH.nil
        go_simp
        refine HBY.out.mono ?_
        rintro e z3 ⟨hb3, q3, cap3, rfl, hr3, _⟩
        have cv3 := conv_row (packB false L2).length cap3 hr3 rfl
        go_wp2_with fail
        refine hK.out _ _ trivial (fun hH2 => ?_)
        clear hK K
        try simp only [Act.put, List.setIfInBounds_toArray, List.set_cons_zero, List.set_cons_succ, List.getElem_toArray, List.getElem_cons_zero, List.getElem_cons_succ]
        refine wpAnyH_ready (rs := [12, 14]) (by kernel_rfl) (by simp) ?_
        refine AllReadyH.cons rfl (fun K hK => ?_) (AllReadyH.cons rfl (fun K hK => ?_) AllReadyH.nil)
        · go_simp
          refine hK.out _ _ trivial (fun _ => ?_)
          clear hK K
          try simp only [Act.put, List.setIfInBounds_toArray, List.set_cons_zero, List.set_cons_succ, List.getElem_toArray, List.getElem_cons_zero, List.getElem_cons_succ]
          refine wpAnyH_ready (rs := [14]) (by kernel_rfl) (by simp) ?_
          refine AllReadyH.cons rfl (fun K hK => ?_) AllReadyH.nil
          go_simp
          refine (rbytes_any _ _ _ (by omega)).mono ?_
          rintro e z4 ⟨rfl, hb4⟩
          go_wp2_with fail
          refine hK.out _ _ trivial (fun hH3 => ?_)
          clear hK K
          try simp only [Act.put, List.setIfInBounds_toArray, List.set_cons_zero, List.set_cons_succ, List.getElem_toArray, List.getElem_cons_zero, List.getElem_cons_succ]
          refine wpAnyH_take (i := 15) (v := ?v12) rfl (by kernel_rfl) (by kernel_rfl) (by kernel_rfl) (fun _ _ _ h => h) (Or.inl ⟨by rfl, fun w hSw => ?y12⟩) trivial ?r12
          case y12 => (try dsimp only at hSw); first | (go_simp; done) | (go_simp; with_reducible rfl)
          try simp only [Act.put, List.setIfInBounds_toArray, List.set_cons_zero, List.set_cons_succ, List.getElem_toArray, List.getElem_cons_zero, List.getElem_cons_succ]
          refine wpAnyH_take (i := 16) (v := ?v13) rfl (by kernel_rfl) (by kernel_rfl) (by kernel_rfl) (fun _ _ _ h => h) (Or.inl ⟨by rfl, fun w hSw => ?y13⟩) trivial ?r13
          case y13 => (try dsimp only at hSw); first | (go_simp; done) | (go_simp; with_reducible rfl)
          try simp only [Act.put, List.setIfInBounds_toArray, List.set_cons_zero, List.set_cons_succ, List.getElem_toArray, List.getElem_cons_zero, List.getElem_cons_succ]
          refine wpAnyH_take (i := 17) (v := ?v14) rfl (by kernel_rfl) (by kernel_rfl) (by kernel_rfl) (fun _ _ _ h => h) (Or.inl ⟨by rfl, fun w hSw => ?y14⟩) trivial ?r14
          case y14 => (try dsimp only at hSw); first | (go_simp; done) | (go_simp; with_reducible rfl)
          try simp only [Act.put, List.setIfInBounds_toArray, List.set_cons_zero, List.set_cons_succ, List.getElem_toArray, List.getElem_cons_zero, List.getElem_cons_succ]
          refine wpAnyH_done (by kernel_rfl) ?_ _
          have hd2 : Below w13.heap.size w13 w13.drew := (Only.drawn (fun _ => False) ⟨1, rfl⟩ : Only (fun _ => False) w13 w13.drew).below (Nat.le_refl _) (fun _ _ h => h)
          have hz3 : w13.heap.size ≤ z3.heap.size := hb3.size
          have h24 : Below w13.heap.size w13 z4 := (hd2.trans hb3).trans (hb4.mono hz3)
          have H24 := Lib.hid h24
          clear hb3 hb4 hr3 HBY HLEN hd2 h24 hsz2 hz3
          go_wp2_with fail
          go_ret
          exact ⟨rfl, HFIN.out _ (H13.out.bel.trans (H24.out.mono H13.out.dz))⟩
        · go_simp
          refine (rbytes_any _ _ _ (by omega)).mono ?_
          rintro e z4 ⟨rfl, hb4⟩
          have cv4 := conv_row (packB false L2).length cap3 (hr3.below hb4) rfl
          go_wp2_with fail
          refine hK.out _ _ trivial (fun _ => ?_)
          clear hK K
          try simp only [Act.put, List.setIfInBounds_toArray, List.set_cons_zero, List.set_cons_succ, List.getElem_toArray, List.getElem_cons_zero, List.getElem_cons_succ]
          refine wpAnyH_ready (rs := [12]) (by kernel_rfl) (by simp) ?_
          refine AllReadyH.cons rfl (fun K hK => ?_) AllReadyH.nil
          go_simp
          refine hK.out _ _ trivial (fun hH4 => ?_)
          clear hK K
          try simp only [Act.put, List.setIfInBounds_toArray, List.set_cons_zero, List.set_cons_succ, List.getElem_toArray, List.getElem_cons_zero, List.getElem_cons_succ]
          refine wpAnyH_take (i := 15) (v := ?v15) rfl (by kernel_rfl) (by kernel_rfl) (by kernel_rfl) (fun _ _ _ h => h) (Or.inl ⟨by rfl, fun w hSw => ?y15⟩) trivial ?r15
          case y15 => (try dsimp only at hSw); first | (go_simp; done) | (go_simp; with_reducible rfl)
          try simp only [Act.put, List.setIfInBounds_toArray, List.set_cons_zero, List.set_cons_succ, List.getElem_toArray, List.getElem_cons_zero, List.getElem_cons_succ]
          refine wpAnyH_take (i := 16) (v := ?v16) rfl (by kernel_rfl) (by kernel_rfl) (by kernel_rfl) (fun _ _ _ h => h) (Or.inl ⟨by rfl, fun w hSw => ?y16⟩) trivial ?r16
          case y16 => (try dsimp only at hSw); first | (go_simp; done) | (go_simp; with_reducible rfl)
          try simp only [Act.put, List.setIfInBounds_toArray, List.set_cons_zero, List.set_cons_succ, List.getElem_toArray, List.getElem_cons_zero, List.getElem_cons_succ]
          refine wpAnyH_take (i := 17) (v := ?v17) rfl (by kernel_rfl) (by kernel_rfl) (by kernel_rfl) (fun _ _ _ h => h) (Or.inl ⟨by rfl, fun w hSw => ?y17⟩) trivial ?r17
          case y17 => (try dsimp only at hSw); first | (go_simp; done) | (go_simp; with_reducible rfl)
          try simp only [Act.put, List.setIfInBounds_toArray, List.set_cons_zero, List.set_cons_succ, List.getElem_toArray, List.getElem_cons_zero, List.getElem_cons_succ]
          refine wpAnyH_done (by kernel_rfl) ?_ _
          have hd2 : Below w13.heap.size w13 w13.drew := (Only.drawn (fun _ => False) ⟨1, rfl⟩ : Only (fun _ => False) w13 w13.drew).below (Nat.le_refl _) (fun _ _ h => h)
          have hz3 : w13.heap.size ≤ z3.heap.size := hb3.size
          have h24 : Below w13.heap.size w13 z4 := (hd2.trans hb3).trans (hb4.mono hz3)
          have H24 := Lib.hid h24
          clear hb3 hb4 hr3 HBY HLEN hd2 h24 hsz2 hz3
          go_wp2_with fail
          go_ret
          exact ⟨rfl, HFIN.out _ (H13.out.bel.trans (H24.out.mono H13.out.dz))⟩
    · go_wp2_with fail
      refine HL0.out.mono ?_
      rintro e w5 ⟨rfl, rfl⟩
      go_wp2_with fail
      refine (newWriter_any false w3).mono ?_
      rintro e w10 ⟨hb10, rfl, hw10⟩
      have H10 := Lib.hid (CW.third HCD.out HBW.out HDZ.out hw10 hb10)
      obtain ⟨gx, hgx⟩ : ∃ gx, gx = w3.heap.size := ⟨_, rfl⟩
      rw [← hgx] at H10 ⊢
      clear hb10 hw10 hgx
      rcases hmode with hmb | ⟨i, hi9, hie⟩
      · have HWM := Lib.hid (cmode_bad w10 c (.pointer (some ⟨gx, 0, none⟩)) mode hmb)
        have HLX := Lib.hid (len_any w10 gx _ [] false H10.out.ws)
        have hmd : decide (mode < -3) = true ∨ (decide (mode < -3) = false ∧ decide (5 < mode) = true) := by
          simp only [decide_eq_true_eq, decide_eq_false_iff_not]
          omega
        clear hmb
        go_wp2_with fail
        refine HWM.out.mono ?_
        rintro e w11 ⟨rfl, rfl⟩
        rcases hmd with q1 | ⟨q1, q2⟩ <;>
          (go_wp2_with fail
           refine HLX.out.mono ?_
           rintro e w11 ⟨rfl, rfl⟩
           go_wp2_with fail
           go_ret
           exact ⟨rfl, HFIN.out _ H10.out.bel⟩)
      · subst hie
        have HWM := Lib.hid (cmode_any w10 D C c gx _ [] false i H10.out.cd H10.out.ws hi9 (by simp))
        obtain ⟨z, hz⟩ : ∃ z : Int, (i : Int) - 3 = z := ⟨_, rfl⟩
        rw [hz] at HWM ⊢
        have q1 : decide (z < -3) = false := by simp; omega
        have q2 : decide (5 < z) = false := by simp; omega
        have q3 : z + 3 = (i : Int) := by omega
        have q4 : -3 ≤ z ∧ z ≤ 5 := by omega
        obtain ⟨q4, q5⟩ := q4
        clear hz
        go_wp2_with fail
        refine HWM.out.mono ?_
        rintro e w12 ⟨rfl, hw12⟩
        obtain ⟨v12, h12⟩ := H10.out.wrote hw12
        rw [List.nil_append] at h12
        have H12 := Lib.hid h12
        clear hw12 h12
        go_wp2_with fail
        refine (rmodes_any w12).mono ?_
        rintro e w13 ⟨hb13, q13, c13, rfl, hv13⟩
        have H13 := Lib.hid (H12.out.more hb13)
        obtain ⟨bb, off, rfl, _⟩ := hv13.1.addr (by rw [strs_length, wordsU_length, modesF_length]; omega)
        have hc13 : w13.cell? ⟨bb, off + i, none⟩ = some (.string (ds (modesF.getD i []))) := strs_word hv13.1 (by rw [modesF_length]; omega)
        rw [strs_length, wordsU_length, modesF_length]
        have hL6 : (modesF.getD i []).length ≤ 200 := by have := (mode_len (i := i) (by omega)).2; omega
        have i1 : (0 : Int) ≤ (i : Int) := by omega
        have i2 : (i : Int) < 10 := by omega
        have HWS := Lib.hid H13.out.ws
        obtain ⟨L2, hL2e⟩ : ∃ L2, L2 = modesF.getD i [] := ⟨_, rfl⟩
        rw [← hL2e] at HWS hL6 hc13
        clear hb13 hv13 hL2e HWM
        have hsz2 := ds_size L2
        have HLEN := Lib.hid (len_any w13.drew gx v12 L2 false (by exact HWS.out))
        have HBY := Lib.hid (bytes_any w13.drew gx v12 L2 false (by exact HWS.out) (by omega))
        go_wp2_with fail
        refine wp_region_held_drew (S := fun _ => True) (by kernel_rfl) trivial (fun hHeld => ?_)
        refine wpAnyH_take (i := 0) (v := ?v18) rfl (by kernel_rfl) (by kernel_rfl) (by kernel_rfl) (fun _ _ _ h => h) (Or.inl ⟨by rfl, fun w hSw => ?y18⟩) trivial ?r18
        case y18 => (try dsimp only at hSw); first | (go_simp; done) | (go_simp; with_reducible rfl)
        try simp only [Act.put, List.setIfInBounds_toArray, List.set_cons_zero, List.set_cons_succ, List.getElem_toArray, List.getElem_cons_zero, List.getElem_cons_succ]
        refine wpAnyH_take (i := 1) (v := ?v19) rfl (by kernel_rfl) (by kernel_rfl) (by kernel_rfl) (fun _ _ _ h => h) (Or.inl ⟨by rfl, fun w hSw => ?y19⟩) trivial ?r19
        case y19 => (try dsimp only at hSw); first | (go_simp; done) | (go_simp; with_reducible rfl)
        try simp only [Act.put, List.setIfInBounds_toArray, List.set_cons_zero, List.set_cons_succ, List.getElem_toArray, List.getElem_cons_zero, List.getElem_cons_succ]
        refine wpAnyH_take (i := 2) (v := ?v20) rfl (by kernel_rfl) (by kernel_rfl) (by kernel_rfl) (fun _ _ _ h => h) (Or.inl ⟨by rfl, fun w hSw => ?y20⟩) trivial ?r20
        case y20 => (try dsimp only at hSw); first | (go_simp; done) | (go_simp; with_reducible rfl)
        try simp only [Act.put, List.setIfInBounds_toArray, List.set_cons_zero, List.set_cons_succ, List.getElem_toArray, List.getElem_cons_zero, List.getElem_cons_succ]
        refine wpAnyH_take (i := 3) (v := ?v21) rfl (by kernel_rfl) (by kernel_rfl) (by kernel_rfl) (fun _ _ _ h => h) (Or.inl ⟨by rfl, fun w hSw => ?y21⟩) trivial ?r21
        case y21 => (try dsimp only at hSw); first | (go_simp; done) | (go_simp; with_reducible rfl)
        try simp only [Act.put, List.setIfInBounds_toArray, List.set_cons_zero, List.set_cons_succ, List.getElem_toArray, List.getElem_cons_zero, List.getElem_cons_succ]
        refine wpAnyH_take (i := 5) (v := ?v22) rfl (by kernel_rfl) (by kernel_rfl) (by kernel_rfl) (fun _ _ _ h => h) (Or.inl ⟨by rfl, fun w hSw => ?y22⟩) trivial ?r22
        case y22 => (try dsimp only at hSw); first | (go_simp; done) | (go_simp; with_reducible rfl)
        try simp only [Act.put, List.setIfInBounds_toArray, List.set_cons_zero, List.set_cons_succ, List.getElem_toArray, List.getElem_cons_zero, List.getElem_cons_succ]
        refine wpAnyH_take (i := 6) (v := ?v23) rfl (by kernel_rfl) (by kernel_rfl) (by kernel_rfl) (fun _ _ _ h => h) (Or.inl ⟨by rfl, fun w hSw => ?y23⟩) trivial ?r23
        case y23 => (try dsimp only at hSw); first | (go_simp; done) | (go_simp; with_reducible rfl)
        try simp only [Act.put, List.setIfInBounds_toArray, List.set_cons_zero, List.set_cons_succ, List.getElem_toArray, List.getElem_cons_zero, List.getElem_cons_succ]
        refine wpAnyH_ready (rs := [4]) (by kernel_rfl) (by simp) ?_
        refine AllReadyH.cons rfl (fun K hK => ?_) AllReadyH.nil
        go_simp
        refine HLEN.out.mono ?_
        rintro e w' ⟨rfl, rfl⟩
        go_wp2_with fail
        refine hK.out _ _ trivial (fun hH1 => ?_)
        clear hK K
        try simp only [Act.put, List.setIfInBounds_toArray, List.set_cons_zero, List.set_cons_succ, List.getElem_toArray, List.getElem_cons_zero, List.getElem_cons_succ]
        refine wpAnyH_take (i := 7) (v := ?v24) rfl (by kernel_rfl) (by kernel_rfl) (by kernel_rfl) (fun _ _ _ h => h) (Or.inl ⟨by rfl, fun w hSw => ?y24⟩) trivial ?r24
        case y24 => (try dsimp only at hSw); first | (go_simp; done) | (go_simp; with_reducible rfl)
        try simp only [Act.put, List.setIfInBounds_toArray, List.set_cons_zero, List.set_cons_succ, List.getElem_toArray, List.getElem_cons_zero, List.getElem_cons_succ]
        refine wpAnyH_take (i := 8) (v := ?v25) rfl (by kernel_rfl) (by kernel_rfl) (by kernel_rfl) (fun _ _ _ h => h) (Or.inl ⟨by rfl, fun w hSw => ?y25⟩) trivial ?r25
        case y25 => (try dsimp only at hSw); first | (go_simp; done) | (go_simp; with_reducible rfl)
        try simp only [Act.put, List.setIfInBounds_toArray, List.set_cons_zero, List.set_cons_succ, List.getElem_toArray, List.getElem_cons_zero, List.getElem_cons_succ]
        refine wpAnyH_take (i := 9) (v := ?v26) rfl (by kernel_rfl) (by kernel_rfl) (by kernel_rfl) (fun _ _ _ h => h) (Or.inl ⟨by rfl, fun w hSw => ?y26⟩) trivial ?r26
        case y26 => (try dsimp only at hSw); first | (go_simp; done) | (go_simp; with_reducible rfl)
        try simp only [Act.put, List.setIfInBounds_toArray, List.set_cons_zero, List.set_cons_succ, List.getElem_toArray, List.getElem_cons_zero, List.getElem_cons_succ]
        refine wpAnyH_take (i := 10) (v := ?v27) rfl (by kernel_rfl) (by kernel_rfl) (by kernel_rfl) (fun _ _ _ h => h) (Or.inl ⟨by rfl, fun w hSw => ?y27⟩) trivial ?r27
        case y27 => (try dsimp only at hSw); first | (go_simp; done) | (go_simp; with_reducible rfl)
        try simp only [Act.put, List.setIfInBounds_toArray, List.set_cons_zero, List.set_cons_succ, List.getElem_toArray, List.getElem_cons_zero, List.getElem_cons_succ]
        refine wpAnyH_take (i := 13) (v := ?v28) rfl (by kernel_rfl) (by kernel_rfl) (by kernel_rfl) (fun _ _ _ h => h) (Or.inl ⟨by rfl, fun w hSw => ?y28⟩) trivial ?r28
        case y28 => (try dsimp only at hSw); first | (go_simp; done) | (go_simp; with_reducible rfl)
        try simp only [Act.put, List.setIfInBounds_toArray, List.set_cons_zero, List.set_cons_succ, List.getElem_toArray, List.getElem_cons_zero, List.getElem_cons_succ]
        refine wpAnyH_ready (rs := [11]) (by kernel_rfl) (by simp) ?_
        refine AllReadyH.cons rfl (fun K hK => ?_) AllReadyH.nil
        go_simp
        refine HBY.out.mono ?_
        rintro e z3 ⟨hb3, q3, cap3, rfl, hr3, _⟩
        have cv3 := conv_row (packB false L2).length cap3 hr3 rfl
        go_wp2_with fail
        refine hK.out _ _ trivial (fun hH2 => ?_)
        clear hK K
        try simp only [Act.put, List.setIfInBounds_toArray, List.set_cons_zero, List.set_cons_succ, List.getElem_toArray, List.getElem_cons_zero, List.getElem_cons_succ]
        refine wpAnyH_ready (rs := [12, 14]) (by kernel_rfl) (by simp) ?_
        refine AllReadyH.cons rfl (fun K hK => ?_) (AllReadyH.cons rfl (fun K hK => ?_) AllReadyH.nil)
        · go_simp
          refine hK.out _ _ trivial (fun _ => ?_)
          clear hK K
          try simp only [Act.put, List.setIfInBounds_toArray, List.set_cons_zero, List.set_cons_succ, List.getElem_toArray, List.getElem_cons_zero, List.getElem_cons_succ]
          refine wpAnyH_ready (rs := [14]) (by kernel_rfl) (by simp) ?_
          refine AllReadyH.cons rfl (fun K hK => ?_) AllReadyH.nil
          go_simp
          refine (rbytes_any _ _ _ (by omega)).mono ?_
          rintro e z4 ⟨rfl, hb4⟩
          go_wp2_with fail
          refine hK.out _ _ trivial (fun hH3 => ?_)
          clear hK K
          try simp only [Act.put, List.setIfInBounds_toArray, List.set_cons_zero, List.set_cons_succ, List.getElem_toArray, List.getElem_cons_zero, List.getElem_cons_succ]
          refine wpAnyH_take (i := 15) (v := ?v29) rfl (by kernel_rfl) (by kernel_rfl) (by kernel_rfl) (fun _ _ _ h => h) (Or.inl ⟨by rfl, fun w hSw => ?y29⟩) trivial ?r29
          case y29 => (try dsimp only at hSw); first | (go_simp; done) | (go_simp; with_reducible rfl)
          try simp only [Act.put, List.setIfInBounds_toArray, List.set_cons_zero, List.set_cons_succ, List.getElem_toArray, List.getElem_cons_zero, List.getElem_cons_succ]
          refine wpAnyH_take (i := 16) (v := ?v30) rfl (by kernel_rfl) (by kernel_rfl) (by kernel_rfl) (fun _ _ _ h => h) (Or.inl ⟨by rfl, fun w hSw => ?y30⟩) trivial ?r30
          case y30 => (try dsimp only at hSw); first | (go_simp; done) | (go_simp; with_reducible rfl)
          try simp only [Act.put, List.setIfInBounds_toArray, List.set_cons_zero, List.set_cons_succ, List.getElem_toArray, List.getElem_cons_zero, List.getElem_cons_succ]
          refine wpAnyH_take (i := 17) (v := ?v31) rfl (by kernel_rfl) (by kernel_rfl) (by kernel_rfl) (fun _ _ _ h => h) (Or.inl ⟨by rfl, fun w hSw => ?y31⟩) trivial ?r31
          case y31 => (try dsimp only at hSw); first | (go_simp; done) | (go_simp; with_reducible rfl)
          try simp only [Act.put, List.setIfInBounds_toArray, List.set_cons_zero, List.set_cons_succ, List.getElem_toArray, List.getElem_cons_zero, List.getElem_cons_succ]
          refine wpAnyH_done (by kernel_rfl) ?_ _
          have hd2 : Below w13.heap.size w13 w13.drew := (Only.drawn (fun _ => False) ⟨1, rfl⟩ : Only (fun _ => False) w13 w13.drew).below (Nat.le_refl _) (fun _ _ h => h)
          have hz3 : w13.heap.size ≤ z3.heap.size := hb3.size
          have h24 : Below w13.heap.size w13 z4 := (hd2.trans hb3).trans (hb4.mono hz3)
          have H24 := Lib.hid h24
          clear hb3 hb4 hr3 HBY HLEN hd2 h24 hsz2 hz3
          go_wp2_with fail
          go_ret
          exact ⟨rfl, HFIN.out _ (H13.out.bel.trans (H24.out.mono H13.out.dz))⟩
        · go_simp
          refine (rbytes_any _ _ _ (by omega)).mono ?_
          rintro e z4 ⟨rfl, hb4⟩
          have cv4 := conv_row (packB false L2).length cap3 (hr3.below hb4) rfl
          go_wp2_with fail
          refine hK.out _ _ trivial (fun _ => ?_)
          clear hK K
          try simp only [Act.put, List.setIfInBounds_toArray, List.set_cons_zero, List.set_cons_succ, List.getElem_toArray, List.getElem_cons_zero, List.getElem_cons_succ]
          refine wpAnyH_ready (rs := [12]) (by kernel_rfl) (by simp) ?_
          refine AllReadyH.cons rfl (fun K hK => ?_) AllReadyH.nil
          go_simp
          refine hK.out _ _ trivial (fun hH4 => ?_)
          clear hK K
          try simp only [Act.put, List.setIfInBounds_toArray, List.set_cons_zero, List.set_cons_succ, List.getElem_toArray, List.getElem_cons_zero, List.getElem_cons_succ]
          refine wpAnyH_take (i := 15) (v := ?v32) rfl (by kernel_rfl) (by kernel_rfl) (by kernel_rfl) (fun _ _ _ h => h) (Or.inl ⟨by rfl, fun w hSw => ?y32⟩) trivial ?r32
          case y32 => (try dsimp only at hSw); first | (go_simp; done) | (go_simp; with_reducible rfl)
          try simp only [Act.put, List.setIfInBounds_toArray, List.set_cons_zero, List.set_cons_succ, List.getElem_toArray, List.getElem_cons_zero, List.getElem_cons_succ]
          refine wpAnyH_take (i := 16) (v := ?v33) rfl (by kernel_rfl) (by kernel_rfl) (by kernel_rfl) (fun _ _ _ h => h) (Or.inl ⟨by rfl, fun w hSw => ?y33⟩) trivial ?r33
          case y33 => (try dsimp only at hSw); first | (go_simp; done) | (go_simp; with_reducible rfl)
          try simp only [Act.put, List.setIfInBounds_toArray, List.set_cons_zero, List.set_cons_succ, List.getElem_toArray, List.getElem_cons_zero, List.getElem_cons_succ]
          refine wpAnyH_take (i := 17) (v := ?v34) rfl (by kernel_rfl) (by kernel_rfl) (by kernel_rfl) (fun _ _ _ h => h) (Or.inl ⟨by rfl, fun w hSw => ?y34⟩) trivial ?r34
          case y34 => (try dsimp only at hSw); first | (go_simp; done) | (go_simp; with_reducible rfl)
          try simp only [Act.put, List.setIfInBounds_toArray, List.set_cons_zero, List.set_cons_succ, List.getElem_toArray, List.getElem_cons_zero, List.getElem_cons_succ]
          refine wpAnyH_done (by kernel_rfl) ?_ _
          have hd2 : Below w13.heap.size w13 w13.drew := (Only.drawn (fun _ => False) ⟨1, rfl⟩ : Only (fun _ => False) w13 w13.drew).below (Nat.le_refl _) (fun _ _ h => h)
          have hz3 : w13.heap.size ≤ z3.heap.size := hb3.size
          have h24 : Below w13.heap.size w13 z4 := (hd2.trans hb3).trans (hb4.mono hz3)
          have H24 := Lib.hid h24
          clear hb3 hb4 hr3 HBY HLEN hd2 h24 hsz2 hz3
          go_wp2_with fail
          go_ret
          exact ⟨rfl, HFIN.out _ (H13.out.bel.trans (H24.out.mono H13.out.dz))⟩
  · obtain ⟨m, rfl⟩ : ∃ m : Nat, n = (m : Int) := ⟨n.toNat, by omega⟩
    have hm : m ≤ 32768 := by omega
    have q1 : decide ((m : Int) < 0) = false := by simp
    have q2 : decide ((32768 : Int) < (m : Int)) = false := by simp; omega
    have HWR := Lib.hid (cwrite_any w3 D C c C _ [] false m b HCW.out.cd HCW.out.ws HCW.out.out hm (by simp))
    have hL6 := tell_len b hm
    clear hbad
    go_wp2_with fail
    refine HWR.out.mono ?_
    rintro e w4 ⟨rfl, hw4⟩
    obtain ⟨v4, h4⟩ := HCW.out.wrote hw4
    rw [List.nil_append] at h4
    have H4 := Lib.hid h4
    clear hw4 h4 HWR
    go_wp2_with fail
    refine (rtell_any m b w4 hm).mono ?_
    rintro e w6 ⟨rfl, hb6⟩
    have H6 := Lib.hid (H4.out.more hb6)
    have HWS := Lib.hid H6.out.ws
    obtain ⟨L2, hL2e⟩ : ∃ L2, L2 = tellF b m := ⟨_, rfl⟩
    rw [← hL2e] at HWS hL6 ⊢
    clear hb6 hL2e
    have hsz2 := ds_size L2
    have HLEN := Lib.hid (len_any w6.drew C v4 L2 false (by exact HWS.out))
    have HBY := Lib.hid (bytes_any w6.drew C v4 L2 false (by exact HWS.out) (by omega))
    go_wp2_with fail
    refine wp_region_held_drew (S := fun _ => True) (by kernel_rfl) trivial (fun hHeld => ?_)
    refine wpAnyH_take (i := 0) (v := ?v35) rfl (by kernel_rfl) (by kernel_rfl) (by kernel_rfl) (fun _ _ _ h => h) (Or.inl ⟨by rfl, fun w hSw => ?y35⟩) trivial ?r35
    case y35 => (try dsimp only at hSw); first | (go_simp; done) | (go_simp; with_reducible rfl)
    try simp only [Act.put, List.setIfInBounds_toArray, List.set_cons_zero, List.set_cons_succ, List.getElem_toArray, List.getElem_cons_zero, List.getElem_cons_succ]
    refine wpAnyH_take (i := 1) (v := ?v36) rfl (by kernel_rfl) (by kernel_rfl) (by kernel_rfl) (fun _ _ _ h => h) (Or.inl ⟨by rfl, fun w hSw => ?y36⟩) trivial ?r36
    case y36 => (try dsimp only at hSw); first | (go_simp; done) | (go_simp; with_reducible rfl)
    try simp only [Act.put, List.setIfInBounds_toArray, List.set_cons_zero, List.set_cons_succ, List.getElem_toArray, List.getElem_cons_zero, List.getElem_cons_succ]
    refine wpAnyH_take (i := 2) (v := ?v37) rfl (by kernel_rfl) (by kernel_rfl) (by kernel_rfl) (fun _ _ _ h => h) (Or.inl ⟨by rfl, fun w hSw => ?y37⟩) trivial ?r37
    case y37 => (try dsimp only at hSw); first | (go_simp; done) | (go_simp; with_reducible rfl)
    try simp only [Act.put, List.setIfInBounds_toArray, List.set_cons_zero, List.set_cons_succ, List.getElem_toArray, List.getElem_cons_zero, List.getElem_cons_succ]
    refine wpAnyH_take (i := 3) (v := ?v38) rfl (by kernel_rfl) (by kernel_rfl) (by kernel_rfl) (fun _ _ _ h => h) (Or.inl ⟨by rfl, fun w hSw => ?y38⟩) trivial ?r38
    case y38 => (try dsimp only at hSw); first | (go_simp; done) | (go_simp; with_reducible rfl)
    try simp only [Act.put, List.setIfInBounds_toArray, List.set_cons_zero, List.set_cons_succ, List.getElem_toArray, List.getElem_cons_zero, List.getElem_cons_succ]
    refine wpAnyH_take (i := 5) (v := ?v39) rfl (by kernel_rfl) (by kernel_rfl) (by kernel_rfl) (fun _ _ _ h => h) (Or.inl ⟨by rfl, fun w hSw => ?y39⟩) trivial ?r39
    case y39 => (try dsimp only at hSw); first | (go_simp; done) | (go_simp; with_reducible rfl)
    try simp only [Act.put, List.setIfInBounds_toArray, List.set_cons_zero, List.set_cons_succ, List.getElem_toArray, List.getElem_cons_zero, List.getElem_cons_succ]
    refine wpAnyH_take (i := 6) (v := ?v40) rfl (by kernel_rfl) (by kernel_rfl) (by kernel_rfl) (fun _ _ _ h => h) (Or.inl ⟨by rfl, fun w hSw => ?y40⟩) trivial ?r40
    case y40 => (try dsimp only at hSw); first | (go_simp; done) | (go_simp; with_reducible rfl)
    try simp only [Act.put, List.setIfInBounds_toArray, List.set_cons_zero, List.set_cons_succ, List.getElem_toArray, List.getElem_cons_zero, List.getElem_cons_succ]
    refine wpAnyH_ready (rs := [4]) (by kernel_rfl) (by simp) ?_
    refine AllReadyH.cons rfl (fun K hK => ?_) AllReadyH.nil
    go_simp
    refine HLEN.out.mono ?_
    rintro e w' ⟨rfl, rfl⟩
    go_wp2_with fail
    refine hK.out _ _ trivial (fun hH1 => ?_)
    clear hK K
    try simp only [Act.put, List.setIfInBounds_toArray, List.set_cons_zero, List.set_cons_succ, List.getElem_toArray, List.getElem_cons_zero, List.getElem_cons_succ]
    refine wpAnyH_take (i := 7) (v := ?v41) rfl (by kernel_rfl) (by kernel_rfl) (by kernel_rfl) (fun _ _ _ h => h) (Or.inl ⟨by rfl, fun w hSw => ?y41⟩) trivial ?r41
    case y41 => (try dsimp only at hSw); first | (go_simp; done) | (go_simp; with_reducible rfl)
    try simp only [Act.put, List.setIfInBounds_toArray, List.set_cons_zero, List.set_cons_succ, List.getElem_toArray, List.getElem_cons_zero, List.getElem_cons_succ]
    refine wpAnyH_take (i := 8) (v := ?v42) rfl (by kernel_rfl) (by kernel_rfl) (by kernel_rfl) (fun _ _ _ h => h) (Or.inl ⟨by rfl, fun w hSw => ?y42⟩) trivial ?r42
    case y42 => (try dsimp only at hSw); first | (go_simp; done) | (go_simp; with_reducible rfl)
    try simp only [Act.put, List.setIfInBounds_toArray, List.set_cons_zero, List.set_cons_succ, List.getElem_toArray, List.getElem_cons_zero, List.getElem_cons_succ]
    refine wpAnyH_take (i := 9) (v := ?v43) rfl (by kernel_rfl) (by kernel_rfl) (by kernel_rfl) (fun _ _ _ h => h) (Or.inl ⟨by rfl, fun w hSw => ?y43⟩) trivial ?r43
    case y43 => (try dsimp only at hSw); first | (go_simp; done) | (go_simp; with_reducible rfl)
    try simp only [Act.put, List.setIfInBounds_toArray, List.set_cons_zero, List.set_cons_succ, List.getElem_toArray, List.getElem_cons_zero, List.getElem_cons_succ]
    refine wpAnyH_take (i := 10) (v := ?v44) rfl (by kernel_rfl) (by kernel_rfl) (by kernel_rfl) (fun _ _ _ h => h) (Or.inl ⟨by rfl, fun w hSw => ?y44⟩) trivial ?r44
    case y44 => (try dsimp only at hSw); first | (go_simp; done) | (go_simp; with_reducible rfl)
    try simp only [Act.put, List.setIfInBounds_toArray, List.set_cons_zero, List.set_cons_succ, List.getElem_toArray, List.getElem_cons_zero, List.getElem_cons_succ]
    refine wpAnyH_take (i := 13) (v := ?v45) rfl (by kernel_rfl) (by kernel_rfl) (by kernel_rfl) (fun _ _ _ h => h) (Or.inl ⟨by rfl, fun w hSw => ?y45⟩) trivial ?r45
    case y45 => (try dsimp only at hSw); first | (go_simp; done) | (go_simp; with_reducible rfl)
    try simp only [Act.put, List.setIfInBounds_toArray, List.set_cons_zero, List.set_cons_succ, List.getElem_toArray, List.getElem_cons_zero, List.getElem_cons_succ]
    refine wpAnyH_ready (rs := [11]) (by kernel_rfl) (by simp) ?_
    refine AllReadyH.cons rfl (fun K hK => ?_) AllReadyH.nil
    go_simp
    refine HBY.out.mono ?_
    rintro e z3 ⟨hb3, q3, cap3, rfl, hr3, _⟩
    have cv3 := conv_row (packB false L2).length cap3 hr3 rfl
    go_wp2_with fail
    refine hK.out _ _ trivial (fun hH2 => ?_)
    clear hK K
    try simp only [Act.put, List.setIfInBounds_toArray, List.set_cons_zero, List.set_cons_succ, List.getElem_toArray, List.getElem_cons_zero, List.getElem_cons_succ]
    refine wpAnyH_ready (rs := [12, 14]) (by kernel_rfl) (by simp) ?_
    refine AllReadyH.cons rfl (fun K hK => ?_) (AllReadyH.cons rfl (fun K hK => ?_) AllReadyH.nil)
    · go_simp
      refine hK.out _ _ trivial (fun _ => ?_)
      clear hK K
      try simp only [Act.put, List.setIfInBounds_toArray, List.set_cons_zero, List.set_cons_succ, List.getElem_toArray, List.getElem_cons_zero, List.getElem_cons_succ]
      refine wpAnyH_ready (rs := [14]) (by kernel_rfl) (by simp) ?_
      refine AllReadyH.cons rfl (fun K hK => ?_) AllReadyH.nil
      go_simp
      refine (rbytes_any _ _ _ (by omega)).mono ?_
      rintro e z4 ⟨rfl, hb4⟩
      go_wp2_with fail
      refine hK.out _ _ trivial (fun hH3 => ?_)
      clear hK K
      try simp only [Act.put, List.setIfInBounds_toArray, List.set_cons_zero, List.set_cons_succ, List.getElem_toArray, List.getElem_cons_zero, List.getElem_cons_succ]
      refine wpAnyH_take (i := 15) (v := ?v46) rfl (by kernel_rfl) (by kernel_rfl) (by kernel_rfl) (fun _ _ _ h => h) (Or.inl ⟨by rfl, fun w hSw => ?y46⟩) trivial ?r46
      case y46 => (try dsimp only at hSw); first | (go_simp; done) | (go_simp; with_reducible rfl)
      try simp only [Act.put, List.setIfInBounds_toArray, List.set_cons_zero, List.set_cons_succ, List.getElem_toArray, List.getElem_cons_zero, List.getElem_cons_succ]
      refine wpAnyH_take (i := 16) (v := ?v47) rfl (by kernel_rfl) (by kernel_rfl) (by kernel_rfl) (fun _ _ _ h => h) (Or.inl ⟨by rfl, fun w hSw => ?y47⟩) trivial ?r47
      case y47 => (try dsimp only at hSw); first | (go_simp; done) | (go_simp; with_reducible rfl)
      try simp only [Act.put, List.setIfInBounds_toArray, List.set_cons_zero, List.set_cons_succ, List.getElem_toArray, List.getElem_cons_zero, List.getElem_cons_succ]
      refine wpAnyH_done (by kernel_rfl) ?_ _
      have hd2 : Below w6.heap.size w6 w6.drew := (Only.drawn (fun _ => False) ⟨1, rfl⟩ : Only (fun _ => False) w6 w6.drew).below (Nat.le_refl _) (fun _ _ h => h)
      have hz3 : w6.heap.size ≤ z3.heap.size := hb3.size
      have h24 : Below w6.heap.size w6 z4 := (hd2.trans hb3).trans (hb4.mono hz3)
      have H24 := Lib.hid h24
      clear hb3 hb4 hr3 HBY HLEN hd2 h24 hsz2 hz3
      have HCD := Lib.hid (H6.out.cd.below H24.out H6.out.cd.1)
      have HBW := Lib.hid (H6.out.bel.trans (H24.out.mono H6.out.dz))
      have HDZ := Lib.hid (Nat.le_trans H6.out.dz H24.out.size)
      clear hL6
      go_wp2_with fail
      refine (newWriter_any false z4).mono ?_
      rintro e w10 ⟨hb10, rfl, hw10⟩
      have H10 := Lib.hid (CW.third HCD.out HBW.out HDZ.out hw10 hb10)
      obtain ⟨gx, hgx⟩ : ∃ gx, gx = z4.heap.size := ⟨_, rfl⟩
      rw [← hgx] at H10 ⊢
      clear hb10 hw10 hgx
      rcases hmode with hmb | ⟨i, hi9, hie⟩
      · have HWM := Lib.hid (cmode_bad w10 c (.pointer (some ⟨gx, 0, none⟩)) mode hmb)
        have HLX := Lib.hid (len_any w10 gx _ [] false H10.out.ws)
        have hmd : decide (mode < -3) = true ∨ (decide (mode < -3) = false ∧ decide (5 < mode) = true) := by
          simp only [decide_eq_true_eq, decide_eq_false_iff_not]
          omega
        clear hmb
        go_wp2_with fail
        refine HWM.out.mono ?_
        rintro e w11 ⟨rfl, rfl⟩
        rcases hmd with q1 | ⟨q1, q2⟩ <;>
          (go_wp2_with fail
           refine HLX.out.mono ?_
           rintro e w11 ⟨rfl, rfl⟩
           go_wp2_with fail
           go_ret
           exact ⟨rfl, HFIN.out _ H10.out.bel⟩)
      · subst hie
        have HWM := Lib.hid (cmode_any w10 D C c gx _ [] false i H10.out.cd H10.out.ws hi9 (by simp))
        obtain ⟨z, hz⟩ : ∃ z : Int, (i : Int) - 3 = z := ⟨_, rfl⟩
        rw [hz] at HWM ⊢
        have q1 : decide (z < -3) = false := by simp; omega
        have q2 : decide (5 < z) = false := by simp; omega
        have q3 : z + 3 = (i : Int) := by omega
        have q4 : -3 ≤ z ∧ z ≤ 5 := by omega
        obtain ⟨q4, q5⟩ := q4
        clear hz
        go_wp2_with fail
        refine HWM.out.mono ?_
        rintro e w12 ⟨rfl, hw12⟩
        obtain ⟨v12, h12⟩ := H10.out.wrote hw12
        rw [List.nil_append] at h12
        have H12 := Lib.hid h12
        clear hw12 h12
        go_wp2_with fail
        refine (rmodes_any w12).mono ?_
        rintro e w13 ⟨hb13, q13, c13, rfl, hv13⟩
        have H13 := Lib.hid (H12.out.more hb13)
        obtain ⟨bb, off, rfl, _⟩ := hv13.1.addr (by rw [strs_length, wordsU_length, modesF_length]; omega)
        have hc13 : w13.cell? ⟨bb, off + i, none⟩ = some (.string (ds (modesF.getD i []))) := strs_word hv13.1 (by rw [modesF_length]; omega)
        rw [strs_length, wordsU_length, modesF_length]
        have hL6 : (modesF.getD i []).length ≤ 200 := by have := (mode_len (i := i) (by omega)).2; omega
        have i1 : (0 : Int) ≤ (i : Int) := by omega
        have i2 : (i : Int) < 10 := by omega
        have HWS := Lib.hid H13.out.ws
        obtain ⟨L2, hL2e⟩ : ∃ L2, L2 = modesF.getD i [] := ⟨_, rfl⟩
        rw [← hL2e] at HWS hL6 hc13
        clear hb13 hv13 hL2e HWM
        have hsz2 := ds_size L2
        have HLEN := Lib.hid (len_any w13.drew gx v12 L2 false (by exact HWS.out))
        have HBY := Lib.hid (bytes_any w13.drew gx v12 L2 false (by exact HWS.out) (by omega))
        go_wp2_with fail
        refine wp_region_held_drew (S := fun _ => True) (by kernel_rfl) trivial (fun hHeld => ?_)
        refine wpAnyH_take (i := 0) (v := ?v48) rfl (by kernel_rfl) (by kernel_rfl) (by kernel_rfl) (fun _ _ _ h => h) (Or.inl ⟨by rfl, fun w hSw => ?y48⟩) trivial ?r48
        case y48 => (try dsimp only at hSw); first | (go_simp; done) | (go_simp; with_reducible rfl)
        try simp only [Act.put, List.setIfInBounds_toArray, List.set_cons_zero, List.set_cons_succ, List.getElem_toArray, List.getElem_cons_zero, List.getElem_cons_succ]
        refine wpAnyH_take (i := 1) (v := ?v49) rfl (by kernel_rfl) (by kernel_rfl) (by kernel_rfl) (fun _ _ _ h => h) (Or.inl ⟨by rfl, fun w hSw => ?y49⟩) trivial ?r49
        case y49 => (try dsimp only at hSw); first | (go_simp; done) | (go_simp; with_reducible rfl)
        try simp only [Act.put, List.setIfInBounds_toArray, List.set_cons_zero, List.set_cons_succ, List.getElem_toArray, List.getElem_cons_zero, List.getElem_cons_succ]
        refine wpAnyH_take (i := 2) (v := ?v50) rfl (by kernel_rfl) (by kernel_rfl) (by kernel_rfl) (fun _ _ _ h => h) (Or.inl ⟨by rfl, fun w hSw => ?y50⟩) trivial ?r50
        case y50 => (try dsimp only at hSw); first | (go_simp; done) | (go_simp; with_reducible rfl)
        try simp only [Act.put, List.setIfInBounds_toArray, List.set_cons_zero, List.set_cons_succ, List.getElem_toArray, List.getElem_cons_zero, List.getElem_cons_succ]
        refine wpAnyH_take (i := 3) (v := ?v51) rfl (by kernel_rfl) (by kernel_rfl) (by kernel_rfl) (fun _ _ _ h => h) (Or.inl ⟨by rfl, fun w hSw => ?y51⟩) trivial ?r51
        case y51 => (try dsimp only at hSw); first | (go_simp; done) | (go_simp; with_reducible rfl)
        try simp only [Act.put, List.setIfInBounds_toArray, List.set_cons_zero, List.set_cons_succ, List.getElem_toArray, List.getElem_cons_zero, List.getElem_cons_succ]
        refine wpAnyH_take (i := 5) (v := ?v52) rfl (by kernel_rfl) (by kernel_rfl) (by kernel_rfl) (fun _ _ _ h => h) (Or.inl ⟨by rfl, fun w hSw => ?y52⟩) trivial ?r52
        case y52 => (try dsimp only at hSw); first | (go_simp; done) | (go_simp; with_reducible rfl)
        try simp only [Act.put, List.setIfInBounds_toArray, List.set_cons_zero, List.set_cons_succ, List.getElem_toArray, List.getElem_cons_zero, List.getElem_cons_succ]
        refine wpAnyH_take (i := 6) (v := ?v53) rfl (by kernel_rfl) (by kernel_rfl) (by kernel_rfl) (fun _ _ _ h => h) (Or.inl ⟨by rfl, fun w hSw => ?y53⟩) trivial ?r53
        case y53 => (try dsimp only at hSw); first | (go_simp; done) | (go_simp; with_reducible rfl)
        try simp only [Act.put, List.setIfInBounds_toArray, List.set_cons_zero, List.set_cons_succ, List.getElem_toArray, List.getElem_cons_zero, List.getElem_cons_succ]
        refine wpAnyH_ready (rs := [4]) (by kernel_rfl) (by simp) ?_
        refine AllReadyH.cons rfl (fun K hK => ?_) AllReadyH.nil
        go_simp
        refine HLEN.out.mono ?_
        rintro e w' ⟨rfl, rfl⟩
        go_wp2_with fail
        refine hK.out _ _ trivial (fun hH1 => ?_)
        clear hK K
        try simp only [Act.put, List.setIfInBounds_toArray, List.set_cons_zero, List.set_cons_succ, List.getElem_toArray, List.getElem_cons_zero, List.getElem_cons_succ]
        refine wpAnyH_take (i := 7) (v := ?v54) rfl (by kernel_rfl) (by kernel_rfl) (by kernel_rfl) (fun _ _ _ h => h) (Or.inl ⟨by rfl, fun w hSw => ?y54⟩) trivial ?r54
        case y54 => (try dsimp only at hSw); first | (go_simp; done) | (go_simp; with_reducible rfl)
        try simp only [Act.put, List.setIfInBounds_toArray, List.set_cons_zero, List.set_cons_succ, List.getElem_toArray, List.getElem_cons_zero, List.getElem_cons_succ]
        refine wpAnyH_take (i := 8) (v := ?v55) rfl (by kernel_rfl) (by kernel_rfl) (by kernel_rfl) (fun _ _ _ h => h) (Or.inl ⟨by rfl, fun w hSw => ?y55⟩) trivial ?r55
        case y55 => (try dsimp only at hSw); first | (go_simp; done) | (go_simp; with_reducible rfl)
        try simp only [Act.put, List.setIfInBounds_toArray, List.set_cons_zero, List.set_cons_succ, List.getElem_toArray, List.getElem_cons_zero, List.getElem_cons_succ]
        refine wpAnyH_take (i := 9) (v := ?v56) rfl (by kernel_rfl) (by kernel_rfl) (by kernel_rfl) (fun _ _ _ h => h) (Or.inl ⟨by rfl, fun w hSw => ?y56⟩) trivial ?r56
        case y56 => (try dsimp only at hSw); first | (go_simp; done) | (go_simp; with_reducible rfl)
        try simp only [Act.put, List.setIfInBounds_toArray, List.set_cons_zero, List.set_cons_succ, List.getElem_toArray, List.getElem_cons_zero, List.getElem_cons_succ]
        refine wpAnyH_take (i := 10) (v := ?v57) rfl (by kernel_rfl) (by kernel_rfl) (by kernel_rfl) (fun _ _ _ h => h) (Or.inl ⟨by rfl, fun w hSw => ?y57⟩) trivial ?r57
        case y57 => (try dsimp only at hSw); first | (go_simp; done) | (go_simp; with_reducible rfl)
        try simp only [Act.put, List.setIfInBounds_toArray, List.set_cons_zero, List.set_cons_succ, List.getElem_toArray, List.getElem_cons_zero, List.getElem_cons_succ]
        refine wpAnyH_take (i := 13) (v := ?v58) rfl (by kernel_rfl) (by kernel_rfl) (by kernel_rfl) (fun _ _ _ h => h) (Or.inl ⟨by rfl, fun w hSw => ?y58⟩) trivial ?r58
        case y58 => (try dsimp only at hSw); first | (go_simp; done) | (go_simp; with_reducible rfl)
        try simp only [Act.put, List.setIfInBounds_toArray, List.set_cons_zero, List.set_cons_succ, List.getElem_toArray, List.getElem_cons_zero, List.getElem_cons_succ]
        refine wpAnyH_ready (rs := [11]) (by kernel_rfl) (by simp) ?_
        refine AllReadyH.cons rfl (fun K hK => ?_) AllReadyH.nil
        go_simp
        refine HBY.out.mono ?_
        rintro e z3 ⟨hb3, q3, cap3, rfl, hr3, _⟩
        have cv3 := conv_row (packB false L2).length cap3 hr3 rfl
        go_wp2_with fail
        refine hK.out _ _ trivial (fun hH2 => ?_)
        clear hK K
        try simp only [Act.put, List.setIfInBounds_toArray, List.set_cons_zero, List.set_cons_succ, List.getElem_toArray, List.getElem_cons_zero, List.getElem_cons_succ]
        refine wpAnyH_ready (rs := [12, 14]) (by kernel_rfl) (by simp) ?_
        refine AllReadyH.cons rfl (fun K hK => ?_) (AllReadyH.cons rfl (fun K hK => ?_) AllReadyH.nil)
        · go_simp
          refine hK.out _ _ trivial (fun _ => ?_)
          clear hK K
          try simp only [Act.put, List.setIfInBounds_toArray, List.set_cons_zero, List.set_cons_succ, List.getElem_toArray, List.getElem_cons_zero, List.getElem_cons_succ]
          refine wpAnyH_ready (rs := [14]) (by kernel_rfl) (by simp) ?_
          refine AllReadyH.cons rfl (fun K hK => ?_) AllReadyH.nil
          go_simp
          refine (rbytes_any _ _ _ (by omega)).mono ?_
          rintro e z4 ⟨rfl, hb4⟩
          go_wp2_with fail
          refine hK.out _ _ trivial (fun hH3 => ?_)
          clear hK K
          try simp only [Act.put, List.setIfInBounds_toArray, List.set_cons_zero, List.set_cons_succ, List.getElem_toArray, List.getElem_cons_zero, List.getElem_cons_succ]
          refine wpAnyH_take (i := 15) (v := ?v59) rfl (by kernel_rfl) (by kernel_rfl) (by kernel_rfl) (fun _ _ _ h => h) (Or.inl ⟨by rfl, fun w hSw => ?y59⟩) trivial ?r59
          case y59 => (try dsimp only at hSw); first | (go_simp; done) | (go_simp; with_reducible rfl)
          try simp only [Act.put, List.setIfInBounds_toArray, List.set_cons_zero, List.set_cons_succ, List.getElem_toArray, List.getElem_cons_zero, List.getElem_cons_succ]
          refine wpAnyH_take (i := 16) (v := ?v60) rfl (by kernel_rfl) (by kernel_rfl) (by kernel_rfl) (fun _ _ _ h => h) (Or.inl ⟨by rfl, fun w hSw => ?y60⟩) trivial ?r60
          case y60 => (try dsimp only at hSw); first | (go_simp; done) | (go_simp; with_reducible rfl)
          try simp only [Act.put, List.setIfInBounds_toArray, List.set_cons_zero, List.set_cons_succ, List.getElem_toArray, List.getElem_cons_zero, List.getElem_cons_succ]
          refine wpAnyH_take (i := 17) (v := ?v61) rfl (by kernel_rfl) (by kernel_rfl) (by kernel_rfl) (fun _ _ _ h => h) (Or.inl ⟨by rfl, fun w hSw => ?y61⟩) trivial ?r61
          case y61 => (try dsimp only at hSw); first | (go_simp; done) | (go_simp; with_reducible rfl)
          try simp only [Act.put, List.setIfInBounds_toArray, List.set_cons_zero, List.set_cons_succ, List.getElem_toArray, List.getElem_cons_zero, List.getElem_cons_succ]
          refine wpAnyH_done (by kernel_rfl) ?_ _
          have hd2 : Below w13.heap.size w13 w13.drew := (Only.drawn (fun _ => False) ⟨1, rfl⟩ : Only (fun _ => False) w13 w13.drew).below (Nat.le_refl _) (fun _ _ h => h)
          have hz3 : w13.heap.size ≤ z3.heap.size := hb3.size
          have h24 : Below w13.heap.size w13 z4 := (hd2.trans hb3).trans (hb4.mono hz3)
          have H24 := Lib.hid h24
          clear hb3 hb4 hr3 HBY HLEN hd2 h24 hsz2 hz3
          go_wp2_with fail
          go_ret
          exact ⟨rfl, HFIN.out _ (H13.out.bel.trans (H24.out.mono H13.out.dz))⟩
        · go_simp
          refine (rbytes_any _ _ _ (by omega)).mono ?_
          rintro e z4 ⟨rfl, hb4⟩
          have cv4 := conv_row (packB false L2).length cap3 (hr3.below hb4) rfl
          go_wp2_with fail
          refine hK.out _ _ trivial (fun _ => ?_)
          clear hK K
          try simp only [Act.put, List.setIfInBounds_toArray, List.set_cons_zero, List.set_cons_succ, List.getElem_toArray, List.getElem_cons_zero, List.getElem_cons_succ]
          refine wpAnyH_ready (rs := [12]) (by kernel_rfl) (by simp) ?_
          refine AllReadyH.cons rfl (fun K hK => ?_) AllReadyH.nil
          go_simp
          refine hK.out _ _ trivial (fun hH4 => ?_)
          clear hK K
          try simp only [Act.put, List.setIfInBounds_toArray, List.set_cons_zero, List.set_cons_succ, List.getElem_toArray, List.getElem_cons_zero, List.getElem_cons_succ]
          refine wpAnyH_take (i := 15) (v := ?v62) rfl (by kernel_rfl) (by kernel_rfl) (by kernel_rfl) (fun _ _ _ h => h) (Or.inl ⟨by rfl, fun w hSw => ?y62⟩) trivial ?r62
          case y62 => (try dsimp only at hSw); first | (go_simp; done) | (go_simp; with_reducible rfl)
          try simp only [Act.put, List.setIfInBounds_toArray, List.set_cons_zero, List.set_cons_succ, List.getElem_toArray, List.getElem_cons_zero, List.getElem_cons_succ]
          refine wpAnyH_take (i := 16) (v := ?v63) rfl (by kernel_rfl) (by kernel_rfl) (by kernel_rfl) (fun _ _ _ h => h) (Or.inl ⟨by rfl, fun w hSw => ?y63⟩) trivial ?r63
          case y63 => (try dsimp only at hSw); first | (go_simp; done) | (go_simp; with_reducible rfl)
          try simp only [Act.put, List.setIfInBounds_toArray, List.set_cons_zero, List.set_cons_succ, List.getElem_toArray, List.getElem_cons_zero, List.getElem_cons_succ]
          refine wpAnyH_take (i := 17) (v := ?v64) rfl (by kernel_rfl) (by kernel_rfl) (by kernel_rfl) (fun _ _ _ h => h) (Or.inl ⟨by rfl, fun w hSw => ?y64⟩) trivial ?r64
          case y64 => (try dsimp only at hSw); first | (go_simp; done) | (go_simp; with_reducible rfl)
          try simp only [Act.put, List.setIfInBounds_toArray, List.set_cons_zero, List.set_cons_succ, List.getElem_toArray, List.getElem_cons_zero, List.getElem_cons_succ]
          refine wpAnyH_done (by kernel_rfl) ?_ _
          have hd2 : Below w13.heap.size w13 w13.drew := (Only.drawn (fun _ => False) ⟨1, rfl⟩ : Only (fun _ => False) w13 w13.drew).below (Nat.le_refl _) (fun _ _ h => h)
          have hz3 : w13.heap.size ≤ z3.heap.size := hb3.size
          have h24 : Below w13.heap.size w13 z4 := (hd2.trans hb3).trans (hb4.mono hz3)
          have H24 := Lib.hid h24
          clear hb3 hb4 hr3 HBY HLEN hd2 h24 hsz2 hz3
          go_wp2_with fail
          go_ret
          exact ⟨rfl, HFIN.out _ (H13.out.bel.trans (H24.out.mono H13.out.dz))⟩
    · go_simp
      refine (rbytes_any _ _ _ (by omega)).mono ?_
      rintro e z4 ⟨rfl, hb4⟩
      have cv4 := conv_row (packB false L2).length cap3 (hr3.below hb4) rfl
      go_wp2_with fail
      refine hK.out _ _ trivial (fun _ => ?_)
      clear hK K
      try simp only [Act.put, List.setIfInBounds_toArray, List.set_cons_zero, List.set_cons_succ, List.getElem_toArray, List.getElem_cons_zero, List.getElem_cons_succ]
      refine wpAnyH_ready (rs := [12]) (by kernel_rfl) (by simp) ?_
      refine AllReadyH.cons rfl (fun K hK => ?_) AllReadyH.nil
      go_simp
      refine hK.out _ _ trivial (fun hH4 => ?_)
      clear hK K
      try simp only [Act.put, List.setIfInBounds_toArray, List.set_cons_zero, List.set_cons_succ, List.getElem_toArray, List.getElem_cons_zero, List.getElem_cons_succ]
      refine wpAnyH_take (i := 15) (v := ?v65) rfl (by kernel_rfl) (by kernel_rfl) (by kernel_rfl) (fun _ _ _ h => h) (Or.inl ⟨by rfl, fun w hSw => ?y65⟩) trivial ?r65
      case y65 => (try dsimp only at hSw); first | (go_simp; done) | (go_simp; with_reducible rfl)
      try simp only [Act.put, List.setIfInBounds_toArray, List.set_cons_zero, List.set_cons_succ, List.getElem_toArray, List.getElem_cons_zero, List.getElem_cons_succ]
      refine wpAnyH_take (i := 16) (v := ?v66) rfl (by kernel_rfl) (by kernel_rfl) (by kernel_rfl) (fun _ _ _ h => h) (Or.inl ⟨by rfl, fun w hSw => ?y66⟩) trivial ?r66
      case y66 => (try dsimp only at hSw); first | (go_simp; done) | (go_simp; with_reducible rfl)
      try simp only [Act.put, List.setIfInBounds_toArray, List.set_cons_zero, List.set_cons_succ, List.getElem_toArray, List.getElem_cons_zero, List.getElem_cons_succ]
      refine wpAnyH_done (by kernel_rfl) ?_ _
      have hd2 : Below w6.heap.size w6 w6.drew := (Only.drawn (fun _ => False) ⟨1, rfl⟩ : Only (fun _ => False) w6 w6.drew).below (Nat.le_refl _) (fun _ _ h => h)
      have hz3 : w6.heap.size ≤ z3.heap.size := hb3.size
      have h24 : Below w6.heap.size w6 z4 := (hd2.trans hb3).trans (hb4.mono hz3)
      have H24 := Lib.hid h24
      clear hb3 hb4 hr3 HBY HLEN hd2 h24 hsz2 hz3
      have HCD := Lib.hid (H6.out.cd.below H24.out H6.out.cd.1)
      have HBW := Lib.hid (H6.out.bel.trans (H24.out.mono H6.out.dz))
      have HDZ := Lib.hid (Nat.le_trans H6.out.dz H24.out.size)
      clear hL6
      go_wp2_with fail
      refine (newWriter_any false z4).mono ?_
      rintro e w10 ⟨hb10, rfl, hw10⟩
      have H10 := Lib.hid (CW.third HCD.out HBW.out HDZ.out hw10 hb10)
      obtain ⟨gx, hgx⟩ : ∃ gx, gx = z4.heap.size := ⟨_, rfl⟩
      rw [← hgx] at H10 ⊢
      clear hb10 hw10 hgx
      rcases hmode with hmb | ⟨i, hi9, hie⟩
      · have HWM := Lib.hid (cmode_bad w10 c (.pointer (some ⟨gx, 0, none⟩)) mode hmb)
        have HLX := Lib.hid (len_any w10 gx _ [] false H10.out.ws)
        have hmd : decide (mode < -3) = true ∨ (decide (mode < -3) = false ∧ decide (5 < mode) = true) := by
          simp only [decide_eq_true_eq, decide_eq_false_iff_not]
          omega
        clear hmb
        go_wp2_with fail
        refine HWM.out.mono ?_
        rintro e w11 ⟨rfl, rfl⟩
        rcases hmd with q1 | ⟨q1, q2⟩ <;>
          (go_wp2_with fail
           refine HLX.out.mono ?_
           rintro e w11 ⟨rfl, rfl⟩
           go_wp2_with fail
           go_ret
           exact ⟨rfl, HFIN.out _ H10.out.bel⟩)
      · subst hie
        have HWM := Lib.hid (cmode_any w10 D C c gx _ [] false i H10.out.cd H10.out.ws hi9 (by simp))
        obtain ⟨z, hz⟩ : ∃ z : Int, (i : Int) - 3 = z := ⟨_, rfl⟩
        rw [hz] at HWM ⊢
        have q1 : decide (z < -3) = false := by simp; omega
        have q2 : decide (5 < z) = false := by simp; omega
        have q3 : z + 3 = (i : Int) := by omega
        have q4 : -3 ≤ z ∧ z ≤ 5 := by omega
        obtain ⟨q4, q5⟩ := q4
        clear hz
        go_wp2_with fail
        refine HWM.out.mono ?_
        rintro e w12 ⟨rfl, hw12⟩
        obtain ⟨v12, h12⟩ := H10.out.wrote hw12
        rw [List.nil_append] at h12
        have H12 := Lib.hid h12
        clear hw12 h12
        go_wp2_with fail
        refine (rmodes_any w12).mono ?_
        rintro e w13 ⟨hb13, q13, c13, rfl, hv13⟩
        have H13 := Lib.hid (H12.out.more hb13)
        obtain ⟨bb, off, rfl, _⟩ := hv13.1.addr (by rw [strs_length, wordsU_length, modesF_length]; omega)
        have hc13 : w13.cell? ⟨bb, off + i, none⟩ = some (.string (ds (modesF.getD i []))) := strs_word hv13.1 (by rw [modesF_length]; omega)
        rw [strs_length, wordsU_length, modesF_length]
        have hL6 : (modesF.getD i []).length ≤ 200 := by have := (mode_len (i := i) (by omega)).2; omega
        have i1 : (0 : Int) ≤ (i : Int) := by omega
        have i2 : (i : Int) < 10 := by omega
        have HWS := Lib.hid H13.out.ws
        obtain ⟨L2, hL2e⟩ : ∃ L2, L2 = modesF.getD i [] := ⟨_, rfl⟩
        rw [← hL2e] at HWS hL6 hc13
        clear hb13 hv13 hL2e HWM
        have hsz2 := ds_size L2
        have HLEN := Lib.hid (len_any w13.drew gx v12 L2 false (by exact HWS.out))
        have HBY := Lib.hid (bytes_any w13.drew gx v12 L2 false (by exact HWS.out) (by omega))
        go_wp2_with fail
        refine wp_region_held_drew (S := fun _ => True) (by kernel_rfl) trivial (fun hHeld => ?_)
        refine wpAnyH_take (i := 0) (v := ?v67) rfl (by kernel_rfl) (by kernel_rfl) (by kernel_rfl) (fun _ _ _ h => h) (Or.inl ⟨by rfl, fun w hSw => ?y67⟩) trivial ?r67
        case y67 => (try dsimp only at hSw); first | (go_simp; done) | (go_simp; with_reducible rfl)
        try simp only [Act.put, List.setIfInBounds_toArray, List.set_cons_zero, List.set_cons_succ, List.getElem_toArray, List.getElem_cons_zero, List.getElem_cons_succ]
        refine wpAnyH_take (i := 1) (v := ?v68) rfl (by kernel_rfl) (by kernel_rfl) (by kernel_rfl) (fun _ _ _ h => h) (Or.inl ⟨by rfl, fun w hSw => ?y68⟩) trivial ?r68
        case y68 => (try dsimp only at hSw); first | (go_simp; done) | (go_simp; with_reducible rfl)
        try simp only [Act.put, List.setIfInBounds_toArray, List.set_cons_zero, List.set_cons_succ, List.getElem_toArray, List.getElem_cons_zero, List.getElem_cons_succ]
        refine wpAnyH_take (i := 2) (v := ?v69) rfl (by kernel_rfl) (by kernel_rfl) (by kernel_rfl) (fun _ _ _ h => h) (Or.inl ⟨by rfl, fun w hSw => ?y69⟩) trivial ?r69
        case y69 => (try dsimp only at hSw); first | (go_simp; done) | (go_simp; with_reducible rfl)
        try simp only [Act.put, List.setIfInBounds_toArray, List.set_cons_zero, List.set_cons_succ, List.getElem_toArray, List.getElem_cons_zero, List.getElem_cons_succ]
        refine wpAnyH_take (i := 3) (v := ?v70) rfl (by kernel_rfl) (by kernel_rfl) (by kernel_rfl) (fun _ _ _ h => h) (Or.inl ⟨by rfl, fun w hSw => ?y70⟩) trivial ?r70
        case y70 => (try dsimp only at hSw); first | (go_simp; done) | (go_simp; with_reducible rfl)
        try simp only [Act.put, List.setIfInBounds_toArray, List.set_cons_zero, List.set_cons_succ, List.getElem_toArray, List.getElem_cons_zero, List.getElem_cons_succ]
        refine wpAnyH_take (i := 5) (v := ?v71) rfl (by kernel_rfl) (by kernel_rfl) (by kernel_rfl) (fun _ _ _ h => h) (Or.inl ⟨by rfl, fun w hSw => ?y71⟩) trivial ?r71
        case y71 => (try dsimp only at hSw); first | (go_simp; done) | (go_simp; with_reducible rfl)
        try simp only [Act.put, List.setIfInBounds_toArray, List.set_cons_zero, List.set_cons_succ, List.getElem_toArray, List.getElem_cons_zero, List.getElem_cons_succ]
        refine wpAnyH_take (i := 6) (v := ?v72) rfl (by kernel_rfl) (by kernel_rfl) (by kernel_rfl) (fun _ _ _ h => h) (Or.inl ⟨by rfl, fun w hSw => ?y72⟩) trivial ?r72
        case y72 => (try dsimp only at hSw); first | (go_simp; done) | (go_simp; with_reducible rfl)
        try simp only [Act.put, List.setIfInBounds_toArray, List.set_cons_zero, List.set_cons_succ, List.getElem_toArray, List.getElem_cons_zero, List.getElem_cons_succ]
        refine wpAnyH_ready (rs := [4]) (by kernel_rfl) (by simp) ?_
        refine AllReadyH.cons rfl (fun K hK => ?_) AllReadyH.nil
        go_simp
        refine HLEN.out.mono ?_
        rintro e w' ⟨rfl, rfl⟩
        go_wp2_with fail
        refine hK.out _ _ trivial (fun hH1 => ?_)
        clear hK K
        try simp only [Act.put, List.setIfInBounds_toArray, List.set_cons_zero, List.set_cons_succ, List.getElem_toArray, List.getElem_cons_zero, List.getElem_cons_succ]
        refine wpAnyH_take (i := 7) (v := ?v73) rfl (by kernel_rfl) (by kernel_rfl) (by kernel_rfl) (fun _ _ _ h => h) (Or.inl ⟨by rfl, fun w hSw => ?y73⟩) trivial ?r73
        case y73 => (try dsimp only at hSw); first | (go_simp; done) | (go_simp; with_reducible rfl)
        try simp only [Act.put, List.setIfInBounds_toArray, List.set_cons_zero, List.set_cons_succ, List.getElem_toArray, List.getElem_cons_zero, List.getElem_cons_succ]
        refine wpAnyH_take (i := 8) (v := ?v74) rfl (by kernel_rfl) (by kernel_rfl) (by kernel_rfl) (fun _ _ _ h => h) (Or.inl ⟨by rfl, fun w hSw => ?y74⟩) trivial ?r74
        case y74 => (try dsimp only at hSw); first | (go_simp; done) | (go_simp; with_reducible rfl)
        try simp only [Act.put, List.setIfInBounds_toArray, List.set_cons_zero, List.set_cons_succ, List.getElem_toArray, List.getElem_cons_zero, List.getElem_cons_succ]
        refine wpAnyH_take (i := 9) (v := ?v75) rfl (by kernel_rfl) (by kernel_rfl) (by kernel_rfl) (fun _ _ _ h => h) (Or.inl ⟨by rfl, fun w hSw => ?y75⟩) trivial ?r75
        case y75 => (try dsimp only at hSw); first | (go_simp; done) | (go_simp; with_reducible rfl)
        try simp only [Act.put, List.setIfInBounds_toArray, List.set_cons_zero, List.set_cons_succ, List.getElem_toArray, List.getElem_cons_zero, List.getElem_cons_succ]
        refine wpAnyH_take (i := 10) (v := ?v76) rfl (by kernel_rfl) (by kernel_rfl) (by kernel_rfl) (fun _ _ _ h => h) (Or.inl ⟨by rfl, fun w hSw => ?y76⟩) trivial ?r76
        case y76 => (try dsimp only at hSw); first | (go_simp; done) | (go_simp; with_reducible rfl)
        try simp only [Act.put, List.setIfInBounds_toArray, List.set_cons_zero, List.set_cons_succ, List.getElem_toArray, List.getElem_cons_zero, List.getElem_cons_succ]
        refine wpAnyH_take (i := 13) (v := ?v77) rfl (by kernel_rfl) (by kernel_rfl) (by kernel_rfl) (fun _ _ _ h => h) (Or.inl ⟨by rfl, fun w hSw => ?y77⟩) trivial ?r77
        case y77 => (try dsimp only at hSw); first | (go_simp; done) | (go_simp; with_reducible rfl)
        try simp only [Act.put, List.setIfInBounds_toArray, List.set_cons_zero, List.set_cons_succ, List.getElem_toArray, List.getElem_cons_zero, List.getElem_cons_succ]
        refine wpAnyH_ready (rs := [11]) (by kernel_rfl) (by simp) ?_
        refine AllReadyH.cons rfl (fun K hK => ?_) AllReadyH.nil
        go_simp
        refine HBY.out.mono ?_
        rintro e z3 ⟨hb3, q3, cap3, rfl, hr3, _⟩
        have cv3 := conv_row (packB false L2).length cap3 hr3 rfl
        go_wp2_with fail
        refine hK.out _ _ trivial (fun hH2 => ?_)
        clear hK K
        try simp only [Act.put, List.setIfInBounds_toArray, List.set_cons_zero, List.set_cons_succ, List.getElem_toArray, List.getElem_cons_zero, List.getElem_cons_succ]
        refine wpAnyH_ready (rs := [12, 14]) (by kernel_rfl) (by simp) ?_
        refine AllReadyH.cons rfl (fun K hK => ?_) (AllReadyH.cons rfl (fun K hK => ?_) AllReadyH.nil)
        · go_simp
          refine hK.out _ _ trivial (fun _ => ?_)
          clear hK K
          try simp only [Act.put, List.setIfInBounds_toArray, List.set_cons_zero, List.set_cons_succ, List.getElem_toArray, List.getElem_cons_zero, List.getElem_cons_succ]
          refine wpAnyH_ready (rs := [14]) (by kernel_rfl) (by simp) ?_
          refine AllReadyH.cons rfl (fun K hK => ?_) AllReadyH.nil
          go_simp
          refine (rbytes_any _ _ _ (by omega)).mono ?_
          rintro e z4 ⟨rfl, hb4⟩
          go_wp2_with fail
          refine hK.out _ _ trivial (fun hH3 => ?_)
          clear hK K
          try simp only [Act.put, List.setIfInBounds_toArray, List.set_cons_zero, List.set_cons_succ, List.getElem_toArray, List.getElem_cons_zero, List.getElem_cons_succ]
          refine wpAnyH_take (i := 15) (v := ?v78) rfl (by kernel_rfl) (by kernel_rfl) (by kernel_rfl) (fun _ _ _ h => h) (Or.inl ⟨by rfl, fun w hSw => ?y78⟩) trivial ?r78
          case y78 => (try dsimp only at hSw); first | (go_simp; done) | (go_simp; with_reducible rfl)
          try simp only [Act.put, List.setIfInBounds_toArray, List.set_cons_zero, List.set_cons_succ, List.getElem_toArray, List.getElem_cons_zero, List.getElem_cons_succ]
          refine wpAnyH_take (i := 16) (v := ?v79) rfl (by kernel_rfl) (by kernel_rfl) (by kernel_rfl) (fun _ _ _ h => h) (Or.inl ⟨by rfl, fun w hSw => ?y79⟩) trivial ?r79
          case y79 => (try dsimp only at hSw); first | (go_simp; done) | (go_simp; with_reducible rfl)
          try simp only [Act.put, List.setIfInBounds_toArray, List.set_cons_zero, List.set_cons_succ, List.getElem_toArray, List.getElem_cons_zero, List.getElem_cons_succ]
          refine wpAnyH_take (i := 17) (v := ?v80) rfl (by kernel_rfl) (by kernel_rfl) (by kernel_rfl) (fun _ _ _ h => h) (Or.inl ⟨by rfl, fun w hSw => ?y80⟩) trivial ?r80
          case y80 => (try dsimp only at hSw); first | (go_simp; done) | (go_simp; with_reducible rfl)
          try simp only [Act.put, List.setIfInBounds_toArray, List.set_cons_zero, List.set_cons_succ, List.getElem_toArray, List.getElem_cons_zero, List.getElem_cons_succ]
          refine wpAnyH_done (by kernel_rfl) ?_ _
          have hd2 : Below w13.heap.size w13 w13.drew := (Only.drawn (fun _ => False) ⟨1, rfl⟩ : Only (fun _ => False) w13 w13.drew).below (Nat.le_refl _) (fun _ _ h => h)
          have hz3 : w13.heap.size ≤ z3.heap.size := hb3.size
          have h24 : Below w13.heap.size w13 z4 := (hd2.trans hb3).trans (hb4.mono hz3)
          have H24 := Lib.hid h24
          clear hb3 hb4 hr3 HBY HLEN hd2 h24 hsz2 hz3
          go_wp2_with fail
          go_ret
          exact ⟨rfl, HFIN.out _ (H13.out.bel.trans (H24.out.mono H13.out.dz))⟩
        · go_simp
          refine (rbytes_any _ _ _ (by omega)).mono ?_
          rintro e z4 ⟨rfl, hb4⟩
          have cv4 := conv_row (packB false L2).length cap3 (hr3.below hb4) rfl
          go_wp2_with fail
          refine hK.out _ _ trivial (fun _ => ?_)
          clear hK K
          try simp only [Act.put, List.setIfInBounds_toArray, List.set_cons_zero, List.set_cons_succ, List.getElem_toArray, List.getElem_cons_zero, List.getElem_cons_succ]
          refine wpAnyH_ready (rs := [12]) (by kernel_rfl) (by simp) ?_
          refine AllReadyH.cons rfl (fun K hK => ?_) AllReadyH.nil
          go_simp
          refine hK.out _ _ trivial (fun hH4 => ?_)
          clear hK K
          try simp only [Act.put, List.setIfInBounds_toArray, List.set_cons_zero, List.set_cons_succ, List.getElem_toArray, List.getElem_cons_zero, List.getElem_cons_succ]
          refine wpAnyH_take (i := 15) (v := ?v81) rfl (by kernel_rfl) (by kernel_rfl) (by kernel_rfl) (fun _ _ _ h => h) (Or.inl ⟨by rfl, fun w hSw => ?y81⟩) trivial ?r81
          case y81 => (try dsimp only at hSw); first | (go_simp; done) | (go_simp; with_reducible rfl)
          try simp only [Act.put, List.setIfInBounds_toArray, List.set_cons_zero, List.set_cons_succ, List.getElem_toArray, List.getElem_cons_zero, List.getElem_cons_succ]
          refine wpAnyH_take (i := 16) (v := ?v82) rfl (by kernel_rfl) (by kernel_rfl) (by kernel_rfl) (fun _ _ _ h => h) (Or.inl ⟨by rfl, fun w hSw => ?y82⟩) trivial ?r82
          case y82 => (try dsimp only at hSw); first | (go_simp; done) | (go_simp; with_reducible rfl)
          try simp only [Act.put, List.setIfInBounds_toArray, List.set_cons_zero, List.set_cons_succ, List.getElem_toArray, List.getElem_cons_zero, List.getElem_cons_succ]
          refine wpAnyH_take (i := 17) (v := ?v83) rfl (by kernel_rfl) (by kernel_rfl) (by kernel_rfl) (fun _ _ _ h => h) (Or.inl ⟨by rfl, fun w hSw => ?y83⟩) trivial ?r83
          case y83 => (try dsimp only at hSw); first | (go_simp; done) | (go_simp; with_reducible rfl)
          try simp only [Act.put, List.setIfInBounds_toArray, List.set_cons_zero, List.set_cons_succ, List.getElem_toArray, List.getElem_cons_zero, List.getElem_cons_succ]
          refine wpAnyH_done (by kernel_rfl) ?_ _
          have hd2 : Below w13.heap.size w13 w13.drew := (Only.drawn (fun _ => False) ⟨1, rfl⟩ : Only (fun _ => False) w13 w13.drew).below (Nat.le_refl _) (fun _ _ h => h)
          have hz3 : w13.heap.size ≤ z3.heap.size := hb3.size
          have h24 : Below w13.heap.size w13 z4 := (hd2.trans hb3).trans (hb4.mono hz3)
          have H24 := Lib.hid h24
          clear hb3 hb4 hr3 HBY HLEN hd2 h24 hsz2 hz3
          go_wp2_with fail
          go_ret
          exact ⟨rfl, HFIN.out _ (H13.out.bel.trans (H24.out.mono H13.out.dz))⟩
end Go.Proofs.YtplbbejdnahibaaDoor.Fx


/- The document's Same over rows, and its Encode. -/
import Derived.Test.YtgddpjnikgcamaaDoorMiU
namespace Go.Proofs.YtgddpjnikgcamaaDoor.Mh
open Go.RowKit Go.Proofs.YtgddpjnikgcamaaDoor.Oct Go.Proofs.YtgddpjnikgcamaaDoor.Bit
open Go.Proofs.YtgddpjnikgcamaaDoor.Rn (changes zl zl_length Valid rchanges_new)
open Go.Proofs.YtgddpjnikgcamaaDoor.Lp (VRow ints ints_length vrow_own)
set_option linter.unusedVariables false
set_option linter.unusedSimpArgs false
set_option maxRecDepth 100000

theorem txt_row {w : World} {C : Nat} {q : Option Addr} {R : List (List Bool)} (h : VRow w C q (txt R)) {i : Nat} (hi : i < R.length) : ∃ b off, q = some ⟨b, off, none⟩ ∧ b < C ∧ w.cell? ⟨b, off + i, none⟩ = some (.string (ds R[i])) := by
  obtain ⟨b, off, e, hb, _⟩ := h (by rw [txt_length]; omega)
  subst e
  exact ⟨b, off, rfl, hb, txt_get h hi⟩
theorem Tbl.get2 {w : World} {C : Nat} {q : Option Addr} {R : List (List Nat)} (h : Tbl w C q R) {k : Nat} (hk : k < R.length) : ∃ b off, q = some ⟨b, off, none⟩ ∧ b < C ∧ ∃ qk ck, w.cell? ⟨b, off + k, none⟩ = some (.slice qk R[k].length ck) ∧ VRow w C qk (ints (zl R[k])) := by
  obtain ⟨vs, h1, h2, h3⟩ := h
  obtain ⟨b, off, e, hb, hc⟩ := h2 (by omega)
  obtain ⟨qk, ck, h4, h5, h6⟩ := h3 k hk
  refine ⟨b, off, e, hb, qk, ck, ?_, h5⟩
  have h7 := hc k (by omega)
  rw [List.getElem?_eq_getElem (by omega)] at h4
  injection h4 with h4
  rw [h7, h4]
set_option maxHeartbeats 8000000 in
theorem rsameT_any (w : World) (qa qb : Option Addr) (n ca cb : Nat) (R : List (List Bool)) (hA : Tbl w w.heap.size qa (R.map changes)) (hB : VRow w w.heap.size qb (txt R)) (hn : R.length = n) (hl : ∀ X ∈ R, X.length ≤ 1000) (hn2 : n ≤ 1000) :
    Calls Tryd.prog 30 #[.slice qa n ca, .slice qb n cb] w fun e w' => e = .returned (.bool true) ∧ Below w.heap.size w w' := by
  have HA := Lib.hid hA
  have HB := Lib.hid hB
  have HN := Lib.hid hn
  have HL := Lib.hid hl
  clear hA hB hn hl
  go_enter Tryd.func30, Tryd.ntmps30
  go_wp2_with fail
  go_loopw [5] (fun sk wr => ∃ k : Nat, k ≤ n ∧ sk = .int .i64 (k : Int) ∧ Hid (Below w.heap.size w wr)) (fun sk _ => n - (intOf sk).toNat)
  case atStart => exact ⟨0, by omega, rfl, Lib.hid (Below.refl _ _)⟩
  case round =>
    obtain ⟨k, hk, rfl, HBr⟩ := hrel
    by_cases hlt : k < n
    · have hd : decide ((k : Int) < (n : Int)) = true := by simp; omega
      have hkR : k < R.length := by rw [HN.out]; exact hlt
      obtain ⟨ba, oa, hea, hba, qx, cx, hcx, hvx⟩ := (HA.out.below HBr.out).get2 (k := k) (by rw [List.length_map]; exact hkR)
      obtain ⟨bb, ob, heb, hbb, hcs⟩ := txt_row (HB.out.below HBr.out (Nat.le_refl _)) hkR
      rw [List.getElem_map] at hcx hvx
      have hXl := HL.out R[k] (List.getElem_mem hkR)
      generalize R[k] = X at *
      subst hea heb
      obtain ⟨T, hT⟩ : ∃ T, T = ds X := ⟨_, rfl⟩
      rw [← hT] at hcs
      obtain ⟨m, hm⟩ : ∃ m, m = (changes X).length := ⟨_, rfl⟩
      rw [← hm] at hcx
      have hm3 : m ≤ 1000 := by have := Rn.chg_len X false 0; rw [hm]; unfold changes; omega
      have hCH := fun w9 => rchanges_new X w9 (by omega)
      rw [← hT, zl_length, ← hm] at hCH
      have HCH := Lib.hid hCH
      have hzr := HBr.out.size
      have HVX := Lib.hid hvx
      have HMX := Lib.hid hm.symm
      have i1 : (0 : Int) ≤ (k : Int) := by omega
      have i2 : (k : Int) < (n : Int) := by omega
      have kd1 : wr.drew.cell? ⟨ba, oa + k, none⟩ = some (.slice qx m cx) := hcx
      have kd2 : wr.drew.cell? ⟨bb, ob + k, none⟩ = some (.string T) := hcs
      have hdr : Below wr.heap.size wr wr.drew := (show Drawn wr wr.drew from ⟨1, rfl⟩).below _
      have HDR := Lib.hid hdr
      clear hCH hvx hm hkR hdr hT
      go_wp2_with fail
      refine wp_region_held_drew (S := (fun w' => w'.cell? ⟨ba, oa + k, none⟩ = some (.slice qx m cx) ∧ w'.cell? ⟨bb, ob + k, none⟩ = some (.string T))) (by kernel_rfl) ⟨kd1, kd2⟩ (fun hHeld => ?_)
      refine wpAnyH_take (i := 0) (v := ?v1) rfl (by kernel_rfl) (by kernel_rfl) (by kernel_rfl) (fun _ _ _ h => h) (Or.inl ⟨by rfl, fun w hSw => ?y1⟩) hHeld ?r1
      case y1 => (try dsimp only at hSw); first | (go_simp; done) | (go_simp; with_reducible rfl)
      try simp only [Act.put, List.setIfInBounds_toArray, List.set_cons_zero, List.set_cons_succ, List.getElem_toArray, List.getElem_cons_zero, List.getElem_cons_succ]
      refine wpAnyH_take (i := 1) (v := ?v2) rfl (by kernel_rfl) (by kernel_rfl) (by kernel_rfl) (fun _ _ _ h => h) (Or.inl ⟨by rfl, fun w hSw => ?y2⟩) hHeld ?r2
      case y2 => (try dsimp only at hSw); first | (go_simp; done) | (go_simp; with_reducible rfl)
      try simp only [Act.put, List.setIfInBounds_toArray, List.set_cons_zero, List.set_cons_succ, List.getElem_toArray, List.getElem_cons_zero, List.getElem_cons_succ]
      refine wpAnyH_take (i := 2) (v := ?v3) rfl (by kernel_rfl) (by kernel_rfl) (by kernel_rfl) (fun _ _ _ h => h) (Or.inl ⟨by rfl, fun w hSw => ?y3⟩) hHeld ?r3
      case y3 => (try dsimp only at hSw); first | (go_simp; done) | (go_simp; with_reducible rfl)
      try simp only [Act.put, List.setIfInBounds_toArray, List.set_cons_zero, List.set_cons_succ, List.getElem_toArray, List.getElem_cons_zero, List.getElem_cons_succ]
      refine wpAnyH_take (i := 3) (v := ?v4) rfl (by kernel_rfl) (by kernel_rfl) (by kernel_rfl) (fun _ _ _ h => h) (Or.inl ⟨by rfl, fun w hSw => ?y4⟩) hHeld ?r4
      case y4 => (try dsimp only at hSw); first | (go_simp; done) | (go_simp; with_reducible rfl)
      try simp only [Act.put, List.setIfInBounds_toArray, List.set_cons_zero, List.set_cons_succ, List.getElem_toArray, List.getElem_cons_zero, List.getElem_cons_succ]
      refine wpAnyH_take (i := 4) (v := ?v5) rfl (by kernel_rfl) (by kernel_rfl) (by kernel_rfl) (fun _ _ _ h => h) (Or.inl ⟨by rfl, fun w hSw => ?y5⟩) hHeld ?r5
      case y5 => (try dsimp only at hSw); first | (go_simp; done) | (go_simp; with_reducible rfl)
      try simp only [Act.put, List.setIfInBounds_toArray, List.set_cons_zero, List.set_cons_succ, List.getElem_toArray, List.getElem_cons_zero, List.getElem_cons_succ]
      refine wpAnyH_take (i := 5) (v := ?v6) rfl (by kernel_rfl) (by kernel_rfl) (by kernel_rfl) (fun _ _ _ h => h) (Or.inl ⟨by rfl, fun w hSw => ?y6⟩) hHeld ?r6
      case y6 => (try dsimp only at hSw); first | (go_simp; done) | (go_simp; with_reducible rfl)
      try simp only [Act.put, List.setIfInBounds_toArray, List.set_cons_zero, List.set_cons_succ, List.getElem_toArray, List.getElem_cons_zero, List.getElem_cons_succ]
      refine wpAnyH_take (i := 6) (v := ?v7) rfl (by kernel_rfl) (by kernel_rfl) (by kernel_rfl) (fun _ _ _ h => h) (Or.inl ⟨by rfl, fun w hSw => ?y7⟩) hHeld ?r7
      case y7 => (try dsimp only at hSw); first | (go_simp; done) | (go_simp; with_reducible rfl)
      try simp only [Act.put, List.setIfInBounds_toArray, List.set_cons_zero, List.set_cons_succ, List.getElem_toArray, List.getElem_cons_zero, List.getElem_cons_succ]
      refine wpAnyH_take (i := 7) (v := ?v8) rfl (by kernel_rfl) (by kernel_rfl) (by kernel_rfl) (fun _ _ _ h => h) (Or.inl ⟨by rfl, fun w hSw => ?y8⟩) hHeld ?r8
      case y8 => (try dsimp only at hSw); first | (go_simp; done) | (go_simp; with_reducible rfl)
      try simp only [Act.put, List.setIfInBounds_toArray, List.set_cons_zero, List.set_cons_succ, List.getElem_toArray, List.getElem_cons_zero, List.getElem_cons_succ]
      refine wpAnyH_ready (rs := [8]) (by kernel_rfl) (by simp) ?_
      refine AllReadyH.cons rfl (fun K hK => ?_) AllReadyH.nil
      go_simp
      refine (HCH.out _).mono ?_
      rintro e w3 ⟨hb3, q3, c3, rfl, hv3, _, _, _, _⟩
      have HS3 : Hid (w3.cell? ⟨ba, oa + k, none⟩ = some (.slice qx m cx) ∧ w3.cell? ⟨bb, ob + k, none⟩ = some (.string T)) := Lib.hid ⟨(hb3.cell (p := ⟨ba, oa + k, none⟩) (Nat.lt_of_lt_of_le hba (Nat.le_trans hzr HDR.out.size))).trans kd1, (hb3.cell (p := ⟨bb, ob + k, none⟩) (Nat.lt_of_lt_of_le hbb (Nat.le_trans hzr HDR.out.size))).trans kd2⟩
      have HB3 := Lib.hid (HDR.out.trans (hb3.mono HDR.out.size))
      have HSA := Lib.hid (same_in qx q3 m cx c3 (changes X) w3 _ _ (HVX.out.below (HB3.out.mono hzr) (Nat.le_refl _)) hv3 HMX.out (by omega))
      clear hb3 hv3
      go_wp2_with fail
      refine hK.out _ _ HS3.out (fun hHeld2 => ?_)
      clear hK K
      try simp only [Act.put, List.setIfInBounds_toArray, List.set_cons_zero, List.set_cons_succ, List.getElem_toArray, List.getElem_cons_zero, List.getElem_cons_succ]
      refine wpAnyH_ready (rs := [9]) (by kernel_rfl) (by simp) ?_
      refine AllReadyH.cons rfl (fun K hK => ?_) AllReadyH.nil
      go_simp
      refine HSA.out.mono ?_
      rintro e w4 ⟨rfl, hd4⟩
      have HB4 := Lib.hid (HB3.out.trans ((hd4.below w3.heap.size).mono HB3.out.size))
      have HS4 : Hid (w4.cell? ⟨ba, oa + k, none⟩ = some (.slice qx m cx) ∧ w4.cell? ⟨bb, ob + k, none⟩ = some (.string T)) := Lib.hid (by
        obtain ⟨nn, rfl⟩ := hd4
        exact HS3.out)
      clear hd4
      go_wp2_with fail
      refine hK.out _ _ HS4.out (fun hHeld3 => ?_)
      clear hK K
      try simp only [Act.put, List.setIfInBounds_toArray, List.set_cons_zero, List.set_cons_succ, List.getElem_toArray, List.getElem_cons_zero, List.getElem_cons_succ]
      refine wpAnyH_take (i := 10) (v := ?v9) rfl (by kernel_rfl) (by kernel_rfl) (by kernel_rfl) (fun _ _ _ h => h) (Or.inl ⟨by rfl, fun w hSw => ?y9⟩) hHeld3 ?r9
      case y9 => (try dsimp only at hSw); first | (go_simp; done) | (go_simp; with_reducible rfl)
      try simp only [Act.put, List.setIfInBounds_toArray, List.set_cons_zero, List.set_cons_succ, List.getElem_toArray, List.getElem_cons_zero, List.getElem_cons_succ]
      refine wpAnyH_done (by kernel_rfl) ?_ _
      have HB5 := Lib.hid (HBr.out.trans (HB4.out.mono hzr))
      clear hHeld hHeld2 hHeld3 kd1 kd2 HS3 HS4
      go_wp2_with fail
      go_roundw
      case rel => exact ⟨k + 1, by omega, by go_num, HB5⟩
      case measure => simp [intOf]; omega
    · have hke : k = n := by omega
      subst hke
      have hd : decide ((k : Int) < (k : Int)) = false := by simp
      go_wp2_with fail
      go_ret
      exact ⟨rfl, HBr.out⟩
theorem pageP_append : ∀ (a b : List (List Bool)) (l : List Bool), pageP l (a ++ b) = pageP (pageP l a) b
  | [], b, l => rfl
  | r :: a, b, l => by rw [List.cons_append, pageP, pageP_append a b, pageP]
set_option maxHeartbeats 4000000 in
theorem rencode_any (w : World) (q : Option Addr) (n c : Nat) (R : List (List Bool)) (hB : VRow w w.heap.size q (txt R)) (hn : R.length = n) (hl : ∀ X ∈ R, X.length ≤ 1000) (hn2 : n ≤ 1000) (hb : (pageP [] (R.map rowF)).length ≤ 90000) :
    Calls Tryd.prog 32 #[.slice q n c] w fun e w' => e = .returned (.string (bs (packB false (pageP [] (R.map rowF))))) ∧ Below w.heap.size w w' := by
  have HB := Lib.hid hB
  have HN := Lib.hid hn
  have HL := Lib.hid hl
  have HBD := Lib.hid hb
  clear hB hn hl hb
  go_enter Tryd.func32, Tryd.ntmps32
  go_wp2_with fail
  go_loopw [3, 4] (fun s sk wr => ∃ (k : Nat) (l : List Bool), k ≤ n ∧ sk = .int .i64 (k : Int) ∧ s = .string (ds l) ∧ Hid (l = padL (pageP [] ((R.take k).map rowF))) ∧ Hid (Below w.heap.size w wr)) (fun _ sk _ => n - (intOf sk).toNat)
  case atStart => exact ⟨0, [], by omega, rfl, rfl, Lib.hid (by rw [List.take_zero]; rfl), Lib.hid (Below.refl _ _)⟩
  case round =>
    obtain ⟨k, l, hk, rfl, rfl, HP, HBr⟩ := hrel
    have hpre : ∀ j, (pageP [] ((R.take j).map rowF)).length ≤ 90000 := fun j => by
      have h1 : R.map rowF = (R.take j).map rowF ++ (R.drop j).map rowF := by rw [← List.map_append, List.take_append_drop]
      have h2 := HBD.out
      rw [h1, pageP_append] at h2
      have := pageP_le ((R.drop j).map rowF) (pageP [] ((R.take j).map rowF))
      omega
    by_cases hlt : k < n
    · have hd : decide ((k : Int) < (n : Int)) = true := by simp; omega
      have hkR : k < R.length := by rw [HN.out]; exact hlt
      obtain ⟨bb, ob, heb, hbb, hcs⟩ := txt_row (HB.out.below HBr.out (Nat.le_refl _)) hkR
      have hXl := HL.out R[k] (List.getElem_mem hkR)
      have hnx : pageP [] ((R.take (k + 1)).map rowF) = l ++ rowF R[k] := by
        rw [List.take_succ_eq_append_getElem hkR, List.map_append, pageP_append, HP.out]
        rfl
      have hp1 := hpre (k + 1)
      rw [hnx] at hp1
      generalize R[k] = X at *
      subst heb
      have i1 : (0 : Int) ≤ (k : Int) := by omega
      have i2 : (k : Int) < (n : Int) := by omega
      have HRR := Lib.hid (rrow_any X wr hXl)
      have HAL := Lib.hid (fun w9 => ralign_any (l ++ rowF X) w9 (by omega))
      have HP2 : Hid (padL (l ++ rowF X) = padL (pageP [] ((R.take (k + 1)).map rowF))) := Lib.hid (by rw [hnx])
      have hs1 := ds_size l
      have hs2 := ds_size (rowF X)
      have hap := ds_append l (rowF X)
      rw [List.length_append] at hp1
      rw [← hap] at HAL
      generalize padL (l ++ rowF X) = l2 at *
      generalize ds l = S at *
      generalize ds (rowF X) = T at *
      clear hap hnx hpre hkR
      go_wp2_with fail
      refine HRR.out.mono ?_
      rintro e w3 ⟨rfl, hb3⟩
      have HB3 := Lib.hid (HBr.out.trans (hb3.mono HBr.out.size))
      clear hb3
      go_wp2_with fail
      refine (HAL.out w3).mono ?_
      rintro e w' ⟨rfl, rfl⟩
      clear HAL HRR
      go_wp2_with fail
      go_roundw
      case rel => exact ⟨k + 1, l2, by omega, by go_num, rfl, HP2, HB3⟩
      case measure => simp [intOf]; omega
    · have hke : k = n := by omega
      subst hke
      have hd : decide ((k : Int) < (k : Int)) = false := by simp
      have hp0 := hpre k
      have hll : l.length ≤ 100000 := by rw [HP.out, padL_length]; omega
      have hres : packB false l = packB false (pageP [] (R.map rowF)) := by
        rw [HP.out, List.take_of_length_le (by rw [HN.out]; exact Nat.le_refl _)]
        exact packB_pad false _
      have HRB := Lib.hid (rbytes_any l false wr hll)
      rw [hres] at HRB
      clear hres hpre
      go_wp2_with fail
      refine HRB.out.mono ?_
      rintro e w5 ⟨rfl, hb5⟩
      have HBF := Lib.hid (HBr.out.trans (hb5.mono HBr.out.size))
      clear hb5
      go_wp2_with fail
      go_ret
      exact ⟨rfl, HBF.out⟩
end Go.Proofs.YtgddpjnikgcamaaDoor.Mh


/- The walk of TopFax. -/
import Derived.Test.YtmbfgejephgojaaGreatDoorTfA
import Derived.Test.YtmbfgejephgojaaGreatDoorGtE
import Derived.Test.YtmbfgejephgojaaGreatDoorGtG
import Derived.Test.YtmbfgejephgojaaGreatDoorGfE
namespace Go.Proofs.YtmbfgejephgojaaGreatDoor.Tf
open Go.RowKit Go.Proofs.YtmbfgejephgojaaGreatDoor.Oct Go.Proofs.YtmbfgejephgojaaGreatDoor.Bit
open Go.Proofs.YtmbfgejephgojaaGreatDoor.Fx (Tab TrueT)
open Go.Proofs.YtmbfgejephgojaaGreatDoor.Mh (DecP EncP Tbl rowF rowC pageP pageP_len dec_page encode_any decode_any decB)
open Go.Proofs.YtmbfgejephgojaaGreatDoor.Gt (BxO bxO_new right_any pageG gencode_wide gdecode_any readB readB_nil page_read pageG_more pageG_lenW lineF_lenW rowsF)
open Go.Proofs.YtmbfgejephgojaaGreatDoor.Gf (rowsP eofb readQ readQ_nil hencode_any hdecode_any rowsP_lenW)
open Go.Proofs.YtmbfgejephgojaaGreatDoor.Rn (changes zl zl_length Valid changes_valid)
open Go.Proofs.YtmbfgejephgojaaGreatDoor.Lp (VRow ints ints_length)
set_option linter.unusedVariables false
set_option linter.unusedSimpArgs false
set_option maxRecDepth 100000

/-- a page of T.4 that is told is read -/
theorem page_three {two al ends : Bool} {ev wd : Nat} (h0 : 0 < wd) (Xs : List (List Bool)) (hl : ∀ X ∈ Xs, X.length = wd) :
    readB two (bitsOf false (packB false (pageG two al ends ev wd Xs))) wd Xs.length 0 (List.replicate wd false) [] = .ok Xs := by
  obtain ⟨t, ht⟩ := pageG_more two al ends ev wd Xs
  rw [readB_nil, bitsOf_packB, ht]
  have h := page_read (two := two) (aligned := al) (every := ev) h0 Xs 0 (t ++ zs (8 * (((rowsF two al ev wd 0 (List.replicate wd false) Xs [] ++ t).length + 7) / 8) - (rowsF two al ev wd 0 (List.replicate wd false) Xs [] ++ t).length)) hl
  rw [← h]
  congr 1
  simp only [List.append_assoc, List.replicate_zero, List.nil_append]
/-- a page of T.6 that is told is read -/
theorem page_four {wd : Nat} (h0 : 0 < wd) (Xs : List (List Bool)) (hl : ∀ X ∈ Xs, X.length = wd) :
    readQ (bitsOf false (packB false (rowsP wd (List.replicate wd false) Xs ++ eofb))) wd Xs.length 0 (List.replicate wd false) [] = .ok Xs := by
  rw [readQ_nil, bitsOf_packB]
  exact (Gf.rows_read (r := zs (8 * (((rowsP wd (List.replicate wd false) Xs ++ eofb).length + 7) / 8) - (rowsP wd (List.replicate wd false) Xs ++ eofb).length)) h0 Xs 0 (List.replicate wd false) hl (by simp) (by rw [List.drop_zero, List.append_assoc])).1
/-- rows by their lengths that are told are read -/
theorem page_lens {wd : Nat} (h0 : 1 ≤ wd) (Xs : List (List Bool)) (hl : ∀ X ∈ Xs, X.length = wd) :
    decB (bitsOf false (packB false (pageP [] (Xs.map rowF)))) wd Xs.length 0 [] = .ok Xs := by
  have h := dec_page (L := bitsOf false (packB false (pageP [] (Xs.map rowF)))) h0 Xs [] [] hl ⟨_, bitsOf_packB _ _⟩ (Nat.zero_le _)
  rw [List.nil_append] at h
  exact h
theorem rowF_lenW {wd : Nat} {X : List Bool} (hX : X.length = wd) (hw : wd ≤ 400) : (rowF X).length ≤ 118 * wd + 59 := lineF_lenW (single := true) (above := X) hX hX hw
theorem rows_lens {wd : Nat} (Xs : List (List Bool)) (hl : ∀ X ∈ Xs, X.length = wd) : (Xs.map changes).map (rowC · wd) = Xs.map rowF := by
  rw [List.map_map]
  refine List.map_congr_left (fun X hX => ?_)
  show rowC (changes X) wd = rowF X
  rw [← hl X hX]
  rfl
/-- the greatest of six noughts -/
theorem max_six (W : World) (ts : Array TypeId) (t : TypeId) : (Builtin.max_ ts t #[.int .i64 0, .int .i64 0, .int .i64 0, .int .i64 0, .int .i64 0, .int .i64 0]).run Tryz.prog W = .ok (.int .i64 0) W := by
  simp [Builtin.max_, Builtin.max2]
set_option maxHeartbeats 16000000 in
theorem top_walk (p : Option Addr) (len cap : Nat) (zs : List Int) (z : Int) (two : Bool) (every : Int) (al ends : Bool) (w : World) (hT : Tab w) (hr0 : IsRow .u8 w p len cap zs) :
    Calls Tryz.prog 3 #[.slice p len cap, .int .i64 z, .agg #[.bool two, .int .i64 every, .bool al, .bool ends]] w fun e w' => e = .returned (.bool true) ∧ Below w.heap.size w w' := by
  obtain ⟨xs, hx, hr, hlc, hcm, hnil⟩ := hr0.row
  obtain ⟨w0, hw0⟩ : ∃ w0, w0 = w.alloc (.cells #[.bool two, .int .i64 every, .bool al, .bool ends] 24) := ⟨_, rfl⟩
  have hbx0 : BxO w0 w.heap.size every two al ends := by rw [hw0]; exact bxO_new w every two al ends
  have hb0 : Below w.heap.size w w0 := by rw [hw0]; exact Gt.alloc_below w _
  have HB0 := Lib.hid hb0
  have HBX0 := Lib.hid hbx0
  have HT0 := Lib.hid (hT.below hb0 hT.lt)
  have HW0 := Lib.hid hw0
  obtain ⟨rg, hrg⟩ : ∃ rg, rg = (decide (1 ≤ every) || !two) := ⟨_, rfl⟩
  have HRT : Hid (∀ W, Calls Tryz.prog 4 #[.agg #[.bool two, .int .i64 every, .bool al, .bool ends]] W fun e w' => e = .returned (.bool rg) ∧ Below W.heap.size W w') := Lib.hid (fun W => by rw [hrg]; exact right_any two al ends every W)
  have HR0 : Hid (∀ W, Calls Tryz.prog 4 #[.agg #[.bool false, .int .i64 0, .bool false, .bool false]] W fun e w' => e = .returned (.bool true) ∧ Below W.heap.size W w') := Lib.hid (fun W => right_any false false false 0 W)
  have HRG := Lib.hid hrg
  have HX := Lib.hid hx
  have HR := Lib.hid hr
  have HCM := Lib.hid hcm
  have HLC := Lib.hid hlc
  clear hT hbx0 hb0 hw0 hrg hr0 hx hr hcm hnil
  by_cases hbad : z < 1 ∨ 300 < z ∨ 300 < len ∨ rg = false
  · have hways : decide (z < 1) = true ∨ (decide (z < 1) = false ∧ (decide (300 < z) = true ∨ (decide (300 < z) = false ∧ (decide (300 < (len : Int)) = true ∨ (decide (300 < (len : Int)) = false ∧ rg = false))))) := by
      by_cases h1 : z < 1
      · left; simpa using h1
      · right
        refine ⟨by simpa using h1, ?_⟩
        by_cases h2 : 300 < z
        · left; simpa using h2
        · right
          refine ⟨by simp; omega, ?_⟩
          by_cases h3 : 300 < len
          · left; simp; omega
          · right
            refine ⟨by simp; omega, ?_⟩
            rcases hbad with h | h | h | h
            · exact absurd h h1
            · exact absurd h h2
            · exact absurd h h3
            · exact h
    clear hbad hlc
    rcases hways with q1 | ⟨q1, q2 | ⟨q2, q3 | ⟨q3, q4⟩⟩⟩
    iterate 3
      (go_enter Tryz.func3, Tryz.ntmps3
       go_wp2_with fail
       rw [← HW0.out]
       refine (HR0.out w0).mono ?_
       rintro e w1 ⟨rfl, hb1⟩
       have HB1 := Lib.hid (HB0.out.trans (hb1.mono HB0.out.size))
       clear hb1
       go_wp2_with fail
       go_ret
       exact ⟨rfl, HB1.out⟩)
    subst q4
    obtain ⟨b0, b1, b2, b3⟩ := HBX0.out.cells
    go_enter Tryz.func3, Tryz.ntmps3
    go_wp2_with fail
    rw [← HW0.out]
    go_wp2_with fail
    refine (HRT.out w0).mono ?_
    rintro e w1 ⟨rfl, hb1⟩
    have HB1 := Lib.hid (HB0.out.trans (hb1.mono HB0.out.size))
    clear hb1 b0 b1 b2 b3
    go_wp2_with fail
    refine (HR0.out w1).mono ?_
    rintro e w2 ⟨rfl, hb2⟩
    have HB2 := Lib.hid (HB1.out.trans (hb2.mono HB1.out.size))
    clear hb2
    go_wp2_with fail
    go_ret
    exact ⟨rfl, HB2.out⟩
  · obtain ⟨wd, rfl⟩ : ∃ n : Nat, z = (n : Int) := ⟨z.toNat, by omega⟩
    obtain rfl : rg = true := by
      cases rg
      · exact absurd (.inr (.inr (.inr rfl))) hbad
      · rfl
    have q2 : decide ((wd : Int) < 1) = false := by simp; omega
    have q3 : decide (300 < (wd : Int)) = false := by simp; omega
    have q4 : decide (300 < (len : Int)) = false := by simp; omega
    have h1 : 1 ≤ wd := by omega
    have hn300 : wd ≤ 300 := by omega
    have hl300 : len ≤ 300 := by omega
    have hev : two = true → 1 ≤ every := fun e => by
      have h := HRG.out
      rw [e] at h
      simpa using h.symm
    have HEV := Lib.hid hev
    obtain ⟨sz, hsz⟩ : ∃ sz, sz = (wd + 7) / 8 := ⟨_, rfl⟩
    obtain ⟨n, hn⟩ : ∃ n, n = len / sz := ⟨_, rfl⟩
    have hsz1 : 1 ≤ sz := by omega
    have hsz2 : sz ≤ 38 := by omega
    have hw8 : wd ≤ 8 * sz := by omega
    have hszi : ((wd : Int) + 7).tdiv 8 = (sz : Int) := by
      rw [Int.tdiv_eq_ediv_of_nonneg (by omega)]
      omega
    have hni : (len : Int).tdiv (sz : Int) = (n : Int) := by
      rw [Int.tdiv_eq_ediv_of_nonneg (by omega), hn]
      exact (Int.natCast_ediv len sz).symm
    have hz0 : ¬ (sz : Int) = 0 := by omega
    have hz0b : ((sz : Int) == 0) = false := by simp; omega
    have hnsz : n * sz ≤ len := by rw [hn]; exact Nat.div_mul_le_self _ _
    have hnn : n ≤ 300 := by
      have := Nat.mul_le_mul_left n hsz1
      omega
    have hnw : n * wd ≤ 2400 := by
      have a1 := Nat.mul_le_mul_left n hw8
      have a2 : n * (8 * sz) = 8 * (n * sz) := by rw [Nat.mul_left_comm]
      omega
    have HNW := Lib.hid hnw
    have HNSZ := Lib.hid hnsz
    have HSZ := Lib.hid hsz
    have hlcap := HLC.out
    clear hbad hev hlc hn hsz hw8 hnsz hnw
    obtain ⟨b0, b1, b2, b3⟩ := HBX0.out.cells
    go_enter Tryz.func3, Tryz.ntmps3
    go_wp2_with fail
    rw [← HW0.out]
    obtain ⟨go, hgo⟩ : ∃ go, go = w.heap.size := ⟨_, rfl⟩
    rw [← hgo] at HBX0 b0 b1 b2 b3 ⊢
    have HGE := Lib.hid hgo
    clear hgo
    go_wp2_with fail
    refine (HRT.out w0).mono ?_
    rintro e w1 ⟨rfl, hb1⟩
    have HBX1 := Lib.hid (HBX0.out.below hb1 HBX0.out.lt)
    have HB1 := Lib.hid (HB0.out.trans (hb1.mono HB0.out.size))
    have HT1 := Lib.hid (HT0.out.below hb1 HT0.out.lt)
    have HRO := Lib.hid (rows_any w1 p len cap xs wd n sz (HR.out.below HB1.out) HX.out hlcap HCM.out hl300 hn300 HSZ.out HNSZ.out hnn)
    clear hb1 b0 b1 b2 b3
    go_wp2_with fail
    refine HRO.out.mono ?_
    rintro e w2 ⟨hb2, Xs, ql, cl, rfl, hXl, hXw, htl⟩
    have HBX2 := Lib.hid (HBX1.out.below hb2 HBX1.out.lt)
    have HB2 := Lib.hid (HB1.out.trans (hb2.mono HB1.out.size))
    have HT2 := Lib.hid (HT1.out.below hb2 HT1.out.lt)
    have HXL := Lib.hid hXl
    have HXW := Lib.hid hXw
    have HTL := Lib.hid htl
    -- by lengths
    have hpl1 := pageP_len (118 * wd + 59) (Xs.map rowF) [] (fun r hr => by
      obtain ⟨X, hX, rfl⟩ := List.mem_map.1 hr
      exact rowF_lenW (hXw X hX) (by omega))
    rw [List.length_map, hXl, List.length_nil, Nat.zero_add] at hpl1
    have hk1 : n * (118 * wd + 59 + 7) = 118 * (n * wd) + 66 * n := by
      rw [show 118 * wd + 59 + 7 = 118 * wd + 66 from by omega, Nat.mul_add, Nat.mul_left_comm, Nat.mul_comm n 66]
    have hpl2 : (pageP [] (Xs.map rowF)).length ≤ 400000 := by have := HNW.out; omega
    have hEN1 := encode_any w2 HT2.out ql n cl (Xs.map changes) wd htl (by rw [List.length_map]; exact hXl) (by omega) (fun d hd => by
        obtain ⟨X, hX, rfl⟩ := List.mem_map.1 hd
        have h := changes_valid X
        rw [hXw X hX] at h
        exact h) (fun d hd => by
        obtain ⟨X, hX, rfl⟩ := List.mem_map.1 hd
        have h1 := hXw X hX
        have := Rn.chg_len X false 0
        unfold changes
        omega) h1 (by omega) (by rw [rows_lens Xs hXw]; omega)
    rw [rows_lens Xs hXw] at hEN1
    have hL1 := page_lens h1 Xs hXw
    have hL2 := page_three (two := two) (al := al) (ends := ends) (ev := every.toNat) h1 Xs hXw
    have hL3 := page_four h1 Xs hXw
    rw [hXl] at hL1 hL2 hL3
    have hB1 : (packB false (pageP [] (Xs.map rowF))).length ≤ 100000 := by rw [packB_length]; omega
    have hB2 : (packB false (pageG two al ends every.toNat wd Xs)).length ≤ 100000 := by
      have h := pageG_lenW (two := two) (aligned := al) (ends := ends) (every := every.toNat) hXw (show wd ≤ 400 by omega)
      have h2 : (118 * wd + 79) * Xs.length = 118 * (n * wd) + 79 * n := by rw [hXl, Nat.add_mul, Nat.mul_assoc, Nat.mul_comm wd n]
      have := HNW.out
      rw [packB_length]
      omega
    have hB3 : (packB false (rowsP wd (List.replicate wd false) Xs ++ eofb)).length ≤ 100000 := by
      have h := rowsP_lenW (show wd ≤ 400 by omega) Xs (List.replicate wd false) (by simp) hXw
      have h2 : (118 * wd + 59) * Xs.length = 118 * (n * wd) + 59 * n := by rw [hXl, Nat.add_mul, Nat.mul_assoc, Nat.mul_comm wd n]
      have := HNW.out
      rw [packB_length, List.length_append, show eofb.length = 24 from rfl]
      omega
    have hk2 : (118 * wd + 79) * (n + 1) ≤ 1400000 := by
      have h2 : (118 * wd + 79) * (n + 1) = 118 * (n * wd) + 79 * n + (118 * wd + 79) := by rw [Nat.mul_succ, Nat.add_mul, Nat.mul_assoc, Nat.mul_comm wd n]
      have := HNW.out
      omega
    have hk3 : (118 * wd + 59) * (n + 1) ≤ 1400000 := Nat.le_trans (Nat.mul_le_mul_right _ (by omega)) hk2
    have HEN1 := Lib.hid hEN1
    have HEN2 := Lib.hid (fun W hT hR => gencode_wide W hT ql n cl Xs wd every two al ends hR hXl (by omega) hXw h1 (by omega) HEV.out _ rfl hk2)
    have HEN3 := Lib.hid (fun W hT hR => hencode_any W hT ql n cl Xs wd hR hXl (by omega) hXw h1 (by omega) _ rfl hk3)
    unfold EncP at HEN1 HEN2 HEN3
    obtain ⟨B1, hB1d⟩ : ∃ B, B = packB false (pageP [] (Xs.map rowF)) := ⟨_, rfl⟩
    obtain ⟨B2, hB2d⟩ : ∃ B, B = packB false (pageG two al ends every.toNat wd Xs) := ⟨_, rfl⟩
    obtain ⟨B3, hB3d⟩ : ∃ B, B = packB false (rowsP wd (List.replicate wd false) Xs ++ eofb) := ⟨_, rfl⟩
    rw [← hB1d] at HEN1 hL1 hB1
    rw [← hB2d] at HEN2 hL2 hB2
    rw [← hB3d] at HEN3 hL3 hB3
    obtain ⟨m1, hm1⟩ : ∃ m, m = B1.length := ⟨_, rfl⟩
    obtain ⟨m2, hm2⟩ : ∃ m, m = B2.length := ⟨_, rfl⟩
    obtain ⟨m3, hm3⟩ : ∃ m, m = B3.length := ⟨_, rfl⟩
    rw [← hm1] at HEN1 hB1
    rw [← hm2] at HEN2 hB2
    rw [← hm3] at HEN3 hB3
    have HL1 := Lib.hid hL1
    have HL2 := Lib.hid hL2
    have HL3 := Lib.hid hL3
    have HM1 := Lib.hid hm1.symm
    have HM2 := Lib.hid hm2.symm
    have HM3 := Lib.hid hm3.symm
    have HRL : Hid (∀ d ∈ Xs.map changes, d.length ≤ 1000) := Lib.hid (fun d hd => by
        obtain ⟨X, hX, rfl⟩ := List.mem_map.1 hd
        have h1 := hXw X hX
        have := Rn.chg_len X false 0
        unfold changes
        omega)
    have HML : Hid ((Xs.map changes).length = n) := Lib.hid (by rw [List.length_map]; exact hXl)
    clear hb2 hXl hXw htl hpl1 hk1 hpl2 hEN1 hL1 hL2 hL3 hB1d hB2d hB3d hm1 hm2 hm3 hk2 hk3 HRO
    go_wp2_with fail
    refine HEN1.out.mono ?_
    rintro e w3 ⟨hb3, qx, cx, rfl, hr3, hn3, _⟩
    have HBX3 := Lib.hid (HBX2.out.below hb3 HBX2.out.lt)
    have HB3 := Lib.hid (HB2.out.trans (hb3.mono HB2.out.size))
    have HS3 := Lib.hid hb3
    have HT3 := Lib.hid (HT2.out.below hb3 HT2.out.lt)
    have HRx := Lib.hid hr3
    have HNx := Lib.hid hn3
    obtain ⟨b0, b1, b2, b3⟩ := HBX3.out.cells
    have HE2 := Lib.hid (HEN2.out w3 HT3.out ((HTL.out.below hb3).mono hb3.size))
    clear hb3 hr3 hn3 HEN1
    go_wp2_with fail
    refine HE2.out.mono ?_
    rintro e w4 ⟨hb4, qy, cy, rfl, hr4, hn4, _⟩
    have HBX4 := Lib.hid (HBX3.out.below hb4 HBX3.out.lt)
    have HB4 := Lib.hid (HB3.out.trans (hb4.mono HB3.out.size))
    have HS4 := Lib.hid (HS3.out.trans (hb4.mono HS3.out.size))
    have HT4 := Lib.hid (HT3.out.below hb4 HT3.out.lt)
    have HRx4 := Lib.hid (HRx.out.below hb4)
    have HRy := Lib.hid hr4
    have HNy := Lib.hid hn4
    have HE3 := Lib.hid (HEN3.out w4 HT4.out ((HTL.out.below HS4.out).mono HS4.out.size))
    clear hb4 hr4 hn4 HE2 HEN2 b0 b1 b2 b3
    go_wp2_with fail
    refine HE3.out.mono ?_
    rintro e w5 ⟨hb5, qz, cz, rfl, hr5, hn5, _⟩
    have HBX5 := Lib.hid (HBX4.out.below hb5 HBX4.out.lt)
    have HB5 := Lib.hid (HB4.out.trans (hb5.mono HB4.out.size))
    have HS5 := Lib.hid (HS4.out.trans (hb5.mono HS4.out.size))
    have HT5 := Lib.hid (HT4.out.below hb5 HT4.out.lt)
    have HRx5 := Lib.hid (HRx4.out.below hb5)
    have HRy5 := Lib.hid (HRy.out.below hb5)
    have HRz := Lib.hid hr5
    have HNz := Lib.hid hn5
    have hd1 := decode_any w5 HT5.out qx m1 cx B1 wd n HRx5.out HM1.out HNx.out (by omega) h1 (by omega) (by omega)
    rw [HL1.out] at hd1
    have HD1 := Lib.hid hd1
    clear hb5 hr5 hn5 HE3 HEN3 hd1
    go_wp2_with fail
    refine HD1.out.mono ?_
    rintro e w6 ⟨hb6, qp, cp, rfl, ht6⟩
    rw [HXL.out]
    have HBX6 := Lib.hid (HBX5.out.below hb6 HBX5.out.lt)
    have HB6 := Lib.hid (HB5.out.trans (hb6.mono HB5.out.size))
    have HS6 := Lib.hid (HS5.out.trans (hb6.mono HS5.out.size))
    have HT6 := Lib.hid (HT5.out.below hb6 HT5.out.lt)
    have HTP := Lib.hid ht6
    have HRz6 := Lib.hid (HRz.out.below hb6)
    obtain ⟨b0, b1, b2, b3⟩ := HBX6.out.cells
    have hd2 := gdecode_any w6 HT6.out qy m2 cy B2 wd n two (HRy5.out.below hb6) HM2.out HNy.out (by omega) h1 (by omega) (by omega)
    rw [HL2.out] at hd2
    have HD2 := Lib.hid hd2
    clear hb6 ht6 HD1 hd2
    go_wp2_with fail
    refine HD2.out.mono ?_
    rintro e w7 ⟨hb7, qq, cq, rfl, ht7⟩
    rw [HXL.out]
    have HB7 := Lib.hid (HB6.out.trans (hb7.mono HB6.out.size))
    have HS7 := Lib.hid (HS6.out.trans (hb7.mono HS6.out.size))
    have HT7 := Lib.hid (HT6.out.below hb7 HT6.out.lt)
    have HTP7 := Lib.hid ((HTP.out.below hb7).mono hb7.size)
    have HTQ := Lib.hid ht7
    have hd3 := hdecode_any w7 HT7.out qz m3 cz B3 wd n (HRz6.out.below hb7) HM3.out HNz.out (by omega) h1 (by omega) (by omega)
    rw [HL3.out] at hd3
    have HD3 := Lib.hid hd3
    clear hb7 ht7 HD2 hd3 b0 b1 b2 b3
    go_wp2_with fail
    refine HD3.out.mono ?_
    rintro e w8 ⟨hb8, qr, cr, rfl, ht8⟩
    rw [HXL.out]
    have HB8 := Lib.hid (HB7.out.trans (hb8.mono HB7.out.size))
    have HS8 := Lib.hid (HS7.out.trans (hb8.mono HS7.out.size))
    have HTP8 := Lib.hid ((HTP7.out.below hb8).mono hb8.size)
    have HTQ8 := Lib.hid ((HTQ.out.below hb8).mono hb8.size)
    have HTR := Lib.hid ht8
    have HTL8 := Lib.hid ((HTL.out.below HS8.out).mono HS8.out.size)
    have HSA1 := Lib.hid (same_any w8 ql qp n cl cp (Xs.map changes) HTL8.out HTP8.out HML.out HRL.out (by omega))
    have hmx6 := fun (W : World) => max_six W #[29, 29, 29, 29, 29, 29] 29
    clear hb8 ht8 HD3
    go_wp2_with fail
    refine HSA1.out.mono ?_
    rintro e w9 ⟨rfl, hd9⟩
    have hb9 := hd9.below w8.heap.size
    have HB9 := Lib.hid (HB8.out.trans (hb9.mono HB8.out.size))
    have HTL9 := Lib.hid ((HTL8.out.below hb9).mono hb9.size)
    have HTR9 := Lib.hid ((HTR.out.below hb9).mono hb9.size)
    have HSA2 := Lib.hid (same_any w9 ql qq n cl cq (Xs.map changes) HTL9.out ((HTQ8.out.below hb9).mono hb9.size) HML.out HRL.out (by omega))
    clear hd9 hb9 HSA1
    go_wp2_with fail
    refine HSA2.out.mono ?_
    rintro e w10 ⟨rfl, hd10⟩
    have hb10 := hd10.below w9.heap.size
    have HB10 := Lib.hid (HB9.out.trans (hb10.mono HB9.out.size))
    have HSA3 := Lib.hid (same_any w10 ql qr n cl cr (Xs.map changes) ((HTL9.out.below hb10).mono hb10.size) ((HTR9.out.below hb10).mono hb10.size) HML.out HRL.out (by omega))
    clear hd10 hb10 HSA2
    go_wp2_with fail
    refine HSA3.out.mono ?_
    rintro e w11 ⟨rfl, hd11⟩
    have HB11 := Lib.hid (HB10.out.trans ((hd11.below w10.heap.size).mono HB10.out.size))
    clear hd11
    go_wp2_with fail
    go_ret
    rw [← HGE.out] at HB11
    exact ⟨rfl, by rw [← HGE.out]; exact HB11.out⟩
end Go.Proofs.YtmbfgejephgojaaGreatDoor.Tf

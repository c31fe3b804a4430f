
/- The walk of SamplesAgain. -/
import Derived.Test.YtkeplmnohenbnaaSaJ
namespace Go.Proofs.Ytkeplmnohenbnaa.Sa
open Go.RowKit Go.Proofs.Ytkeplmnohenbnaa.Oct Go.Proofs.Ytkeplmnohenbnaa.Bit
open Go.Proofs.Ytkeplmnohenbnaa.Lp (VRow vrow_blk vrow_own wpList_append_vals blk_set blk_far blk_frozen fillV fillV_length fillV_zero fillV_all fillV_step)
set_option linter.unusedVariables false
set_option linter.unusedSimpArgs false
set_option maxRecDepth 100000

theorem row_seven (w : World) (xs : List UInt8) (T : Nat) (fr : Nat × Nat) : Row (w.alloc (.cells (cellsOf xs).toArray T fr)) (some ⟨w.heap.size, 0, none⟩) xs := by
  intro _
  refine ⟨w.heap.size, 0, rfl, by simp, fun i h => ?_⟩
  rw [World.cell?_alloc_mark, Nat.zero_add]
  simp [cellsOf, h]
theorem size_pack {wd : Nat} {ns : List Nat} {big : Bool} (h : okS (ns.length : Int) (wd : Int) = true) : sizeV (ns.length : Int) (wd : Int) = ((packS wd big ns).length : Int) := by
  unfold sizeV
  rw [if_pos h, packS_length, Nat.mul_comm wd]
  push_cast
  rfl
theorem pack_le {wd : Nat} (ns : List Nat) (big : Bool) (h : wd ≤ 32) (hl : ns.length ≤ 500) : (packS wd big ns).length ≤ 2000 := by
  rw [packS_length]
  have := Nat.mul_le_mul h hl
  omega
theorem other_at {wd m : Nat} (hm : wd = 8 * m) (hw : whole wd = true) (big : Bool) (ns : List Nat) (i j : Nat) (hi : i < (packS wd big ns).length) (hj : i / m * m + m - 1 - i % m = j) :
    ∃ h : j < (packS wd (!big) ns).length, (packS wd (!big) ns)[j] = (packS wd big ns)[i] := by
  have h8 : wd / 8 = m := by omega
  have := pack_other hw big ns hi
  rw [h8, hj, List.getElem?_eq_getElem hi] at this
  obtain ⟨h1, h2⟩ := List.getElem?_eq_some_iff.1 this
  exact ⟨h1, h2⟩
set_option maxHeartbeats 2000000 in
theorem again_walk (p : Option Addr) (len cap : Nat) (wide : Int) (big : Bool) (w : World) (h0 : IsU32 w p len cap) (hw0 : (Lit.int .i64 wide).wf = true) :
    Calls Try.prog 5 #[.slice p len cap, .int .i64 wide, .bool big] w (YesS w) := by
  obtain ⟨ns, hx, hr, hb, hlc, hcm, hnil⟩ := h0
  have hll : len ≤ maxLen := Nat.le_trans hlc hcm
  unfold maxLen at hll
  clear hw0 hnil hlc hcm
  by_cases hl : 300 < len
  · have ql : decide ((300 : Int) < (len : Int)) = true := by simp; omega
    clear hr hx hb hl
    go_enter Try.func5, Try.ntmps5
    go_wp2_with fail
    refine (lives_any w).mono ?_
    rintro e w1 ⟨rfl, hb1⟩
    have HB1 := Lib.hid hb1
    clear hb1
    go_wp2_with fail
    refine (lives_any w1).mono ?_
    rintro e w2 ⟨rfl, hb2⟩
    have HB2 := Lib.hid (HB1.out.trans (hb2.mono HB1.out.size))
    clear hb2
    go_wp2_with fail
    go_ret
    exact ⟨rfl, HB2.out⟩
  · have ql : decide ((300 : Int) < (len : Int)) = false := by simp; omega
    have HX := Lib.hid hx
    have HR := Lib.hid hr
    have HB := Lib.hid hb
    have hl3 : len ≤ 300 := by omega
    clear hr hx hb hl hll
    go_enter Try.func5, Try.ntmps5
    go_wp2_with fail
    refine (lives_any w).mono ?_
    rintro e w1 ⟨rfl, hb1⟩
    have hr1 := HR.out.below hb1 (Nat.le_refl _)
    have HP := Lib.hid (pack_any p len cap wide big ns w1 (hr1.mono hb1.size) HX.out (by omega) HB.out)
    have HB1 := Lib.hid hb1
    clear hb1 hr1
    go_wp2_with fail
    refine HP.out.mono ?_
    rintro e w2 ⟨hb2, hres⟩
    by_cases her : packE wide ns = 0
    · rw [her] at hres
      obtain ⟨_, q, c, rfl, hrx, hxc, hcm, hqn, hqb⟩ | ⟨h0, _⟩ := hres
      · have hok : okS (len : Int) wide = true := by
          rw [← HX.out]
          by_cases h : okS (ns.length : Int) wide = true
          · exact h
          · rw [packE_bad (by simpa using h)] at her
            cases her
        obtain ⟨_, _, g3, g4⟩ := ok_bounds hok
        obtain ⟨wd, rfl⟩ : ∃ wd : Nat, wide = (wd : Int) := ⟨wide.toNat, by omega⟩
        rw [show ((wd : Int)).toNat = wd from rfl] at hrx hxc ⊢
        have hfit : ∀ v ∈ ns, v < 2 ^ wd := by
          rw [packE_ok (by rw [HX.out]; exact hok)] at her
          apply fitA_iff.1
          by_cases h : fitA wd ns = true
          · exact h
          · rw [show ((wd : Int)).toNat = wd from rfl, overE_no (by simpa using h)] at her
            cases her
        obtain ⟨X, hX⟩ : ∃ X, X = packS wd big ns := ⟨_, rfl⟩
        have hwd : wd ≤ 32 := by omega
        have hXl : X.length ≤ 2000 := by rw [hX]; exact pack_le ns big hwd (by rw [HX.out]; omega)
        have hsv : sizeV (len : Int) (wd : Int) = (X.length : Int) := by rw [hX, ← HX.out]; exact size_pack (by rw [HX.out]; exact hok)
        have hun : unpackS wd big (bitsOf false (X ++ [7])) len = ns := by rw [hX, ← HX.out]; exact unpack_pack hfit [7]
        have hue : unE (X.length + 1) (len : Int) (wd : Int) = 0 := by unfold unE; rw [if_pos hok, hsv, if_neg (by omega)]
        rw [← hX] at hrx hxc ⊢
        have HHX := Lib.hid hX
        have HOK := Lib.hid hok
        have HER := Lib.hid her
        obtain ⟨n, hn⟩ : ∃ n, n = X.length := ⟨_, rfl⟩
        rw [← hn] at hxc hXl hsv hue ⊢
        have HN := Lib.hid hn
        have HUN := Lib.hid hun
        have HUE := Lib.hid hue
        have HRX := Lib.hid hrx
        have hb12 := HB1.out.trans (hb2.mono HB1.out.size)
        have HB2 := Lib.hid hb12
        have HQN := Lib.hid hqn
        have HXC := Lib.hid hxc
        unfold maxLen at hcm
        clear hb2 hb12 hrx hqb hX hok her hfit hsv hun hue g3 g4 hn HP HB1 hqn
        have hbA : Below w2.heap.size w2 (w2.alloc (.cells (cellsOf []).toArray 5)) := (Below.refl _ w2).alloc (Nat.le_refl _) _
        have hownA : (w2.alloc (.cells (cellsOf []).toArray 5)).ownsRow w2.heap.size 5 1 (.slice (some ⟨w2.heap.size, 0, none⟩) 0 0) 0 (cellsOf []) := World.ownsRow_made (base := w2.heap.size) (e := 5) (size := 1) w2 #[] 0 (Nat.le_refl _) (by simp [maxLen]) rfl
        have HOA := Lib.hid hownA
        have HBA := Lib.hid hbA
        have HBAZ := Lib.hid hbA.size
        have HRA := Lib.hid (HRX.out.below hbA)
        have HNL := Lib.hid HN.out.symm
        clear hbA hownA
        go_wp2_with (at_builtin; refine wpList_append_bytes rfl _ _ rfl w2.heap.size _ 0 [] rfl HOA.out q n c X rfl HRA.out HNL.out HQN.out (by omega) HBAZ.out ?_)
        intro v3 w3 hown3 hgrow3 _
        have hb3 := HBA.out.trans (grown_below HOA.out hgrow3 HBAZ.out)
        have hbB : Below w3.heap.size w3 (w3.alloc (.cells (cellsOf [7]).toArray 5)) := (Below.refl _ w3).alloc (Nat.le_refl _) _
        have HOB := Lib.hid (own_below hown3 hbB)
        have HBB := Lib.hid (hb3.trans (hbB.mono hb3.size))
        have HBBZ := Lib.hid HBB.out.size
        have HR7 := Lib.hid (row_seven w3 [7] 5 (0, 0))
        clear hown3 hgrow3 hb3 hbB HOA HBA HBAZ HRA
        go_wp2_with (at_builtin; refine wpList_append_bytes rfl _ _ rfl w2.heap.size _ n X rfl HOB.out (some ⟨w3.heap.size, 0, none⟩) 1 1 [7] rfl HR7.out rfl (fun h => by cases h) (by omega) HBBZ.out ?_)
        intro v4 w4 hown4 hgrow4 _
        obtain ⟨q4, c4, rfl, hq0, hq1, hq2, hrow4⟩ := own_shape hown4 (by simp [HN.out])
        have hb4 := HBB.out.trans (grown_below HOB.out hgrow4 HBBZ.out)
        have hb24 := HB2.out.trans (hb4.mono HB2.out.size)
        have hup := unpack_any q4 (n + 1) c4 (len : Int) (wd : Int) big (X ++ [7]) w4 hrow4 (by simp [HN.out]) hq1 hq2 hq0 (by omega)
        rw [HUE.out, show ((wd : Int)).toNat = wd from rfl, show ((len : Int)).toNat = len from rfl, HUN.out] at hup
        have HUP := Lib.hid hup
        have HB4 := Lib.hid hb4
        have HB24 := Lib.hid hb24
        have HRX4 := Lib.hid (HRX.out.below hb4)
        clear hown4 hgrow4 hq0 hq1 hq2 hrow4 hb4 hb24 hup HOB HBB HBBZ HR7
        go_wp2_with fail
        refine HUP.out.mono ?_
        rintro e w5 hp
        obtain ⟨hb5, q5, n5, c5, ys, rfl, hvy, hyl, _, _, _, hye, _⟩ := un_str hp
        have hyn : ys = ns := hye
        subst hyn
        have hsm := same_any q5 c5 p cap ys ys w5 w5.heap.size hvy ((HR.out.below (HB24.out.trans (hb5.mono HB24.out.size)) (Nat.le_refl _)).mono (HB24.out.trans (hb5.mono HB24.out.size)).size) (by have := HX.out; omega) (by have := HX.out; omega)
        rw [show sameU ys ys = true from beq_self_eq_true _, hyl, show n5 = len from by rw [← hyl]; exact HX.out] at hsm
        have hn5 : n5 = len := by rw [← hyl]; exact HX.out
        subst hn5
        have HSM := Lib.hid hsm
        have HB5 := Lib.hid (HB24.out.trans (hb5.mono HB24.out.size))
        have HRX5 := Lib.hid (HRX4.out.below hb5)
        clear hp hb5 hvy hyl hye hsm HUP HRX4 HB24 HB4
        go_wp2_with fail
        refine HSM.out.mono ?_
        rintro e w6 ⟨rfl, hd⟩
        have HB6 := Lib.hid (HB5.out.trans (hd.below _))
        have hbe := hd.below w5.heap.size
        have HRX6 := Lib.hid (HRX5.out.below hbe)
        have hpk := pack_any p n5 cap (wd : Int) (!big) ys w6 ((HR.out.below HB6.out (Nat.le_refl _)).mono HB6.out.size) HX.out (by omega) HB.out
        rw [HER.out, show ((wd : Int)).toNat = wd from rfl] at hpk
        obtain ⟨Z, hZ⟩ : ∃ Z, Z = packS wd (!big) ys := ⟨_, rfl⟩
        have hZl : Z.length = n := by rw [hZ, HN.out, HHX.out, packS_length, packS_length]
        rw [← hZ] at hpk
        have HPK := Lib.hid hpk
        have HZ := Lib.hid hZ
        have HZL := Lib.hid hZl
        clear hd hbe hpk hZ hZl HSM HB5 HRX5
        go_wp2_with fail
        refine HPK.out.mono ?_
        rintro e w7 hp
        obtain ⟨hb7, q7, c7, rfl, hr7, hc7, hm7, _⟩ := pk_yes hp HZL.out
        have HB7 := Lib.hid (HB6.out.trans (hb7.mono HB6.out.size))
        have hrx7 := HRX6.out.below hb7
        unfold maxLen at hm7
        have qnn : ((n : Int) != (n : Int)) = false := by simp
        by_cases hwh : whole wd = true
        · have HWH := Lib.hid hwh
          have HR7 := Lib.hid hr7
          have HRX7 := Lib.hid hrx7
          rcases whole_cases hwh with h16 | h32
          · have e16 : ((wd : Int) != 16) = false := by simp; omega
            have hk2 : (wd : Int) / 8 = 2 := by omega
            have HK : Hid (wd = 8 * 2) := Lib.hid h16
            clear hp hb7 hr7 hrx7 hwh h16 HRX6 HPK
            go_wp2_with fail
            go_loopw [13, 14, 86] (fun _ _ i wr => ∃ k : Nat, k ≤ n ∧ i = .int .i64 (k : Int) ∧ Hid (Drawn w7 wr)) (fun _ _ i _ => n - (intOf i).toNat)
            case atStart => exact ⟨0, by omega, rfl, Lib.hid ⟨0, rfl⟩⟩
            case round =>
              obtain ⟨k, hk, rfl, HD⟩ := hrel
              by_cases hlt : k < n
              · have hkX : k < X.length := by rw [← HN.out]; exact hlt
                obtain ⟨j, hj⟩ : ∃ j, j = k / 2 * 2 + 2 - 1 - k % 2 := ⟨_, rfl⟩
                obtain ⟨hjZ0, he0⟩ := other_at HK.out HWH.out big ys k j (by rw [← HHX.out]; exact hkX) hj.symm
                have hjZ : j < Z.length := by rw [HZ.out]; exact hjZ0
                have he : Z[j] = X[k] := by
                  have h1 : Z[j] = (packS wd (!big) ys)[j]'hjZ0 := by simp only [HZ.out]
                  have h2 : X[k] = (packS wd big ys)[k]'(by rw [← HHX.out]; exact hkX) := by simp only [HHX.out]
                  rw [h1, h2, he0]
                obtain ⟨b1, o1, hq1, _, hc1⟩ := HRX7.out (by omega)
                obtain ⟨b2, o2, hq2, _, hc2⟩ := HR7.out (by omega)
                subst hq1
                subst hq2
                have hca := hc1 k hkX
                have hcb := hc2 j hjZ
                rw [he] at hcb
                generalize (X[k]).toNat = v at hca hcb
                have hd := HD.out
                obtain ⟨m, hm⟩ := hd
                have hra : wr.cell? ⟨b1, o1 + k, none⟩ = some (.int .u8 (v : Int)) := by rw [hm]; exact hca
                have hrb : wr.cell? ⟨b2, o2 + j, none⟩ = some (.int .u8 (v : Int)) := by rw [hm]; exact hcb
                have hjn : j < n := by rw [← HZL.out]; exact hjZ
                have ql : decide ((k : Int) < (n : Int)) = true := by simpa using hlt
                have i1 : (0 : Int) ≤ (k : Int) := by omega
                have i2 : (k : Int) < (n : Int) := by omega
                have i3 : (0 : Int) ≤ (j : Int) := by omega
                have i4 : (j : Int) < (n : Int) := by omega
                have hk2k : k ≤ 2000 := by omega
                have hij : (k : Int) / 2 * 2 + 2 - 1 - (k : Int) % 2 = (j : Int) := by omega
                have qv : ((v : Int) != (v : Int)) = false := by simp
                clear hca hcb hc1 hc2 hm he hjZ0 he0 hjZ hkX hj hjn
                go_wp2_with fail
                skip
                go_quiet (fail)
                go_wp2_with fail
                go_roundw
                case rel => exact ⟨k + 1, by omega, by go_num, Lib.hid (HD.out.more _)⟩
                case measure => simp [intOf]; omega
              · have : k = n := by omega
                subst this
                have ql : decide ((k : Int) < (k : Int)) = false := by simp
                have HBE := Lib.hid (HB7.out.trans (HD.out.below _))
                clear hlt hk HD
                go_wp2_with fail
                go_ret
                exact ⟨rfl, HBE.out⟩
          · have e16 : ((wd : Int) != 16) = true := by simp; omega
            have e32 : ((wd : Int) != 32) = false := by simp; omega
            have hk2 : (wd : Int) / 8 = 4 := by omega
            have HK : Hid (wd = 8 * 4) := Lib.hid h32
            clear hp hb7 hr7 hrx7 hwh h32 HRX6 HPK
            go_wp2_with fail
            go_loopw [13, 14, 86] (fun _ _ i wr => ∃ k : Nat, k ≤ n ∧ i = .int .i64 (k : Int) ∧ Hid (Drawn w7 wr)) (fun _ _ i _ => n - (intOf i).toNat)
            case atStart => exact ⟨0, by omega, rfl, Lib.hid ⟨0, rfl⟩⟩
            case round =>
              obtain ⟨k, hk, rfl, HD⟩ := hrel
              by_cases hlt : k < n
              · have hkX : k < X.length := by rw [← HN.out]; exact hlt
                obtain ⟨j, hj⟩ : ∃ j, j = k / 4 * 4 + 4 - 1 - k % 4 := ⟨_, rfl⟩
                obtain ⟨hjZ0, he0⟩ := other_at HK.out HWH.out big ys k j (by rw [← HHX.out]; exact hkX) hj.symm
                have hjZ : j < Z.length := by rw [HZ.out]; exact hjZ0
                have he : Z[j] = X[k] := by
                  have h1 : Z[j] = (packS wd (!big) ys)[j]'hjZ0 := by simp only [HZ.out]
                  have h2 : X[k] = (packS wd big ys)[k]'(by rw [← HHX.out]; exact hkX) := by simp only [HHX.out]
                  rw [h1, h2, he0]
                obtain ⟨b1, o1, hq1, _, hc1⟩ := HRX7.out (by omega)
                obtain ⟨b2, o2, hq2, _, hc2⟩ := HR7.out (by omega)
                subst hq1
                subst hq2
                have hca := hc1 k hkX
                have hcb := hc2 j hjZ
                rw [he] at hcb
                generalize (X[k]).toNat = v at hca hcb
                have hd := HD.out
                obtain ⟨m, hm⟩ := hd
                have hra : wr.cell? ⟨b1, o1 + k, none⟩ = some (.int .u8 (v : Int)) := by rw [hm]; exact hca
                have hrb : wr.cell? ⟨b2, o2 + j, none⟩ = some (.int .u8 (v : Int)) := by rw [hm]; exact hcb
                have hjn : j < n := by rw [← HZL.out]; exact hjZ
                have ql : decide ((k : Int) < (n : Int)) = true := by simpa using hlt
                have i1 : (0 : Int) ≤ (k : Int) := by omega
                have i2 : (k : Int) < (n : Int) := by omega
                have i3 : (0 : Int) ≤ (j : Int) := by omega
                have i4 : (j : Int) < (n : Int) := by omega
                have hk2k : k ≤ 2000 := by omega
                have hij : (k : Int) / 4 * 4 + 4 - 1 - (k : Int) % 4 = (j : Int) := by omega
                have qv : ((v : Int) != (v : Int)) = false := by simp
                clear hca hcb hc1 hc2 hm he hjZ0 he0 hjZ hkX hj hjn
                go_wp2_with fail
                skip
                go_quiet (fail)
                go_wp2_with fail
                go_roundw
                case rel => exact ⟨k + 1, by omega, by go_num, Lib.hid (HD.out.more _)⟩
                case measure => simp [intOf]; omega
              · have : k = n := by omega
                subst this
                have ql : decide ((k : Int) < (k : Int)) = false := by simp
                have HBE := Lib.hid (HB7.out.trans (HD.out.below _))
                clear hlt hk HD
                go_wp2_with fail
                go_ret
                exact ⟨rfl, HBE.out⟩
        · have hwh : whole wd = false := by simpa using hwh
          have hZX : Z = X := by rw [HZ.out, HHX.out]; exact packS_alike hwh _ _ _
          subst hZX
          have e16 : ((wd : Int) != 16) = true := by simp [whole] at hwh; simp; omega
          have e32 : ((wd : Int) != 32) = true := by simp [whole] at hwh; simp; omega
          have cv1 := conv_row n c hrx7 HN.out.symm
          have cv2 := conv_row n c7 hr7 HN.out.symm
          generalize bs Z = S at cv1 cv2
          clear hp hb7 hr7 hrx7 hwh HRX6 HPK
          go_wp2_with fail
          go_ret
          exact ⟨by simp, HB7.out⟩
      · exact absurd rfl h0
    · obtain ⟨h0, _⟩ | ⟨_, rfl⟩ := hres
      · exact absurd h0 her
      · have HB2 := Lib.hid (HB1.out.trans (hb2.mono HB1.out.size))
        generalize packE wide ns = er at *
        have qe : (er != 0) = true := by simpa using her
        clear hb2 her HP HB1
        go_wp2_with fail
        go_ret
        exact ⟨rfl, HB2.out⟩
end Go.Proofs.Ytkeplmnohenbnaa.Sa

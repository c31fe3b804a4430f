
/- The walk of SamplesJoins. -/
import Derived.Test.YtkeplmnohenbnaaSaL
namespace Go.Proofs.Ytkeplmnohenbnaa.Sa
open Go.RowKit Go.Proofs.Ytkeplmnohenbnaa.Oct Go.Proofs.Ytkeplmnohenbnaa.Bit
open Go.Proofs.Ytkeplmnohenbnaa.Lp (VRow vrow_blk vrow_own wpList_append_vals blk_set blk_far blk_frozen fillV fillV_length fillV_zero fillV_all fillV_step)
set_option linter.unusedVariables false
set_option linter.unusedSimpArgs false
set_option maxRecDepth 100000

theorem packE_in (wd : Nat) (ns : List Nat) (h1 : 1 ≤ wd) (h2 : wd ≤ 32) (hl : ns.length ≤ 1000) : packE (wd : Int) ns = overE wd ns := by
  rw [packE_ok (by unfold okS; simp; omega)]
  rfl
theorem packU (wd : Nat) : ((wd : Int)).toNat = wd := rfl
theorem over_join (wd : Nat) (a b : List Nat) : overE wd (a ++ b) = if overE wd a = 0 ∧ overE wd b = 0 then 0 else 7 := by
  unfold overE
  rw [fitA_append]
  cases fitA wd a <;> cases fitA wd b <;> rfl
set_option maxHeartbeats 4000000 in
theorem joins_walk (p1 : Option Addr) (l1 c1 : Nat) (p2 : Option Addr) (l2 c2 : Nat) (z : Int) (big : Bool) (w : World) (h1 : IsU32 w p1 l1 c1 ∧ l1 ≤ 140737488351232) (h2 : IsU32 w p2 l2 c2 ∧ l2 ≤ 140737488351232) (hz0 : (Lit.int .i64 z).wf = true) :
    Calls Try.prog 6 #[.agg #[.slice p1 l1 c1, .slice p2 l2 c2], .int .i64 z, .bool big] w (YesS w) := by
  obtain ⟨⟨ns, hx1, hr1, hbb1, hlc1, hcm1, hnil1⟩, hm1⟩ := h1
  obtain ⟨⟨ms, hx2, hr2, hbb2, hlc2, hcm2, hnil2⟩, hm2⟩ := h2
  have hbw : Below w.heap.size w (w.alloc (.cells #[.slice p1 l1 c1, .slice p2 l2 c2] 42)) := (Below.refl _ w).alloc (Nat.le_refl _) _
  have k0 : (w.alloc (.cells #[.slice p1 l1 c1, .slice p2 l2 c2] 42)).cell? ⟨w.heap.size, 0, none⟩ = some (.slice p1 l1 c1) := by simp
  have k1 : (w.alloc (.cells #[.slice p1 l1 c1, .slice p2 l2 c2] 42)).cell? ⟨w.heap.size, 1, none⟩ = some (.slice p2 l2 c2) := by simp
  have HBX := Lib.hid hbw
  clear hbw hz0
  by_cases hl : 500 < l1 + l2
  · have ql : decide ((500 : Int) < (l1 : Int) + (l2 : Int)) = true := by simp; omega
    clear hx1 hr1 hbb1 hlc1 hcm1 hnil1 hx2 hr2 hbb2 hlc2 hcm2 hnil2 hl
    go_enter Try.func6, Try.ntmps6
    go_wp2_with fail
    go_quiet (fail)
    have HB0 := Lib.hid (HBX.out.trans ((show Drawn _ _ from ⟨nq, rfl⟩ : Drawn (w.alloc (.cells #[.slice p1 l1 c1, .slice p2 l2 c2] 42)) _).below w.heap.size))
    generalize (w.alloc (.cells #[.slice p1 l1 c1, .slice p2 l2 c2] 42)).drewN nq = w0 at *
    clear k0 k1 HBX
    go_wp2_with fail
    refine (lives_any w0).mono ?_
    rintro e w1 ⟨rfl, hb1⟩
    have HB1 := Lib.hid (HB0.out.trans (hb1.mono HB0.out.size))
    clear hb1
    go_wp2_with fail
    refine (lives_any w1).mono ?_
    rintro e w2 ⟨rfl, hb2⟩
    have HB2 := Lib.hid (HB1.out.trans (hb2.mono HB1.out.size))
    clear hb2
    go_wp2_with fail
    go_ret
    exact ⟨rfl, HB2.out⟩
  · have ql : decide ((500 : Int) < (l1 : Int) + (l2 : Int)) = false := by simp; omega
    have hls : l1 + l2 ≤ 500 := by omega
    obtain ⟨wd, hwd⟩ : ∃ wd, wd = 1 + spot z 32 := ⟨_, rfl⟩
    have hsp := spot_lt z 32 (by omega)
    have hspc0 : (IntKind.u64.wrap z).tmod (32 : Int) = ((spot z 32 : Nat) : Int) := spot_cast z 32
    have HSPC := Lib.hid hspc0
    clear hspc0
    generalize spot z 32 = s at hwd hsp HSPC
    have hw1 : 1 ≤ wd := by omega
    have hw32 : wd ≤ 32 := by omega
    have hwz : (1 : Int) + (s : Int) = (wd : Int) := by omega
    obtain ⟨t, ht⟩ : ∃ t, t = l1 / 8 * 8 := ⟨_, rfl⟩
    have htz : (l1 : Int) / 8 * 8 = (t : Int) := by omega
    have htl : t ≤ l1 := by omega
    have hhd := fun W => head_run4 W p1 l1 c1 t (by omega)
    have ha0 := head_row4 c1 t hr1
    have han : headA p1 c1 = none → c1 = 0 := head_none4 hnil1
    obtain ⟨as1, has⟩ : ∃ as1, as1 = ns.take t := ⟨_, rfl⟩
    have hal : as1.length = t := by rw [has, List.length_take]; omega
    have hab : ∀ v ∈ as1, v < 4294967296 := fun v hv => hbb1 v (by rw [has] at hv; exact List.mem_of_mem_take hv)
    have ha8 : as1.length % 8 = 0 := by rw [hal]; omega
    rw [← has] at ha0
    generalize headA p1 c1 = pa at hhd ha0 han
    have HPJ := Lib.hid (pack_join wd big as1 ms ha8)
    have HOJ := Lib.hid (over_join wd as1 ms)
    have HE1 := Lib.hid (packE_in wd as1 hw1 hw32 (by omega))
    have HE2 := Lib.hid (packE_in wd ms hw1 hw32 (by omega))
    have HE3 := Lib.hid (packE_in wd (as1 ++ ms) hw1 hw32 (by rw [List.length_append]; omega))
    have HA := Lib.hid ha0
    have HAL := Lib.hid hal
    have HAB := Lib.hid hab
    have HAN := Lib.hid han
    have HM := Lib.hid hr2
    have HML := Lib.hid hx2
    have HMB := Lib.hid hbb2
    have HMN := Lib.hid hnil2
    have hct : t ≤ c1 := by omega
    have hcc1 : c1 ≤ maxLen := hcm1
    have hcc2 : c2 ≤ maxLen := hcm2
    unfold maxLen at hcc1 hcc2
    have hlc2' := hlc2
    clear hx1 hr1 hbb1 hlc1 hcm1 hnil1 hx2 hr2 hbb2 hcm2 hnil2 hl hm1 hm2 ha0 hal hab han ha8 has hwd ht hlc2
    have hspc : ∀ [Inhabited Nat], (IntKind.u64.wrap z).tmod (32 : Int) = (s : Int) := HSPC.out
    go_enter Try.func6, Try.ntmps6
    go_wp2_with fail
    go_quiet (fail)
    have HB0 := Lib.hid (HBX.out.trans ((show Drawn _ _ from ⟨nq, rfl⟩ : Drawn (w.alloc (.cells #[.slice p1 l1 c1, .slice p2 l2 c2] 42)) _).below w.heap.size))
    generalize (w.alloc (.cells #[.slice p1 l1 c1, .slice p2 l2 c2] 42)).drewN nq = w0 at *
    clear k0 k1 HBX
    go_wp2_with fail
    refine (lives_any w0).mono ?_
    rintro e w1 ⟨rfl, hb1⟩
    have hb01 := HB0.out.trans (hb1.mono HB0.out.size)
    have HB1 := Lib.hid hb01
    have HP1 := Lib.hid (pack_any pa t c1 (wd : Int) big as1 w1 ((HA.out.below hb01 (Nat.le_refl _)).mono hb01.size) HAL.out (by omega) HAB.out)
    rw [packU, HE1.out] at HP1
    clear hb1 hb01 HB0
    go_wp2_with fail
    refine HP1.out.mono ?_
    rintro e w2 hp
    obtain ⟨hb2, qx, nx, cx, xs, rfl, hrx, hxl, _, _, hqx, hxe, _⟩ := pk_str hp
    have hb02 := HB1.out.trans (hb2.mono HB1.out.size)
    have HB2 := Lib.hid hb02
    have HRX2 := Lib.hid hrx
    have HXL := Lib.hid hxl
    have HXE := Lib.hid hxe
    have HP2 := Lib.hid (pack_any p2 l2 c2 (wd : Int) big ms w2 ((HM.out.below hb02 (Nat.le_refl _)).mono hb02.size) HML.out (by omega) HMB.out)
    rw [packU, HE2.out] at HP2
    clear hp hb2 hb02 hrx hxl hqx hxe HP1 HB1
    go_wp2_with fail
    refine HP2.out.mono ?_
    rintro e w3 hp
    obtain ⟨hb3, qy, ny, cy, ys, rfl, hry, hyl, _, _, hqy, hye, _⟩ := pk_str hp
    have hb03 := HB2.out.trans (hb3.mono HB2.out.size)
    have HB3 := Lib.hid hb03
    have HRX3 := Lib.hid (HRX2.out.below hb3)
    have HRY3 := Lib.hid hry
    have HYL := Lib.hid hyl
    have HYE := Lib.hid hye
    have HCL := Lib.hid (clone4_any pa t c1 as1 w3 ((HA.out.below hb03 (Nat.le_refl _)).mono hb03.size) HAL.out HAN.out (by omega))
    clear hp hb3 hb03 hry hyl hqy hye HP2 HB2 HRX2
    go_wp2_with fail
    refine HCL.out.mono ?_
    rintro e w4 ⟨hb4, v, rfl, hown⟩
    rw [HAL.out] at hown
    have hb04 := HB3.out.trans (hb4.mono HB3.out.size)
    have HM4 := Lib.hid ((HM.out.below hb04 (Nat.le_refl _)).mono hb04.size)
    have HMLU : Hid ((u32s ms).length = l2) := Lib.hid (by rw [u32s_length]; exact HML.out)
    have HOW := Lib.hid hown
    have HB4 := Lib.hid hb4
    have HB4Z := Lib.hid hb4.size
    have HW4 := Lib.hid hb04
    obtain ⟨i0, hi, hz0, hz1, hz2⟩ := info_parts Try.infoU32
    clear hb4 hb04 hown HCL
    go_wp2_with (at_builtin; refine wpList_append_vals Try.underlying22 hi hz0 hz1 hz2 rfl (by decide) rfl _ _ rfl w3.heap.size v t (u32s as1) rfl HOW.out p2 l2 c2 (u32s ms) rfl HM4.out HMLU.out HMN.out u32s_one (by omega) HB4Z.out ?_)
    intro v5 w5 hown5 hgrow5 hb5
    rw [← u32s_append] at hown5
    have hjl : (as1 ++ ms).length = t + l2 := by rw [List.length_append, HAL.out, HML.out]
    obtain ⟨q5, c5, rfl, hq50, hq51, hq52, hrow5, _⟩ := vrow_own hown5 (by rw [u32s_length]; exact hjl)
    have hb35 := HB4.out.trans hb5
    have hb05 := HB3.out.trans (hb35.mono HB3.out.size)
    have HP3 := Lib.hid (pack_any q5 (t + l2) c5 (wd : Int) big (as1 ++ ms) w5 hrow5 hjl (by omega) (fun x hx => by
      rcases List.mem_append.1 hx with h | h
      · exact HAB.out x h
      · exact HMB.out x h))
    rw [packU, HE3.out, HPJ.out, HOJ.out] at HP3
    have HB5 := Lib.hid hb05
    have HRX5 := Lib.hid (HRX3.out.below hb35)
    have HRY5 := Lib.hid (HRY3.out.below hb35)
    have hn5 : IntKind.i64.wrap ((t : Int) + (l2 : Int)) = ((t + l2 : Nat) : Int) := by rw [IntKind.wrap_i64]; omega
    clear hown5 hgrow5 hb5 hq50 hq51 hq52 hrow5 hb35 hb05 hn5 HM4 HOW HB4 HB4Z HW4 HRX3 HRY3 HB3
    go_wp2_with fail
    refine HP3.out.mono ?_
    rintro e w6 hp
    obtain ⟨hb6, qz, nz, cz, zs1, rfl, hrz, hzl, hzc, hcz, hqz, hze, _⟩ := pk_str hp
    have hb06 := HB5.out.trans (hb6.mono HB5.out.size)
    have HB6 := Lib.hid hb06
    have HRX6 := Lib.hid (HRX5.out.below hb6)
    have HRY6 := Lib.hid (HRY5.out.below hb6)
    have HRZ6 := Lib.hid hrz
    have HZL := Lib.hid hzl
    have HZE := Lib.hid hze
    unfold maxLen at hcz
    clear hp hb6 hb06 hrz hzl hqz hze HP3 HRX5 HRY5 HB5
    by_cases hab2 : overE wd as1 = 0 ∧ overE wd ms = 0
    · obtain ⟨ea, eb⟩ := hab2
      have hxe := HXE.out
      have hye := HYE.out
      have hze := HZE.out
      rw [if_pos ea] at hxe
      rw [if_pos eb] at hye
      have hif : (if overE wd as1 = 0 ∧ overE wd ms = 0 then (0 : Int) else 7) = 0 := if_pos ⟨ea, eb⟩
      rw [hif, if_pos rfl] at hze
      have hzx : zs1 = xs ++ ys := by rw [hze, hxe, hye]
      rw [hif, ea, eb]
      clear hif
      have cv1 := conv_row nz cz HRZ6.out HZL.out
      have cv2 := conv_row nx cx HRX6.out HXL.out
      have cv3 := conv_row ny cy HRY6.out HYL.out
      have hcat : bs xs ++ bs ys = bs zs1 := by rw [bs_append, hzx]
      have hxs2 : (bs xs).size ≤ 2000 := by rw [bs_size, hxe]; exact pack_le as1 big hw32 (by have := HAL.out; omega)
      have hys2 : (bs ys).size ≤ 2000 := by rw [bs_size, hye]; exact pack_le ms big hw32 (by have := HML.out; omega)
      have HZX : Hid (zs1 = packS wd big (as1 ++ ms)) := Lib.hid (by rw [HPJ.out]; exact hze)
      have HF1 : Hid (fitA wd as1 = true) := Lib.hid (by
        by_cases h : fitA wd as1 = true
        · exact h
        · rw [overE_no (by simpa using h)] at ea; cases ea)
      have HF2 : Hid (fitA wd ms = true) := Lib.hid (by
        by_cases h : fitA wd ms = true
        · exact h
        · rw [overE_no (by simpa using h)] at eb; cases eb)
      generalize bs xs = S1 at cv2 hcat hxs2
      generalize bs ys = S2 at cv3 hcat hys2
      generalize bs zs1 = S3 at cv1 hcat
      clear hxe hye hze hzx ea eb HXE HYE HZE HOJ HE1 HE2 HE3
      by_cases h8 : wd = 8
      · have q8 : ((wd : Int) != 8) = false := by simp; omega
        have HW8 := Lib.hid h8
        have hcl2 := clone4_any pa t c1 as1 w6 ((HA.out.below HB6.out (Nat.le_refl _)).mono HB6.out.size) HAL.out HAN.out (by omega)
        have HCL := Lib.hid hcl2
        clear h8 hcl2
        go_wp2_with fail
        refine HCL.out.mono ?_
        rintro e w7 ⟨hb7, v, rfl, hown⟩
        rw [HAL.out] at hown
        have hb07 := HB6.out.trans (hb7.mono HB6.out.size)
        have HM7 := Lib.hid ((HM.out.below hb07 (Nat.le_refl _)).mono hb07.size)
        have HOW := Lib.hid hown
        have HB7 := Lib.hid hb7
        have HB7Z := Lib.hid hb7.size
        clear hb7 hb07 hown HCL
        go_wp2_with (at_builtin; refine wpList_append_vals Try.underlying22 hi hz0 hz1 hz2 rfl (by decide) rfl _ _ rfl w6.heap.size v t (u32s as1) rfl HOW.out p2 l2 c2 (u32s ms) rfl HM7.out HMLU.out HMN.out u32s_one (by omega) HB7Z.out ?_)
        intro v8 w8 hown8 hgrow8 hb8
        rw [← u32s_append] at hown8
        obtain ⟨N, hN⟩ : ∃ N, N = t + l2 := ⟨_, rfl⟩
        rw [← hN] at hown8 hjl
        obtain ⟨q8, c8, rfl, _, _, _, hrow8, _⟩ := vrow_own hown8 (by rw [u32s_length]; exact hjl)
        have hb68 := HB7.out.trans hb8
        have HB8 := Lib.hid (HB6.out.trans (hb68.mono HB6.out.size))
        have HRZ8 := Lib.hid (HRZ6.out.below hb68)
        have HR8 := Lib.hid hrow8
        have HJL := Lib.hid hjl
        have hN5 : N ≤ 500 := by omega
        have HFA : Hid (∀ v ∈ as1 ++ ms, v < 2 ^ 8) := Lib.hid (by
          rw [← HW8.out]
          apply fitA_iff.1
          rw [fitA_append, HF1.out, HF2.out]
          rfl)
        have hnz : nz = N := by
          rw [← HZL.out, HZX.out, packS_length, HW8.out, HJL.out]
          omega
        clear hown8 hgrow8 hb8 hb68 hrow8 hjl hN HM7 HOW HB7 HB7Z cv1 cv2 cv3 hcat HRX6 HRY6
        go_wp2_with fail
        go_loopw [16, 17, 95] (fun _ _ i wr => ∃ k : Nat, k ≤ N ∧ i = .int .i64 (k : Int) ∧ Hid (Drawn w8 wr)) (fun _ _ i _ => N - (intOf i).toNat)
        case atStart => exact ⟨0, by omega, rfl, Lib.hid ⟨0, rfl⟩⟩
        case round =>
          obtain ⟨k, hk, rfl, HD⟩ := hrel
          by_cases hlt : k < N
          · have hkj : k < (as1 ++ ms).length := by rw [HJL.out]; exact hlt
            obtain ⟨hkz0, he0⟩ := pack_byte big (as1 ++ ms) HFA.out k hkj
            have hzx8 : zs1 = packS 8 big (as1 ++ ms) := by
              have := HZX.out
              rw [HW8.out] at this
              exact this
            have hkz : k < zs1.length := by rw [HZL.out, hnz]; exact hlt
            have he : (zs1[k]).toNat = (as1 ++ ms)[k] := by
              have h1 : zs1[k] = (packS 8 big (as1 ++ ms))[k]'hkz0 := by simp only [hzx8]
              rw [h1, he0]
            obtain ⟨b1, o1, hq1, _, hc1⟩ := vrow_u32 HR8.out k hkj
            obtain ⟨b2, o2, hq2, _, hc2⟩ := HRZ8.out (by omega)
            subst hq1
            subst hq2
            have hcb := hc2 k hkz
            have hlt8 : (as1 ++ ms)[k] < 256 := HFA.out _ (List.getElem_mem hkj)
            rw [he] at hcb
            generalize (as1 ++ ms)[k] = v at hc1 hcb hlt8
            have hd := HD.out
            obtain ⟨m, hm⟩ := hd
            have hra : wr.cell? ⟨b1, o1 + k, none⟩ = some (.int .u32 (v : Int)) := by rw [hm]; exact hc1
            have hrb : wr.cell? ⟨b2, o2 + k, none⟩ = some (.int .u8 (v : Int)) := by rw [hm]; exact hcb
            have ql : decide ((k : Int) < (N : Int)) = true := by simpa using hlt
            have i1 : (0 : Int) ≤ (k : Int) := by omega
            have i2 : (k : Int) < (N : Int) := by omega
            have i3 : (k : Int) < (nz : Int) := by omega
            have hwv := wu32_small (v : Int) (by omega) (by omega)
            have qv : ((v : Int) != (v : Int)) = false := by simp
            clear hcb hc1 hc2 hm he hkz0 he0 hkz hkj hzx8
            go_wp2_with fail
            go_roundw
            case rel => exact ⟨k + 1, by omega, by go_num, HD⟩
            case measure => simp [intOf]; omega
          · have : k = N := by omega
            subst this
            have ql : decide ((k : Int) < (k : Int)) = false := by simp
            have HBE := Lib.hid (HB8.out.trans (HD.out.below _))
            clear hlt hk HD
            go_wp2_with fail
            go_ret
            exact ⟨rfl, HBE.out⟩
      · have q8 : ((wd : Int) != 8) = true := by simp; omega
        clear h8
        go_wp2_with fail
        go_ret
        exact ⟨rfl, HB6.out⟩
    · rw [if_neg hab2]
      by_cases ea : overE wd as1 = 0
      · have eb : (overE wd ms != 0) = true := by
          simp
          intro h
          exact hab2 ⟨ea, h⟩
        rw [ea]
        generalize overE wd ms = eo at *
        clear hab2 ea HXE HYE HZE HOJ HE1 HE2 HE3
        go_wp2_with fail
        go_ret
        exact ⟨rfl, HB6.out⟩
      · have eb : (overE wd as1 != 0) = true := by simpa using ea
        generalize overE wd as1 = eo at *
        clear hab2 ea HXE HYE HZE HOJ HE1 HE2 HE3
        go_wp2_with fail
        go_ret
        exact ⟨rfl, HB6.out⟩
end Go.Proofs.Ytkeplmnohenbnaa.Sa

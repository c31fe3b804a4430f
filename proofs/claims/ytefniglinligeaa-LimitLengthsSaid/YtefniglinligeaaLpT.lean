
/- The walk of LimitMore. -/
import Derived.Test.YtefniglinligeaaLpQ
namespace Go.Proofs.Ytefniglinligeaa.Lp
open Go.RowKit Go.Proofs.Ytefniglinligeaa.Oct Go.Proofs.Ytefniglinligeaa.Lm
set_option linter.unusedVariables false
set_option linter.unusedSimpArgs false
set_option maxRecDepth 100000

theorem tw_take (ns : List Nat) (k : Nat) (h : k < ns.length) : (intsOf ns).take (k + 1) = (intsOf ns).take k ++ [((ns.getD k 0 : Nat) : Int)] ∧ (twI ns).take (k + 1) = (twI ns).take k ++ [2 * ((ns.getD k 0 : Nat) : Int)] := by
  have hg : ns.getD k 0 = ns[k] := by rw [List.getD_eq_getElem?_getD, List.getElem?_eq_getElem h]; rfl
  rw [hg]
  refine ⟨?_, ?_⟩
  · unfold intsOf
    rw [List.take_succ_eq_append_getElem (by rw [List.length_map]; exact h), List.getElem_map]
  · unfold twI
    rw [List.take_succ_eq_append_getElem (by rw [List.length_map]; exact h), List.getElem_map]
set_option maxHeartbeats 8000000 in
theorem more_walk (a : Option Addr) (len cap : Nat) (most : Int) (W : World) (h : IsU16 W a len cap) (hwf : (Lit.int IntKind.i64 most).wf = true) :
    Calls Try.prog 6 #[.slice a len cap, .int .i64 most] W fun e w' => e = .returned (.bool true) ∧ Below W.heap.size W w' := by
  obtain ⟨ns, hx, hr, hn⟩ := h
  have HX := Lib.hid hx
  have HR := Lib.hid hr
  have HN := Lib.hid hn
  clear hx hr hn hwf
  have big : Hid (∀ w1, Below W.heap.size W w1 → Calls Try.prog 7 #[] w1 fun e w' => e = .returned (.bool true) ∧ Below W.heap.size W w') := fun w1 hb => (lives_any w1).mono fun e w' ⟨h1, h2⟩ => ⟨h1, hb.trans (h2.mono hb.size)⟩
  have hl0 := big.out W (Below.refl _ _)
  go_enter Try.func6, Try.ntmps6
  go_wp2_with fail
  refine hl0.mono ?_
  clear hl0
  rintro e w1 ⟨rfl, hb1⟩
  have HB1 := Lib.hid hb1
  clear hb1
  by_cases hbig : 40 < len
  · have hd : decide ((40 : Int) < (len : Int)) = true := decide_eq_true (by omega)
    go_wp2_with fail
    refine (big.out _ HB1.out).mono ?_
    rintro e w2 ⟨rfl, hb2⟩
    have HB2 := Lib.hid hb2
    clear hb2
    go_wp2_with fail
    go_ret
    exact ⟨rfl, HB2.out⟩
  have hd : decide ((40 : Int) < (len : Int)) = false := decide_eq_false (by omega)
  clear big
  obtain ⟨r, hr15, hrm⟩ : ∃ r : Nat, r < 15 ∧ (IntKind.u64.wrap most).tmod 15 = (r : Int) := ⟨spot most 15, spot_lt _ _ (by decide), spot_cast most 15⟩
  obtain ⟨m, hm⟩ : ∃ m, m = 1 + r := ⟨_, rfl⟩
  have wr1 : IntKind.i64.wrap (r : Int) = (r : Int) := by rw [IntKind.wrap_i64]; omega
  have wr2 : IntKind.u64.wrap (r : Int) = (r : Int) := by rw [IntKind.wrap_u64]; omega
  have wm : IntKind.i64.wrap (1 + (r : Int)) = (m : Int) := by rw [IntKind.wrap_i64]; omega
  obtain ⟨m1, hm1⟩ : ∃ m1, m1 = m + 1 := ⟨_, rfl⟩
  have wm1 : IntKind.i64.wrap ((m : Int) + 1) = (m1 : Int) := by rw [IntKind.wrap_i64]; omega
  have HM : Hid (1 ≤ m ∧ m ≤ 15 ∧ m1 = m + 1) := ⟨by omega, by omega, hm1⟩
  have HT0 : Hid (Tw w1 (.slice none 0 0) (.slice none 0 0) ((intsOf ns).take 0) ((twI ns).take 0) w1) := Tw.start w1
  clear hm hm1
  go_wp2_with fail
  go_loopg [6, 7, 31] len (fun kx s6 s7 s31 wr => ∃ (k : Nat), s31 = .int .i64 (k : Int) ∧ k ≤ len ∧ len - k ≤ kx ∧ Hid (Tw w1 s6 s7 ((intsOf ns).take k) ((twI ns).take k) wr))
  case atStart => exact ⟨0, rfl, by omega, by omega, HT0⟩
  case round =>
    clear HT0
    obtain ⟨k, rfl, hk, hkx, HK⟩ := hrel
    by_cases hlt : k < len
    · have hkz : (k : Int) < (len : Int) := by omega
      have hk0 : (0 : Int) ≤ (k : Int) := by omega
      have hkn : k < ns.length := by rw [HX.out]; exact hlt
      obtain ⟨b1, o1, hp1, hbl1⟩ := HR.out.addr (by unfold u16s; rw [List.length_map, HX.out]; omega)
      subst hp1
      have hB := HB1.out.trans (HK.out.bel.mono HB1.out.size)
      have hcl : W.cell? ⟨b1, o1 + k, none⟩ = some (.int .u16 ((ns.getD k 0 : Nat) : Int)) := by
        obtain ⟨b', off', e, hlt', hc'⟩ := HR.out (by unfold u16s; rw [List.length_map, HX.out]; omega)
        injection e with e
        injection e with e1 e2
        subst e1; subst e2
        have := hc' k (by unfold u16s; rw [List.length_map]; exact hkn)
        rw [this, List.getD_eq_getElem?_getD, List.getElem?_eq_getElem hkn]
        simp [u16s]
      have q1 := (hB.cell (p := ⟨b1, o1 + k, none⟩) hbl1).trans hcl
      have hxb : ns.getD k 0 ≤ 65535 := by rw [List.getD_eq_getElem?_getD, List.getElem?_eq_getElem hkn]; exact HN.out _ (List.getElem_mem hkn)
      have HS := Lib.hid (tw_take ns k hkn)
      generalize ns.getD k 0 = x at q1 HS hxb
      have wx : IntKind.i64.wrap (x : Int) = (x : Int) := by rw [IntKind.wrap_i64]; omega
      have wx2 : IntKind.i64.wrap (2 * (x : Int)) = 2 * (x : Int) := by rw [IntKind.wrap_i64]; omega
      have hl1 : ((intsOf ns).take k).length ≤ 1000 := by rw [List.length_take]; omega
      have hl2 : ((twI ns).take k).length ≤ 1000 := by rw [List.length_take]; omega
      clear hB hcl hkn
      go_wp2_with (at_builtin; first | (refine wpList_append_tw rfl _ _ rfl _ _ ((intsOf ns).take k) ((twI ns).take k) rfl HK.out (x : Int) rfl rfl hl1 ?_; intro uA wA hA; have HA := Lib.hid hA; clear hA) | (refine wpList_append_tw rfl _ _ rfl _ _ ((twI ns).take k) ((intsOf ns).take k ++ [(x : Int)]) rfl HA.out.swap (2 * (x : Int)) rfl rfl hl2 ?_; intro uB wB hB2))
      have HNX : Hid (Tw w1 uA uB ((intsOf ns).take (k + 1)) ((twI ns).take (k + 1)) wB) := by rw [HS.out.1, HS.out.2]; exact hB2.swap
      clear hB2 HA
      go_roundg (len - (k + 1))
      case measure => omega
      case rel => exact ⟨k + 1, by go_num, by omega, Nat.le_refl _, HNX⟩
    · have hkz : ¬ (k : Int) < (len : Int) := by omega
      have li : (intsOf ns).length = len := by unfold intsOf; rw [List.length_map]; exact HX.out
      have lt : (twI ns).length = len := by unfold twI; rw [List.length_map]; exact HX.out
      have hT := HK.out
      rw [List.take_of_length_le (by omega), List.take_of_length_le (by omega)] at hT
      obtain ⟨p1, c1, hu1, hp1, _, _, hv1⟩ := hT.o1.shape
      obtain ⟨p2, c2, hu2, hp2, _, _, hv2⟩ := hT.o2.shape
      subst hu1
      subst hu2
      rw [li, lt]
      have HL : Hid ((intsOf ns).length = len ∧ (twI ns).length = len) := ⟨li, lt⟩
      have HV1 := Lib.hid hv1
      have HV2 := Lib.hid hv2
      have HB2 : Hid (Below W.heap.size W wr) := HB1.out.trans (hT.bel.mono HB1.out.size)
      have HCT : Hid ((come (natsOf (twI ns))).length = (come (natsOf (intsOf ns))).length) := by show _ = _; rw [come_tw, List.length_map]
      have hlen40 : ns.length ≤ 40 := by rw [HX.out]; omega
      have HOK : Hid (okB (intsOf ns) (m : Int) = true ∧ okB (intsOf ns) (m1 : Int) = true ∧ okB (twI ns) (m : Int) = true) := by
        obtain ⟨g1, g2, g3⟩ := HM.out
        exact ⟨okB_ints HN.out hlen40 g1 (by omega), okB_ints HN.out hlen40 (by omega) (by omega), okB_tw HN.out hlen40 g1 (by omega)⟩
      clear li lt hT hp1 hp2 hv1 hv2 HK hlen40
      by_cases hbig2 : 2 ^ m < (come (natsOf (intsOf ns))).length
      · have e1 := lengths_long p1 len c1 m (intsOf ns) wr HV1.out HL.out.1 HOK.out.1 hbig2
        have HBG := Lib.hid hbig2
        clear hbig2
        go_wp2_with fail
        refine e1.mono ?_
        rintro e w2 ⟨rfl, hb2⟩
        have HB3 : Hid (Below W.heap.size W w2) := HB2.out.trans (hb2.mono HB2.out.size)
        have HV12 : Hid (VRow w2 w2.heap.size p1 (ints (intsOf ns))) := (HV1.out.below hb2 (Nat.le_refl _)).mono hb2.size
        have HV22 : Hid (VRow w2 w2.heap.size p2 (ints (twI ns))) := (HV2.out.below hb2 (Nat.le_refl _)).mono hb2.size
        have e2 := lengths_any p1 len c1 (m1 : Int) (intsOf ns) w2 HV12.out HL.out.1
        clear e1 hb2
        go_wp2_with fail
        refine e2.mono ?_
        rintro e w3 ⟨hb3, hres⟩
        have HB4 : Hid (Below W.heap.size W w3) := HB3.out.trans (hb3.mono HB3.out.size)
        have HV23 : Hid (VRow w3 w3.heap.size p2 (ints (twI ns))) := (HV22.out.below hb3 (Nat.le_refl _)).mono hb3.size
        have e3 := lengths_long p2 len c2 m (twI ns) w3 HV23.out HL.out.2 HOK.out.2.2 (by rw [HCT.out]; exact HBG.out)
        clear e2 hb3
        rcases hres with ⟨h9, _⟩ | ⟨_, _, rfl⟩ | ⟨_, _, bl, ls, rfl, _⟩
        · rw [HOK.out.2.1] at h9; cases h9
        · go_wp2_with fail
          refine e3.mono ?_
          rintro e w4 ⟨rfl, hb4⟩
          have HB5 : Hid (Below W.heap.size W w4) := HB4.out.trans (hb4.mono HB4.out.size)
          clear e3 hb4
          go_wp2_with fail
          go_ret
          exact ⟨rfl, HB5.out⟩
        · go_wp2_with fail
          refine e3.mono ?_
          rintro e w4 ⟨rfl, hb4⟩
          have HB5 : Hid (Below W.heap.size W w4) := HB4.out.trans (hb4.mono HB4.out.size)
          clear e3 hb4
          go_wp2_with fail
          go_ret
          exact ⟨rfl, HB5.out⟩
      · have HFW : Hid ((come (natsOf (intsOf ns))).length ≤ 2 ^ m) := by show _ ≤ _; omega
        have e1 := lengths_ok p1 len c1 m (intsOf ns) wr HV1.out HL.out.1 HOK.out.1 HFW.out
        clear hbig2
        go_wp2_with fail
        refine e1.mono ?_
        rintro e w2 ⟨hb2, ba, la, rfl, hra, hfa⟩
        rw [HL.out.1]
        have HB3 : Hid (Below W.heap.size W w2) := HB2.out.trans (hb2.mono HB2.out.size)
        have HV12 : Hid (VRow w2 w2.heap.size p1 (ints (intsOf ns)) ∧ VRow w2 w2.heap.size p2 (ints (twI ns))) := ⟨(HV1.out.below hb2 (Nat.le_refl _)).mono hb2.size, (HV2.out.below hb2 (Nat.le_refl _)).mono hb2.size⟩
        have HA : Hid (VRow w2 w2.heap.size (some ⟨ba, 0, none⟩) (ints (intsOf la)) ∧ Fine (intsOf ns) m la) := ⟨hra, hfa⟩
        have e2 := lengths_ok p1 len c1 m1 (intsOf ns) w2 HV12.out.1 HL.out.1 HOK.out.2.1 (by rw [HM.out.2.2, Nat.pow_succ]; have := HFW.out; omega)
        clear e1 hb2 hra hfa
        go_wp2_with fail
        refine e2.mono ?_
        rintro e w3 ⟨hb3, bb, lb, rfl, hrb, hfb⟩
        rw [HL.out.1]
        have HB4 : Hid (Below W.heap.size W w3) := HB3.out.trans (hb3.mono HB3.out.size)
        have HV13 : Hid (VRow w3 w3.heap.size p1 (ints (intsOf ns)) ∧ VRow w3 w3.heap.size p2 (ints (twI ns)) ∧ VRow w3 w3.heap.size (some ⟨ba, 0, none⟩) (ints (intsOf la)) ∧ VRow w3 w3.heap.size (some ⟨bb, 0, none⟩) (ints (intsOf lb))) :=
          ⟨(HV12.out.1.below hb3 (Nat.le_refl _)).mono hb3.size, (HV12.out.2.below hb3 (Nat.le_refl _)).mono hb3.size, (HA.out.1.below hb3 (Nat.le_refl _)).mono hb3.size, hrb⟩
        have HFB : Hid (Fine (intsOf ns) m1 lb) := hfb
        have e3 := lengths_ok p2 len c2 m (twI ns) w3 HV13.out.2.1 HL.out.2 HOK.out.2.2 (by rw [HCT.out]; exact HFW.out)
        clear e2 hb3 hrb hfb
        go_wp2_with fail
        refine e3.mono ?_
        rintro e w4 ⟨hb4, bc, lc, rfl, hrc, hfc⟩
        rw [HL.out.2]
        have HB5 : Hid (Below W.heap.size W w4) := HB4.out.trans (hb4.mono HB4.out.size)
        have HV14 : Hid (VRow w4 w4.heap.size p1 (ints (intsOf ns)) ∧ VRow w4 w4.heap.size p2 (ints (twI ns)) ∧ VRow w4 w4.heap.size (some ⟨ba, 0, none⟩) (ints (intsOf la)) ∧ VRow w4 w4.heap.size (some ⟨bb, 0, none⟩) (ints (intsOf lb)) ∧ VRow w4 w4.heap.size (some ⟨bc, 0, none⟩) (ints (intsOf lc))) :=
          ⟨(HV13.out.1.below hb4 (Nat.le_refl _)).mono hb4.size, (HV13.out.2.1.below hb4 (Nat.le_refl _)).mono hb4.size, (HV13.out.2.2.1.below hb4 (Nat.le_refl _)).mono hb4.size, (HV13.out.2.2.2.below hb4 (Nat.le_refl _)).mono hb4.size, hrc⟩
        have HFC : Hid (Fine (twI ns) m lc) := hfc
        have HKT : Hid (kost (twI ns) lc = 2 * kost (intsOf ns) la ∧ kost (intsOf ns) lb ≤ kost (intsOf ns) la ∧ kost (intsOf ns) la ≤ 300 * 32212254720) := by
          have h9 := HFB.out
          rw [HM.out.2.2] at h9
          exact ⟨kost_tw HA.out.2 hfc, kost_more HA.out.2 h9, kost_le HA.out.2 HOK.out.1⟩
        have k1 := cost_fine p1 len c1 bb m1 (intsOf ns) lb w4 HV14.out.1 HL.out.1 HV14.out.2.2.2.1 HFB.out HOK.out.2.1 len
        have k2 := fun w5 (hb : Below w4.heap.size w4 w5) => cost_fine p1 len c1 ba m (intsOf ns) la w5 ((HV14.out.1.below hb (Nat.le_refl _)).mono hb.size) HL.out.1 ((HV14.out.2.2.1.below hb (Nat.le_refl _)).mono hb.size) HA.out.2 HOK.out.1 len
        have k3 := fun w5 (hb : Below w4.heap.size w4 w5) => cost_fine p2 len c2 bc m (twI ns) lc w5 ((HV14.out.2.1.below hb (Nat.le_refl _)).mono hb.size) HL.out.2 ((HV14.out.2.2.2.2.below hb (Nat.le_refl _)).mono hb.size) HFC.out HOK.out.2.2 len
        generalize kost (twI ns) lc = kc at HKT k3
        generalize kost (intsOf ns) lb = kb at HKT k1
        generalize kost (intsOf ns) la = ka at HKT k2
        have hle7 : kb ≤ ka := HKT.out.2.1
        have hd7 : decide ((kb : Int) ≤ (ka : Int)) = true := decide_eq_true (by have := HKT.out; omega)
        have hw7 : IntKind.i64.wrap (2 * (ka : Int)) = (kc : Int) := by have := HKT.out; rw [IntKind.wrap_i64]; omega
        have hkk : ((kc : Int) == (kc : Int)) = true := by simp
        have K2 := Lib.hid k2
        have K3 := Lib.hid k3
        clear e3 hb4 hrc hfc k2 k3
        go_wp2_with fail
        refine k1.mono ?_
        rintro e w5 ⟨rfl, hb5⟩
        have HC5 := Lib.hid hb5
        have k2 := K2.out w5 hb5
        clear k1 hb5
        go_wp2_with fail
        refine k2.mono ?_
        rintro e w6 ⟨rfl, hb6⟩
        have HC6 : Hid (Below w4.heap.size w4 w6) := HC5.out.trans (hb6.mono HC5.out.size)
        have k3 := K3.out w6 HC6.out
        clear k2 hb6
        go_wp2_with fail
        refine k3.mono ?_
        rintro e w7 ⟨rfl, hb7⟩
        have HC7 : Hid (Below w4.heap.size w4 w7) := HC6.out.trans (hb7.mono HC6.out.size)
        have k4 := K2.out w7 HC7.out
        clear k3 hb7
        go_wp2_with fail
        refine k4.mono ?_
        rintro e w8 ⟨rfl, hb8⟩
        have HC8 : Hid (Below W.heap.size W w8) := HB5.out.trans ((HC7.out.trans (hb8.mono HC7.out.size)).mono HB5.out.size)
        clear k4 hb8
        go_wp2_with fail
        go_ret
        exact ⟨rfl, HC8.out⟩
end Go.Proofs.Ytefniglinligeaa.Lp

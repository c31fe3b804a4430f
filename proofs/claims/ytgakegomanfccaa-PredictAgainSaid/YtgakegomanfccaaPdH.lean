
/- The walk of PredictAgain. -/
import Derived.Test.YtgakegomanfccaaPdD
namespace Go.Proofs.Ytgakegomanfccaa.Pd
open Go.RowKit Go.Proofs.Ytgakegomanfccaa.Oct Go.Proofs.Ytgakegomanfccaa.Sa Go.Proofs.Ytgakegomanfccaa.Pr
open Go.Proofs.Ytgakegomanfccaa.Lp (VRow vrow_blk vrow_own wpList_append_vals blk_set blk_far blk_frozen fillV_length)
set_option linter.unusedVariables false
set_option linter.unusedSimpArgs false
set_option maxRecDepth 100000

theorem same_own {w : World} {q1 q2 : Option Addr} {n c1 c2 : Nat} {ys : List Nat} (h1 : VRow w w.heap.size q1 (u32s ys)) (h2 : VRow w w.heap.size q2 (u32s ys)) (hn : ys.length = n) (hl : n ≤ 10000000) :
    Calls Try.prog 11 #[.slice q1 n c1, .slice q2 n c2] w fun e w' => e = .returned (.bool true) ∧ Drawn w w' := by
  have h := same_any q1 c1 q2 c2 ys ys w w.heap.size h1 h2 (by omega) (by omega)
  rwa [show sameU ys ys = true from beq_self_eq_true _, hn] at h
theorem err_of {ns ys : List Nat} {per wide : Int} (h : errD ns per wide = 0) (hl : ys.length = ns.length) (hlt : ∀ v ∈ ys, v < 2 ^ wide.toNat) : errD ys per wide = 0 := by
  unfold errD at h ⊢
  rw [hl]
  by_cases h1 : okD ns.length per wide = true
  · rw [if_pos h1]
    exact overD_yes (allD_iff.2 hlt)
  · rw [if_neg h1] at h
    cases h
set_option maxHeartbeats 2000000 in
theorem again_walk (p : Option Addr) (len cap : Nat) (per wide : Int) (w : World) (h0 : IsU32 w p len cap) (hp0 : (Lit.int .i64 per).wf = true) (hw0 : (Lit.int .i64 wide).wf = true) :
    Calls Try.prog 4 #[.slice p len cap, .int .i64 per, .int .i64 wide] w (YesS w) := by
  obtain ⟨i0, hi, hz0, hz1, hz2⟩ := info_parts Try.infoU32
  obtain ⟨ns, hx, hr, hb, hlc, hcm, hnil⟩ := h0
  have hll : len ≤ maxLen := Nat.le_trans hlc hcm
  unfold maxLen at hll
  clear hw0 hp0 hlc hcm hnil
  by_cases hl : 300 < len
  · have ql : decide ((300 : Int) < (len : Int)) = true := by simp; omega
    clear hr hx hb hl
    go_enter Try.func4, Try.ntmps4
    go_wp2_with fail
    refine (lives_any w).mono ?_
    rintro e w1 ⟨rfl, hb1⟩
    have HB1 := Lib.hid hb1
    clear hb1
    go_wp2_with fail
    refine (lives_any w1).mono ?_
    rintro e w2 ⟨rfl, hb2⟩
    have HB2 := Lib.hid (HB1.out.trans (hb2.mono HB1.out.size))
    clear hb2
    go_wp2_with fail
    go_ret
    exact ⟨rfl, HB2.out⟩
  · have ql : decide ((300 : Int) < (len : Int)) = false := by simp; omega
    have HX := Lib.hid hx
    have HR := Lib.hid hr
    have hl3 : len ≤ 300 := by omega
    clear hr hx hb hl hll
    go_enter Try.func4, Try.ntmps4
    go_wp2_with fail
    refine (lives_any w).mono ?_
    rintro e w1 ⟨rfl, hb1⟩
    have HB1 := Lib.hid hb1
    have HD1 := Lib.hid (diff_any p len cap per wide ns w1 ((HR.out.below hb1 (Nat.le_refl _)).mono hb1.size) HX.out (by omega))
    clear hb1
    go_wp2_with fail
    refine HD1.out.mono ?_
    intro e1 w2 hp1
    have hb2 := (un_str hp1).1
    have HB2 := Lib.hid (HB1.out.trans (hb2.mono HB1.out.size))
    have HR2 := Lib.hid ((HR.out.below HB2.out (Nat.le_refl _)).mono HB2.out.size)
    have HD2 := Lib.hid (undo_any p len cap per wide ns w2 HR2.out HX.out (by omega))
    by_cases her : errD ns per wide = 0
    · obtain ⟨hw, hpe, _, hlt⟩ := err_zero her
      obtain ⟨pp, rfl⟩ : ∃ pp : Nat, per = (pp : Int) := ⟨per.toNat, by omega⟩
      have hpp : 1 ≤ pp := by omega
      have hm := pow_pos2 hw
      have HED := Lib.hid (err_of her (diffL_length (2 ^ wide.toNat) pp ns) (diffL_lt (by omega) hlt))
      have HEU := Lib.hid (err_of her (undoL_length (2 ^ wide.toNat) pp ns) (undoL_lt (by omega)))
      have HERR := Lib.hid her
      rw [her] at hp1 HD2
      rw [show ((pp : Int)).toNat = pp from rfl] at hp1 HD2
      have hm0 : 0 < 2 ^ wide.toNat := by omega
      have HUD := Lib.hid (undo_diff hpp hm0 hlt)
      have HDU := Lib.hid (diff_undo hpp hm0 hlt)
      have HLT := Lib.hid hlt
      have HM0 := Lib.hid hm0
      obtain ⟨_, qa, ca, he1, hva, _⟩ := un_yes (n := len) hp1 (by rw [diffL_length]; exact HX.out)
      subst he1
      have HVA := Lib.hid hva
      clear hp1 hb2 hva hlt hm hm0 her HD1 HB1 hw
      go_wp2_with fail
      refine HD2.out.mono ?_
      intro e1 w3 hp1
      obtain ⟨hb3, qb, cb, he1, hvb, _⟩ := un_yes (n := len) hp1 (by rw [undoL_length]; exact HX.out)
      subst he1
      have HB3 := Lib.hid (HB2.out.trans (hb3.mono HB2.out.size))
      have HR3 := Lib.hid ((HR2.out.below hb3 (Nat.le_refl _)).mono hb3.size)
      have HVB := Lib.hid hvb
      have hd3 := undo_any qa len ca (pp : Int) wide _ w3 ((HVA.out.below hb3 (Nat.le_refl _)).mono hb3.size) (by rw [diffL_length]; exact HX.out) (by omega)
      rw [HED.out, show ((pp : Int)).toNat = pp from rfl, HUD.out] at hd3
      have HD3 := Lib.hid hd3
      clear hp1 hb3 hvb hd3 HD2 HVA HR2 HB2
      go_wp2_with fail
      refine HD3.out.mono ?_
      intro e1 w4 hp1
      obtain ⟨hb4, qc, cc, he1, hvc, _⟩ := un_yes (n := len) hp1 HX.out
      subst he1
      have HB4 := Lib.hid (HB3.out.trans (hb4.mono HB3.out.size))
      have HR4 := Lib.hid ((HR3.out.below hb4 (Nat.le_refl _)).mono hb4.size)
      have HVC := Lib.hid hvc
      have hd4 := diff_any qb len cb (pp : Int) wide _ w4 ((HVB.out.below hb4 (Nat.le_refl _)).mono hb4.size) (by rw [undoL_length]; exact HX.out) (by omega)
      rw [HEU.out, show ((pp : Int)).toNat = pp from rfl, HDU.out] at hd4
      have HD4 := Lib.hid hd4
      clear hp1 hb4 hvc hd4 HD3 HVB HR3 HB3 HED HEU HUD HDU
      go_wp2_with fail
      refine HD4.out.mono ?_
      intro e1 w5 hp1
      obtain ⟨hb5, qd, cd, he1, hvd, _⟩ := un_yes (n := len) hp1 HX.out
      subst he1
      have HB5 := Lib.hid (HB4.out.trans (hb5.mono HB4.out.size))
      have HR5 := Lib.hid ((HR4.out.below hb5 (Nat.le_refl _)).mono hb5.size)
      have HVD := Lib.hid hvd
      have S1 := Lib.hid (same_own (c1 := cc) (c2 := cap) ((HVC.out.below hb5 (Nat.le_refl _)).mono hb5.size) HR5.out HX.out (by omega))
      clear hp1 hb5 hvd HD4 HVC HR4 HB4
      go_wp2_with fail
      refine S1.out.mono ?_
      rintro e w6 ⟨rfl, hd6⟩
      have hb6 := hd6.below w5.heap.size
      have HB6 := Lib.hid (HB5.out.trans (hb6.mono HB5.out.size))
      have HR6 := Lib.hid ((HR5.out.below hb6 (Nat.le_refl _)).mono hb6.size)
      have S2 := Lib.hid (same_own (c1 := cd) (c2 := cap) ((HVD.out.below hb6 (Nat.le_refl _)).mono hb6.size) HR6.out HX.out (by omega))
      clear hd6 hb6 S1 HVD HR5 HB5
      by_cases hz : len = 0
      · subst hz
        go_wp2_with fail
        refine S2.out.mono ?_
        rintro e w7 ⟨rfl, hd7⟩
        have HB7 := Lib.hid (HB6.out.trans (hd7.below _))
        clear hd7
        go_wp2_with fail
        go_ret
        exact ⟨rfl, HB7.out⟩
      · have qz : ((len : Int) == 0) = false := by simp; omega
        have hlz : 0 < len := by omega
        clear hz
        go_wp2_with fail
        refine S2.out.mono ?_
        rintro e w7 ⟨rfl, hd7⟩
        have hb7 := hd7.below w6.heap.size
        have HB7 := Lib.hid (HB6.out.trans (hb7.mono HB6.out.size))
        have HR7 := Lib.hid ((HR6.out.below hb7 (Nat.le_refl _)).mono hb7.size)
        clear hd7 hb7 S2 HR6 HB6
        go_wp2_with (at_make; refine wpList_make_full _ rfl _ _ 22 rfl w7.heap.size 31 i0 (.int .u32 0) 1 Try.underlying22 hi hz0 hz1 .i64 .i64 (len : Int) (len : Int) len rfl rfl rfl rfl ?c2 ?c3 ?c4 ?_)
        case c2 => rw [hz2]; omega
        case c3 => unfold maxLen; omega
        case c4 => omega
        intro w8 hown hgrow
        have hb8 : Below w7.heap.size w7 w8 := (Below.refl _ _).grown hgrow (Nat.le_refl _) (fun k hk => by cases hk)
        have hblk := blk_of_own hown
        obtain ⟨b, off, hq, hbl, hc0⟩ := vrow_u32 HR7.out 0 (by rw [HX.out]; omega)
        subst hq
        obtain ⟨v, hv⟩ : ∃ v, v = ns[0]'(by rw [HX.out]; omega) := ⟨_, rfl⟩
        have hvm : v < 2 ^ wide.toNat := by rw [hv]; exact HLT.out _ (List.getElem_mem _)
        rw [← hv, Nat.add_zero] at hc0
        have HC0 : Hid (∀ W, Below w7.heap.size w7 W → W.cell? ⟨b, off, none⟩ = some (.int .u32 (v : Int))) := Lib.hid (fun W h => (h.cell (p := ⟨b, off, none⟩) hbl).trans hc0)
        have HST : Hid (FilS w7 w7.heap.size (List.replicate len v) 0 w8) := Lib.hid (FilS.start (n := len) (by simp) hb8 (Nat.le_refl _) (blk_lt hblk) (by simpa using hblk))
        have HVM := Lib.hid hvm
        generalize hG : w7.heap.size = G at HST
        have HG := Lib.hid hG
        clear hG hown hgrow hb8 hblk hz0 hz1 hz2 hi hbl hc0 hv hvm HR7
        go_wp2_with fail
        go_loopw [16, 95] (fun _ i wr => ∃ k : Nat, k ≤ len ∧ i = .int .i64 (k : Int) ∧ Hid (FilS w7 G (List.replicate len v) k wr)) (fun _ i _ => len - (intOf i).toNat)
        case atStart => exact ⟨0, by omega, rfl, HST⟩
        case round =>
          clear HST
          obtain ⟨k, hk, rfl, HS⟩ := hrel
          by_cases hlt : k < len
          · have hky : k < (List.replicate len v).length := by simpa using hlt
            obtain ⟨v0, hc1⟩ := HS.out.cell hky
            have hf1 := HS.out.fz k
            have hc2 := HC0.out _ HS.out.1
            have HN := Lib.hid (HS.out.step hky v (by simp))
            have ql2 : decide ((k : Int) < (len : Int)) = true := by simpa using hlt
            have i1 : (0 : Int) ≤ (k : Int) := by omega
            have i2 : (k : Int) < (len : Int) := by omega
            have i3 : (0 : Int) < (len : Int) := by omega
            clear hky HS
            go_wp2_with fail
            go_roundw
            case rel => exact ⟨k + 1, by omega, by go_num, HN⟩
            case measure => simp [intOf]; omega
          · have : k = len := by omega
            subst this
            have hS := HS.out
            have hrow := FilS.row (by rw [List.length_replicate]; exact hS)
            have hb9 := HB7.out.trans (hS.1.mono HB7.out.size)
            have HBB := Lib.hid hS.1
            have hd9 := diff_any (some ⟨G, 0, none⟩) k k (pp : Int) wide (List.replicate k v) wr hrow (by simp) (by omega)
            rw [err_of HERR.out (by rw [List.length_replicate]; exact HX.out.symm) (fun x hx => by rw [List.eq_of_mem_replicate hx]; exact HVM.out), show ((pp : Int)).toNat = pp from rfl] at hd9
            have HD9 := Lib.hid hd9
            have HB9 := Lib.hid hb9
            have ql2 : decide ((k : Int) < (k : Int)) = false := by simp
            clear hS hrow hb9 hd9 HS hlt hk
            go_wp2_with fail
            refine HD9.out.mono ?_
            intro e1 wz hp1
            obtain ⟨hbz, qz, cz, he1, hvz, _⟩ := un_yes (n := k) hp1 (by rw [diffL_length, List.length_replicate])
            subst he1
            have HBZ := Lib.hid (HB9.out.trans (hbz.mono HB9.out.size))
            have HVZ := Lib.hid hvz
            have hc3 := HC0.out _ (HBB.out.trans (hbz.mono HBB.out.size))
            clear hp1 hbz hvz HD9 HB9 HBB
            generalize hPP : (pp : Int) = P
            have HPP := Lib.hid hPP
            clear hPP
            go_wp2_with fail
            go_loopw [19, 114] (fun _ i wr => ∃ j : Nat, j ≤ k ∧ i = .int .i64 (j : Int) ∧ Hid (Drawn wz wr)) (fun _ i _ => k - (intOf i).toNat)
            case atStart => exact ⟨0, by omega, rfl, Lib.hid ⟨0, rfl⟩⟩
            case round =>
              obtain ⟨j, hj, rfl, HD⟩ := hrel
              by_cases hlt : j < k
              · have hjl : j < (diffL (2 ^ wide.toNat) pp (List.replicate k v)).length := by rw [diffL_length, List.length_replicate]; exact hlt
                obtain ⟨b2, off2, hq2, _, hc4⟩ := vrow_u32 HVZ.out j hjl
                subst hq2
                have hjv : (diffL (2 ^ wide.toNat) pp (List.replicate k v))[j] = if pp ≤ j then 0 else v := by
                  have := diffL_get (m := 2 ^ wide.toNat) (per := pp) (l := List.replicate k v) (i := j) (by simpa using hlt)
                  rw [List.getD_eq_getElem?_getD, List.getElem?_eq_getElem hjl, Option.getD_some] at this
                  rw [this, diff_alike HM0.out HVM.out hlt]
                rw [hjv] at hc4
                have hd := HD.out
                obtain ⟨i, hi⟩ := hd
                have hra : wr.cell? ⟨b2, off2 + j, none⟩ = some (.int .u32 ((if pp ≤ j then 0 else v : Nat) : Int)) := by rw [hi]; exact hc4
                have hrb : wr.cell? ⟨b, off, none⟩ = some (.int .u32 (v : Int)) := by rw [hi]; exact hc3
                have ql3 : decide ((j : Int) < (k : Int)) = true := by simpa using hlt
                have i1 : (0 : Int) ≤ (j : Int) := by omega
                have i2 : (j : Int) < (k : Int) := by omega
                have i3 : (0 : Int) < (k : Int) := by omega
                clear hjl hjv hc4 hi
                by_cases hpj : pp ≤ j
                · rw [if_pos hpj] at hra
                  have p1 : decide ((j : Int) < P) = false := by have := HPP.out; simp; omega
                  have p2 : decide (P ≤ (j : Int)) = true := by have := HPP.out; simp; omega
                  clear hpj
                  go_wp2_with fail
                  go_quiet (fail)
                  go_wp2_with fail
                  go_roundw
                  case rel => exact ⟨j + 1, by omega, by go_num, Lib.hid (HD.out.more _)⟩
                  case measure => simp [intOf]; omega
                · rw [if_neg hpj] at hra
                  have p1 : decide ((j : Int) < P) = true := by have := HPP.out; simp; omega
                  have p2 : decide (P ≤ (j : Int)) = false := by have := HPP.out; simp; omega
                  have p3 : ((v : Int) != (v : Int)) = false := by simp
                  clear hpj
                  go_wp2_with fail
                  go_quiet (fail)
                  go_wp2_with fail
                  go_roundw
                  case rel => exact ⟨j + 1, by omega, by go_num, Lib.hid (HD.out.more _)⟩
                  case measure => simp [intOf]; omega
              · have : j = k := by omega
                subst this
                have ql3 : decide ((j : Int) < (j : Int)) = false := by simp
                have HBE := Lib.hid (HBZ.out.trans (HD.out.below _))
                clear hlt hj HD
                go_wp2_with fail
                go_ret
                exact ⟨by simp, HBE.out⟩
    · have q1 : (errD ns per wide != 0) = true := by simpa using her
      have q2 : (errD ns per wide != errD ns per wide) = false := by simp
      have HER := Lib.hid her
      generalize errD ns per wide = er at *
      obtain ⟨_, ⟨h0, _⟩ | ⟨_, rfl⟩⟩ := hp1
      · exact absurd h0 her
      clear her hb2 HD1 HB1
      go_wp2_with fail
      refine HD2.out.mono ?_
      rintro e1 w3 ⟨hb3, ⟨h0, _⟩ | ⟨_, rfl⟩⟩
      · exact absurd h0 HER.out
      have HB3 := Lib.hid (HB2.out.trans (hb3.mono HB2.out.size))
      clear hb3
      go_wp2_with fail
      go_ret
      exact ⟨rfl, HB3.out⟩
end Go.Proofs.Ytgakegomanfccaa.Pd

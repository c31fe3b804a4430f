
/- The walk of the law RunsAgain. -/
import Derived.Test.YtklofifmmcegpaaRnK
namespace Go.Proofs.Ytklofifmmcegpaa.Rn
open Go.RowKit Go.Proofs.Ytklofifmmcegpaa.Oct Go.Proofs.Ytklofifmmcegpaa.Bit
open Go.Proofs.Ytklofifmmcegpaa.Lp (VRow ints ints_length ints_append ints_one vrow_own wpList_append_vals Try.infoInt IsInts)
set_option linter.unusedVariables false
set_option linter.unusedSimpArgs false
set_option maxRecDepth 100000

theorem and_one (c s : Nat) (hc : c < 256) : bits .and .u8 ((c : Int) / 2 ^ s) 1 = (((c / 2 ^ s % 2 == 1).toNat : Nat) : Int) := by
  have h1 : ((c : Int) / 2 ^ s) = ((c / 2 ^ s : Nat) : Int) := by push_cast; rfl
  rw [h1, show (1 : Int) = ((1 : Nat) : Int) from rfl, u8_and_nat _ _ (Nat.lt_of_le_of_lt (Nat.div_le_self _ _) hc) (by decide), Nat.and_one_is_mod]
  congr 1
  rcases (show c / 2 ^ s % 2 = 0 ∨ c / 2 ^ s % 2 = 1 by omega) with q | q <;> rw [q] <;> rfl
/-- what a pixel's bit is, reckoned out of its byte -/
theorem bit_of (xs : List UInt8) (x : Nat) (h : x / 8 < xs.length) : bits .and .u8 (((xs[x / 8]).toNat : Int) / 2 ^ (7 - x % 8)) 1 = (((gb xs x).toNat : Nat) : Int) := by
  rw [and_one _ _ (xs[x / 8]).toNat_lt]
  unfold gb
  rw [List.getD_eq_getElem?_getD, List.getElem?_eq_getElem h]
  rfl
set_option maxHeartbeats 16000000 in
theorem again_walk (p : Option Addr) (len cap : Nat) (zs : List Int) (z : Int) (w : World) (h : IsRow .u8 w p len cap zs) (hz : (Lit.int .i64 z).wf = true) :
    Calls Try.prog 5 #[.slice p len cap, .int .i64 z] w fun e w' => e = .returned (.bool true) ∧ Below w.heap.size w w' := by
  obtain ⟨xs, hx, hr, hlc, hcm, hnil⟩ := h.row
  clear h hz hlc hcm hnil
  by_cases hbig : 200 < len
  · have hd : decide (200 < (len : Int)) = true := by simp; omega
    clear hx hr
    go_enter Try.func5, Try.ntmps5
    go_wp2_with fail
    refine (lives_any _).mono ?_
    rintro e w1 ⟨rfl, hb1⟩
    go_wp2_with fail
    refine (lives_any _).mono ?_
    rintro e w2 ⟨rfl, hb2⟩
    go_wp2_with fail
    go_ret
    exact ⟨rfl, hb1.trans (hb2.mono hb1.size)⟩
  · have hd : decide (200 < (len : Int)) = false := by simp; omega
    have hlen : len ≤ 200 := by omega
    have hsp := spot_lt z (8 * len + 1) (by omega)
    have hsc := spot_cast z (8 * len + 1)
    obtain ⟨j, hj⟩ : ∃ j, j = spot z (8 * len + 1) := ⟨_, rfl⟩
    rw [← hj] at hsp hsc
    rw [show (((8 * len + 1 : Nat)) : Int) = 8 * (len : Int) + 1 from by omega] at hsc
    have hj8 : j ≤ 8 * len := by omega
    have HX := Lib.hid hx
    have HR := Lib.hid hr
    obtain ⟨P, hP⟩ : ∃ P, P = (bitsOf false xs).take j := ⟨_, rfl⟩
    have hPl : P.length = j := by rw [hP, List.length_take, bitsOf_length, hx]; omega
    have hval := changes_valid P
    rw [hPl] at hval
    have hpix := pix_changes P
    rw [hPl] at hpix
    have HPG := Lib.hid (show ∀ x, P.getD x false = if x < j then gb xs x else false from fun x => by
      by_cases hxj : x < j
      · rw [if_pos hxj, List.getD_eq_getElem?_getD, List.getElem?_eq_getElem (by rw [hPl]; exact hxj)]
        show P[x]'(by rw [hPl]; exact hxj) = _
        subst hP
        rw [List.getElem_take, bits_get]
      · rw [if_neg hxj, List.getD_eq_getElem?_getD, List.getElem?_eq_none (by rw [hPl]; omega)]
        rfl)
    obtain ⟨l, hl⟩ : ∃ l, (zl (changes P)).length = l := ⟨_, rfl⟩
    have HOF := Lib.hid (fun (w1 : World) (hb : Below w.heap.size w w1) => (show Calls _ _ _ _ (LstM w1 (zl (changes P)) l 0) by
      have := of_in p len cap xs j w1 (hr.below hb) hx (by omega) (by omega) (by omega)
      rw [← hP] at this
      exact this.mono fun e w' h => h.m hl))
    have hzl : (zl (changes P)).length ≤ 1600 := by
      rw [zl_length]
      have := chg_len P false 0
      unfold changes
      omega
    obtain ⟨N, hN⟩ : ∃ N, N = (j + 7) / 8 := ⟨_, rfl⟩
    have hyl : (packB false P).length = N := by rw [packB_length, hPl, hN]
    have HRW := Lib.hid (fun (q : Option Addr) (c : Nat) (w2 : World) (hv : VRow w2 w2.heap.size q (ints (zl (changes P)))) => (show Calls _ _ _ _ (RwM w2 (packB false P) N 0) by
      have := row_in q l c (zl (changes P)) (changes P) j w2 hv hl (by omega) (by omega) rfl hval
      rw [hpix] at this
      exact this.mono fun e w' h => h.m hyl))
    have HRT := Lib.hid (fun (q : Option Addr) (c : Nat) (w2 : World) (C : Nat) (hv : VRow w2 C q (ints (zl (changes P)))) => by
      have := right_any q l c (zl (changes P)) (j : Int) w2 C hv hl (by unfold Go.maxLen; omega)
      rwa [valid_right hval] at this)
    have HYL := Lib.hid hyl
    have HYG := Lib.hid (show ∀ x, x < 8 * N → gb (packB false P) x = if x < j then gb xs x else false from fun x hx => by
      rw [gb_packB P x (by rw [hPl, ← hN]; exact hx)]
      exact HPG.out x)
    have hNw : ((j : Int) + 7) / 8 = (N : Int) := by omega
    have hNl : N ≤ len := by omega
    rw [hl] at hzl
    generalize zl (changes P) = L at HOF HRW HRT
    generalize packB false P = ys at HRW HYL HYG
    clear hx hr hbig hj hP hPl hval hpix HPG hN hyl hl
    go_enter Try.func5, Try.ntmps5
    go_wp2_with fail
    refine (lives_any _).mono ?_
    rintro e w1 ⟨rfl, hb1⟩
    have HB1 := Lib.hid hb1
    clear hb1
    go_wp2_with fail
    refine (HOF.out w1 HB1.out).mono ?_
    rintro e w2 ⟨hb2, q, c, rfl, hv, _, _, _⟩
    have HB2 := Lib.hid (HB1.out.trans (hb2.mono HB1.out.size))
    have HV := Lib.hid hv
    have HRW2 := Lib.hid (HRW.out q c w2 hv)
    clear hb2 hv HOF HRW
    go_wp2_with fail
    refine HRW2.out.mono ?_
    rintro e w3 ⟨hb3, qy, cy, rfl, hry, _⟩
    have HB3 := Lib.hid (HB2.out.trans (hb3.mono HB2.out.size))
    have HRT3 := Lib.hid (HRT.out q c w3 _ (HV.out.below hb3 (Nat.le_refl _)))
    have HRY := Lib.hid hry
    have HRX := Lib.hid (HR.out.below HB3.out)
    clear hb3 hry HRW2 HRT
    go_wp2_with fail
    refine HRT3.out.mono ?_
    rintro e w' ⟨rfl, rfl⟩
    clear HRT3
    go_wp2_with fail
    go_loop [10, 11, 64] (fun _ _ i => ∃ k : Nat, k ≤ 8 * N ∧ i = .int .i64 (k : Int)) (fun _ _ i => 8 * N - (intOf i).toNat)
    case atStart => exact ⟨0, by omega, rfl⟩
    case round =>
      obtain ⟨k, hk, rfl⟩ := hrel
      by_cases hlt : k < 8 * N
      · have kx : k / 8 < xs.length := by rw [HX.out]; omega
        have ky : k / 8 < ys.length := by rw [HYL.out]; omega
        obtain ⟨b1, o1, hq1, _, hc1⟩ := HRX.out (by omega)
        obtain ⟨b2, o2, hq2, _, hc2⟩ := HRY.out (by omega)
        subst hq1
        subst hq2
        have g1 := hc1 (k / 8) kx
        have g2 := hc2 (k / 8) ky
        have v1 := bit_of xs k kx
        have v2 := bit_of ys k ky
        have hyg := HYG.out k hlt
        generalize (xs[k / 8]).toNat = x1 at g1 v1
        generalize (ys[k / 8]).toNat = x2 at g2 v2
        obtain ⟨t, ht⟩ : ∃ t, t = k / 8 := ⟨_, rfl⟩
        rw [← ht] at g1 g2
        obtain ⟨s, hs⟩ : ∃ s, s = 7 - k % 8 := ⟨_, rfl⟩
        rw [← hs] at v1 v2
        have htz : (k : Int) / 8 = (t : Int) := by omega
        have hsz : (7 : Int) - (k : Int) % 8 = (s : Int) := by omega
        have hs8 : s < 8 := by omega
        have i1 : (0 : Int) ≤ (t : Int) := by omega
        have i2 : (t : Int) < (len : Int) := by omega
        have i3 : (t : Int) < (N : Int) := by omega
        have hdk : decide ((k : Int) < 8 * (N : Int)) = true := by simp; omega
        by_cases hkj : k < j
        · rw [if_pos hkj] at hyg
          rw [hyg] at v2
          generalize (((gb xs k).toNat : Nat) : Int) = bt at v1 v2
          have hge : decide (j ≤ k) = false := by simp; omega
          clear hc1 hc2 kx ky ht hs hyg hkj
          go_wp2_with fail
          go_round
          case rel => exact ⟨k + 1, by omega, by go_num⟩
          case measure => simp [intOf]; omega
        · rw [if_neg hkj] at hyg
          rw [hyg] at v2
          have hge : decide (j ≤ k) = true := by simp; omega
          have v2' : bits .and .u8 ((x2 : Int) / 2 ^ s) 1 = 0 := v2
          clear hc1 hc2 kx ky ht hs hyg hkj v2
          go_wp2_with fail
          go_round
          case rel => exact ⟨k + 1, by omega, by go_num⟩
          case measure => simp [intOf]; omega
      · have hdk : decide ((k : Int) < 8 * (N : Int)) = false := by simp; omega
        go_wp2_with fail
        go_ret
        exact ⟨rfl, HB3.out⟩
end Go.Proofs.Ytklofifmmcegpaa.Rn

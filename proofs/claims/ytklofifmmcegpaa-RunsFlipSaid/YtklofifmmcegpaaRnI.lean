
/- Contracts of the document's Pixels, Of and Row. -/
import Derived.Test.YtklofifmmcegpaaRnH
namespace Go.Proofs.Ytklofifmmcegpaa.Rn
open Go.RowKit Go.Proofs.Ytklofifmmcegpaa.Oct Go.Proofs.Ytklofifmmcegpaa.Bit
open Go.Proofs.Ytklofifmmcegpaa.Lp (VRow ints ints_length ints_append ints_one vrow_own wpList_append_vals Try.infoInt)
set_option linter.unusedVariables false
set_option linter.unusedSimpArgs false
set_option maxRecDepth 100000

theorem str01 : (Value.string { data := #[48, 49] }) = .string (ds [false, true]) := by rfl
theorem cnt_step (c : List Nat) (i x : Nat) (h : i < c.length) : (c.take (i + 1)).countP (· ≤ x) = (c.take i).countP (· ≤ x) + if c[i] ≤ x then 1 else 0 := by
  rw [List.take_succ_eq_append_getElem h, List.countP_append, List.countP_singleton]
  simp
theorem pix_step (c : List Nat) (n x : Nat) (h : x < n) : (pix c n).take (x + 1) = (pix c n).take x ++ [c.countP (· ≤ x) % 2 == 1] := by
  rw [List.take_succ_eq_append_getElem (by rw [pix_length]; exact h), pix_get]
set_option maxHeartbeats 4000000 in
theorem rpixels_any (p : Option Addr) (len cap : Nat) (zs : List Int) (c : List Nat) (n : Nat) (w : World) (C : Nat) (h : VRow w C p (ints zs)) (hx : zs.length = len) (hl : len ≤ 100000) (hn : n ≤ 32768) (hc : zs = zl c) :
    Calls Try.prog 31 #[.slice p len cap, .int .i64 (n : Int)] w fun e w' => e = .returned (.string (ds (pix c n))) ∧ w = w' := by
  have HZ := Lib.hid (show ∀ k (hk : k < len), ∃ (hk' : k < c.length) (hz : k < zs.length), zs[k] = (c[k] : Int) from fun k hk => by
    have hz : k < zs.length := by rw [hx]; exact hk
    obtain ⟨h', e⟩ := zl_nat hc k hz
    exact ⟨h', hz, e⟩)
  have HCL := Lib.hid (show c.length = len from by rw [← hx, hc, zl_length])
  have HH := Lib.hid h
  have HX := Lib.hid hx
  clear h hx hc
  go_enter Try.func31, Try.ntmps31
  go_wp2_with fail
  go_loop [5, 6, 7, 8] (fun s x _ _ => ∃ k : Nat, k ≤ n ∧ x = .int .i64 (k : Int) ∧ s = .string (ds ((pix c n).take k))) (fun _ x _ _ => n - (intOf x).toNat)
  case atStart => exact ⟨0, by omega, rfl, by rfl⟩
  case round =>
    obtain ⟨k, hk, rfl, rfl⟩ := hrel
    by_cases hlt : k < n
    · have hd : decide ((k : Int) < (n : Int)) = true := by simp; omega
      go_wp2_with fail
      go_loop [7, 8] (fun m i => ∃ j y : Nat, j ≤ len ∧ i = .int .i64 (j : Int) ∧ m = .int .i64 (y : Int) ∧ y ≤ j ∧ Hid (y = (c.take j).countP (· ≤ k))) (fun _ i => len - (intOf i).toNat)
      case atStart => exact ⟨0, 0, by omega, rfl, rfl, by omega, Lib.hid (by simp)⟩
      case round =>
        obtain ⟨j, y, hj, rfl, rfl, hyj, HY⟩ := hrel
        by_cases hlt2 : j < len
        · obtain ⟨hkc, hkz, hze⟩ := HZ.out j hlt2
          obtain ⟨b, off, hq, _⟩ := HH.out.addr (by rw [ints_length]; omega)
          subst hq
          have hc := HH.out.int j hkz
          rw [hze] at hc
          have hst := cnt_step c j k hkc
          rw [← HY.out] at hst
          generalize c[j] = x at hc hst
          have hd2 : decide ((j : Int) < (len : Int)) = true := by simp; omega
          have i1 : (0 : Int) ≤ (j : Int) := by omega
          have i2 : (j : Int) < (len : Int) := by omega
          clear hkc hkz hze HY
          by_cases hxk : x ≤ k
          · rw [if_pos hxk] at hst
            have HST := Lib.hid hst.symm
            have hd3 : decide (x ≤ k) = true := by simpa using hxk
            clear hst hxk
            go_wp2_with fail
            go_round
            case rel => exact ⟨j + 1, y + 1, by omega, by go_num, by go_num, by omega, HST⟩
            case measure => simp [intOf]; omega
          · rw [if_neg hxk, Nat.add_zero] at hst
            have HST := Lib.hid hst.symm
            have hd3 : decide (x ≤ k) = false := by simpa using hxk
            clear hst hxk
            go_wp2_with fail
            go_round
            case rel => exact ⟨j + 1, y, by omega, by go_num, rfl, by omega, HST⟩
            case measure => simp [intOf]; omega
        · have hje : j = len := by omega
          have hy := HY.out
          rw [List.take_of_length_le (by rw [HCL.out]; omega)] at hy
          have hps := pix_step c n k hlt
          rw [← hy] at hps
          have hd2 : decide ((j : Int) < (len : Int)) = false := by simp; omega
          have hz2 : (ds ((pix c n).take k)).size ≤ 32768 := by rw [ds_size, List.length_take]; omega
          clear HY hy hje
          rcases (show y % 2 = 0 ∨ y % 2 = 1 by omega) with q | q
          · have hm : (y : Int) % 2 = 0 := by omega
            have x1 : ({ data := #[48, 49] } : ByteArray).extract 0 1 = ds [false] := by show (ds [false, true]).extract 0 1 = _; rw [ds_extract]; rfl
            have hz3 : ({ data := #[48, 49] } : ByteArray).size = 2 := rfl
            have hz4 : (ds [false]).size = 1 := by rw [ds_size]; rfl
            have HPS : Hid ((pix c n).take (k + 1) = (pix c n).take k ++ [false]) := Lib.hid (by rw [hps, q]; rfl)
            clear hps q
            go_wp2_with fail
            go_round
            case rel => exact ⟨k + 1, by omega, by go_num, by rw [HPS.out, ← ds_append]⟩
            case measure => simp [intOf]; omega
          · have hm : (y : Int) % 2 = 1 := by omega
            have x1 : ({ data := #[48, 49] } : ByteArray).extract 1 2 = ds [true] := by show (ds [false, true]).extract 1 2 = _; rw [ds_extract]; rfl
            have hz3 : ({ data := #[48, 49] } : ByteArray).size = 2 := rfl
            have hz4 : (ds [true]).size = 1 := by rw [ds_size]; rfl
            have HPS : Hid ((pix c n).take (k + 1) = (pix c n).take k ++ [true]) := Lib.hid (by rw [hps, q]; rfl)
            clear hps q
            go_wp2_with fail
            go_round
            case rel => exact ⟨k + 1, by omega, by go_num, by rw [HPS.out, ← ds_append]⟩
            case measure => simp [intOf]; omega
    · have hke : k = n := by omega
      subst hke
      have hd : decide ((k : Int) < (k : Int)) = false := by simp
      rw [List.take_of_length_le (by rw [pix_length]; exact Nat.le_refl _)]
      go_wp2_with fail
      go_ret
      exact ⟨rfl, rfl⟩
set_option maxHeartbeats 2000000 in
theorem rofr_any (xs : List UInt8) (z : Int) (w : World) (hs : xs.length ≤ 1000) :
    Calls Try.prog 11 #[.string (bs xs), .int .i64 z] w (LstP w (zl (ofL xs z)) (ofE xs.length z)) := by
  by_cases h0 : z < 0
  · have hw : wideB z = false := by unfold wideB; simp; omega
    have e1 : ofE xs.length z = 1 := by unfold ofE; rw [hw]; rfl
    have e2 : ofL xs z = [] := by unfold ofL; rw [e1]; rfl
    rw [e1, e2]
    have hd : decide (z < 0) = true := by simpa using h0
    clear e1 e2 hw h0
    go_enter Try.func11, Try.ntmps11
    go_wp2_with fail
    go_ret2
    exact LstP.nil _ _ _ (Below.refl _ _)
  · have hd : decide (z < 0) = false := by simpa using h0
    by_cases h1 : 32768 < z
    · have hw : wideB z = false := by unfold wideB; simp; omega
      have e1 : ofE xs.length z = 1 := by unfold ofE; rw [hw]; rfl
      have e2 : ofL xs z = [] := by unfold ofL; rw [e1]; rfl
      rw [e1, e2]
      have hd1 : decide (32768 < z) = true := by simpa using h1
      clear e1 e2 hw h0 h1
      go_enter Try.func11, Try.ntmps11
      go_wp2_with fail
      go_ret2
      exact LstP.nil _ _ _ (Below.refl _ _)
    · have hd1 : decide (32768 < z) = false := by simpa using h1
      have hw : wideB z = true := by unfold wideB; simp; omega
      obtain ⟨n, rfl⟩ : ∃ n : Nat, z = (n : Int) := ⟨z.toNat, by omega⟩
      have hbl := bitsOf_length false xs
      have HBZ := Lib.hid (ds_size (bitsOf false xs))
      have hrf := rof_any xs false w hs
      by_cases hc : ((8 * xs.length : Nat) : Int) < (n : Int)
      · have e1 : ofE xs.length (n : Int) = 2 := by unfold ofE; rw [hw]; simp only [if_true]; rw [if_pos hc]
        have e2 : ofL xs (n : Int) = [] := by unfold ofL; rw [e1]; rfl
        rw [e1, e2]
        have hsz : (ds (bitsOf false xs)).size = 8 * xs.length := by rw [ds_size, hbl]
        obtain ⟨m, hm⟩ : ∃ m, m = 8 * xs.length := ⟨_, rfl⟩
        rw [← hm] at hsz
        have hd2 : decide (m < n) = true := by simp; omega
        have hmb : m ≤ 8000 := by omega
        have HRF := Lib.hid hrf
        clear e1 e2 hw h0 h1 hc hbl hm hrf HBZ
        go_enter Try.func11, Try.ntmps11
        go_wp2_with fail
        refine HRF.out.mono ?_
        rintro e w1 ⟨rfl, hb⟩
        have HB := Lib.hid hb
        clear hb
        go_wp2_with fail
        go_ret2
        exact LstP.nil _ _ _ HB.out
      · have e1 : ofE xs.length (n : Int) = 0 := by unfold ofE; rw [hw]; simp only [if_true]; rw [if_neg hc]
        have e2 : ofL xs (n : Int) = changes ((bitsOf false xs).take n) := by unfold ofL; rw [e1]; simp
        rw [e1, e2]
        have hsz : (ds (bitsOf false xs)).size = 8 * xs.length := by rw [ds_size, hbl]
        obtain ⟨m, hm⟩ : ∃ m, m = 8 * xs.length := ⟨_, rfl⟩
        rw [← hm] at hsz
        have hnm : n ≤ m := by omega
        have hd2 : decide (m < n) = false := by simp; omega
        have hmb : m ≤ 8000 := by omega
        have x1 : (ds (bitsOf false xs)).extract 0 n = ds ((bitsOf false xs).take n) := by rw [ds_extract]; simp
        have hPl : ((bitsOf false xs).take n).length ≤ 100000 := by rw [List.length_take]; omega
        have HCH := Lib.hid (fun w' => rchanges_any ((bitsOf false xs).take n) w' hPl)
        have HRF := Lib.hid hrf
        generalize (bitsOf false xs).take n = P at x1 HCH ⊢
        generalize zl (changes P) = L at HCH ⊢
        clear e1 e2 hw h0 h1 hc hbl hm hrf HBZ
        go_enter Try.func11, Try.ntmps11
        go_wp2_with fail
        refine HRF.out.mono ?_
        rintro e w1 ⟨rfl, hb⟩
        have HB := Lib.hid hb
        clear hb
        go_wp2_with fail
        refine (HCH.out _).mono ?_
        rintro e w2 ⟨hb2, q, c, rfl, hr⟩
        have HR := Lib.hid hr
        have HB2 := Lib.hid (HB.out.trans (hb2.mono HB.out.size))
        clear hr hb2 HB HCH
        go_wp2_with fail
        go_ret2
        exact ⟨HB2.out, q, c, rfl, HR.out⟩
set_option maxHeartbeats 2000000 in
theorem rrow_any (p : Option Addr) (len cap : Nat) (zs : List Int) (z : Int) (w : World) (C : Nat) (h : VRow w C p (ints zs)) (hx : zs.length = len) (hl : len ≤ 100000) :
    Calls Try.prog 14 #[.slice p len cap, .int .i64 z] w fun e w' => e = .returned (.tuple #[.string (bs (rowL zs z)), .int .i64 (errR zs z)]) ∧ Below w.heap.size w w' := by
  have hrt := rright_any p len cap zs z w C h hx (by unfold maxLen; omega)
  by_cases h0 : z < 0
  · have hw : okR zs z = false := by unfold okR wideB; simp; omega
    unfold rowL errR
    rw [if_neg (by rw [hw]; decide), if_neg (by rw [hw]; decide)]
    have hd : decide (z < 0) = true := by simpa using h0
    clear h hx hw h0 hrt
    go_enter Try.func14, Try.ntmps14
    go_wp2_with fail
    go_ret2
    exact ⟨by rfl, Below.refl _ _⟩
  · have hd : decide (z < 0) = false := by simpa using h0
    by_cases h1 : 32768 < z
    · have hw : okR zs z = false := by unfold okR wideB; simp; omega
      unfold rowL errR
      rw [if_neg (by rw [hw]; decide), if_neg (by rw [hw]; decide)]
      have hd1 : decide (32768 < z) = true := by simpa using h1
      clear h hx hw h0 h1 hrt
      go_enter Try.func14, Try.ntmps14
      go_wp2_with fail
      go_ret2
      exact ⟨by rfl, Below.refl _ _⟩
    · have hd1 : decide (32768 < z) = false := by simpa using h1
      have hwd : wideB z = true := by unfold wideB; simp; omega
      by_cases hr : rightB zs z = true
      · have hok : okR zs z = true := by unfold okR; rw [hwd, hr]; rfl
        obtain ⟨c, n, hc, rfl, hn, hv⟩ := okR_valid hok
        unfold rowL errR
        rw [if_pos hok, if_pos hok, Int.toNat_natCast, show zs.map Int.toNat = c from by rw [hc, zl_back]]
        rw [hr] at hrt
        have HRT := Lib.hid hrt
        have HPX := Lib.hid (fun w' (hb : Below C w w') => rpixels_any p len cap zs c n w' C (h.below hb (Nat.le_refl _)) hx hl hn hc)
        have HBY := Lib.hid (fun w' => rbytes_any (pix c n) false w' (by rw [pix_length]; omega))
        generalize pix c n = P at HPX HBY ⊢
        generalize bs (packB false P) = S at HBY ⊢
        clear h hx hok hr hc hv hrt hwd h0 h1
        go_enter Try.func14, Try.ntmps14
        go_wp2_with fail
        refine HRT.out.mono ?_
        rintro e w1 ⟨rfl, hdr⟩
        have HD := Lib.hid hdr
        have HPX1 := Lib.hid (HPX.out w1 (hdr.below _))
        clear hdr HPX
        go_wp2_with fail
        refine HPX1.out.mono ?_
        rintro e w' ⟨rfl, rfl⟩
        go_wp2_with fail
        refine (HBY.out _).mono ?_
        rintro e w2 ⟨rfl, hb2⟩
        have HB2 := Lib.hid ((HD.out.below _).trans (hb2.mono (HD.out.below w.heap.size).size))
        clear hb2 HBY
        go_wp2_with fail
        go_ret2
        exact ⟨rfl, HB2.out⟩
      · have hr' : rightB zs z = false := by simpa using hr
        have hok : okR zs z = false := by unfold okR; rw [hwd, hr']; rfl
        unfold rowL errR
        rw [if_neg (by rw [hok]; decide), if_neg (by rw [hok]; decide)]
        rw [hr'] at hrt
        have HRT := Lib.hid hrt
        clear h hx hok hr hr' hrt hwd h0 h1
        go_enter Try.func14, Try.ntmps14
        go_wp2_with fail
        refine HRT.out.mono ?_
        rintro e w1 ⟨rfl, hdr⟩
        have HD := Lib.hid hdr
        clear hdr
        go_wp2_with fail
        go_ret2
        exact ⟨by rfl, HD.out.below _⟩
end Go.Proofs.Ytklofifmmcegpaa.Rn


/- The walk of the law RunsRows. -/
import Derived.Test.YtklofifmmcegpaaRnK
namespace Go.Proofs.Ytklofifmmcegpaa.Rn
open Go.RowKit Go.Proofs.Ytklofifmmcegpaa.Oct Go.Proofs.Ytklofifmmcegpaa.Bit
open Go.Proofs.Ytklofifmmcegpaa.Lp (VRow ints ints_length ints_append ints_one vrow_own wpList_append_vals Try.infoInt IsInts)
set_option linter.unusedVariables false
set_option linter.unusedSimpArgs false
set_option maxRecDepth 100000

theorem sum_take_le : ∀ (l : List Nat) (i : Nat), (l.take i).sum ≤ l.sum
  | [], i => by simp
  | x :: l, 0 => by simp
  | x :: l, i + 1 => by
    have := sum_take_le l i
    rw [List.take_succ_cons, List.sum_cons, List.sum_cons]
    omega
theorem sum_take_succ : ∀ (l : List Nat) (i : Nat) (h : i < l.length), (l.take (i + 1)).sum = (l.take i).sum + l[i]
  | [], i, h => by simp at h
  | x :: l, 0, h => by simp
  | x :: l, i + 1, h => by
    have := sum_take_succ l i (by simpa using h)
    rw [List.take_succ_cons, List.sum_cons, this, List.take_succ_cons, List.sum_cons, List.getElem_cons_succ]
    omega
/-- the three ways in which nothing is asked -/
theorem rows_out (p : Option Addr) (len cap : Nat) (z : Int) (w : World) (h : 100 < len ∨ (1000 < z ∧ z ≤ 32768)) :
    Calls Try.prog 4 #[.slice p len cap, .int .i64 z] w fun e w' => e = .returned (.bool true) ∧ Below w.heap.size w w' := by
  by_cases h1 : 100 < len
  · have hd : decide (100 < (len : Int)) = true := by simp; omega
    clear h h1
    go_enter Try.func4, Try.ntmps4
    go_wp2_with fail
    refine (lives_any _).mono ?_
    rintro e w1 ⟨rfl, hb1⟩
    go_wp2_with fail
    refine (lives_any _).mono ?_
    rintro e w2 ⟨rfl, hb2⟩
    go_wp2_with fail
    go_ret
    exact ⟨rfl, hb1.trans (hb2.mono hb1.size)⟩
  · have hd : decide (100 < (len : Int)) = false := by simp; omega
    have hz := h.resolve_left h1
    have hd1 : decide (1000 < z) = true := by simpa using hz.1
    have hd2 : decide (z ≤ 32768) = true := by simpa using hz.2
    clear h h1 hz
    go_enter Try.func4, Try.ntmps4
    go_wp2_with fail
    refine (lives_any _).mono ?_
    rintro e w1 ⟨rfl, hb1⟩
    go_wp2_with fail
    refine (lives_any _).mono ?_
    rintro e w2 ⟨rfl, hb2⟩
    go_wp2_with fail
    go_ret
    exact ⟨rfl, hb1.trans (hb2.mono hb1.size)⟩
set_option maxHeartbeats 16000000 in
theorem rows_walk (p : Option Addr) (len cap : Nat) (z : Int) (w : World) (h : IsInts w p len cap) (hz : (Lit.int .i64 z).wf = true) :
    Calls Try.prog 4 #[.slice p len cap, .int .i64 z] w fun e w' => e = .returned (.bool true) ∧ Below w.heap.size w w' := by
  obtain ⟨zs, hx, hr, hlc, hcm, hnil⟩ := h
  clear hz hlc hcm hnil
  by_cases hout : 100 < len ∨ (1000 < z ∧ z ≤ 32768)
  · exact rows_out p len cap z w hout
  · have hd : decide (100 < (len : Int)) = false := by simp; omega
    have hlen : len ≤ 100 := by omega
    have HX := Lib.hid hx
    have HR := Lib.hid hr
    have hzz : decide (1000 < z) = false ∨ (decide (1000 < z) = true ∧ decide (z ≤ 32768) = false) := by
      by_cases h : 1000 < z
      · exact .inr ⟨by simpa using h, by simp; omega⟩
      · exact .inl (by simpa using h)
    obtain ⟨N, hN⟩ : ∃ N, (rowL zs z).length = N := ⟨_, rfl⟩
    obtain ⟨n, hn⟩ : ∃ n, (lenL zs z).length = n := ⟨_, rfl⟩
    have HRW := Lib.hid (fun (w1 : World) (hb : Below w.heap.size w w1) => (row_any p len cap zs z w1 ((hr.below hb (Nat.le_refl _)).mono hb.size) hx (by omega)).mono fun e w' h => h.m hN)
    have HRR := Lib.hid (fun (w1 : World) (hb : Below w.heap.size w w1) => rrow_any p len cap zs z w1 _ (hr.below hb (Nat.le_refl _)) hx (by omega))
    have HLN := Lib.hid (fun (w1 : World) (hb : Below w.heap.size w w1) => (lengths_any p len cap zs z w1 ((hr.below hb (Nat.le_refl _)).mono hb.size) hx (by omega)).mono fun e w' h => h.m hn)
    have HRT := Lib.hid (fun (w1 : World) (hb : Below w.heap.size w w1) => right_any p len cap zs z w1 _ (hr.below hb (Nat.le_refl _)) hx (by unfold Go.maxLen; omega))
    have HRT2 := Lib.hid (fun (w1 : World) (hb : Below w.heap.size w w1) => rright_any p len cap zs z w1 _ (hr.below hb (Nat.le_refl _)) hx (by unfold Go.maxLen; omega))
    have HNN := Lib.hid hN
    have ways : (errR zs z = 1 ∧ n = 0) ∨ (errR zs z = 0 ∧ n = len + 1 ∧ ∃ m : Nat, z = (m : Int) ∧ m ≤ 32768 ∧ Hid (∃ M : List Nat, lenL zs z = zl M ∧ M.length = len + 1 ∧ M.sum = m ∧ ∀ i (h : i < zs.length), (((M.take (i + 1)).sum : Nat) : Int) = zs[i])) := by
      by_cases hok : okR zs z = true
      · obtain ⟨c, m, hc, rfl, hm, hv⟩ := okR_valid hok
        right
        have hrise := rise_of 0 hv (fun x _ => Nat.zero_le _) (Nat.zero_le _)
        have hl : lenL zs (m : Int) = zl (lensL 0 c m) := by
          unfold lenL
          rw [if_pos hok, hc]
          exact lensI_zl c 0 m hrise
        have hcl : c.length = len := by rw [← hx, hc, zl_length]
        have hML : (lensL 0 c m).length = len + 1 := by rw [lensL_length, hcl]
        refine ⟨by unfold errR; rw [if_pos hok], by rw [← hn, hl, zl_length, hML], m, rfl, hm, Lib.hid ⟨lensL 0 c m, hl, hML, ?_, ?_⟩⟩
        · have := lens_sum hrise
          omega
        · intro i hi
          subst hc
          have hi' : i < c.length := by rw [zl_length] at hi; exact hi
          rw [zl_get c i hi hi']
          have := lens_take hrise hi'
          omega
      · left
        refine ⟨by unfold errR; rw [if_neg hok], ?_⟩
        rw [← hn]
        unfold lenL
        rw [if_neg hok]
        rfl
    generalize errR zs z = er at HRW HRR HLN ways
    generalize rowL zs z = ys at HRW HRR HNN
    generalize rightB zs z = rt at HRT HRT2
    have HBS := Lib.hid (show (bs ys).size = N from by rw [bs_size, HNN.out])
    generalize hLN : lenL zs z = LN at HLN ways
    clear hLN hx hr hN hn hout
    rcases hzz with hz1 | ⟨hz1, hz2⟩
    all_goals
      go_enter Try.func4, Try.ntmps4
      go_wp2_with fail
      refine (lives_any _).mono ?_
      rintro e w1 ⟨rfl, hb1⟩
      have HB1 := Lib.hid hb1
      clear hb1
      go_wp2_with fail
      refine (HRW.out w1 HB1.out).mono ?_
      rintro e w2 ⟨hb2, qr, cr, rfl, hrow, _⟩
      have HB2 := Lib.hid (HB1.out.trans (hb2.mono HB1.out.size))
      have HROW := Lib.hid hrow
      clear hb2 hrow HRW
      go_wp2_with fail
      refine (HRR.out w2 HB2.out).mono ?_
      rintro e w3 ⟨rfl, hb3⟩
      have HB3 := Lib.hid (HB2.out.trans (hb3.mono HB2.out.size))
      have HROW3 := Lib.hid (HROW.out.below hb3)
      clear hb3 HROW HRR
      go_wp2_with fail
      refine (HLN.out w3 HB3.out).mono ?_
      rintro e w4 ⟨hb4, ql, cl, rfl, hvl, hql, hcl, _⟩
      have HB4 := Lib.hid (HB3.out.trans (hb4.mono HB3.out.size))
      have cv := conv_row (w := w4) N cr (HROW3.out.below hb4) HNN.out
      have HVL := Lib.hid hvl
      clear hb4 HLN hvl hql HROW3
      go_wp2_with fail
      refine (HRT.out w4 HB4.out).mono ?_
      rintro e w' ⟨rfl, rfl⟩
      go_wp2_with fail
      refine (HRT2.out w4 HB4.out).mono ?_
      rintro e w5 ⟨rfl, hd5⟩
      have HB5 := Lib.hid (HB4.out.trans ((hd5.below _).mono HB4.out.size))
      have HVL5 := Lib.hid (HVL.out.below (hd5.below _) (Nat.le_refl _))
      clear hd5 HVL HRT HRT2 cv
      rcases ways with ⟨he, hn0⟩ | ⟨he, hn1, m, rfl, hm, HM⟩
      · subst he
        subst hn0
        go_wp2_with fail
        go_ret
        exact ⟨rfl, HB5.out⟩
      · subst he
        subst hn1
        obtain ⟨M, hM1, hM2, hM3, hM4⟩ := HM.out
        subst hM1
        have HM2 := Lib.hid hM2
        have HM3 := Lib.hid hM3
        have HM4 := Lib.hid hM4
        clear HM hM2 hM3 hM4
        go_wp2_with fail
        go_loop [11, 78] (fun a i => ∃ k s : Nat, k ≤ len + 1 ∧ i = .int .i64 (k : Int) ∧ a = .int .i64 (s : Int) ∧ Hid (s = (M.take k).sum) ∧ s ≤ 32768) (fun _ i => len + 1 - (intOf i).toNat)
        case atStart => exact ⟨0, 0, by omega, rfl, rfl, Lib.hid (by simp), by omega⟩
        case round =>
          obtain ⟨k, s, hk, rfl, rfl, HS, hs⟩ := hrel
          by_cases hlt : k < len + 1
          · have hkM : k < M.length := by rw [HM2.out]; exact hlt
            obtain ⟨bl, ol, hq, _⟩ := HVL5.out.addr (by rw [ints_length, zl_length]; omega)
            subst hq
            have hc := HVL5.out.int k (by rw [zl_length]; exact hkM)
            rw [zl_get M k _ hkM] at hc
            have hsum := sum_take_succ M k hkM
            rw [← HS.out] at hsum
            have hle := sum_take_le M (k + 1)
            rw [hsum, HM3.out] at hle
            generalize M[k] = y at hc hsum hle
            have hdk : decide ((k : Int) < (len : Int) + 1) = true := by simp; omega
            have i1 : (0 : Int) ≤ (k : Int) := by omega
            have i2 : (k : Int) < (len : Int) + 1 := by omega
            have hwr : IntKind.i64.wrap ((s : Int) + (y : Int)) = ((s + y : Nat) : Int) := by rw [IntKind.wrap_i64]; omega
            obtain ⟨t, ht⟩ : ∃ t, t = s + y := ⟨_, rfl⟩
            rw [← ht] at hwr hsum hle
            have hst : (s : Int) + (y : Int) = (t : Int) := by omega
            have HST := Lib.hid hsum.symm
            have hyn : decide ((y : Int) < 0) = false := by simp
            by_cases hkl : k < len
            · have hkz : k < zs.length := by rw [HX.out]; exact hkl
              obtain ⟨b, off, hq, hbs⟩ := HR.out.addr (by rw [ints_length]; omega)
              subst hq
              have hcz0 := HR.out.int k hkz
              have hcz : w5.cell? ⟨b, off + k, none⟩ = some (.int .i64 zs[k]) := (HB5.out.cell (p := ⟨b, off + k, none⟩) hbs).trans hcz0
              rw [← HM4.out k hkz, hsum] at hcz
              have hdl : decide ((k : Int) < (len : Int)) = true := by simp; omega
              have i3 : (k : Int) < (len : Int) := by omega
              clear hcz0 hkz hsum ht hkM
              go_wp2_with fail
              go_round
              case rel => exact ⟨k + 1, t, by omega, by go_num, rfl, HST, by omega⟩
              case measure => simp [intOf]; omega
            · have hdl : decide (k < len) = false := by simp; omega
              clear hsum ht hkM
              go_wp2_with fail
              go_round
              case rel => exact ⟨k + 1, t, by omega, by go_num, rfl, HST, by omega⟩
              case measure => simp [intOf]; omega
          · have hke : k = len + 1 := by omega
            have hse : s = m := by
              have := HS.out
              rw [List.take_of_length_le (by rw [HM2.out]; omega), HM3.out] at this
              exact this
            subst hse
            have hdk : decide ((k : Int) < (len : Int) + 1) = false := by simp; omega
            clear hke
            go_wp2_with fail
            go_ret
            exact ⟨rfl, HB5.out⟩
end Go.Proofs.Ytklofifmmcegpaa.Rn

/- The walk of PackbitsAgain: it returns true for any two rows of bytes and any number, and nothing that was there is written. -/
import Derived.Test.YtcgoejijeeeanaaPbL
namespace Go.Proofs.Ytcgoejijeeeanaa.Pb
open Go.RowKit Go.Proofs.Ytcgoejijeeeanaa.Oct
set_option linter.unusedVariables false

/-- the place at which the packed bytes are cut -/
def spot (z : Int) (n : Nat) : Nat := (z % 18446744073709551616).toNat % n
theorem spot_lt (z : Int) (n : Nat) (h : 0 < n) : spot z n < n := Nat.mod_lt _ h
theorem spot_cast (z : Int) (n : Nat) : (IntKind.u64.wrap z).tmod (n : Int) = ((spot z n : Nat) : Int) := by
  unfold spot
  have h : 0 ≤ z % 18446744073709551616 := Int.emod_nonneg _ (by decide)
  rw [IntKind.wrap_u64, Int.tmod_eq_emod_of_nonneg h, Int.natCast_emod, Int.toNat_of_nonneg h]
theorem Pk.pos {out xs : List UInt8} (h : Pk out xs) (hx : 0 < xs.length) : 0 < out.length := by
  rcases Nat.eq_zero_or_pos out.length with h0 | h0
  · have e : out = [] := List.eq_nil_of_length_eq_zero h0
    subst e
    have := h.back []
    rw [List.nil_append, dec_cut (by simpa using hx) piece_nil] at this
    injection this with e1 e2
    injection e2 with e2 e3
    omega
  · exact h0
set_option maxHeartbeats 1000000 in
set_option maxRecDepth 100000 in
theorem again_walk (p : Option Addr) (len cap : Nat) (zs0 : List Int) (p2 : Option Addr) (len2 cap2 : Nat) (zs2 : List Int) (z : Int) (w : World)
    (hr0 : IsRow .u8 w p len cap zs0) (hr20 : IsRow .u8 w p2 len2 cap2 zs2) (hz0 : (Lit.int .i64 z).wf = true) :
    Calls Try.prog 5 #[.slice p len cap, .slice p2 len2 cap2, .int .i64 z] w fun e w' => e = .returned (.bool true) ∧ Below w.heap.size w w' := by
  obtain ⟨xs, hx, hr, hlc, hcm, hnil⟩ := hr0.row
  obtain ⟨ys, hy, hrY, hlc2, hcm2, hnil2⟩ := hr20.row
  obtain ⟨hzl, hzu⟩ := bounds_i64 hz0
  clear hr0 hr20 hz0
  by_cases hbig : 2000 < len ∨ 50 < len2
  · have hd1 : decide (2000 < (len : Int)) = true ∨ (decide (2000 < (len : Int)) = false ∧ decide (50 < (len2 : Int)) = true) := by
      by_cases h : 2000 < len
      · left; simp; omega
      · right; simp; omega
    unfold maxLen at hcm hcm2
    rcases hd1 with hd | ⟨hd, hd'⟩
    all_goals
      go_enter Try.func5, Try.ntmps5
      go_wp2_with fail
      refine (lives_any _).mono ?_
      rintro e w1 ⟨rfl, hb1⟩
      go_wp2_with fail
      refine (lives_any _).mono ?_
      rintro e w2 ⟨rfl, hb2⟩
      go_wp2_with fail
      go_ret
      exact ⟨rfl, hb1.trans (hb2.mono hb1.size)⟩
  · have hd : decide (2000 < (len : Int)) = false := by simp; omega
    have hd' : decide (50 < (len2 : Int)) = false := by simp; omega
    have HX := Lib.hid hx
    have HY := Lib.hid hy
    have HR := Lib.hid hr
    have HRY := Lib.hid hrY
    have HCM := Lib.hid hcm
    unfold maxLen at hcm hcm2
    clear hx hy hr hrY hcm
    go_enter Try.func5, Try.ntmps5
    go_wp2_with fail
    refine (lives_any _).mono ?_
    rintro e w1 ⟨rfl, hb1⟩
    have HB1 := Lib.hid hb1
    clear hb1
    go_wp2_with fail
    refine (encode_any _ _ _ xs _ (by exact HR.out.below HB1.out) HX.out hlc HCM.out (by omega)).mono ?_
    rintro e w2 ⟨v1, o1, rfl, hown1, hpk1, hsl1, hb2⟩
    have HB2 := Lib.hid (HB1.out.trans (hb2.mono HB1.out.size))
    have HP1 := Lib.hid hpk1
    have HPOS := Lib.hid (fun h => hpk1.pos (by rw [HX.out]; exact h))
    rw [HX.out] at hsl1
    obtain ⟨q1, c1, rfl, hq1, hoc1, hcm1, hrow1⟩ := own_shape hown1 rfl
    have HRW1 := Lib.hid hrow1
    have hown := World.ownsRow_made (base := w2.heap.size) (e := 5) (size := 1) w2 #[] 0 (Nat.le_refl _) (by simp [maxLen]) rfl
    have hbA : Below w2.heap.size w2 (w2.alloc (.cells #[] 5)) := (Below.refl _ w2).alloc (Nat.le_refl _) _
    have HRA := Lib.hid (hrow1.below hbA)
    have HBA := Lib.hid hbA
    have HCM1 := Lib.hid hcm1
    unfold maxLen at hcm1
    clear hown1 hpk1 hb2 hrow1 hbA HB1
    go_wp2_with (at_builtin; refine wpList_append_bytes rfl _ _ rfl w2.heap.size _ 0 [] rfl hown q1 o1.length c1 o1 rfl HRA.out rfl hq1 (by omega) (by simp) ?_)
    intro v5 w5 hown5 hgrow5 hv5
    have HB5 := Lib.hid (HBA.out.trans (grown_below hown hgrow5 HBA.out.size))
    have HO5 := Lib.hid hown5
    have HRTA := Lib.hid (HRY.out.below (HB2.out.trans (HB5.out.mono HB2.out.size)))
    have HZ5 := Lib.hid HB5.out.size
    obtain ⟨q5, c5, rfl, _, _, _, _⟩ := own_shape hown5 rfl
    clear hown hown5 hgrow5 hv5 HRA HBA
    go_wp2_with (at_builtin; refine wpList_append_bytes rfl _ _ rfl w2.heap.size _ o1.length o1 rfl HO5.out p2 len2 cap2 ys rfl HRTA.out HY.out hnil2 (by omega) HZ5.out ?_)
    intro v6 w6 hown6 hgrow6 hv6
    have hl6 : (o1 ++ ys).length = o1.length + len2 := by rw [List.length_append, HY.out]
    obtain ⟨q6, c6, rfl, _, hc6, hm6, hrow6⟩ := own_shape hown6 hl6
    have HB6 := Lib.hid (HB5.out.trans (grown_below HO5.out hgrow6 HZ5.out))
    have HBW6 := Lib.hid (HB2.out.trans (HB6.out.mono HB2.out.size))
    have HRW6 := Lib.hid hrow6
    have HL6 := Lib.hid hl6
    have HM6 := Lib.hid hm6
    have hdz : dec len [] 0 (o1 ++ ys) = (xs, o1.length, 0) := by
      have h := HP1.out.back ys
      rwa [HX.out] at h
    have HDZ := Lib.hid hdz
    clear hown6 hgrow6 hv6 hrow6 hl6 hm6 hdz HO5 HZ5 HRTA HB5
    go_wp2_with fail
    refine (decode_any _ _ _ len (o1 ++ ys) _ (by exact HRW6.out) HL6.out hc6 HM6.out (by omega) (by omega)).mono ?_
    rintro e w7 ⟨q7, c7, rfl, hrow7, _, hb7⟩
    rw [HDZ.out] at hrow7 ⊢
    have HB27 := Lib.hid (HB6.out.trans (hb7.mono HB6.out.size))
    have HB7 := Lib.hid (HB2.out.trans (HB27.out.mono HB2.out.size))
    have ca1 := conv_row xs.length c7 hrow7 rfl
    rw [HX.out] at ca1
    have ca2 := conv_row len cap (HR.out.below HB7.out) HX.out
    have HRX := Lib.hid (HRW1.out.below HB27.out)
    dsimp only
    rw [HX.out]
    clear hrow7 hb7 HDZ HRW6 HL6 HM6 HB6 HBW6 HRW1
    by_cases h0 : len = 0
    · have ho0 : o1.length = 0 := by omega
      have hl0 : ((len : Int) == 0) = true := by simp; omega
      rw [ho0] at *
      subst h0
      go_wp2_with fail
      go_ret
      exact ⟨rfl, HB7.out⟩
    · have hl0 : ((len : Int) == 0) = false := by simp; omega
      have hpos := HPOS.out (by omega)
      obtain ⟨g, off, hqe, _⟩ := HRX.out hpos
      subst hqe
      have hsp := spot_lt z o1.length hpos
      have hsc := spot_cast z o1.length
      obtain ⟨i, hi⟩ : ∃ i, i = spot z o1.length := ⟨_, rfl⟩
      rw [← hi] at hsp hsc
      have hcut := HP1.out.cut len [] 0 i (by simp [HX.out]) hsp
      have HCUT := Lib.hid hcut
      have HRT := Lib.hid (row_take HRX.out i)
      have HLT : Hid ((o1.take i).length = i) := Lib.hid (by rw [List.length_take]; omega)
      clear hcut hi HP1 HPOS HRX
      go_wp2_with fail
      refine (decode_any _ _ _ len (o1.take i) _ (by exact HRT.out) HLT.out (by omega) HCM1.out (by omega) (by omega)).mono ?_
      rintro e w8 ⟨q8, c8, rfl, _, _, hb8⟩
      rw [HCUT.out]
      have HB8 := Lib.hid (HB7.out.trans (hb8.mono HB7.out.size))
      dsimp only
      clear hb8 HCUT
      go_wp2_with fail
      go_ret
      exact ⟨rfl, HB8.out⟩
end Go.Proofs.Ytcgoejijeeeanaa.Pb

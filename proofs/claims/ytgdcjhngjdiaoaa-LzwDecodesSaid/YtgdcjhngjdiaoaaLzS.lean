
/- The walk of LzwDecodes: it returns true for any bytes, any number and either kind, and nothing that was there is written. -/
import Derived.Test.YtgdcjhngjdiaoaaLzZ
import Derived.Test.YtgdcjhngjdiaoaaLzV
namespace Go.Proofs.Ytgdcjhngjdiaoaa.Lz
open Go.RowKit Go.Proofs.Ytgdcjhngjdiaoaa.Oct Go.Proofs.Ytgdcjhngjdiaoaa.Bit
set_option linter.unusedVariables false
set_option linter.unusedSimpArgs false
set_option maxRecDepth 100000

set_option maxHeartbeats 2000000 in
theorem decodes_walk (p : Option Addr) (len cap : Nat) (zs0 : List Int) (z : Int) (old : Bool) (w : World) (hr0 : IsRow .u8 w p len cap zs0) (hz0 : (Lit.int .i64 z).wf = true) :
    Calls Try.prog 3 #[.slice p len cap, .int .i64 z, .bool old] w fun e w' => e = .returned (.bool true) ∧ Below w.heap.size w w' := by
  obtain ⟨xs, hx, hr, hlc, hcm, hnil⟩ := hr0.row
  obtain ⟨hzl, hzu⟩ := bounds_i64 hz0
  clear hr0 hz0
  by_cases hbig : 600 < len ∨ 20000 < z
  · have hd1 : decide (600 < (len : Int)) = true ∨ (decide (600 < (len : Int)) = false ∧ decide (20000 < z) = true) := by
      by_cases h : 600 < len
      · left; simp; omega
      · right; simp; omega
    unfold maxLen at hcm
    rcases hd1 with hd | ⟨hd, hd'⟩
    all_goals
      go_enter Try.func3, Try.ntmps3
      go_wp2_with fail
      refine (lives_any _).mono ?_
      rintro e w1 ⟨rfl, hb1⟩
      go_wp2_with fail
      refine (lives_any _).mono ?_
      rintro e w2 ⟨rfl, hb2⟩
      go_wp2_with fail
      go_ret
      exact ⟨rfl, hb1.trans (hb2.mono hb1.size)⟩
  · have hd : decide (600 < (len : Int)) = false := by simp; omega
    have hd' : decide (20000 < z) = false := by simp; omega
    have HX := Lib.hid hx
    unfold maxLen at hcm
    clear hx
    cases old
    all_goals
      go_enter Try.func3, Try.ntmps3
      go_wp2_with fail
      refine (lives_any _).mono ?_
      rintro e w1 ⟨rfl, hb1⟩
      have hz1 := hb1.size
      have hown := World.ownsRow_made (base := w1.heap.size) (e := 5) (size := 1) w1 #[] 0 (Nat.le_refl _) (by simp [maxLen]) rfl
      have hrA := (hr.below hb1).below ((Below.refl _ w1).alloc (Nat.le_refl _) (.cells #[] 5))
      go_wp2_with (at_builtin; refine wpList_append_bytes rfl _ _ rfl w1.heap.size _ 0 [] rfl hown p len cap xs rfl hrA HX.out hnil (by omega) (by simp) ?_)
      intro v2 w2 hown2 hgrow2 hv2
      obtain ⟨g2, c2, hv2', hgc2, hgm2, hgb2, hgl2, hrow2⟩ := own_form hown2 hv2
      subst hv2'
      have hb2 : Below w1.heap.size w1 w2 := ((Below.refl _ w1).alloc (Nat.le_refl _) _).grown hgrow2 (by simp) (fun k hk => by
        simp [Value.ownBlock] at hk; omega)
      have hbw2 : Below w.heap.size w w2 := hb1.trans (hb2.mono hz1)
      have HB2 := Lib.hid hbw2
      have HR2 := Lib.hid hrow2
      have HR := Lib.hid hr
      have hdc := decodeN_any _ len c2 xs z w2 hrow2 HX.out (fun h => by cases h) (by omega) (by omega)
      have HDC := Lib.hid hdc
      clear hown hrA hgrow2 hv2 hb2 hown2 hgm2 hrow2 hbw2 hr hb1 hcm hdc
      go_wp2_with fail
      refine HDC.out.mono ?_
      rintro e w3 ⟨hb3, q3, c3, rfl, hrow3, _⟩
      have HB3 := Lib.hid (HB2.out.trans (hb3.mono HB2.out.size))
      have HO3 := Lib.hid (HR2.out.below hb3)
    · have HRow3 := Lib.hid hrow3
      have HA3 := Lib.hid (HR.out.below HB3.out)
      have ca := conv_row len cap HA3.out HX.out
      have hrd := rdecode_any xs z false w3 (by rw [HX.out]; omega) (by omega)
      have HRD := Lib.hid hrd
      clear hrow3 hb3 hrd
      go_wp2_with fail
      refine HRD.out.mono ?_
      rintro e w4 ⟨rfl, hb4⟩
      have ca1 := conv_row _ c3 (HRow3.out.below hb4) rfl
      have ca2 := conv_row len cap (HA3.out.below hb4) HX.out
      have ca3 := conv_row len c2 (HO3.out.below hb4) HX.out
      have HB4 := Lib.hid (HB3.out.trans (hb4.mono HB3.out.size))
      generalize decR false (bitsOf false xs) z = R at *
      obtain ⟨o, k⟩ := R
      dsimp only at ca1 ⊢
      clear ca hb4
      go_wp2_with fail
      go_ret
      exact ⟨rfl, HB4.out⟩
    · have hdo := decodeO_any _ len c2 xs z w3 HO3.out HX.out (fun h => by cases h) (by omega) (by omega)
      have HDO := Lib.hid hdo
      clear hrow3 hb3 hdo
      go_wp2_with fail
      refine HDO.out.mono ?_
      rintro e w5 ⟨hb5, q5, c5, rfl, hrow5, _⟩
      have HB5 := Lib.hid (HB3.out.trans (hb5.mono HB3.out.size))
      have HRow5 := Lib.hid hrow5
      have HO5 := Lib.hid (HO3.out.below hb5)
      have HA5 := Lib.hid (HR.out.below HB5.out)
      have ca := conv_row len cap HA5.out HX.out
      have hrd := rdecode_any xs z true w5 (by rw [HX.out]; omega) (by omega)
      have HRD := Lib.hid hrd
      clear hrow5 hb5 hrd
      go_wp2_with fail
      refine HRD.out.mono ?_
      rintro e w4 ⟨rfl, hb4⟩
      have ca1 := conv_row _ c5 (HRow5.out.below hb4) rfl
      have ca2 := conv_row len cap (HA5.out.below hb4) HX.out
      have ca3 := conv_row len c2 (HO5.out.below hb4) HX.out
      have HB4 := Lib.hid (HB5.out.trans (hb4.mono HB5.out.size))
      generalize decR true (bitsOf true xs) z = R at *
      obtain ⟨o, k⟩ := R
      dsimp only at ca1 ⊢
      clear ca hb4
      go_wp2_with fail
      go_ret
      exact ⟨rfl, HB4.out⟩
end Go.Proofs.Ytgdcjhngjdiaoaa.Lz

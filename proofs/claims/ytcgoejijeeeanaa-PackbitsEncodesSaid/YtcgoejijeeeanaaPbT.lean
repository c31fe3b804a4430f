/- The walk of PackbitsEncodes: it returns true for any bytes, and nothing that was there is written. -/
import Derived.Test.YtcgoejijeeeanaaPbL
namespace Go.Proofs.Ytcgoejijeeeanaa.Pb
open Go.RowKit Go.Proofs.Ytcgoejijeeeanaa.Oct
set_option linter.unusedVariables false

set_option maxHeartbeats 1000000 in
set_option maxRecDepth 100000 in
theorem encodes_walk (p : Option Addr) (len cap : Nat) (zs0 : List Int) (w : World) (hr0 : IsRow .u8 w p len cap zs0) :
    Calls Try.prog 4 #[.slice p len cap] w fun e w' => e = .returned (.bool true) ∧ Below w.heap.size w w' := by
  obtain ⟨xs, hx, hr, hlc, hcm, hnil⟩ := hr0.row
  clear hr0
  by_cases hbig : 3000 < len
  · have hd : decide (3000 < (len : Int)) = true := by simp; omega
    unfold maxLen at hcm
    go_enter Try.func4, Try.ntmps4
    go_wp2_with fail
    refine (lives_any _).mono ?_
    rintro e w1 ⟨rfl, hb1⟩
    go_wp2_with fail
    refine (lives_any _).mono ?_
    rintro e w2 ⟨rfl, hb2⟩
    go_wp2_with fail
    go_ret
    exact ⟨rfl, hb1.trans (hb2.mono hb1.size)⟩
  · have hd : decide (3000 < (len : Int)) = false := by simp; omega
    have HX := Lib.hid hx
    unfold maxLen at hcm
    clear hx
    go_enter Try.func4, Try.ntmps4
    go_wp2_with fail
    refine (lives_any _).mono ?_
    rintro e w1 ⟨rfl, hb1⟩
    have hz1 := hb1.size
    have hown := World.ownsRow_made (base := w1.heap.size) (e := 5) (size := 1) w1 #[] 0 (Nat.le_refl _) (by simp [maxLen]) rfl
    have hrA := (hr.below hb1).below ((Below.refl _ w1).alloc (Nat.le_refl _) (.cells #[] 5))
    go_wp2_with (at_builtin; refine wpList_append_bytes rfl _ _ rfl w1.heap.size _ 0 [] rfl hown p len cap xs rfl hrA HX.out hnil (by omega) (by simp) ?_)
    intro v2 w2 hown2 hgrow2 hv2
    obtain ⟨g2, c2, hv2', hgc2, hgm2, hgb2, hgl2, hrow2⟩ := own_form hown2 hv2
    subst hv2'
    have hb2 : Below w1.heap.size w1 w2 := ((Below.refl _ w1).alloc (Nat.le_refl _) _).grown hgrow2 (by simp) (fun k hk => by
      simp [Value.ownBlock] at hk; omega)
    have hbw2 : Below w.heap.size w w2 := hb1.trans (hb2.mono hz1)
    have HB2 := Lib.hid hbw2
    have HR2 := Lib.hid hrow2
    have HGM := Lib.hid hgm2
    have HR := Lib.hid hr
    clear hown hrA hgrow2 hv2 hb2 hown2 hgm2 hrow2 hbw2 hr hb1 hcm
    go_wp2_with fail
    refine (encode_any _ _ _ xs _ (by exact HR2.out) HX.out hgc2 HGM.out (by omega)).mono ?_
    rintro e w3 ⟨v, out, rfl, hown3, hpk, hsl, hb3⟩
    obtain ⟨q, c, rfl, _, _, _, hrow3⟩ := own_shape hown3 rfl
    have HD := Lib.hid (hpk.back [])
    rw [List.append_nil, HX.out] at HD
    rw [HX.out] at hsl
    have hRow3 := Lib.hid hrow3
    have HB3 := Lib.hid (HB2.out.trans (hb3.mono HB2.out.size))
    have HO3 := Lib.hid (HR2.out.below hb3)
    have HA3 := Lib.hid (HR.out.below HB3.out)
    have ca := conv_row _ c hRow3.out rfl
    clear hrow3 hb3 hown3 hpk HR2 HR HB2
    go_wp2_with fail
    refine (rdecode_any out len _ (by omega) (by omega)).mono ?_
    rintro e w4 ⟨rfl, nq, rfl⟩
    rw [HD.out]
    have ca2 := conv_row (w := w3.drewN nq) len cap (HA3.out.below ((show Drawn w3 (w3.drewN nq) from ⟨nq, rfl⟩).below _)) HX.out
    have ca3 := conv_row (w := w3.drewN nq) len c2 (HO3.out.below ((show Drawn w3 (w3.drewN nq) from ⟨nq, rfl⟩).below _)) HX.out
    have HDB := Lib.hid ((show Drawn w3 (w3.drewN nq) from ⟨nq, rfl⟩).below w.heap.size)
    have hfin : decide ((out.length : Int) ≤ (len : Int) + ((len : Int) + 127) / 128) = true := by simp; omega
    unfold decV
    dsimp only
    clear ca hRow3 HO3 HA3 HD
    go_wp2_with fail
    go_ret
    exact ⟨rfl, HB3.out.trans HDB.out⟩
end Go.Proofs.Ytcgoejijeeeanaa.Pb

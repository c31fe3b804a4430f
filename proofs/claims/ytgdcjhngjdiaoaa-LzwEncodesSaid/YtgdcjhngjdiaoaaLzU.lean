
/- The walk of LzwEncodes: it returns true for any bytes, and nothing that was there is written. -/
import Derived.Test.YtgdcjhngjdiaoaaLzK
import Derived.Test.YtgdcjhngjdiaoaaLzB
import Derived.Test.YtgdcjhngjdiaoaaLzV
namespace Go.Proofs.Ytgdcjhngjdiaoaa.Lz
open Go.RowKit Go.Proofs.Ytgdcjhngjdiaoaa.Oct Go.Proofs.Ytgdcjhngjdiaoaa.Bit
set_option linter.unusedVariables false
set_option linter.unusedSimpArgs false
set_option maxRecDepth 100000

theorem coded_all_any {bits : List Bool} {xs : List UInt8} (h : Coded bits xs) (w : World) (hb : bits.length ≤ 70000) (hx : xs.length ≤ 2000) :
    Calls Try.prog 12 #[.string (bs (packB false bits))] w (AllP w xs) := by
  obtain ⟨L, s, hT, hbits, L', hL⟩ := h
  have hpl := packB_length false bits
  have hbo := bitsOf_packB false bits
  refine rall_any (packB false bits) (L ++ (wordE false 257 (widN (258 + s.tab.length) false) ++ zs (8 * ((bits.length + 7) / 8) - bits.length))) L L' s (8 * ((bits.length + 7) / 8) - bits.length) xs w (by omega) ?_ hT hL rfl (by omega) hx
  rw [hbo, ← List.append_assoc, ← hbits]
set_option maxHeartbeats 2000000 in
theorem encodes_walk (p : Option Addr) (len cap : Nat) (zs0 : List Int) (w : World) (hr0 : IsRow .u8 w p len cap zs0) :
    Calls Try.prog 4 #[.slice p len cap] w fun e w' => e = .returned (.bool true) ∧ Below w.heap.size w w' := by
  obtain ⟨xs, hx, hr, hlc, hcm, hnil⟩ := hr0.row
  clear hr0
  by_cases hbig : 1200 < len
  · have hd : decide (1200 < (len : Int)) = true := by simp; omega
    unfold maxLen at hcm
    go_enter Try.func4, Try.ntmps4
    go_wp2_with fail
    refine (lives_any _).mono ?_
    rintro e w1 ⟨rfl, hb1⟩
    go_wp2_with fail
    refine (lives_any _).mono ?_
    rintro e w2 ⟨rfl, hb2⟩
    go_wp2_with fail
    go_ret
    exact ⟨rfl, hb1.trans (hb2.mono hb1.size)⟩
  · have hd : decide (1200 < (len : Int)) = false := by simp; omega
    have HX := Lib.hid hx
    unfold maxLen at hcm
    clear hx
    go_enter Try.func4, Try.ntmps4
    go_wp2_with fail
    refine (lives_any _).mono ?_
    rintro e w1 ⟨rfl, hb1⟩
    have hz1 := hb1.size
    have hown := World.ownsRow_made (base := w1.heap.size) (e := 5) (size := 1) w1 #[] 0 (Nat.le_refl _) (by simp [maxLen]) rfl
    have hrA := (hr.below hb1).below ((Below.refl _ w1).alloc (Nat.le_refl _) (.cells #[] 5))
    go_wp2_with (at_builtin; refine wpList_append_bytes rfl _ _ rfl w1.heap.size _ 0 [] rfl hown p len cap xs rfl hrA HX.out hnil (by omega) (by simp) ?_)
    intro v2 w2 hown2 hgrow2 hv2
    obtain ⟨g2, c2, hv2', hgc2, hgm2, hgb2, hgl2, hrow2⟩ := own_form hown2 hv2
    subst hv2'
    have hb2 : Below w1.heap.size w1 w2 := ((Below.refl _ w1).alloc (Nat.le_refl _) _).grown hgrow2 (by simp) (fun k hk => by
      simp [Value.ownBlock] at hk; omega)
    have HB2 := Lib.hid (hb1.trans (hb2.mono hz1))
    have HR2 := Lib.hid hrow2
    have HR := Lib.hid hr
    have henc := encode_any _ len c2 xs w2 hrow2 HX.out hgc2 hgm2 (fun h => by cases h) (by omega)
    have HENC := Lib.hid henc
    clear hown hrA hgrow2 hv2 hb2 hown2 hgm2 hrow2 hr hb1 hcm henc
    go_wp2_with fail
    refine HENC.out.mono ?_
    rintro e w3 ⟨bits, q1, c1, rfl, hrow1, hoc1, hcm1, hq1, hb3, hcd, hbl⟩
    have ca := conv_row _ c1 hrow1 rfl
    rw [HX.out] at hbl
    have hall := coded_all_any hcd w3 (by omega) (by rw [HX.out]; omega)
    have HALL := Lib.hid hall
    have HB3 := Lib.hid (HB2.out.trans (hb3.mono HB2.out.size))
    have HO3 := Lib.hid (HR2.out.below hb3)
    clear hall hrow1 hoc1 hcm1 hq1 hb3 hcd hbl
    generalize packB false bits = o1 at *
    go_wp2_with fail
    refine HALL.out.mono ?_
    rintro e w4 ⟨hb4, m, hm, rfl⟩
    have HB4 := Lib.hid (HB3.out.trans (hb4.mono HB3.out.size))
    have ca1 := conv_row len cap (HR.out.below HB4.out) HX.out
    have ca2 := conv_row len c2 (HO3.out.below hb4) HX.out
    have dm : decide ((m : Int) ≤ 4094) = true := by simp; omega
    clear ca hb4
    go_wp2_with fail
    go_ret
    exact ⟨rfl, HB4.out⟩
end Go.Proofs.Ytgdcjhngjdiaoaa.Lz

/- The walk of AdlerThree: it returns true for any three rows of bytes, and nothing that was there is written. -/
import Derived.Test.YtoeaillhklephaaAdlA
namespace Go.Proofs.Ytoeaillhklephaa.Adl
open Go.RowKit Go.Proofs.Ytoeaillhklephaa.Oct
set_option linter.unusedVariables false

theorem row_nil (w : World) : Row w none [] := fun h => absurd h (by simp)
set_option maxHeartbeats 1000000 in
set_option maxRecDepth 100000 in
theorem three_walk (p : Option Addr) (len cap : Nat) (zs0 : List Int) (p2 : Option Addr) (len2 cap2 : Nat) (zs2 : List Int) (p3 : Option Addr) (len3 cap3 : Nat) (zs3 : List Int) (w : World)
    (hr0 : IsRow .u8 w p len cap zs0) (hm : cap ≤ 140737488351232) (hr20 : IsRow .u8 w p2 len2 cap2 zs2) (hm2 : cap2 ≤ 140737488351232) (hr30 : IsRow .u8 w p3 len3 cap3 zs3) (hm3 : cap3 ≤ 140737488351232) :
    Calls Try.prog 6 #[.slice p len cap, .slice p2 len2 cap2, .slice p3 len3 cap3] w fun e w' => e = .returned (.bool true) ∧ Below w.heap.size w w' := by
  obtain ⟨xs, hx, hr, hlc, hcm, hnil⟩ := hr0.row
  obtain ⟨ys, hy, hrY, hlc2, hcm2, hnil2⟩ := hr20.row
  obtain ⟨zs, hz, hrZ, hlc3, hcm3, hnil3⟩ := hr30.row
  clear hr0 hr20 hr30
  by_cases hbig : 3000 < len + len2 + len3
  · have hd : decide (3000 < (len : Int) + (len2 : Int) + (len3 : Int)) = true := by simp; omega
    go_enter Try.func6, Try.ntmps6
    go_wp2_with fail
    refine (lives_any _).mono ?_
    rintro e w1 ⟨rfl, hb1⟩
    go_wp2_with fail
    refine (lives_any _).mono ?_
    rintro e w2 ⟨rfl, hb2⟩
    go_wp2_with fail
    go_ret
    exact ⟨rfl, hb1.trans (hb2.mono hb1.size)⟩
  · have hd : decide (3000 < (len : Int) + (len2 : Int) + (len3 : Int)) = false := by simp; omega
    have HX := Lib.hid hx
    have HY := Lib.hid hy
    have HZ := Lib.hid hz
    clear hx hy hz
    have hml : ∀ n : Nat, n ≤ 8000 → n ≤ maxLen := fun n h => by unfold maxLen; omega
    have hlX : sumN xs < 4294967296 := updN_lt _ _
    have hlY : sumN ys < 4294967296 := updN_lt _ _
    have hlZ : sumN zs < 4294967296 := updN_lt _ _
    have hl0 : sumN [] < 4294967296 := updN_lt _ _
    have hlXY : sumN (xs ++ ys) < 4294967296 := updN_lt _ _
    have hlYZ : sumN (ys ++ zs) < 4294967296 := updN_lt _ _
    go_enter Try.func6, Try.ntmps6
    go_wp2_with fail
    refine (lives_any _).mono ?_
    rintro e w1 ⟨rfl, hb1⟩
    have hz1 := hb1.size
    have hA1 := hr.below hb1
    have hB1 := hrY.below hb1
    have hC1 := hrZ.below hb1
    go_wp2_with fail
    refine (sum_any _ _ _ xs _ (by exact hA1) HX.out (hml _ (by omega))).mono ?_
    rintro e w' ⟨rfl, rfl⟩
    go_wp2_with fail
    refine (sum_any _ _ _ ys _ (by exact hB1) HY.out (hml _ (by omega))).mono ?_
    rintro e w' ⟨rfl, rfl⟩
    go_wp2_with fail
    refine (sum_any _ _ _ zs _ (by exact hC1) HZ.out (hml _ (by omega))).mono ?_
    rintro e w' ⟨rfl, rfl⟩
    have hown := World.ownsRow_made (base := w1.heap.size) (e := 5) (size := 1) w1 #[] 0 (Nat.le_refl _) (by simp [maxLen]) rfl
    have hrA := hA1.below ((Below.refl _ w1).alloc (Nat.le_refl _) (.cells #[] 5))
    go_wp2_with (at_builtin; refine wpList_append_bytes rfl _ _ rfl w1.heap.size _ 0 [] rfl hown p len cap xs rfl hrA HX.out hnil (by omega) (by simp) ?_)
    intro v2 w2 hown2 hgrow2 hv2
    obtain ⟨g2, c2, hv2', hgc2, hgm2, hgb2, hgl2, hrow2⟩ := own_form hown2 hv2
    subst hv2'
    have hb2 : Below w1.heap.size w1 w2 := ((Below.refl _ w1).alloc (Nat.le_refl _) _).grown hgrow2 (by simp) (fun k hk => by
      simp [Value.ownBlock] at hk; omega)
    have hbw2 : Below w.heap.size w w2 := hb1.trans (hb2.mono hz1)
    have hz2 := hb2.size
    have hrB := hrY.below hbw2
    clear hown hrA hgrow2 hv2 hrow2 hb2
    go_wp2_with (at_builtin; refine wpList_append_bytes rfl _ _ rfl w1.heap.size _ _ _ rfl hown2 p2 len2 cap2 ys rfl hrB HY.out hnil2 (by omega) (by omega) ?_)
    intro v3 w3 hown3 hgrow3 hv3
    obtain ⟨g3, c3, hv3', hgc3, hgm3, hgb3, hgl3, hrow3⟩ := own_form hown3 hv3
    subst hv3'
    have hb3 : Below w1.heap.size w2 w3 := (Below.refl _ w2).grown hgrow3 hz2 (fun k hk => by
      simp [Value.ownBlock] at hk; omega)
    have hbw3 : Below w.heap.size w w3 := hbw2.trans (hb3.mono hz1)
    have hz3 := hb3.size
    have hrC := hrZ.below hbw3
    clear hown2 hgrow3 hv3 hrB hb3 hrow3
    go_wp2_with (at_builtin; refine wpList_append_bytes rfl _ _ rfl w1.heap.size _ _ _ rfl hown3 p3 len3 cap3 zs rfl hrC HZ.out hnil3 (by omega) (by omega) ?_)
    intro v4 w4 hown4 hgrow4 hv4
    obtain ⟨g4, c4, hv4', hgc4, hgm4, hgb4, hgl4, hrow4⟩ := own_form hown4 hv4
    subst hv4'
    have hb4 : Below w1.heap.size w3 w4 := (Below.refl _ w3).grown hgrow4 (by omega) (fun k hk => by
      simp [Value.ownBlock] at hk; omega)
    have hbw4 : Below w.heap.size w w4 := hbw3.trans (hb4.mono hz1)
    have hlen : (xs ++ ys ++ zs).length = len + len2 + len3 := by rw [List.length_append, List.length_append, HX.out, HY.out, HZ.out]
    clear hown3 hown4 hgrow4 hv4 hrC hb4
    have hB := hrY.below hbw4
    have hC := hrZ.below hbw4
    have hj1 := join_sum xs ys
    have hj2 := join_sum (xs ++ ys) zs
    have hj3 := join_sum ys zs
    have hj4 := join_sum xs (ys ++ zs)
    have hj5 := join_sum xs []
    have hu1 := upd_sum xs ys
    have hu2 := upd_sum (xs ++ ys) zs
    rw [HY.out] at hj1
    rw [HZ.out] at hj2 hj3
    rw [List.length_append, HY.out, HZ.out, ← List.append_assoc] at hj4
    rw [List.append_nil] at hj5
    have HJ1 := Lib.hid hj1
    have HJ2 := Lib.hid hj2
    have HJ3 := Lib.hid hj3
    have HJ4 := Lib.hid hj4
    have HJ5 := Lib.hid hj5
    have HU1 := Lib.hid hu1
    have HU2 := Lib.hid hu2
    clear hj1 hj2 hj3 hj4 hj5 hu1 hu2
    go_wp2_with fail
    refine (sum_any _ _ _ (xs ++ ys ++ zs) _ (by rw [List.append_assoc]; exact hrow4) hlen (hml _ (by omega))).mono ?_
    rintro e w' ⟨rfl, rfl⟩
    go_wp2_with fail
    refine (join_any _ _ _ _ hlX hlY (by omega)).mono ?_
    rintro e w' ⟨rfl, rfl⟩
    rw [HJ1.out]
    go_wp2_with fail
    refine (join_any _ _ _ _ hlXY hlZ (by omega)).mono ?_
    rintro e w' ⟨rfl, rfl⟩
    rw [HJ2.out]
    go_wp2_with fail
    refine (join_any _ _ _ _ hlY hlZ (by omega)).mono ?_
    rintro e w' ⟨rfl, rfl⟩
    rw [HJ3.out]
    go_wp2_with fail
    rw [← Int.natCast_add]
    refine (join_any _ _ _ _ hlX hlYZ (by omega)).mono ?_
    rintro e w' ⟨rfl, rfl⟩
    rw [HJ4.out]
    go_wp2_with fail
    refine (sum_any _ 0 0 [] _ (row_nil _) rfl (hml _ (by omega))).mono ?_
    rintro e w' ⟨rfl, rfl⟩
    go_wp2_with fail
    refine (join_any _ _ 0 _ hlX hl0 (by omega)).mono ?_
    rintro e w' ⟨rfl, rfl⟩
    rw [show joinN (sumN xs) (sumN []) 0 = sumN xs from HJ5.out]
    go_wp2_with fail
    refine (update_any _ _ _ _ ys _ hlX (by exact hB) HY.out (hml _ (by omega))).mono ?_
    rintro e w' ⟨rfl, rfl⟩
    rw [HU1.out]
    go_wp2_with fail
    refine (update_any _ _ _ _ zs _ hlXY (by exact hC) HZ.out (hml _ (by omega))).mono ?_
    rintro e w' ⟨rfl, rfl⟩
    rw [HU2.out]
    go_wp2_with fail
    go_ret
    exact ⟨rfl, hbw4⟩
end Go.Proofs.Ytoeaillhklephaa.Adl

/- The walk of AdlerJoins: it returns true for any two rows of bytes, and nothing that was there is written. -/
import Derived.Test.YtoeaillhklephaaAdlA
namespace Go.Proofs.Ytoeaillhklephaa.Adl
open Go.RowKit Go.Proofs.Ytoeaillhklephaa.Oct
set_option linter.unusedVariables false

set_option maxHeartbeats 1000000 in
set_option maxRecDepth 100000 in
theorem joins_walk (p : Option Addr) (len cap : Nat) (zs0 : List Int) (p2 : Option Addr) (len2 cap2 : Nat) (zs2 : List Int) (w : World)
    (hr0 : IsRow .u8 w p len cap zs0) (hm : cap ≤ 140737488351232) (hr20 : IsRow .u8 w p2 len2 cap2 zs2) (hm2 : cap2 ≤ 140737488351232) :
    Calls Try.prog 4 #[.slice p len cap, .slice p2 len2 cap2] w fun e w' => e = .returned (.bool true) ∧ Below w.heap.size w w' := by
  obtain ⟨xs, hx, hr, hlc, hcm, hnil⟩ := hr0.row
  obtain ⟨ys, hy, hrY, hlc2, hcm2, hnil2⟩ := hr20.row
  clear hr0 hr20
  by_cases hbig : 8000 < len + len2
  · have hd : decide (8000 < (len : Int) + (len2 : Int)) = true := by simp; omega
    go_enter Try.func4, Try.ntmps4
    go_wp2_with fail
    refine (lives_any _).mono ?_
    rintro e w1 ⟨rfl, hb1⟩
    go_wp2_with fail
    refine (lives_any _).mono ?_
    rintro e w2 ⟨rfl, hb2⟩
    go_wp2_with fail
    go_ret
    exact ⟨rfl, hb1.trans (hb2.mono hb1.size)⟩
  · have hd : decide (8000 < (len : Int) + (len2 : Int)) = false := by simp; omega
    have HX := Lib.hid hx
    have HY := Lib.hid hy
    clear hx hy
    have hml : ∀ n : Nat, n ≤ 8000 → n ≤ maxLen := fun n h => by unfold maxLen; omega
    go_enter Try.func4, Try.ntmps4
    go_wp2_with fail
    refine (lives_any _).mono ?_
    rintro e w1 ⟨rfl, hb1⟩
    have hz1 := hb1.size
    have hown := World.ownsRow_made (base := w1.heap.size) (e := 5) (size := 1) w1 #[] 0 (Nat.le_refl _) (by simp [maxLen]) rfl
    have hrA := (hr.below hb1).below ((Below.refl _ w1).alloc (Nat.le_refl _) (.cells #[] 5))
    go_wp2_with (at_builtin; refine wpList_append_bytes rfl _ _ rfl w1.heap.size _ 0 [] rfl hown p len cap xs rfl hrA HX.out hnil (by omega) (by simp) ?_)
    intro v2 w2 hown2 hgrow2 hv2
    obtain ⟨g2, c2, hv2', hgc2, hgm2, hgb2, hgl2, hrow2⟩ := own_form hown2 hv2
    subst hv2'
    have hb2 : Below w1.heap.size w1 w2 := ((Below.refl _ w1).alloc (Nat.le_refl _) _).grown hgrow2 (by simp) (fun k hk => by
      simp [Value.ownBlock] at hk; omega)
    have hbw2 : Below w.heap.size w w2 := hb1.trans (hb2.mono hz1)
    have hz2 := hb2.size
    have hrB := hrY.below hbw2
    clear hown hrA hgrow2 hv2 hrow2 hb2
    go_wp2_with (at_builtin; refine wpList_append_bytes rfl _ _ rfl w1.heap.size _ _ _ rfl hown2 p2 len2 cap2 ys rfl hrB HY.out hnil2 (by omega) (by omega) ?_)
    intro v3 w3 hown3 hgrow3 hv3
    obtain ⟨g3, c3, hv3', hgc3, hgm3, hgb3, hgl3, hrow3⟩ := own_form hown3 hv3
    subst hv3'
    have hb3 : Below w1.heap.size w2 w3 := (Below.refl _ w2).grown hgrow3 hz2 (fun k hk => by
      simp [Value.ownBlock] at hk; omega)
    have hbw3 : Below w.heap.size w w3 := hbw2.trans (hb3.mono hz1)
    have hlen : (xs ++ ys).length = len + len2 := by rw [List.length_append, HX.out, HY.out]
    clear hown2 hown3 hgrow3 hv3 hrB hb3
    have hA := hr.below hbw3
    have hB := hrY.below hbw3
    have hj := join_sum xs ys
    have hu := upd_sum xs ys
    rw [HY.out] at hj
    have HJ := Lib.hid hj
    have HU := Lib.hid hu
    have hlX : sumN xs < 4294967296 := updN_lt _ _
    have hlY : sumN ys < 4294967296 := updN_lt _ _
    clear hj hu
    go_wp2_with fail
    refine (sum_any _ _ _ (xs ++ ys) _ (by exact hrow3) hlen (hml _ (by omega))).mono ?_
    rintro e w' ⟨rfl, rfl⟩
    go_wp2_with fail
    refine (sum_any _ _ _ xs _ (by exact hA) HX.out (hml _ (by omega))).mono ?_
    rintro e w' ⟨rfl, rfl⟩
    go_wp2_with fail
    refine (update_any _ _ _ _ ys _ hlX (by exact hB) HY.out (hml _ (by omega))).mono ?_
    rintro e w' ⟨rfl, rfl⟩
    rw [HU.out]
    go_wp2_with fail
    refine (sum_any _ _ _ xs _ (by exact hA) HX.out (hml _ (by omega))).mono ?_
    rintro e w' ⟨rfl, rfl⟩
    go_wp2_with fail
    refine (sum_any _ _ _ ys _ (by exact hB) HY.out (hml _ (by omega))).mono ?_
    rintro e w' ⟨rfl, rfl⟩
    go_wp2_with fail
    refine (join_any _ _ _ _ hlX hlY (by omega)).mono ?_
    rintro e w' ⟨rfl, rfl⟩
    rw [HJ.out]
    go_wp2_with fail
    go_ret
    exact ⟨rfl, hbw3⟩
end Go.Proofs.Ytoeaillhklephaa.Adl

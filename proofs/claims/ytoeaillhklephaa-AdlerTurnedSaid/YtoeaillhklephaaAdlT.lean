/- The walk of AdlerTurned: it returns true for any bytes, any place and any byte, and nothing that was there is written. -/
import Derived.Test.YtoeaillhklephaaAdlB
namespace Go.Proofs.Ytoeaillhklephaa.Adl
open Go.RowKit Go.Proofs.Ytoeaillhklephaa.Oct
set_option linter.unusedVariables false

set_option maxHeartbeats 200000 in
set_option maxRecDepth 100000 in
theorem turned_walk (p : Option Addr) (len cap : Nat) (zs0 : List Int) (z : Int) (b0 : Int) (w : World) (hr0 : IsRow .u8 w p len cap zs0) (hz0 : (Lit.int .i64 z).wf = true) (hb0 : (Lit.int .u8 b0).wf = true) :
    Calls Try.prog 5 #[.slice p len cap, .int .i64 z, .int .u8 b0] w fun e w' => e = .returned (.bool true) ∧ Below w.heap.size w w' := by
  obtain ⟨xs, hx, hr, hlc, hcm, hnil⟩ := hr0.row
  obtain ⟨hbl, hbu⟩ := bounds_u8 hb0
  obtain ⟨by_, rfl⟩ : ∃ c : UInt8, b0 = (c.toNat : Int) := ⟨UInt8.ofNat b0.toNat, by simp; omega⟩
  obtain ⟨hzl, hzu⟩ := bounds_i64 hz0
  clear hr0 hb0 hz0
  have hcm' := hcm
  unfold maxLen at hcm
  by_cases hbig : 8000 < len ∨ len = 0 ∨ by_ = 0
  · have hd1 : decide (8000 < (len : Int)) = true ∨ (decide (8000 < (len : Int)) = false ∧ ((len : Int) == 0) = true) ∨ (decide (8000 < (len : Int)) = false ∧ ((len : Int) == 0) = false ∧ ((by_.toNat : Int) == 0) = true) := by
      by_cases h : 8000 < len
      · left; simp; omega
      · right
        by_cases h0 : len = 0
        · left; simp; omega
        · right
          have : by_ = 0 := by rcases hbig with h' | h' | h' <;> first | exact h' | omega
          subst this
          simp; omega
    rcases hd1 with hd | ⟨hd, hd'⟩ | ⟨hd, hd', hd''⟩
    all_goals
      go_enter Try.func5, Try.ntmps5
      go_wp2_with fail
      refine (lives_any _).mono ?_
      rintro e w1 ⟨rfl, hb1⟩
      go_wp2_with fail
      refine (lives_any _).mono ?_
      rintro e w2 ⟨rfl, hb2⟩
      go_wp2_with fail
      go_ret
      exact ⟨rfl, hb1.trans (hb2.mono hb1.size)⟩
  · have hd : decide (8000 < (len : Int)) = false := by simp; omega
    have hl0 : 0 < len := by omega
    have hd' : ((len : Int) == 0) = false := by simp; omega
    have hby : by_ ≠ 0 := fun h => hbig (.inr (.inr h))
    have hd'' : ((by_.toNat : Int) == 0) = false := by
      simp
      exact fun h => hby (UInt8.toNat_inj.1 (by simpa using h))
    have HX := Lib.hid hx
    have HBY := Lib.hid hby
    clear hx hby
    have hml : ∀ n : Nat, n ≤ 8000 → n ≤ maxLen := fun n h => by unfold maxLen; omega
    go_enter Try.func5, Try.ntmps5
    go_wp2_with fail
    refine (lives_any _).mono ?_
    rintro e w1 ⟨rfl, hb1⟩
    have hz1 := hb1.size
    have hown := World.ownsRow_made (base := w1.heap.size) (e := 5) (size := 1) w1 #[] 0 (Nat.le_refl _) (by simp [maxLen]) rfl
    have hrA := (hr.below hb1).below ((Below.refl _ w1).alloc (Nat.le_refl _) (.cells #[] 5))
    go_wp2_with (at_builtin; refine wpList_append_bytes rfl _ _ rfl w1.heap.size _ 0 [] rfl hown p len cap xs rfl hrA HX.out hnil (by omega) (by simp) ?_)
    intro v2 w2 hown2 hgrow2 hv2
    obtain ⟨g, c2, hv2', hgc2, hgm2, hgb2, hgl2, hB2⟩ := Beg.of hown2 HX.out hv2
    subst hv2'
    have hb2 : Below w1.heap.size w1 w2 := ((Below.refl _ w1).alloc (Nat.le_refl _) _).grown hgrow2 (by simp) (fun k hk => by
      simp [Value.ownBlock] at hk; omega)
    have hbw2 : Below w.heap.size w w2 := hb1.trans (hb2.mono hz1)
    have hz2 := hb2.size
    clear hown hrA hgrow2 hv2 hown2 hb2
    have hsp := spot_lt z len hl0
    have hsc := spot_cast z len
    have hix : spot z len < xs.length := by rw [HX.out]; exact hsp
    obtain ⟨i, hi⟩ : ∃ i, i = spot z len := ⟨_, rfl⟩
    rw [← hi] at hsp hsc hix
    have hcell := hB2.get _ hix
    have hfz := hB2.frozen i
    have hbx : xs[i].toNat < 256 := xs[i].toNat_lt
    have hne := sum_set_ne xs i hix (xs[i] ^^^ by_) (xor_ne _ _ HBY.out)
    generalize xs[i] = x at hcell hbx hne
    have hxor : bits .xor .u8 (x.toNat : Int) (by_.toNat : Int) = ((x ^^^ by_).toNat : Int) := by
      rw [u8_xor_nat _ _ hbx (by omega), UInt8.toNat_xor]
    have hB3 := hB2.put i (x ^^^ by_)
    have hb3 : Below w1.heap.size w2 (w2.setCell ⟨g, i, none⟩ (.int .u8 ((x ^^^ by_).toNat : Int))) := (Below.refl _ w2).setCell hgb2 _
    have hbw3 := hbw2.trans (hb3.mono hz1)
    have hrow3 := hB3.row
    have hA3 := hr.below hbw3
    have hlen : (xs.set i (x ^^^ by_)).length = len := by rw [List.length_set]; exact HX.out
    have hne' : ((sumN (xs.set i (x ^^^ by_)) : Int) != (sumN xs : Int)) = true := by simp; exact_mod_cast hne
    have HR := Lib.hid hrow3
    have HA := Lib.hid hA3
    have HL := Lib.hid hlen
    have HB := Lib.hid hbw3
    clear hi hix hcm' hcm hzl hzu hnil hgm2 hB2 hB3 hb3 hbw3 hrow3 hA3 hlen hne
    go_wp2_with fail
    refine (sum_any _ _ _ _ _ (by exact HR.out) HL.out (hml _ (by omega))).mono ?_
    rintro e w' ⟨rfl, rfl⟩
    go_wp2_with fail
    refine (sum_any _ _ _ xs _ (by exact HA.out) HX.out (hml _ (by omega))).mono ?_
    rintro e w' ⟨rfl, rfl⟩
    go_wp2_with fail
    go_ret
    exact ⟨rfl, HB.out⟩
end Go.Proofs.Ytoeaillhklephaa.Adl

/- The walk of AdlerOne: it returns true for any bytes, any place and any byte, and nothing that was there is written. -/
import Derived.Test.YtoeaillhklephaaAdlB
namespace Go.Proofs.Ytoeaillhklephaa.Adl
open Go.RowKit Go.Proofs.Ytoeaillhklephaa.Oct
set_option linter.unusedVariables false

set_option maxHeartbeats 200000 in
set_option maxRecDepth 100000 in
theorem one_walk (p : Option Addr) (len cap : Nat) (zs0 : List Int) (z : Int) (b0 : Int) (w : World) (hr0 : IsRow .u8 w p len cap zs0) (hz0 : (Lit.int .i64 z).wf = true) (hb0 : (Lit.int .u8 b0).wf = true) :
    Calls Try.prog 7 #[.slice p len cap, .int .i64 z, .int .u8 b0] w fun e w' => e = .returned (.bool true) ∧ Below w.heap.size w w' := by
  obtain ⟨xs, hx, hr, hlc, hcm, hnil⟩ := hr0.row
  obtain ⟨hbl, hbu⟩ := bounds_u8 hb0
  obtain ⟨c, rfl⟩ : ∃ c : UInt8, b0 = (c.toNat : Int) := ⟨UInt8.ofNat b0.toNat, by simp; omega⟩
  clear hr0 hb0 hz0
  unfold maxLen at hcm
  by_cases hbig : len = 0 ∨ 3000 < len
  · have hd1 : ((len : Int) == 0) = true ∨ (((len : Int) == 0) = false ∧ decide (3000 < (len : Int)) = true) := by
      by_cases h : len = 0
      · left; simp; omega
      · right; simp; omega
    rcases hd1 with hd | ⟨hd, hd'⟩
    all_goals
      go_enter Try.func7, Try.ntmps7
      go_wp2_with fail
      refine (lives_any _).mono ?_
      rintro e w1 ⟨rfl, hb1⟩
      go_wp2_with fail
      refine (lives_any _).mono ?_
      rintro e w2 ⟨rfl, hb2⟩
      go_wp2_with fail
      go_ret
      exact ⟨rfl, hb1.trans (hb2.mono hb1.size)⟩
  · have hd : decide (3000 < (len : Int)) = false := by simp; omega
    have hl0 : 0 < len := by omega
    have hd' : ((len : Int) == 0) = false := by simp; omega
    have HX := Lib.hid hx
    clear hx
    have hml : ∀ n : Nat, n ≤ 8000 → n ≤ maxLen := fun n h => by unfold maxLen; omega
    have hsp := spot_lt z len hl0
    have hsc := spot_cast z len
    have hix : spot z len < xs.length := by rw [HX.out]; exact hsp
    obtain ⟨i, hi⟩ : ∃ i, i = spot z len := ⟨_, rfl⟩
    rw [← hi] at hsp hsc hix
    clear hi
    go_enter Try.func7, Try.ntmps7
    go_wp2_with fail
    refine (lives_any _).mono ?_
    rintro e w1 ⟨rfl, hb1⟩
    have hz1 := hb1.size
    have hown := World.ownsRow_made (base := w1.heap.size) (e := 5) (size := 1) w1 #[] 0 (Nat.le_refl _) (by simp [maxLen]) rfl
    have hrA := (hr.below hb1).below ((Below.refl _ w1).alloc (Nat.le_refl _) (.cells #[] 5))
    go_wp2_with (at_builtin; refine wpList_append_bytes rfl _ _ rfl w1.heap.size _ 0 [] rfl hown p len cap xs rfl hrA HX.out hnil (by omega) (by simp) ?_)
    intro v2 w2 hown2 hgrow2 hv2
    obtain ⟨g, c2, hv2', hgc2, hgm2, hgb2, hgl2, hB2⟩ := Beg.of hown2 HX.out hv2
    subst hv2'
    have hb2 : Below w1.heap.size w1 w2 := ((Below.refl _ w1).alloc (Nat.le_refl _) _).grown hgrow2 (by simp) (fun k hk => by
      simp [Value.ownBlock] at hk; omega)
    have hbw2 : Below w.heap.size w w2 := hb1.trans (hb2.mono hz1)
    have hz2 := hb2.size
    clear hown hrA hgrow2 hv2 hown2 hb2
    have hcell := hB2.get _ hix
    have hfz := hB2.frozen i
    have hB3 := hB2.put i c
    have hb3 : Below w1.heap.size w2 (w2.setCell ⟨g, i, none⟩ (.int .u8 (c.toNat : Int))) := (Below.refl _ w2).setCell hgb2 _
    have hbw3 := hbw2.trans (hb3.mono hz1)
    have hrow3 := hB3.row
    have hA3 := hr.below hbw3
    have hlen : (xs.set i c).length = len := by rw [List.length_set]; exact HX.out
    obtain ⟨b, off, hpe, hbl', hcs⟩ := hr (by omega)
    subst hpe
    have hcb := (hbw3.cell (p := ⟨b, off + i, none⟩) hbl').trans (hcs i hix)
    have heq : (((sumN (xs.set i c) : Int) == (sumN xs : Int)) == ((xs[i].toNat : Int) == (c.toNat : Int))) = true := by
      by_cases hc : xs[i] = c
      · rw [sum_set_same xs i hix c hc, hc]; simp
      · have h1 := sum_set_ne xs i hix c hc
        have h2 : xs[i].toNat ≠ c.toNat := fun h => hc (UInt8.toNat_inj.1 h)
        have h3 : ((sumN (xs.set i c) : Int) == (sumN xs : Int)) = false := by simp; exact_mod_cast h1
        have h4 : ((xs[i].toNat : Int) == (c.toNat : Int)) = false := by simp; exact_mod_cast h2
        rw [h3, h4]; rfl
    generalize xs[i] = x at hcell hcb heq
    have HR := Lib.hid hrow3
    have HA := Lib.hid hA3
    have HL := Lib.hid hlen
    have HB := Lib.hid hbw3
    clear hix hcm hnil hgm2 hB2 hB3 hb3 hbw3 hrow3 hA3 hlen hcs
    generalize hw3 : w2.setCell ⟨g, i, none⟩ (.int .u8 (c.toNat : Int)) = w3 at HR HA HB hcb
    go_wp2_with fail
    clear hcell hfz hw3
    have hcq := fun k : Nat => (show (w3.drewN k).cell? ⟨b, off + i, none⟩ = some (.int .u8 (x.toNat : Int)) from hcb)
    have hq1 := fun k : Nat => quietly (sum_any (some ⟨g, 0, none⟩) len c2 (xs.set i c) (w3.drewN k) (by exact HR.out) HL.out (hml _ (by omega)))
    have hq2 := fun k : Nat => quietly (sum_any (some ⟨b, off, none⟩) len cap xs (w3.drewN k) (by exact HA.out) HX.out (hml _ (by omega)))
    have HQ1 := Lib.hid hq1
    have HQ2 := Lib.hid hq2
    generalize sumN (xs.set i c) = s1 at HQ1 heq
    generalize sumN xs = s2 at HQ2 heq
    clear hq1 hq2 hsc hbig hd hd' hbl hbu hb1 hz1 hgc2 hgb2 hgl2 hbw2 hz2 hbl' hr hml HR HA HL HX hcb
    go_quiet (first
      | (go_at_call 9; with_reducible exact HQ1.out _)
      | (go_at_call 9; with_reducible exact HQ2.out _))
    go_wp2_with fail
    go_ret
    exact ⟨rfl, HB.out.trans ((show Drawn w3 (w3.drewN nq) from ⟨nq, rfl⟩).below _)⟩
end Go.Proofs.Ytoeaillhklephaa.Adl


/- Contracts of package predict: isWide, greatest, check. -/
import Derived.Test.YtgakegomanfccaaU4
import Derived.Test.YtgakegomanfccaaPrM
namespace Go.Proofs.Ytgakegomanfccaa.Pd
open Go.RowKit Go.Proofs.Ytgakegomanfccaa.Oct Go.Proofs.Ytgakegomanfccaa.Sa Go.Proofs.Ytgakegomanfccaa.Pr
open Go.Proofs.Ytgakegomanfccaa.Lp (VRow vrow_blk vrow_own wpList_append_vals blk_set blk_far blk_frozen)
set_option linter.unusedVariables false
set_option linter.unusedSimpArgs false
set_option maxRecDepth 100000

/-- may samples have so many bits? -/
def wideB (wide : Int) : Bool := wide == 8 || wide == 16 || wide == 32
/-- may rows be so? -/
def okD (len : Nat) (per wide : Int) : Bool := wideB wide && decide (1 ≤ per) && decide ((len : Int) % per = 0)
def allD (m : Nat) (ns : List Nat) : Bool := ns.all fun v => decide (v < m)
def overD (m : Nat) (ns : List Nat) : Int := if allD m ns then 0 else 7
/-- the error of a row -/
def errD (ns : List Nat) (per wide : Int) : Int := if okD ns.length per wide then overD (2 ^ wide.toNat) ns else 1
theorem wide_cases {wide : Int} (h : wideB wide = true) : wide = 8 ∨ wide = 16 ∨ wide = 32 := by
  simp [wideB] at h; omega
theorem ok_parts {len : Nat} {per wide : Int} (h : okD len per wide = true) : (wide = 8 ∨ wide = 16 ∨ wide = 32) ∧ 1 ≤ per ∧ (len : Int) % per = 0 := by
  simp [okD] at h; exact ⟨wide_cases h.1.1, h.1.2, h.2⟩
theorem allD_cons (m v : Nat) (ns : List Nat) : allD m (v :: ns) = (decide (v < m) && allD m ns) := by simp [allD]
theorem allD_iff {m : Nat} {ns : List Nat} : allD m ns = true ↔ ∀ v ∈ ns, v < m := by simp [allD]
theorem overD_no {m : Nat} {ns : List Nat} (h : allD m ns = false) : overD m ns = 7 := if_neg (by rw [h]; simp)
theorem overD_yes {m : Nat} {ns : List Nat} (h : allD m ns = true) : overD m ns = 0 := if_pos h
theorem isWide_any (wide : Int) (w : World) : Calls Try.prog 18 #[.int .i64 wide] w fun e w' => e = .returned (.bool (wideB wide)) ∧ w = w' := by
  by_cases h1 : wide = 8
  · subst h1
    go_enter Try.func18, Try.ntmps18
    go_wp2_with fail
    go_ret
    exact ⟨rfl, rfl⟩
  by_cases h2 : wide = 16
  · subst h2
    go_enter Try.func18, Try.ntmps18
    go_wp2_with fail
    go_ret
    exact ⟨rfl, rfl⟩
  have e1 : (wide == 8) = false := by simpa using h1
  have e2 : (wide == 16) = false := by simpa using h2
  have e3 : wideB wide = (wide == 32) := by unfold wideB; rw [e1, e2]; rfl
  rw [e3]
  clear h1 h2 e3
  go_enter Try.func18, Try.ntmps18
  go_wp2_with fail
  go_ret
  exact ⟨rfl, rfl⟩
theorem greatest_any (wide : Int) (w : World) (h : wide = 8 ∨ wide = 16 ∨ wide = 32) : Calls Try.prog 15 #[.int .i64 wide] w fun e w' => e = .returned (.int .u32 ((2 ^ wide.toNat - 1 : Nat) : Int)) ∧ w = w' := by
  rcases h with rfl | rfl | rfl
  · go_enter Try.func15, Try.ntmps15
    go_wp2_with fail
    go_ret
    exact ⟨rfl, rfl⟩
  · go_enter Try.func15, Try.ntmps15
    go_wp2_with fail
    go_ret
    exact ⟨rfl, rfl⟩
  · go_enter Try.func15, Try.ntmps15
    go_wp2_with fail
    go_ret
    exact ⟨rfl, rfl⟩
theorem pow_pos2 {wide : Int} (h : wide = 8 ∨ wide = 16 ∨ wide = 32) : 2 ≤ 2 ^ wide.toNat ∧ 2 ^ wide.toNat ≤ 4294967296 := by
  rcases h with rfl | rfl | rfl <;> decide
theorem check_any (p : Option Addr) (len cap : Nat) (per wide : Int) (ns : List Nat) (w : World) (C : Nat) (hr : VRow w C p (u32s ns)) (hx : ns.length = len) (hl : len ≤ 1000000) :
    Calls Try.prog 13 #[.slice p len cap, .int .i64 per, .int .i64 wide] w fun e w' => e = .returned (.int .i64 (errD ns per wide)) ∧ w = w' := by
  have HIW := Lib.hid (isWide_any wide w)
  by_cases h1 : wideB wide = true
  · rw [h1] at HIW
    by_cases h2 : per < 1
    · have e1 : errD ns per wide = 1 := if_neg (by simp [okD]; omega)
      have d1 : decide (per < 1) = true := by simpa using h2
      rw [e1]
      clear e1 hr hx h1 h2
      go_enter Try.func13, Try.ntmps13
      go_wp2_with fail
      refine HIW.out.mono ?_
      rintro e w' ⟨rfl, rfl⟩
      go_wp2_with fail
      go_ret
      exact ⟨rfl, rfl⟩
    have d1 : decide (per < 1) = false := by simpa using h2
    obtain ⟨pp, hpp⟩ : ∃ pp : Nat, per = (pp : Int) := ⟨per.toNat, by omega⟩
    have htm : (len : Int).tmod (pp : Int) = ((len % pp : Nat) : Int) := by rw [Int.tmod_eq_emod_of_nonneg (by omega)]; rfl
    have hp0 : (pp : Int) ≠ 0 := by omega
    subst hpp
    by_cases h3 : len % pp = 0
    · have e1 : errD ns (pp : Int) wide = overD (2 ^ wide.toNat) ns := if_pos (by unfold okD; rw [h1, hx]; simp; refine ⟨by omega, ?_⟩; exact_mod_cast h3)
      rw [h3] at htm
      rw [e1]
      have hw := wide_cases h1
      have hpw := pow_pos2 hw
      have HG := Lib.hid (fun W => greatest_any wide W hw)
      generalize 2 ^ wide.toNat = m at HG hpw ⊢
      obtain ⟨X, hX⟩ : ∃ X, X = overD m ns := ⟨_, rfl⟩
      rw [← hX]
      have HST : Hid (overD m (ns.drop 0) = X) := Lib.hid hX.symm
      have HR := Lib.hid hr
      have HX := Lib.hid hx
      clear e1 hr hx h1 h2 h3 hw hX
      go_enter Try.func13, Try.ntmps13
      go_wp2_with fail
      refine HIW.out.mono ?_
      rintro e w' ⟨rfl, rfl⟩
      go_wp2_with fail
      go_loop [8, 25] (fun _ i => ∃ k : Nat, k ≤ len ∧ i = .int .i64 (k : Int) ∧ Hid (overD m (ns.drop k) = X)) (fun _ i => len - (intOf i).toNat)
      case atStart => exact ⟨0, by omega, rfl, HST⟩
      case round =>
        clear HST HIW htm
        obtain ⟨k, hk, rfl, HS⟩ := hrel
        by_cases hlt : k < len
        · have hkl : k < ns.length := by rw [HX.out]; exact hlt
          obtain ⟨b, off, hq, _, hc⟩ := vrow_u32 HR.out k hkl
          subst hq
          have hs := HS.out
          rw [List.drop_eq_getElem_cons hkl] at hs
          generalize ns[k] = x at hc hs
          have ql : decide ((k : Int) < (len : Int)) = true := by simpa using hlt
          have i1 : (0 : Int) ≤ (k : Int) := by omega
          have i2 : (k : Int) < (len : Int) := by omega
          clear HS hkl
          by_cases hx : x < m
          · have qx : decide (((m - 1 : Nat) : Int) < (x : Int)) = false := by simp; omega
            have HS : Hid (overD m (ns.drop (k + 1)) = X) := Lib.hid (by rw [← hs]; unfold overD; rw [allD_cons]; simp [hx])
            generalize ((m - 1 : Nat) : Int) = g at qx HG
            clear hx hs hpw
            go_wp2_with fail
            refine (HG.out _).mono ?_
            rintro e w' ⟨rfl, rfl⟩
            go_wp2_with fail
            go_round
            case rel => exact ⟨k + 1, by omega, by go_num, HS⟩
            case measure => simp [intOf]; omega
          · have qx : decide (((m - 1 : Nat) : Int) < (x : Int)) = true := by simp; omega
            have hs7 : X = 7 := by rw [← hs]; unfold overD; rw [allD_cons]; simp [hx]
            subst hs7
            generalize ((m - 1 : Nat) : Int) = g at qx HG
            clear hx hs hpw
            go_wp2_with fail
            refine (HG.out _).mono ?_
            rintro e w' ⟨rfl, rfl⟩
            go_wp2_with fail
            go_ret
            exact ⟨rfl, rfl⟩
        · have : k = len := by omega
          subst this
          have hs := HS.out
          rw [List.drop_of_length_le (by rw [HX.out]; omega)] at hs
          have hs0 : X = 0 := hs.symm
          subst hs0
          have ql : decide ((k : Int) < (k : Int)) = false := by simp
          clear hs HS HG hpw
          go_wp2_with fail
          go_ret
          exact ⟨rfl, rfl⟩
    · have e1 : errD ns (pp : Int) wide = 1 := if_neg (by
        unfold okD; rw [h1, hx]; simp; intro _ h
        exact h3 (by exact_mod_cast h))
      rw [e1]
      obtain ⟨r, hr2⟩ : ∃ r, r = len % pp := ⟨_, rfl⟩
      rw [← hr2] at htm h3
      have d3 : ((r : Int) != 0) = true := by simp; omega
      clear e1 hr hx h1 h2 h3 hr2
      go_enter Try.func13, Try.ntmps13
      go_wp2_with fail
      refine HIW.out.mono ?_
      rintro e w' ⟨rfl, rfl⟩
      go_wp2_with fail
      go_ret
      exact ⟨rfl, rfl⟩
  · have h1 : wideB wide = false := by simpa using h1
    rw [h1] at HIW
    have e1 : errD ns per wide = 1 := if_neg (by unfold okD; rw [h1]; simp)
    rw [e1]
    clear e1 hr hx h1
    go_enter Try.func13, Try.ntmps13
    go_wp2_with fail
    refine HIW.out.mono ?_
    rintro e w' ⟨rfl, rfl⟩
    go_wp2_with fail
    go_ret
    exact ⟨rfl, rfl⟩
end Go.Proofs.Ytgakegomanfccaa.Pd

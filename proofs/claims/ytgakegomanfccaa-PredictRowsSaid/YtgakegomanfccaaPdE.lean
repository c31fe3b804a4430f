
/- The document's answers for layer 18: round, fits, Diff, Undo. -/
import Derived.Test.YtgakegomanfccaaPdD
namespace Go.Proofs.Ytgakegomanfccaa.Pd
open Go.RowKit Go.Proofs.Ytgakegomanfccaa.Oct Go.Proofs.Ytgakegomanfccaa.Sa Go.Proofs.Ytgakegomanfccaa.Pr
open Go.Proofs.Ytgakegomanfccaa.Lp (VRow vrow_blk vrow_own wpList_append_vals blk_set blk_far blk_frozen)
set_option linter.unusedVariables false
set_option linter.unusedSimpArgs false
set_option maxRecDepth 100000

theorem rround_any (wd : Nat) (w : World) (h : wd ≤ 32) : Calls Try.prog 17 #[.int .i64 (wd : Int)] w fun e w' => e = .returned (.int .i64 ((2 ^ wd : Nat) : Int)) ∧ w = w' := by
  obtain ⟨Y, hY⟩ : ∃ Y, Y = 2 ^ wd := ⟨_, rfl⟩
  rw [← hY]
  go_enter Try.func17, Try.ntmps17
  go_wp2_with fail
  go_loop [3, 4] (fun n i => ∃ k q : Nat, k ≤ wd ∧ i = .int .i64 (k : Int) ∧ n = .int .i64 (q : Int) ∧ Hid (q = 2 ^ k)) (fun _ i => wd - (intOf i).toNat)
  case atStart => exact ⟨0, 1, by omega, rfl, rfl, Lib.hid rfl⟩
  case round =>
    obtain ⟨k, q, hk, rfl, rfl, HQ⟩ := hrel
    by_cases hlt : k < wd
    · have ql : decide ((k : Int) < (wd : Int)) = true := by simpa using hlt
      have hq : q ≤ 2147483648 := by rw [HQ.out]; exact Nat.le_trans (Nat.pow_le_pow_right (by omega) (show k ≤ 31 by omega)) (by decide)
      have HQ2 : Hid (q * 2 = 2 ^ (k + 1)) := Lib.hid (by rw [HQ.out, Nat.pow_succ])
      clear HQ
      go_wp2_with fail
      go_round
      case rel => exact ⟨k + 1, q * 2, by omega, by go_num, by go_num, HQ2⟩
      case measure => simp [intOf]; omega
    · have : k = wd := by omega
      subst this
      have ql : decide ((k : Int) < (k : Int)) = false := by simp
      have hq : q = Y := by rw [HQ.out, hY]
      subst hq
      clear hY HQ
      go_wp2_with fail
      go_ret
      exact ⟨rfl, rfl⟩
theorem rround_wide (wide : Int) (w : World) (h : wide = 8 ∨ wide = 16 ∨ wide = 32) : Calls Try.prog 17 #[.int .i64 wide] w fun e w' => e = .returned (.int .i64 ((2 ^ wide.toNat : Nat) : Int)) ∧ w = w' := by
  have := rround_any wide.toNat w (by omega)
  rwa [show ((wide.toNat : Nat) : Int) = wide from by omega] at this
theorem rfits_any (p : Option Addr) (len cap : Nat) (per wide : Int) (ns : List Nat) (w : World) (C : Nat) (hr : VRow w C p (u32s ns)) (hx : ns.length = len) (hl : len ≤ 1000000) (hb : ∀ n ∈ ns, n < 4294967296) :
    Calls Try.prog 16 #[.slice p len cap, .int .i64 per, .int .i64 wide] w fun e w' => e = .returned (.int .i64 (errD ns per wide)) ∧ Drawn w w' := by
  have HB := Lib.hid hb
  by_cases h1 : wideB wide = true
  · have hw := wide_cases h1
    have q8 : (wide != 8) = false ∨ ((wide != 8) = true ∧ (wide != 16) = false) ∨ ((wide != 8) = true ∧ (wide != 16) = true ∧ (wide != 32) = false) := by rcases hw with rfl | rfl | rfl <;> decide
    by_cases h2 : per < 1
    · have e1 : errD ns per wide = 1 := if_neg (by simp [okD]; omega)
      have d1 : decide (per < 1) = true := by simpa using h2
      rw [e1]
      clear e1 hr hx h1 h2 hw hb
      rcases q8 with a1 | ⟨a1, a2⟩ | ⟨a1, a2, a3⟩
      all_goals
        go_enter Try.func16, Try.ntmps16
        go_wp2_with fail
        go_ret
        exact ⟨rfl, ⟨0, rfl⟩⟩
    have d1 : decide (per < 1) = false := by simpa using h2
    obtain ⟨pp, hpp⟩ : ∃ pp : Nat, per = (pp : Int) := ⟨per.toNat, by omega⟩
    have htm : (len : Int).tmod (pp : Int) = ((len % pp : Nat) : Int) := by rw [Int.tmod_eq_emod_of_nonneg (by omega)]; rfl
    have hp0 : (pp : Int) ≠ 0 := by omega
    subst hpp
    by_cases h3 : len % pp = 0
    · have e1 : errD ns (pp : Int) wide = overD (2 ^ wide.toNat) ns := if_pos (by unfold okD; rw [h1, hx]; simp; refine ⟨by omega, ?_⟩; exact_mod_cast h3)
      rw [h3] at htm
      rw [e1]
      have hpw := pow_pos2 hw
      have HG := Lib.hid (fun W => rround_wide wide W hw)
      generalize 2 ^ wide.toNat = m at HG hpw ⊢
      obtain ⟨X, hX⟩ : ∃ X, X = overD m ns := ⟨_, rfl⟩
      rw [← hX]
      have HST : Hid (overD m (ns.drop 0) = X) := Lib.hid hX.symm
      have HR := Lib.hid hr
      have HX := Lib.hid hx
      clear e1 hr hx h1 h2 h3 hw hX hb
      rcases q8 with a1 | ⟨a1, a2⟩ | ⟨a1, a2, a3⟩
      all_goals
        go_enter Try.func16, Try.ntmps16
        go_wp2_with fail
        go_loopw [7] (fun i wr => ∃ k : Nat, k ≤ len ∧ i = .int .i64 (k : Int) ∧ Hid (overD m (ns.drop k) = X) ∧ Hid (Drawn w wr)) (fun i _ => len - (intOf i).toNat)
        case atStart => exact ⟨0, by omega, rfl, HST, Lib.hid ⟨0, rfl⟩⟩
        case round =>
          clear HST htm
          obtain ⟨k, hk, rfl, HS, HD⟩ := hrel
          by_cases hlt : k < len
          · have hkl : k < ns.length := by rw [HX.out]; exact hlt
            obtain ⟨b, off, hq, _, hc⟩ := vrow_u32 HR.out k hkl
            subst hq
            have hx32 := HB.out _ (List.getElem_mem hkl)
            have hs := HS.out
            rw [List.drop_eq_getElem_cons hkl] at hs
            generalize ns[k] = x at hc hs hx32
            have hcr : wr.cell? ⟨b, off + k, none⟩ = some (.int .u32 (x : Int)) := by have hd := HD.out; obtain ⟨j, hj⟩ := hd; rw [hj]; exact hc
            have ql : decide ((k : Int) < (len : Int)) = true := by simpa using hlt
            have i1 : (0 : Int) ≤ (k : Int) := by omega
            have i2 : (k : Int) < (len : Int) := by omega
            clear HS hkl hc
            by_cases hx : x < m
            · have qx : decide ((m : Int) ≤ (x : Int)) = false := by simp; omega
              have HS : Hid (overD m (ns.drop (k + 1)) = X) := Lib.hid (by rw [← hs]; unfold overD; rw [allD_cons]; simp [hx])
              clear hx hs hpw
              generalize (m : Int) = M at qx HG
              go_wp2_with fail
              go_quiet ((go_at_call 17; exact quietly (HG.out _)))
              go_wp2_with fail
              go_roundw
              case rel => exact ⟨k + 1, by omega, by go_num, HS, Lib.hid (HD.out.more _)⟩
              case measure => simp [intOf]; omega
            · have qx : decide ((m : Int) ≤ (x : Int)) = true := by simp; omega
              have hs7 : X = 7 := by rw [← hs]; unfold overD; rw [allD_cons]; simp [hx]
              subst hs7
              clear hx hs hpw
              generalize (m : Int) = M at qx HG
              go_wp2_with fail
              go_quiet ((go_at_call 17; exact quietly (HG.out _)))
              go_wp2_with fail
              go_ret
              exact ⟨rfl, HD.out.more _⟩
          · have : k = len := by omega
            subst this
            have hs := HS.out
            rw [List.drop_of_length_le (by rw [HX.out]; omega)] at hs
            have hs0 : X = 0 := hs.symm
            subst hs0
            have ql : decide ((k : Int) < (k : Int)) = false := by simp
            clear hs HS HG hpw
            go_wp2_with fail
            go_ret
            exact ⟨rfl, HD.out⟩
    · have e1 : errD ns (pp : Int) wide = 1 := if_neg (by
        unfold okD; rw [h1, hx]; simp; intro _ h
        exact h3 (by exact_mod_cast h))
      rw [e1]
      obtain ⟨r, hr2⟩ : ∃ r, r = len % pp := ⟨_, rfl⟩
      rw [← hr2] at htm h3
      have d3 : ((r : Int) != 0) = true := by simp; omega
      clear e1 hr hx h1 h2 h3 hr2 hb hw
      rcases q8 with a1 | ⟨a1, a2⟩ | ⟨a1, a2, a3⟩
      all_goals
        go_enter Try.func16, Try.ntmps16
        go_wp2_with fail
        go_ret
        exact ⟨rfl, ⟨0, rfl⟩⟩
  · have h1 : wideB wide = false := by simpa using h1
    have e1 : errD ns per wide = 1 := if_neg (by unfold okD; rw [h1]; simp)
    have a1 : (wide != 8) = true := by simp [wideB] at h1; simp; omega
    have a2 : (wide != 16) = true := by simp [wideB] at h1; simp; omega
    have a3 : (wide != 32) = true := by simp [wideB] at h1; simp; omega
    rw [e1]
    clear e1 hr hx h1 hb
    go_enter Try.func16, Try.ntmps16
    go_wp2_with fail
    go_ret
    exact ⟨rfl, ⟨0, rfl⟩⟩
end Go.Proofs.Ytgakegomanfccaa.Pd


/- Contracts of width: of the program's and of the document's. -/
import Derived.Test.YtgdcjhngjdiaoaaLzM
import Derived.Test.YtgdcjhngjdiaoaaLzP
namespace Go.Proofs.Ytgdcjhngjdiaoaa.Lz
open Go.RowKit Go.Proofs.Ytgdcjhngjdiaoaa.Oct Go.Proofs.Ytgdcjhngjdiaoaa.Bit
set_option linter.unusedVariables false

theorem shr_ne (g k : Nat) : ((g : Int) / 2 ^ k != 0) = decide (2 ^ k ≤ g) := by
  have e : ((g : Int) / 2 ^ k) = ((g / 2 ^ k : Nat) : Int) := by push_cast; rfl
  have hp : 0 < 2 ^ k := Nat.pow_pos (by omega)
  have hz := @Nat.div_eq_zero_iff g (2 ^ k)
  rw [e, Bool.eq_iff_iff]
  generalize g / 2 ^ k = d at hz ⊢
  generalize 2 ^ k = b at hz hp ⊢
  simp
  omega
def widG (g : Nat) : Nat := if g < 512 then 9 else if g < 1024 then 10 else if g < 2048 then 11 else 12
theorem widG_of (k : Nat) (old : Bool) : widN k old = widG (if old then k else k + 1) := rfl
theorem width_any (k : Nat) (old : Bool) (w : World) (hk : k ≤ 5000) :
    Calls Try.prog 33 #[.int .i64 (k : Int), .bool old] w fun e w' => e = .returned (.int .i64 ((widN k old : Nat) : Int)) ∧ w = w' := by
  rw [widG_of]
  obtain ⟨g, hg⟩ : ∃ g, g = (if old then k else k + 1) := ⟨_, rfl⟩
  rw [← hg]
  have hgl : g ≤ 5001 := by rw [hg]; split <;> omega
  have key : ∀ j : Nat, 9 ≤ j → j ≤ 12 → (9 < j → 512 ≤ g) → (10 < j → 1024 ≤ g) → (11 < j → 2048 ≤ g) → (j = 12 ∨ ((g : Int) / 2 ^ j != 0) = false) → widG g = j := by
    intro j h1 h2 h3 h4 h5 h6
    rw [shr_ne] at h6
    unfold widG
    rcases (by omega : j = 9 ∨ j = 10 ∨ j = 11 ∨ j = 12) with rfl | rfl | rfl | rfl <;> simp at h3 h4 h5 h6 <;> (repeat' split) <;> omega
  have KEY := Lib.hid key
  clear key
  cases old
  · have hg' : (k : Int) + 1 = (g : Int) := by simp at hg; omega
    have HG := Lib.hid hg'
    clear hg hg'
    go_enter Try.func33, Try.ntmps33
    go_wp2_with fail
    rw [HG.out]
    go_loop [6] (fun n => ∃ j : Nat, 9 ≤ j ∧ j ≤ 12 ∧ (9 < j → 512 ≤ g) ∧ (10 < j → 1024 ≤ g) ∧ (11 < j → 2048 ≤ g) ∧ n = .int .i64 (j : Int)) (fun n => 12 - (intOf n).toNat)
    case atStart => exact ⟨9, by omega, by omega, by omega, by omega, by omega, rfl⟩
    case round =>
      obtain ⟨j, h1, h2, h3, h4, h5, rfl⟩ := hrel
      have H3 := Lib.hid h3
      have H4 := Lib.hid h4
      have H5 := Lib.hid h5
      clear h3 h4 h5
      by_cases hj : j < 12
      · by_cases hs : ((g : Int) / 2 ^ j != 0) = true
        · go_wp2_with fail
          go_round
          case rel =>
            rw [shr_ne] at hs
            have hs2 := of_decide_eq_true hs
            refine ⟨j + 1, by omega, by omega, ?_, ?_, ?_, by go_num⟩
            · intro _
              have : (2 : Nat) ^ 9 ≤ 2 ^ j := Nat.pow_le_pow_right (by omega) (by omega)
              omega
            · intro _
              have : (2 : Nat) ^ 10 ≤ 2 ^ j := Nat.pow_le_pow_right (by omega) (by omega)
              omega
            · intro _
              have : (2 : Nat) ^ 11 ≤ 2 ^ j := Nat.pow_le_pow_right (by omega) (by omega)
              omega
          case measure => simp [intOf]; omega
        · have hs' : ((g : Int) / 2 ^ j != 0) = false := by simpa using hs
          have hk := KEY.out j h1 h2 H3.out H4.out H5.out (.inr hs')
          have HK := Lib.hid hk
          clear hk hs
          go_wp2_with fail
          go_ret
          exact ⟨by first | (rw [HK.out]; done) | (rw [HK.out]; rfl), rfl⟩
      · have hj' : j = 12 := by omega
        subst hj'
        have hk := KEY.out 12 h1 h2 H3.out H4.out H5.out (.inl rfl)
        have HK := Lib.hid hk
        clear hk
        go_wp2_with fail
        go_ret
        exact ⟨by first | (rw [HK.out]; done) | (rw [HK.out]; rfl), rfl⟩
  · have hg' : k = g := by simp at hg; omega
    subst hg'
    clear hg
    go_enter Try.func33, Try.ntmps33
    go_wp2_with fail
    go_loop [6] (fun n => ∃ j : Nat, 9 ≤ j ∧ j ≤ 12 ∧ (9 < j → 512 ≤ k) ∧ (10 < j → 1024 ≤ k) ∧ (11 < j → 2048 ≤ k) ∧ n = .int .i64 (j : Int)) (fun n => 12 - (intOf n).toNat)
    case atStart => exact ⟨9, by omega, by omega, by omega, by omega, by omega, rfl⟩
    case round =>
      obtain ⟨j, h1, h2, h3, h4, h5, rfl⟩ := hrel
      have H3 := Lib.hid h3
      have H4 := Lib.hid h4
      have H5 := Lib.hid h5
      clear h3 h4 h5
      by_cases hj : j < 12
      · by_cases hs : ((k : Int) / 2 ^ j != 0) = true
        · go_wp2_with fail
          go_round
          case rel =>
            rw [shr_ne] at hs
            have hs2 := of_decide_eq_true hs
            refine ⟨j + 1, by omega, by omega, ?_, ?_, ?_, by go_num⟩
            · intro _
              have : (2 : Nat) ^ 9 ≤ 2 ^ j := Nat.pow_le_pow_right (by omega) (by omega)
              omega
            · intro _
              have : (2 : Nat) ^ 10 ≤ 2 ^ j := Nat.pow_le_pow_right (by omega) (by omega)
              omega
            · intro _
              have : (2 : Nat) ^ 11 ≤ 2 ^ j := Nat.pow_le_pow_right (by omega) (by omega)
              omega
          case measure => simp [intOf]; omega
        · have hs' : ((k : Int) / 2 ^ j != 0) = false := by simpa using hs
          have hk := KEY.out j h1 h2 H3.out H4.out H5.out (.inr hs')
          have HK := Lib.hid hk
          clear hk hs
          go_wp2_with fail
          go_ret
          exact ⟨by first | (rw [HK.out]; done) | (rw [HK.out]; rfl), rfl⟩
      · have hj' : j = 12 := by omega
        subst hj'
        have hk := KEY.out 12 h1 h2 H3.out H4.out H5.out (.inl rfl)
        have HK := Lib.hid hk
        clear hk
        go_wp2_with fail
        go_ret
        exact ⟨by first | (rw [HK.out]; done) | (rw [HK.out]; rfl), rfl⟩
set_option maxRecDepth 100000 in
theorem rwidth_any (k : Nat) (old : Bool) (w : World) (hk : k ≤ 5000) :
    Calls Try.prog 38 #[.int .i64 (k : Int), .bool old] w fun e w' => e = .returned (.int .i64 ((widN k old : Nat) : Int)) ∧ w = w' := by
  rw [widG_of]
  obtain ⟨g, hg⟩ : ∃ g, g = (if old then k else k + 1) := ⟨_, rfl⟩
  rw [← hg]
  have fin : ∀ (h1 : g < 512), widG g = 9 := fun h => by unfold widG; rw [if_pos h]
  have key : (g < 512 ∧ widG g = 9) ∨ (512 ≤ g ∧ g < 1024 ∧ widG g = 10) ∨ (1024 ≤ g ∧ g < 2048 ∧ widG g = 11) ∨ (2048 ≤ g ∧ widG g = 12) := by
    unfold widG
    repeat' split
    all_goals omega
  clear fin
  cases old
  · have hg' : g = k + 1 := by simpa using hg
    clear hg
    subst hg'
    have hw : IntKind.i64.wrap ((k : Int) + 1) = (k : Int) + 1 := IntWalk.i64_in _ (by omega)
    rcases key with ⟨h, e⟩ | ⟨h, h2, e⟩ | ⟨h, h2, e⟩ | ⟨h, e⟩ <;> rw [e] <;> clear e
    · have d1 : decide ((k : Int) + 1 < 512) = true := by simp; omega
      go_enter Try.func38, Try.ntmps38
      go_wp2_with fail
      go_ret
      exact ⟨rfl, rfl⟩
    · have d1 : decide ((k : Int) + 1 < 512) = false := by simp; omega
      have d2 : decide ((k : Int) + 1 < 1024) = true := by simp; omega
      go_enter Try.func38, Try.ntmps38
      go_wp2_with fail
      go_ret
      exact ⟨rfl, rfl⟩
    · have d1 : decide ((k : Int) + 1 < 512) = false := by simp; omega
      have d2 : decide ((k : Int) + 1 < 1024) = false := by simp; omega
      have d3 : decide ((k : Int) + 1 < 2048) = true := by simp; omega
      go_enter Try.func38, Try.ntmps38
      go_wp2_with fail
      go_ret
      exact ⟨rfl, rfl⟩
    · have d1 : decide ((k : Int) + 1 < 512) = false := by simp; omega
      have d2 : decide ((k : Int) + 1 < 1024) = false := by simp; omega
      have d3 : decide ((k : Int) + 1 < 2048) = false := by simp; omega
      go_enter Try.func38, Try.ntmps38
      go_wp2_with fail
      go_ret
      exact ⟨rfl, rfl⟩
  · have hg' : g = k := by simpa using hg
    clear hg
    subst hg'
    rcases key with ⟨h, e⟩ | ⟨h, h2, e⟩ | ⟨h, h2, e⟩ | ⟨h, e⟩ <;> rw [e] <;> clear e
    all_goals
      go_enter Try.func38, Try.ntmps38
      go_wp2_with fail
      go_ret
      exact ⟨rfl, rfl⟩
end Go.Proofs.Ytgdcjhngjdiaoaa.Lz

/- The walks of OctetsLaws and OctetsSwaps: each returns true for all uint64, and nothing that was there is written. -/
import Derived.Test.YtmobdanpkojbbaaOctD
namespace Go.Proofs.Ytmobdanpkojbbaa.Oct
open Go.RowKit
set_option linter.unusedVariables false

theorem addV_bd (a b : Int) (ha : 0 ≤ a) (hb : 0 ≤ b) : 0 ≤ addV a b ∧ addV a b ≤ 18446744073709551615 := by
  unfold addV; split <;> omega
theorem mulV_bd (a b : Int) (ha : 0 ≤ a) (hb : 0 ≤ b) : 0 ≤ mulV a b ∧ mulV a b ≤ 18446744073709551615 := by
  have := Int.mul_nonneg ha hb
  unfold mulV; split <;> omega

theorem addE_zero {a b : Int} (h : addE a b = 0) : addV a b = a + b := by
  unfold addE at h; unfold addV; split at h <;> simp_all
theorem mulE_zero {a b : Int} (h : mulE a b = 0) : mulV a b = a * b := by
  unfold mulE at h; unfold mulV; split at h <;> simp_all
theorem distrib {a b c : Int} (h1 : addE b c = 0) (h2 : mulE a (addV b c) = 0) (h3 : mulE a b = 0) (h4 : mulE a c = 0) (h5 : (addE (mulV a b) (mulV a c) != 0) = false) :
    (mulV a (addV b c) == addV (mulV a b) (mulV a c)) = true := by
  have h5' : addE (mulV a b) (mulV a c) = 0 := by simpa using h5
  rw [mulE_zero h2, addE_zero h5', addE_zero h1, mulE_zero h3, mulE_zero h4, Int.mul_add]
  simp

theorem swaps_walk (a b c : Int) (w : World) (w0 : (Lit.int .u64 a).wf = true) (w1 : (Lit.int .u64 b).wf = true) (w2 : (Lit.int .u64 c).wf = true) :
    Calls Try.prog 7 #[.int .u64 a, .int .u64 b, .int .u64 c] w fun e w' => e = .returned (.bool true) ∧ Below w.heap.size w w' := by
  obtain ⟨ha, ha'⟩ := u64_bounds w0
  obtain ⟨hb, hb'⟩ := u64_bounds w1
  obtain ⟨hc, hc'⟩ := u64_bounds w2
  clear w0 w1 w2
  go_enter Try.func7, Try.ntmps7
  go_wp2_with fail
  refine (lives_any _).mono ?_
  rintro e w1 ⟨rfl, hbel⟩
  go_wp2_with fail
  refine (add_any _ _ _ ha ha' hb hb').mono ?_
  rintro e w2 ⟨rfl, rfl⟩
  go_wp2_with fail
  refine (add_any _ _ _ hb hb' ha ha').mono ?_
  rintro e w2 ⟨rfl, rfl⟩
  rw [addV_comm, addE_comm]
  go_wp2_with fail
  refine (mul_any _ _ _ ha ha' hb hb').mono ?_
  rintro e w2 ⟨rfl, rfl⟩
  go_wp2_with fail
  refine (mul_any _ _ _ hb hb' ha ha').mono ?_
  rintro e w2 ⟨rfl, rfl⟩
  rw [mulV_comm, mulE_comm]
  obtain ⟨hs, hs'⟩ := addV_bd b c hb hc
  obtain ⟨hz, hz'⟩ := mulV_bd a b ha hb
  obtain ⟨hp, hp'⟩ := mulV_bd a c ha hc
  go_wp2_with fail
  refine (add_any _ _ _ hb hb' hc hc').mono ?_
  rintro e w2 ⟨rfl, rfl⟩
  go_wp2_with fail
  refine (mul_any _ _ _ ha ha' hs hs').mono ?_
  rintro e w2 ⟨rfl, rfl⟩
  go_wp2_with fail
  refine (mul_any _ _ _ ha ha' hc hc').mono ?_
  rintro e w2 ⟨rfl, rfl⟩
  go_wp2_with fail
  refine (add_any _ _ _ hz hz' hp hp').mono ?_
  rintro e w2 ⟨rfl, rfl⟩
  clear hs hs' hz hz' hp hp'
  go_wp2_with fail
  all_goals first | (go_ret; exact ⟨rfl, hbel⟩) | (rw [distrib ‹_› ‹_› ‹_› ‹_› ‹_›]; go_ret; exact ⟨rfl, hbel⟩)

theorem mul_more {a b m : Int} (ha : 0 ≤ a) (h : b ≤ m) (hb : ¬ a * b ≤ 18446744073709551615) : mulE a m = 7 := by
  have : a * b ≤ a * m := Int.mul_le_mul_of_nonneg_left h ha
  unfold mulE; rw [if_neg (by omega)]
theorem add_more {a b m : Int} (h : b ≤ m) (hb : ¬ a + b ≤ 18446744073709551615) : addE a m = 7 := by
  unfold addE; rw [if_neg (by omega)]

set_option maxHeartbeats 1600000 in
theorem laws_walk (a b c : Int) (w : World) (w0 : (Lit.int .u64 a).wf = true) (w1 : (Lit.int .u64 b).wf = true) (w2 : (Lit.int .u64 c).wf = true) :
    Calls Try.prog 6 #[.int .u64 a, .int .u64 b, .int .u64 c] w fun e w' => e = .returned (.bool true) ∧ Below w.heap.size w w' := by
  obtain ⟨ha, ha'⟩ := u64_bounds w0
  obtain ⟨hb, hb'⟩ := u64_bounds w1
  obtain ⟨hc, hc'⟩ := u64_bounds w2
  clear w0 w1 w2
  go_enter Try.func6, Try.ntmps6
  go_wp2_with fail
  refine (lives_any _).mono ?_
  rintro e w1 ⟨rfl, hbel⟩
  go_wp2_with fail
  refine (add_any _ _ _ ha ha' hb hb').mono ?_
  rintro e w2 ⟨rfl, rfl⟩
  go_wp2_with fail
  refine (add_any _ _ _ hb hb' ha ha').mono ?_
  rintro e w2 ⟨rfl, rfl⟩
  rw [addV_comm, addE_comm]
  go_wp2_with fail
  refine (mul_any _ _ _ ha ha' hb hb').mono ?_
  rintro e w2 ⟨rfl, rfl⟩
  go_wp2_with fail
  refine (mul_any _ _ _ hb hb' ha ha').mono ?_
  rintro e w2 ⟨rfl, rfl⟩
  rw [mulV_comm, mulE_comm]
  rcases Int.lt_or_le b c with hbc | hbc
  all_goals by_cases hA : a + b ≤ 18446744073709551615
  all_goals by_cases hM : a * b ≤ 18446744073709551615
  all_goals by_cases hb0 : 0 < b
  all_goals first
    | rw [show addV a b = a + b from if_pos hA, show addE a b = 0 from if_pos hA]
    | rw [show addV a b = 0 from if_neg hA, show addE a b = 7 from if_neg hA]
  all_goals first
    | rw [show mulV a b = a * b from if_pos hM, show mulE a b = 0 from if_pos hM]
    | rw [show mulV a b = 0 from if_neg hM, show mulE a b = 7 from if_neg hM]
  all_goals
    have hg : 0 < b → a ≤ a * b := fun h => by
      have := Int.mul_le_mul_of_nonneg_left (show 1 ≤ b by omega) ha
      rwa [Int.mul_one] at this
    try have hg' := hg hb0
    clear hg
    try have KA := Lib.hid (fun (m : Int) (h : b ≤ m) => add_more (a := a) h hA)
    try have KM := Lib.hid (fun (m : Int) (h : b ≤ m) => mul_more (a := a) ha h hM)
    go_wp2_with fail
    all_goals
      refine (add_any _ _ _ ha ha' (by assumption) (by assumption)).mono ?_
      rintro e w2 ⟨rfl, rfl⟩
      try rw [KA.out _ (Int.le_of_lt hbc)]
      try rw [KA.out _ (Int.le_refl b)]
      go_wp2_with fail
      all_goals
        refine (mul_any _ _ _ ha ha' (by assumption) (by assumption)).mono ?_
        rintro e w2 ⟨rfl, rfl⟩
        try rw [KM.out _ (Int.le_of_lt hbc)]
        try rw [KM.out _ (Int.le_refl b)]
        go_wp2_with fail
        all_goals
          go_ret
          exact ⟨rfl, hbel⟩
end Go.Proofs.Ytmobdanpkojbbaa.Oct

/- The walks of the laws on sums and products: each returns true for all uint64, and nothing that was there is written. -/
import Derived.Test.YtmobdanpkojbbaaOctC
import Derived.OpenShut
namespace Go.Proofs.Ytmobdanpkojbbaa.Oct
open Go.RowKit
set_option linter.unusedVariables false

theorem u64_bounds {a : Int} (h : (Lit.int .u64 a).wf = true) : 0 ≤ a ∧ a ≤ 18446744073709551615 := by
  have := bounds_u64 h
  omega
theorem addV_comm (a b : Int) : addV b a = addV a b := by unfold addV; rw [Int.add_comm]
theorem addE_comm (a b : Int) : addE b a = addE a b := by unfold addE; rw [Int.add_comm]
theorem mulV_comm (a b : Int) : mulV b a = mulV a b := by unfold mulV; rw [Int.mul_comm]
theorem mulE_comm (a b : Int) : mulE b a = mulE a b := by unfold mulE; rw [Int.mul_comm]

theorem reckons_walk (a b : Int) (w : World) (w0 : (Lit.int .u64 a).wf = true) (w1 : (Lit.int .u64 b).wf = true) :
    Calls Try.prog 3 #[.int .u64 a, .int .u64 b] w fun e w' => e = .returned (.bool true) ∧ Below w.heap.size w w' := by
  obtain ⟨ha, ha'⟩ := u64_bounds w0
  obtain ⟨hb, hb'⟩ := u64_bounds w1
  clear w0 w1
  go_enter Try.func3, Try.ntmps3
  go_wp2_with fail
  refine (lives_any _).mono ?_
  rintro e w1 ⟨rfl, hbel⟩
  go_wp2_with fail
  refine (add_any _ _ _ ha ha' hb hb').mono ?_
  rintro e w2 ⟨rfl, rfl⟩
  go_wp2_with fail
  refine (radd_any _ _ _ ha ha' hb hb').mono ?_
  rintro e w2 ⟨rfl, rfl⟩
  go_wp2_with fail
  refine (mul_any _ _ _ ha ha' hb hb').mono ?_
  rintro e w2 ⟨rfl, rfl⟩
  go_wp2_with fail
  refine (rmul_any _ _ _ ha ha' hb hb').mono ?_
  rintro e w2 ⟨rfl, rfl⟩
  go_wp2_with fail
  go_ret
  exact ⟨rfl, hbel⟩
end Go.Proofs.Ytmobdanpkojbbaa.Oct

/- The walk of AdlerSums: it returns true for any sum and any bytes, and nothing that was there is written. -/
import Derived.Test.YtoeaillhklephaaAdlA
namespace Go.Proofs.Ytoeaillhklephaa.Adl
open Go.RowKit Go.Proofs.Ytoeaillhklephaa.Oct
set_option linter.unusedVariables false

set_option maxHeartbeats 1000000 in
set_option maxRecDepth 100000 in
theorem sums_walk (s : Int) (p : Option Addr) (len cap : Nat) (zs0 : List Int) (w : World) (hs : (Lit.int .u32 s).wf = true) (hr0 : IsRow .u8 w p len cap zs0) :
    Calls Try.prog 3 #[.int .u32 s, .slice p len cap] w fun e w' => e = .returned (.bool true) ∧ Below w.heap.size w w' := by
  obtain ⟨xs, hx, hr, hlc, hcm, hnil⟩ := hr0.row
  obtain ⟨hs0, hs1⟩ := bounds_u32 hs
  obtain ⟨n, rfl⟩ : ∃ n : Nat, s = (n : Int) := ⟨s.toNat, by omega⟩
  clear hr0 hs
  have hcm' := hcm
  unfold maxLen at hcm
  by_cases hbig : 8000 < len
  · have hd : decide (8000 < (len : Int)) = true := by simp; omega
    go_enter Try.func3, Try.ntmps3
    go_wp2_with fail
    refine (lives_any _).mono ?_
    rintro e w1 ⟨rfl, hb1⟩
    go_wp2_with fail
    refine (lives_any _).mono ?_
    rintro e w2 ⟨rfl, hb2⟩
    go_wp2_with fail
    go_ret
    exact ⟨rfl, hb1.trans (hb2.mono hb1.size)⟩
  · have hd : decide (8000 < (len : Int)) = false := by simp; omega
    go_enter Try.func3, Try.ntmps3
    go_wp2_with fail
    refine (lives_any _).mono ?_
    rintro e w1 ⟨rfl, hb1⟩
    have hr1 := hr.below hb1
    have ca := fun k : Nat => conv_row (w := w1.drewN k) len cap (show Row (w1.drewN k) p xs from hr1) hx
    go_wp2_with fail
    go_quiet (first
      | (go_at_call 9; exact quietly (sum_any _ _ _ xs _ (by exact hr1) hx (by omega)))
      | (go_at_call 10; exact quietly (rsum_any xs _ (by omega)))
      | (go_at_call 11; exact quietly (update_any _ _ _ _ xs _ (by omega) (by exact hr1) hx (by omega)))
      | (go_at_call 12; exact quietly (rupdate_any _ xs _ (by omega) (by omega))))
    go_wp2_with fail
    go_ret
    exact ⟨rfl, hb1.trans ((show Drawn w1 (w1.drewN nq) from ⟨nq, rfl⟩).below _)⟩
end Go.Proofs.Ytoeaillhklephaa.Adl

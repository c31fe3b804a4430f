/- The walk of OctetsPuts: it returns true for any number and any size, and nothing that was there is written. -/
import Derived.Test.YtmobdanpkojbbaaOctK
namespace Go.Proofs.Ytmobdanpkojbbaa.Oct
open Go.RowKit
set_option linter.unusedVariables false

theorem putV_turn (n size : Int) : (putV n size true).reverse = putV n size false := by
  unfold putV; split <;> simp [putL]
theorem putV_length (n size : Int) (big : Bool) : (putV n size big).length ≤ 8 ∧ (putE n size = 0 → ((putV n size big).length : Int) = size) := by
  unfold putV putE
  by_cases hs : sizeB size = true
  · obtain ⟨sz, rfl, h1, h8⟩ := size_cases hs
    by_cases hf : fitsB n ((sz : Int)).toNat = true
    · rw [hs, hf]; simp [putL_length]; omega
    · have hf' : fitsB n ((sz : Int)).toNat = false := by simpa using hf
      rw [hs, hf']; simp
  · have hs' : sizeB size = false := by simpa using hs
    rw [hs']; simp
theorem get_put (n size : Int) (big : Bool) (hn : 0 ≤ n) (h : putE n size = 0) : getE (putV n size big) 0 size = 0 ∧ getV (putV n size big) 0 size big = n := by
  have hs : sizeB size = true := by
    by_cases hs : sizeB size = true
    · exact hs
    · unfold putE at h; rw [if_neg hs] at h; cases h
  have hf : fitsB n size.toNat = true := by
    by_cases hf : fitsB n size.toNat = true
    · exact hf
    · unfold putE at h; rw [if_pos hs, if_neg hf] at h; cases h
  have hl := (putV_length n size big).2 h
  have hw : withinB (putV n size big).length 0 size = true := by unfold withinB; simp; omega
  have hv : putV n size big = putL n.toNat size.toNat big := by unfold putV; rw [hs, hf]; simp
  constructor
  · unfold getE; rw [hs, hw]; simp
  · unfold getV okGet
    rw [hs, hw, hv]
    simp only [Bool.and_self, if_true, Int.toNat_zero, List.drop_zero]
    rw [List.take_of_length_le (by rw [putL_length]; omega)]
    rw [numOf_putL]
    · omega
    · have := of_decide_eq_true hf
      have hp : ((256 : Int) ^ size.toNat) = ((256 ^ size.toNat : Nat) : Int) := by simp
      rw [hp] at this
      omega

/-- what Put hands back, whichever way -/
theorem new_form {w w' : World} {xs : List UInt8} {er : Int} {e : Ending} (h : NewBytes w xs er e w') :
    ∃ q, e = .returned (.tuple #[.slice q xs.length xs.length, .int .i64 er]) ∧ Row w' q xs := by
  rcases h.2 with ⟨h1, h2, h3⟩ | ⟨h1, h2, h3⟩
  · exact ⟨_, by rw [h1]; exact h2, h3.row⟩
  · exact ⟨none, by rw [h2]; exact h3, by rw [h2]; exact fun h => absurd h (by simp)⟩

set_option maxHeartbeats 1000000 in
theorem puts_walk (n size : Int) (w : World) (w0 : (Lit.int .u64 n).wf = true) (w1 : (Lit.int .i64 size).wf = true) :
    Calls Try.prog 5 #[.int .u64 n, .int .i64 size] w fun e w' => e = .returned (.bool true) ∧ Below w.heap.size w w' := by
  obtain ⟨hn, hn'⟩ := bounds_u64 w0
  clear w0 w1
  go_enter Try.func5, Try.ntmps5
  go_wp2_with fail
  refine (lives_any _).mono ?_
  rintro e w1 ⟨rfl, hb1⟩
  have hz1 := hb1.size
  go_wp2_with fail
  refine (put_any _ _ _ _ hn hn').mono ?_
  intro e w2 hN
  obtain ⟨qa, rfl, hra⟩ := new_form hN
  have hb2 := hN.1
  have hz2 := hb2.size
  clear hN
  go_wp2_with fail
  refine (put_any _ _ _ _ hn hn').mono ?_
  intro e w3 hN
  obtain ⟨qb, rfl, hrb⟩ := new_form hN
  have hb3 := hN.1
  have hz3 := hb3.size
  clear hN
  go_wp2_with fail
  refine (rput_any _ _ _ _ hn hn').mono ?_
  rintro e w4 ⟨rfl, hb4⟩
  have hz4 := hb4.size
  have hra4 := (hra.below hb3).below hb4
  have hrb4 := hrb.below hb4
  have hbw : Below w.heap.size w w4 := ((hb1.trans (hb2.mono hz1)).trans (hb3.mono (by omega))).trans (hb4.mono (by omega))
  clear hra hrb hb1 hb2 hb3 hb4
  have hla := (putV_length n size true)
  have hlb := (putV_length n size false)
  have ca := fun k : Nat => conv_row (w := w4.drewN k) (putV n size true).length (putV n size true).length (show Row (w4.drewN k) qa _ from hra4) rfl
  have cb := fun k : Nat => conv_row (w := w4.drewN k) (putV n size false).length (putV n size false).length (show Row (w4.drewN k) qb _ from hrb4) rfl
  have hne1 : (!((bs (putV n size true)).toList == (bs (putV n size true)).toList)) = false := by simp
  have hne2 : (!((bs (putV n size false)).toList == (bs (putV n size true).reverse).toList)) = false := by rw [putV_turn]; simp
  go_wp2_with fail
  go_quiet ((go_at_call 19; exact quietly (turn_any _ _ (by omega))))
  clear ca cb hne1 hne2
  go_wp2_with fail
  refine (get_any _ _ _ _ _ _ (putV n size true) _ (by exact hra4) rfl (by unfold maxLen; omega) (by omega) (by omega)).mono ?_
  rintro e w5 ⟨rfl, hd5⟩
  have hb5 : Below w4.heap.size w4 w5 := by obtain ⟨m, rfl⟩ := hd5; exact ⟨rfl, rfl, rfl, Nat.le_refl _, fun _ _ => rfl⟩
  go_wp2_with fail
  refine (get_any _ _ _ _ _ _ (putV n size false) _ (hrb4.below hb5) rfl (by unfold maxLen; omega) (by omega) (by omega)).mono ?_
  rintro e w6 ⟨rfl, hd6⟩
  have hb6 := hd6.below w.heap.size
  have hfin : Below w.heap.size w w6 := (hbw.trans (hb5.mono (by omega))).trans hb6
  clear hd5 hd6 hb5 hb6 hra4 hrb4 hbw hla hlb
  by_cases h0 : putE n size = 0
  · obtain ⟨g1, g2⟩ := get_put n size true hn h0
    obtain ⟨g3, g4⟩ := get_put n size false hn h0
    rw [g1, g2, g3, g4, h0]
    clear g1 g2 g3 g4 h0
    go_wp2_with fail
    go_ret
    exact ⟨rfl, hfin⟩
  · have hne : (putE n size != 0) = true := by simpa using h0
    go_wp2_with fail
    go_ret
    exact ⟨rfl, hfin⟩
end Go.Proofs.Ytmobdanpkojbbaa.Oct

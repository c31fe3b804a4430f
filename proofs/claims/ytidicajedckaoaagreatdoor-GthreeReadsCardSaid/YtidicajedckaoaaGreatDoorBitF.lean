
/- Contracts of the document's own functions on texts of 0 and 1: Of, Peek, Read. -/
import Derived.Test.YtidicajedckaoaaGreatDoorBitE
namespace Go.Proofs.YtidicajedckaoaaGreatDoor.Bit
open Go.RowKit Go.Proofs.YtidicajedckaoaaGreatDoor.Oct
set_option linter.unusedVariables false

theorem dturn_any (l : List Bool) (w : World) (hs : l.length ≤ 1000000) :
    Calls Tryz.prog 44 #[.string (ds l)] w fun e w' => e = .returned (.string (ds l.reverse)) ∧ w = w' := by
  have h := rturn_any (l.map dig) w (by simpa using hs)
  rw [← List.map_reverse] at h
  exact h
theorem wordE_of (low : Bool) (v n : Nat) : (if low then (word v n).reverse else word v n) = wordE low v n := rfl

set_option maxHeartbeats 400000 in
theorem rof_any (xs : List UInt8) (low : Bool) (w : World) (hs : xs.length ≤ 1000) :
    Calls Tryz.prog 27 #[.string (bs xs), .bool low] w fun e w' => e = .returned (.string (ds (bitsOf low xs))) ∧ Below w.heap.size w w' := by
  have hsz := bs_size xs
  go_enter Tryz.func27, Tryz.ntmps27
  go_wp2_with fail
  go_loopw [5, 6] (fun s i wr => ∃ k : Nat, k ≤ xs.length ∧ i = .int .i64 (k : Int) ∧ s = .string (ds (bitsOf low (xs.take k))) ∧ Below w.heap.size w wr) (fun _ c _ => xs.length - (intOf c).toNat)
  case atStart => exact ⟨0, by omega, rfl, rfl, Below.refl _ _⟩
  case round =>
    obtain ⟨k, hk, rfl, rfl, hF⟩ := hrel
    by_cases hlt : k < xs.length
    · obtain ⟨x, hx⟩ : ∃ x, x = xs[k] := ⟨_, rfl⟩
      have hb : x.toNat < 256 := x.toNat_lt
      have hz2 : (ds (bitsOf low (xs.take k))).size ≤ 8000 := by rw [ds_size, bitsOf_length, List.length_take]; omega
      have hg : ∀ h, (bs xs)[k]'h = x := fun h => (bs_get xs k h hlt).trans hx.symm
      have HG := Lib.hid hg
      have HX := Lib.hid (show xs.take (k + 1) = xs.take k ++ [x] by rw [hx, take_succ' xs k hlt])
      clear hg hx
      go_wp2_with fail
      rw [HG.out]
      rw [show ((x.toNat : Int) % 4294967296) = (x.toNat : Int) by omega]
      refine (rword_any _ 8 _ (by omega) (by omega)).mono ?_
      rintro e w1 ⟨rfl, hb1⟩
      have hF1 : Below w.heap.size w w1 := hF.trans (hb1.mono hF.size)
      have hz1 : (ds (word x.toNat 8)).size = 8 := by rw [ds_size, word_length]
      cases low
      · go_wp2_with fail
        go_roundw
        case rel =>
          refine ⟨k + 1, by omega, by go_num, ?_, hF1⟩
          rw [ds_append, HX.out, bitsOf_append]; simp [bitsOf, bitsB, wordE]
        case measure => simp [intOf]; omega
      · go_wp2_with fail
        refine (dturn_any _ _ (by rw [word_length]; omega)).mono ?_
        rintro e w' ⟨rfl, rfl⟩
        have hz3 : (ds (word x.toNat 8).reverse).size = 8 := by rw [ds_size, List.length_reverse, word_length]
        go_wp2_with fail
        go_roundw
        case rel =>
          refine ⟨k + 1, by omega, by go_num, ?_, hF1⟩
          rw [ds_append, HX.out, bitsOf_append]; simp [bitsOf, bitsB, wordE]
        case measure => simp [intOf]; omega
    · have : k = xs.length := by omega
      subst this
      rw [List.take_length]
      go_wp2_with fail
      go_ret
      exact ⟨rfl, hF⟩
theorem zs32 : (Value.string { data := #[48, 48, 48, 48, 48, 48, 48, 48, 48, 48, 48, 48, 48, 48, 48, 48, 48, 48, 48, 48, 48, 48, 48, 48, 48, 48, 48, 48, 48, 48, 48, 48] }) = .string (ds (zs 32)) := by rfl
/-- the document's answers -/
def rpV (n : Int) (low : Bool) (l : List Bool) (at_ : Nat) : Int := if cntB n then ((peekV low (l.drop at_) n.toNat : Nat) : Int) else 0
def rrV (n : Int) (low : Bool) (l : List Bool) (at_ : Nat) : Int := if okR n l.length at_ then ((peekV low (l.drop at_) n.toNat : Nat) : Int) else 0
end Go.Proofs.YtidicajedckaoaaGreatDoor.Bit

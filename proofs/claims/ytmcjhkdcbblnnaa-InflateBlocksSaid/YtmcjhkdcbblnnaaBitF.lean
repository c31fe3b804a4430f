
/- Contracts of the document's own functions on texts of 0 and 1: Of, Peek, Read. -/
import Derived.Test.YtmcjhkdcbblnnaaBitE
namespace Go.Proofs.Ytmcjhkdcbblnnaa.Bit
open Go.RowKit Go.Proofs.Ytmcjhkdcbblnnaa.Oct
set_option linter.unusedVariables false

theorem dturn_any (l : List Bool) (w : World) (hs : l.length ≤ 1000000) :
    Calls Try.prog 33 #[.string (ds l)] w fun e w' => e = .returned (.string (ds l.reverse)) ∧ w = w' := by
  have h := rturn_any (l.map dig) w (by simpa using hs)
  rw [← List.map_reverse] at h
  exact h
theorem wordE_of (low : Bool) (v n : Nat) : (if low then (word v n).reverse else word v n) = wordE low v n := rfl

set_option maxHeartbeats 400000 in
theorem rof_any (xs : List UInt8) (low : Bool) (w : World) (hs : xs.length ≤ 1000) :
    Calls Try.prog 24 #[.string (bs xs), .bool low] w fun e w' => e = .returned (.string (ds (bitsOf low xs))) ∧ Below w.heap.size w w' := by
  have hsz := bs_size xs
  go_enter Try.func24, Try.ntmps24
  go_wp2_with fail
  go_loopw [5, 6] (fun s i wr => ∃ k : Nat, k ≤ xs.length ∧ i = .int .i64 (k : Int) ∧ s = .string (ds (bitsOf low (xs.take k))) ∧ Below w.heap.size w wr) (fun _ c _ => xs.length - (intOf c).toNat)
  case atStart => exact ⟨0, by omega, rfl, rfl, Below.refl _ _⟩
  case round =>
    obtain ⟨k, hk, rfl, rfl, hF⟩ := hrel
    by_cases hlt : k < xs.length
    · obtain ⟨x, hx⟩ : ∃ x, x = xs[k] := ⟨_, rfl⟩
      have hb : x.toNat < 256 := x.toNat_lt
      have hz2 : (ds (bitsOf low (xs.take k))).size ≤ 8000 := by rw [ds_size, bitsOf_length, List.length_take]; omega
      have hg : ∀ h, (bs xs)[k]'h = x := fun h => (bs_get xs k h hlt).trans hx.symm
      have HG := Lib.hid hg
      have HX := Lib.hid (show xs.take (k + 1) = xs.take k ++ [x] by rw [hx, take_succ' xs k hlt])
      clear hg hx
      go_wp2_with fail
      rw [HG.out]
      rw [show ((x.toNat : Int) % 4294967296) = (x.toNat : Int) by omega]
      refine (rword_any _ 8 _ (by omega) (by omega)).mono ?_
      rintro e w1 ⟨rfl, hb1⟩
      have hF1 : Below w.heap.size w w1 := hF.trans (hb1.mono hF.size)
      have hz1 : (ds (word x.toNat 8)).size = 8 := by rw [ds_size, word_length]
      cases low
      · go_wp2_with fail
        go_roundw
        case rel =>
          refine ⟨k + 1, by omega, by go_num, ?_, hF1⟩
          rw [ds_append, HX.out, bitsOf_append]; simp [bitsOf, bitsB, wordE]
        case measure => simp [intOf]; omega
      · go_wp2_with fail
        refine (dturn_any _ _ (by rw [word_length]; omega)).mono ?_
        rintro e w' ⟨rfl, rfl⟩
        have hz3 : (ds (word x.toNat 8).reverse).size = 8 := by rw [ds_size, List.length_reverse, word_length]
        go_wp2_with fail
        go_roundw
        case rel =>
          refine ⟨k + 1, by omega, by go_num, ?_, hF1⟩
          rw [ds_append, HX.out, bitsOf_append]; simp [bitsOf, bitsB, wordE]
        case measure => simp [intOf]; omega
    · have : k = xs.length := by omega
      subst this
      rw [List.take_length]
      go_wp2_with fail
      go_ret
      exact ⟨rfl, hF⟩
theorem zs32 : (Value.string { data := #[48, 48, 48, 48, 48, 48, 48, 48, 48, 48, 48, 48, 48, 48, 48, 48, 48, 48, 48, 48, 48, 48, 48, 48, 48, 48, 48, 48, 48, 48, 48, 48] }) = .string (ds (zs 32)) := by rfl
/-- the document's answers -/
def rpV (n : Int) (low : Bool) (l : List Bool) (at_ : Nat) : Int := if cntB n then ((peekV low (l.drop at_) n.toNat : Nat) : Int) else 0
def rrV (n : Int) (low : Bool) (l : List Bool) (at_ : Nat) : Int := if okR n l.length at_ then ((peekV low (l.drop at_) n.toNat : Nat) : Int) else 0
theorem rpeek_any (l : List Bool) (at_ : Nat) (n : Int) (low : Bool) (w : World) (ha : at_ ≤ l.length) (hl : l.length ≤ 100000) :
    Calls Try.prog 59 #[.string (ds l), .int .i64 (at_ : Int), .int .i64 n, .bool low] w fun e w' => e = .returned (.tuple #[.int .u32 (rpV n low l at_), .int .i64 (peekE n)]) ∧ w = w' := by
  have hsz := ds_size l
  by_cases hc : cntB n = true
  · have e1 : rpV n low l at_ = ((peekV low (l.drop at_) n.toNat : Nat) : Int) := by unfold rpV; rw [hc]; rfl
    have e2 : peekE n = 0 := by unfold peekE; rw [hc]; rfl
    have hb := of_decide_eq_true hc
    obtain ⟨k, rfl⟩ : ∃ k : Nat, n = (k : Int) := ⟨n.toNat, by omega⟩
    rw [e1, e2, Int.toNat_natCast]
    clear e1 e2 hc
    have hk : k ≤ 32 := by omega
    have x1 : (ds l).extract at_ l.length = ds (l.drop at_) := by rw [ds_extract, List.take_of_length_le (by simp)]
    have x2 : ds (l.drop at_) ++ ds (zs 32) = ds (l.drop at_ ++ zs 32) := ds_append _ _
    have hz1 : (ds (l.drop at_)).size ≤ 100000 := by rw [ds_size, List.length_drop]; omega
    have hz2 : (ds (zs 32)).size = 32 := by rw [ds_size, zs_length]
    have hz3 : k ≤ (ds (l.drop at_ ++ zs 32)).size := by rw [ds_size, List.length_append, zs_length]; omega
    have x3 : (ds (l.drop at_ ++ zs 32)).extract 0 k = ds ((l.drop at_ ++ zs 32).take k) := by rw [ds_extract]; simp
    have hd1 : decide ((k : Int) < 0) = false := by simp
    have hd2 : decide (32 < (k : Int)) = false := by simp; omega
    cases low
    · have e1 : peekV false (l.drop at_) k = num ((l.drop at_ ++ zs 32).take k) := rfl
      rw [e1]
      clear e1
      go_enter Try.func59, Try.ntmps59
      rw [zs32]
      go_wp2_with fail
      refine (rnumber_any _ _ (by rw [List.length_take]; omega)).mono ?_
      rintro e w' ⟨rfl, rfl⟩
      go_wp2_with fail
      go_ret2
      exact ⟨rfl, rfl⟩
    · have e1 : peekV true (l.drop at_) k = num ((l.drop at_ ++ zs 32).take k).reverse := rfl
      rw [e1]
      clear e1
      go_enter Try.func59, Try.ntmps59
      rw [zs32]
      go_wp2_with fail
      refine (dturn_any _ _ (by rw [List.length_take]; omega)).mono ?_
      rintro e w' ⟨rfl, rfl⟩
      go_wp2_with fail
      refine (rnumber_any _ _ (by rw [List.length_reverse, List.length_take]; omega)).mono ?_
      rintro e w' ⟨rfl, rfl⟩
      go_wp2_with fail
      go_ret2
      exact ⟨rfl, rfl⟩
  · have hc' : cntB n = false := by simpa using hc
    have e1 : rpV n low l at_ = 0 := by unfold rpV; rw [hc']; rfl
    have e2 : peekE n = 1 := by unfold peekE; rw [hc']; rfl
    have hb : ¬ (0 ≤ n ∧ n ≤ 32) := of_decide_eq_false hc'
    rw [e1, e2]
    clear e1 e2 hc hc'
    by_cases h0 : n < 0
    · have hd1 : decide (n < 0) = true := by simpa using h0
      clear hb
      go_enter Try.func59, Try.ntmps59
      go_wp2_with fail
      go_ret2
      exact ⟨rfl, rfl⟩
    · have hd1 : decide (n < 0) = false := by simpa using h0
      have hd2 : decide (32 < n) = true := by simp; omega
      clear hb
      go_enter Try.func59, Try.ntmps59
      go_wp2_with fail
      go_ret2
      exact ⟨rfl, rfl⟩
theorem rread_any (l : List Bool) (at_ : Nat) (n : Int) (low : Bool) (w : World) (ha : at_ ≤ l.length) (hl : l.length ≤ 100000) :
    Calls Try.prog 42 #[.string (ds l), .int .i64 (at_ : Int), .int .i64 n, .bool low] w fun e w' => e = .returned (.tuple #[.int .u32 (rrV n low l at_), .int .i64 ((readA n l.length at_ : Nat) : Int), .int .i64 (readE n l.length at_)]) ∧ w = w' := by
  have hsz := ds_size l
  by_cases hc : cntB n = true
  · have hb := of_decide_eq_true hc
    have e0 : rpV n low l at_ = ((peekV low (l.drop at_) n.toNat : Nat) : Int) := by unfold rpV; rw [hc]; rfl
    have e00 : peekE n = 0 := by unfold peekE; rw [hc]; rfl
    obtain ⟨k, rfl⟩ : ∃ k : Nat, n = (k : Int) := ⟨n.toNat, by omega⟩
    by_cases hk : at_ + k ≤ l.length
    · have ho : okR (k : Int) l.length at_ = true := by unfold okR; rw [hc]; simp; omega
      have e1 : rrV (k : Int) low l at_ = ((peekV low (l.drop at_) k : Nat) : Int) := by unfold rrV; rw [ho]; rfl
      have e2 : readE (k : Int) l.length at_ = 0 := by unfold readE; rw [ho]; rfl
      have e3 : ((readA (k : Int) l.length at_ : Nat) : Int) = (at_ : Int) + (k : Int) := by unfold readA; rw [ho]; simp
      have E0 := Lib.hid e0
      have E00 := Lib.hid e00
      have E1 := Lib.hid e1
      have E2 := Lib.hid e2
      have E3 := Lib.hid e3
      clear e0 e00 e1 e2 e3 hc ho
      have hd : decide ((l.length : Int) < (at_ : Int) + (k : Int)) = false := by simp; omega
      go_enter Try.func42, Try.ntmps42
      go_wp2_with fail
      refine (rpeek_any _ _ _ _ _ ha hl).mono ?_
      rintro e w' ⟨rfl, rfl⟩
      rw [E0.out, E00.out, Int.toNat_natCast]
      go_wp2_with fail
      go_ret3
      exact ⟨by rw [E1.out, E2.out, E3.out]; rfl, rfl⟩
    · have ho : okR (k : Int) l.length at_ = false := by unfold okR; rw [hc]; simp; omega
      have e1 : rrV (k : Int) low l at_ = 0 := by unfold rrV; rw [ho]; rfl
      have e2 : readE (k : Int) l.length at_ = 2 := by unfold readE; rw [ho, hc]; rfl
      have e3 : ((readA (k : Int) l.length at_ : Nat) : Int) = (at_ : Int) := by unfold readA; rw [ho]; simp
      have E0 := Lib.hid e0
      have E00 := Lib.hid e00
      have E1 := Lib.hid e1
      have E2 := Lib.hid e2
      have E3 := Lib.hid e3
      clear e0 e00 e1 e2 e3 hc ho
      have hd : decide ((l.length : Int) < (at_ : Int) + (k : Int)) = true := by simp; omega
      go_enter Try.func42, Try.ntmps42
      go_wp2_with fail
      refine (rpeek_any _ _ _ _ _ ha hl).mono ?_
      rintro e w' ⟨rfl, rfl⟩
      rw [E0.out, E00.out, Int.toNat_natCast]
      go_wp2_with fail
      go_ret3
      exact ⟨by rw [E1.out, E2.out, E3.out]; rfl, rfl⟩
  · have hc' : cntB n = false := by simpa using hc
    have ho : okR n l.length at_ = false := by unfold okR; rw [hc']; simp
    have e00 : peekE n = 1 := by unfold peekE; rw [hc']; rfl
    have e1 : rrV n low l at_ = 0 := by unfold rrV; rw [ho]; rfl
    have e2 : readE n l.length at_ = 1 := by unfold readE; rw [ho, hc']; rfl
    have e3 : ((readA n l.length at_ : Nat) : Int) = (at_ : Int) := by unfold readA; rw [ho]; simp
    have E00 := Lib.hid e00
    have E1 := Lib.hid e1
    have E2 := Lib.hid e2
    have E3 := Lib.hid e3
    clear e00 e1 e2 e3 hc hc' ho
    go_enter Try.func42, Try.ntmps42
    go_wp2_with fail
    refine (rpeek_any _ _ _ _ _ ha hl).mono ?_
    rintro e w' ⟨rfl, rfl⟩
    rw [E00.out]
    go_wp2_with fail
    go_ret3
    exact ⟨by rw [E1.out, E2.out, E3.out]; rfl, rfl⟩
end Go.Proofs.Ytmcjhkdcbblnnaa.Bit

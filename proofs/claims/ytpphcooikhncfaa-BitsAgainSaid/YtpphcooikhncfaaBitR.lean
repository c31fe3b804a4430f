/- Contracts of Reverse and ReverseAll. -/
import Derived.Test.YtpphcooikhncfaaBitO
namespace Go.Proofs.Ytpphcooikhncfaa.Bit
open Go.RowKit Go.Proofs.Ytpphcooikhncfaa.Oct
set_option linter.unusedVariables false

/-- what has been turned behind k bits -/
def revP (x k : Nat) : Nat := num (word x k).reverse * 2 ^ (8 - k)
theorem revP_zero (x : Nat) : revP x 0 = 0 := by simp [revP, word, num]
theorem revP_all (x : UInt8) : revP x.toNat 8 = (revB x).toNat := by rw [revB_toNat]; simp [revP]
theorem revP_lt (x k : Nat) (h : k ≤ 8) : revP x k < 256 := by
  have h1 := num_lt (word x k).reverse
  rw [List.length_reverse, word_length] at h1
  unfold revP
  have e : (256 : Nat) = 2 ^ k * 2 ^ (8 - k) := by rw [← Nat.pow_add, show k + (8 - k) = 8 by omega]
  rw [e]
  exact Nat.mul_lt_mul_of_pos_right h1 (Nat.pow_pos (by omega))
theorem revP_step (x k : Nat) (h : k < 8) : revP x k ||| (x / 2 ^ k % 2) * 2 ^ (7 - k) = revP x (k + 1) := by
  unfold revP
  rw [word, List.reverse_cons, num_snoc, bit_toNat]
  have e1 : 8 - k = (7 - k) + 1 := by omega
  have e2 : 8 - (k + 1) = 7 - k := by omega
  rw [e2, e1, Nat.pow_succ, Nat.add_mul]
  have e3 : num (word x k).reverse * (2 ^ (7 - k) * 2) = num (word x k).reverse * 2 * 2 ^ (7 - k) := by rw [Nat.mul_assoc, Nat.mul_comm 2]
  rw [e3]
  refine nat_join (7 - k + 1) _ _ ?_ ?_
  · rw [Nat.pow_succ, Nat.mul_assoc, Nat.mul_comm 2]; exact Nat.mul_mod_left _ _
  · rw [Nat.pow_succ, Nat.mul_comm (2 ^ (7 - k))]; exact Nat.mul_lt_mul_of_pos_right (Nat.mod_lt _ (by omega)) (Nat.pow_pos (by omega))
theorem rev_val (m k : Nat) (hm : m < 256) (h : k < 8) :
    bits .or .u8 ((revP m k : Nat) : Int) (bits .and .u8 ((m : Int) / 2 ^ k) 1 * 2 ^ (7 - k) % 256) = ((revP m (k + 1) : Nat) : Int) := by
  have e1 : ((m : Int) / 2 ^ k) = ((m / 2 ^ k : Nat) : Int) := by push_cast; rfl
  have hle : m / 2 ^ k ≤ m := Nat.div_le_self _ _
  rw [e1, show (1 : Int) = ((1 : Nat) : Int) from rfl, u8_and_nat _ _ (by omega) (by omega), Nat.and_one_is_mod]
  have hlt : m / 2 ^ k % 2 * 2 ^ (7 - k) < 256 := by
    have h2 : m / 2 ^ k % 2 < 2 := Nat.mod_lt _ (by omega)
    have h3 : (2 : Nat) ^ (7 - k) ≤ 2 ^ 7 := Nat.pow_le_pow_right (by omega) (by omega)
    exact Nat.lt_of_le_of_lt (Nat.mul_le_mul (Nat.le_of_lt_succ h2) h3) (by decide)
  have e2 : (((m / 2 ^ k % 2 : Nat) : Int) * 2 ^ (7 - k)) = ((m / 2 ^ k % 2 * 2 ^ (7 - k) : Nat) : Int) := by push_cast; rfl
  rw [e2, Int.emod_eq_of_lt (by omega) (by omega), u8_or_nat _ _ (revP_lt m k (by omega)) hlt, revP_step m k h]
set_option maxHeartbeats 400000 in
theorem reverse_any (x : UInt8) (w : World) : Calls Try.prog 33 #[.int .u8 (x.toNat : Int)] w fun e w' => e = .returned (.int .u8 ((revB x).toNat : Int)) ∧ w = w' := by
  have hx : x.toNat < 256 := x.toNat_lt
  rw [← revP_all]
  generalize x.toNat = m at hx ⊢
  go_enter Try.func33, Try.ntmps33
  go_wp2
  go_loop [3, 4, 5] (fun t u i => ∃ k : Nat, k ≤ 8 ∧ i = .int .i64 (k : Int) ∧ t = .int .u8 ((revP m k : Nat) : Int)) (fun _ _ i => 8 - (intOf i).toNat)
  case atStart => exact ⟨0, Nat.zero_le _, rfl, by simp [revP_zero]⟩
  case round =>
    obtain ⟨k, hk, rfl, rfl⟩ := hrel
    by_cases hlt : k < 8
    · go_wp2
      go_round
      case rel => exact ⟨k + 1, by omega, by go_num, by rw [rev_val m k hx hlt]⟩
      case measure => simp [intOf]; omega
    · have : k = 8 := by omega
      subst this
      go_wp2
      go_ret
      exact ⟨rfl, rfl⟩
def RevR (g : Nat) (w : World) (xs : List UInt8) (k : Nat) (wr : World) : Prop := Below g w wr ∧ Blk wr g (fillL (xs.map revB) k)
def RevP (w : World) (xs : List UInt8) (len : Nat) (e : Ending) (w' : World) : Prop :=
  Below w.heap.size w w' ∧ e = .returned (.slice (some ⟨w.heap.size, 0, none⟩) len len) ∧ Blk w' w.heap.size (xs.map revB)
set_option maxHeartbeats 1000000 in
theorem reverseAll_any (p : Option Addr) (len cap : Nat) (xs : List UInt8) (w : World) (hr : Row w p xs) (hx : xs.length = len) (hl : len ≤ 1000000) :
    Calls Try.prog 30 #[.slice p len cap] w (RevP w xs len) := by
  obtain ⟨i0, hi, hz0, hz1, hz2⟩ := info_parts Try.infoByte
  have HX := Lib.hid hx
  clear hx
  go_enter Try.func30, Try.ntmps30
  go_wp2_with (at_make; refine wpList_make_full _ rfl _ _ 22 rfl w.heap.size 5 i0 (.int .u8 0) 1 Try.underlying22 hi hz0 hz1 .i64 .i64 (len : Int) (len : Int) len rfl rfl rfl rfl ?c2 ?c3 ?c4 ?_)
  case c2 => rw [hz2]; omega
  case c3 => unfold maxLen; omega
  case c4 => omega
  intro w1 hown hgrow
  have hg0 := blk_of_own hown
  have hb1 : Below w.heap.size w w1 := (Below.refl _ _).grown hgrow (Nat.le_refl _) (fun k hk => by cases hk)
  have hP : RevR w.heap.size w xs 0 w1 := ⟨hb1, by
    unfold Blk
    rw [fillL_zero, List.length_map, HX.out, ← made_zero]
    simpa using hg0⟩
  clear hown hgrow hg0 hb1
  go_wp2_with fail
  go_loopw [4, 10] (fun i c wr => ∃ k : Nat, k ≤ len ∧ c = .int .i64 (k : Int) ∧ RevR w.heap.size w xs k wr) (fun _ c _ => len - (intOf c).toNat)
  case atStart => exact ⟨0, by omega, rfl, hP⟩
  case round =>
    obtain ⟨k, hk, rfl, hR⟩ := hrel
    by_cases hlt : k < len
    · have hkx : k < xs.length := by rw [HX.out]; exact hlt
      have hkm : k < (xs.map revB).length := by simpa using hkx
      have hkf : k < (fillL (xs.map revB) k).length := by rw [fillL_length _ _ (by omega)]; exact hkm
      have hc := hR.2.cell k hkf
      have hfz := hR.2.frozen k
      generalize (fillL (xs.map revB) k)[k] = old at hc
      obtain ⟨b, off, rfl, hbl, hcs⟩ := hr (by omega)
      have hcx := (hR.1.cell (p := ⟨b, off + k, none⟩) hbl).trans (hcs k hkx)
      clear hcs
      go_wp2_with fail
      refine (reverse_any _ _).mono ?_
      rintro e w' ⟨rfl, rfl⟩
      go_wp2_with fail
      go_roundw
      case rel =>
        refine ⟨k + 1, by omega, by go_num, hR.1.setCell (Nat.le_refl _) _, ?_⟩
        rw [← fillL_step _ _ hkm, List.getElem_map]
        exact hR.2.set_ k _
      case measure => simp [intOf]; omega
    · have hkl : k = len := by omega
      subst hkl
      have hfull := hR.2
      have e : fillL (xs.map revB) k = xs.map revB := by
        have := fillL_all (xs.map revB)
        rwa [List.length_map, HX.out] at this
      rw [e] at hfull
      clear e
      go_wp2_with fail
      go_ret
      exact ⟨hR.1, rfl, hfull⟩
end Go.Proofs.Ytpphcooikhncfaa.Bit

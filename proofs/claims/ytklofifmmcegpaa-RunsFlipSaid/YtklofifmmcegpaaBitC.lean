
/- Contracts of a reader's next, Peek, Read and Align. -/
import Derived.Test.YtklofifmmcegpaaBitA
namespace Go.Proofs.Ytklofifmmcegpaa.Bit
open Go.RowKit Go.Proofs.Ytklofifmmcegpaa.Oct
set_option linter.unusedVariables false

theorem gsh_byte (low : Bool) (i c : Nat) (h : i < c) : gsh low (8 * i) 8 (8 * c) = shiftN i c (!low) := by
  cases low <;> simp [gsh, shiftN] <;> omega
theorem ret_int {k : IntKind} {a b : Int} (h : a = b) : Ending.returned (.int k a) = .returned (.int k b) := by rw [h]
theorem or_step (xs : List UInt8) (c k : Nat) (low : Bool) (x : UInt8) (hk : k < c) (hc : c ≤ 5) (hx : k < xs.length) (hl : xs.length = c) (hxx : xs[k] = x) :
    bits .or .u64 ((Oct.part (!low) c (xs.take k) : Nat) : Int) (IntKind.u64.wrap (IntKind.u64.wrap (x.toNat : Int) * 2 ^ min (gsh low (8 * k) 8 (8 * c)) 64)) = ((Oct.part (!low) c (xs.take (k + 1)) : Nat) : Int) := by
  subst hxx
  have hb : xs[k].toNat < 256 := xs[k].toNat_lt
  have ht := term_lt xs[k] k c (!low) hk (by omega)
  have hp := part_lt (!low) c (xs.take k) (by rw [List.length_take]; omega) (by omega)
  have e0 : min (gsh low (8 * k) 8 (8 * c)) 64 = shiftN k c (!low) := by
    rw [gsh_byte low k c hk]
    apply Nat.min_eq_left
    cases low <;> simp [shiftN] <;> omega
  have e1 : IntKind.u64.wrap ((xs[k].toNat : Int) * 2 ^ shiftN k c (!low)) = ((xs[k].toNat * 2 ^ shiftN k c (!low) : Nat) : Int) := by
    have e2 : ((xs[k].toNat : Int) * 2 ^ shiftN k c (!low)) = ((xs[k].toNat * 2 ^ shiftN k c (!low) : Nat) : Int) := by push_cast; rfl
    rw [e2, IntWalk.u64_in _ (by omega)]
  rw [e0, IntWalk.u64_in ((xs[k].toNat : Int)) (by omega), e1, u64_or_nat _ _ hp ht, take_succ' xs k hx]
  have hlen : (xs.take k).length = k := by rw [List.length_take]; omega
  have := part_step (!low) c (xs.take k) xs[k] (by omega) (by omega)
  rw [hlen] at this
  rw [this]
theorem mask_val (G s n : Nat) (hG : G < 18446744073709551616) (hn : n ≤ 32) (hs : s ≤ 40) :
    bits .and .u64 ((G : Int) / 2 ^ min s 64) (IntKind.u64.wrap (IntKind.u64.wrap (2 ^ n) - 1)) % 4294967296 = ((G / 2 ^ s % 2 ^ n : Nat) : Int) := by
  rw [Nat.min_eq_left (by omega)]
  have h32 : (2 : Nat) ^ n ≤ 2 ^ 32 := Nat.pow_le_pow_right (by omega) hn
  have hpos : 0 < (2 : Nat) ^ n := Nat.pow_pos (by omega)
  have e1 : ((2 : Int) ^ n) = ((2 ^ n : Nat) : Int) := by push_cast; rfl
  have e2 : ((G : Int) / 2 ^ s) = ((G / 2 ^ s : Nat) : Int) := by push_cast; rfl
  have hle : G / 2 ^ s ≤ G := Nat.div_le_self _ _
  have hlt : G / 2 ^ s % 2 ^ n < 2 ^ n := Nat.mod_lt _ hpos
  rw [e1, e2, IntWalk.u64_in ((2 ^ n : Nat) : Int) (by omega)]
  have e3 : (((2 ^ n : Nat) : Int) - 1) = ((2 ^ n - 1 : Nat) : Int) := by omega
  rw [e3, IntWalk.u64_in _ (by omega), u64_and_nat _ _ (by omega) (by omega), Nat.and_two_pow_sub_one_eq_mod]
  omega

def peekA (n : Int) (low : Bool) (xs : List UInt8) (at_ : Nat) : Int := if cntB n then ((nextV low xs at_ n.toNat : Nat) : Int) else 0
def peekE (n : Int) : Int := if cntB n then 0 else 1
/-- may so many bits be read? -/
def okR (n : Int) (len at_ : Nat) : Bool := cntB n && decide ((at_ : Int) + n ≤ (len : Int))
def readV (n : Int) (low : Bool) (xs : List UInt8) (at_ : Nat) : Int := if okR n (8 * xs.length) at_ then ((nextV low xs at_ n.toNat : Nat) : Int) else 0
def readE (n : Int) (len at_ : Nat) : Int := if okR n len at_ then 0 else if cntB n then 2 else 1
def readA (n : Int) (len at_ : Nat) : Nat := if okR n len at_ then at_ + n.toNat else at_
end Go.Proofs.Ytklofifmmcegpaa.Bit

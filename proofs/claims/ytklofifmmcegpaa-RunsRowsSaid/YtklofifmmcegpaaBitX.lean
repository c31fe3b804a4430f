
/- The contract of a writer's add: the bits of a number behind those that were written. -/
import Derived.Test.YtklofifmmcegpaaBitW
import Derived.Deep.RegionHeld3
namespace Go.Proofs.Ytklofifmmcegpaa.Bit
open Go.RowKit Go.Proofs.Ytklofifmmcegpaa.Oct
set_option linter.unusedVariables false
set_option maxRecDepth 20000
set_option linter.unusedSimpArgs false

theorem gsh_lt (low : Bool) (used n : Nat) (hu : used < 8) (hn : n ≤ 32) : gsh low used n (8 * cnt used n) ≤ 40 := by
  have : cnt used n ≤ 5 := by unfold cnt; omega
  cases low <;> simp [gsh] <;> omega
theorem grp_val (low : Bool) (used n v : Nat) (hv : v < 2 ^ n) (hn : n ≤ 32) (hu : used < 8) :
    IntKind.u64.wrap ((v : Int) * 2 ^ min (gsh low used n (8 * cnt used n)) 64) = ((grpN low used n v : Nat) : Int) := by
  have h1 := gsh_lt low used n hu hn
  have h2 := grpN_lt low used n v hv hn hu
  rw [Nat.min_eq_left (by omega)]
  have e : ((v : Int) * 2 ^ gsh low used n (8 * cnt used n)) = ((grpN low used n v : Nat) : Int) := by unfold grpN; push_cast; rfl
  rw [e, IntWalk.u64_in _ (by omega)]
theorem addC_val (low : Bool) (used n v i : Nat) (hn : n ≤ 32) (hu : used < 8) (hi : i < cnt used n) :
    ((grpN low used n v : Nat) : Int) / 2 ^ min (gsh low (8 * i) 8 (8 * cnt used n)) 64 % 256 = (((addC low used n v i).toNat : Nat) : Int) := by
  have h1 : gsh low (8 * i) 8 (8 * cnt used n) ≤ 40 := by
    have : cnt used n ≤ 5 := by unfold cnt; omega
    cases low <;> simp [gsh] <;> omega
  rw [Nat.min_eq_left (by omega)]
  unfold addC
  generalize grpN low used n v = G
  generalize gsh low (8 * i) 8 (8 * cnt used n) = s
  have hb : G / 2 ^ s % 256 < 256 := Nat.mod_lt _ (by omega)
  have e2 : ((G : Int) / 2 ^ s) = ((G / 2 ^ s : Nat) : Int) := by push_cast; rfl
  rw [UInt8.toNat_ofNat', Nat.mod_eq_of_lt hb, e2]
  omega
end Go.Proofs.Ytklofifmmcegpaa.Bit

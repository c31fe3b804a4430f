/- The contract of octets.Get over bytes that lie anywhere in memory: the number of the bytes at the place, or the error, whatever the arguments. -/
import Derived.Test.YtmobdanpkojbbaaOctA
import Derived.Deep.QuietTactic
import Derived.BigQuiet
import Derived.Outline
namespace Go.Proofs.Ytmobdanpkojbbaa.Oct
open Go.RowKit
set_option linter.unusedVariables false

def Drawn (w w' : World) : Prop := ∃ n, w' = w.drewN n
/-- a slice's value reads as these bytes -/
def Row (w : World) (p : Option Addr) (xs : List UInt8) : Prop :=
  0 < xs.length → ∃ b off, p = some ⟨b, off, none⟩ ∧ b < w.heap.size ∧ ∀ i (h : i < xs.length), w.cell? ⟨b, off + i, none⟩ = some (.int .u8 (xs[i].toNat : Int))

def okGet (xs : List UInt8) (at_ size : Int) : Bool := sizeB size && withinB xs.length at_ size
def getV (xs : List UInt8) (at_ size : Int) (big : Bool) : Int :=
  if okGet xs at_ size then ((numOf big ((xs.drop at_.toNat).take size.toNat) : Nat) : Int) else 0
def getE (xs : List UInt8) (at_ size : Int) : Int :=
  if sizeB size then (if withinB xs.length at_ size then 0 else 2) else 1

def winV (xs : List UInt8) (at_ n : Int) : List UInt8 := if withinB xs.length at_ n then (xs.drop at_.toNat).take n.toNat else []
def winE (xs : List UInt8) (at_ n : Int) : Int := if withinB xs.length at_ n then 0 else 2

theorem size_cases {n : Int} (h : sizeB n = true) : ∃ k : Nat, n = (k : Int) ∧ 1 ≤ k ∧ k ≤ 8 := by
  have h' := of_decide_eq_true h
  exact ⟨n.toNat, by omega, by omega, by omega⟩
theorem take_succ' (ys : List UInt8) (k : Nat) (h : k < ys.length) : ys.take (k + 1) = ys.take k ++ [ys[k]] := by
  rw [List.take_succ_eq_append_getElem h]

theorem Drawn.more {w w' : World} (h : Drawn w w') (n : Nat) : Drawn w (w'.drewN n) := by
  obtain ⟨m, rfl⟩ := h
  exact ⟨m + n, by rw [World.drewN_drewN]⟩
theorem term_wrap (x : UInt8) (k sz : Nat) (big : Bool) (h : k < sz) (h8 : sz ≤ 8) : IntKind.u64.wrap ((x.toNat : Int) * 2 ^ min (shiftN k sz big) 64) = ((x.toNat * 2 ^ shiftN k sz big : Nat) : Int) := by
  have e : min (shiftN k sz big) 64 = shiftN k sz big := by
    apply Nat.min_eq_left
    cases big <;> simp [shiftN] <;> omega
  have ht := term_lt x k sz big h h8
  rw [e]
  have e2 : ((x.toNat : Int) * 2 ^ shiftN k sz big) = ((x.toNat * 2 ^ shiftN k sz big : Nat) : Int) := by push_cast; rfl
  rw [e2, IntWalk.u64_in _ (by omega)]

theorem quietly {P : Program} {f : FuncId} {args : Array Value} {w : World} {n : Nat} {v : Value}
    (h : Calls P f args (w.drewN n) fun e w' => e = .returned v ∧ w.drewN n = w') : Calls P f args (w.drewN n) fun e w'' => e = .returned v ∧ ∃ m, w'' = w.drewN m :=
  h.mono fun _ _ ⟨he, hm⟩ => ⟨he, n, hm.symm⟩

set_option maxHeartbeats 1000000 in
theorem get_loop (b off len cap a sz : Nat) (big : Bool) (ys : List UInt8) (w : World) (hy : ys.length = sz) (h1 : 1 ≤ sz) (h8 : sz ≤ 8) (hw : a + sz ≤ len) (hl : len ≤ maxLen)
    (hc : ∀ i (h : i < ys.length), w.cell? ⟨b, off + (a + i), none⟩ = some (.int .u8 (ys[i].toNat : Int)))
    (hs : sizeB (sz : Int) = true) (hin : withinB len (a : Int) (sz : Int) = true) :
    Calls Try.prog 15 #[.slice (some ⟨b, off, none⟩) len cap, .int .u64 (a : Int), .int .i64 (sz : Int), .bool big] w
      fun e w' => e = .returned (.tuple #[.int .u64 ((numOf big ys : Nat) : Int), .int .i64 0]) ∧ Drawn w w' := by
  have hl' := hl
  unfold maxLen at hl
  go_enter Try.func15, Try.ntmps15
  go_wp2_with fail
  refine (size_any _ _).mono ?_
  rintro e w' ⟨rfl, rfl⟩
  rw [hs]
  go_wp2_with fail
  refine (within_any _ _ _ _ _ _ hl' (by omega) (by omega) (by omega) (by omega)).mono ?_
  rintro e w' ⟨rfl, rfl⟩
  rw [hin]
  clear hs hin
  have HC := Lib.hid hc; clear hc
  have HY := Lib.hid hy; clear hy
  go_wp2_with fail
  go_loopw [10, 11, 22] (fun n i c wr => ∃ k : Nat, k ≤ sz ∧ c = .int .i64 (k : Int) ∧ n = .int .u64 ((part big sz (ys.take k) : Nat) : Int) ∧ Drawn w wr) (fun _ _ c _ => sz - (intOf c).toNat)
  case atStart => exact ⟨0, by omega, rfl, by simp [part_nil], ⟨0, rfl⟩⟩
  case round =>
    obtain ⟨k, hk, rfl, rfl, hq⟩ := hrel
    by_cases hlt : k < sz
    · have hky : k < ys.length := by rw [HY.out]; exact hlt
      have hcell : wr.cell? ⟨b, off + (a + k), none⟩ = some (.int .u8 (ys[k].toNat : Int)) := by
        obtain ⟨nq, rfl⟩ := hq; exact HC.out k hky
      have hx : ys[k].toNat < 256 := ys[k].toNat_lt
      have ht := term_lt ys[k] k sz big hlt h8
      have hp := part_lt big sz (ys.take k) (by rw [List.length_take]; omega) h8
      have HT0 : bits .or .u64 ((part big sz (ys.take k) : Nat) : Int) (((ys[k].toNat * 2 ^ shiftN k sz big : Nat)) : Int) = ((part big sz (ys.take (k + 1)) : Nat) : Int) := by
        rw [u64_or_nat _ _ hp ht, take_succ' ys k hky]
        have hlen : (ys.take k).length = k := by rw [List.length_take]; omega
        have := part_step big sz (ys.take k) ys[k] (by omega) h8
        rw [hlen] at this
        rw [this]
      have HT := Lib.hid HT0
      clear HT0 ht hp
      go_wp2_with fail
      go_quiet ((go_at_call 22; exact quietly (shift_any _ _ _ _ (by omega) (by omega))))
      go_wp2_with fail
      go_roundw
      case rel => exact ⟨k + 1, by omega, by go_num, by rw [term_wrap _ _ _ _ hlt h8, HT.out], hq.more _⟩
      case measure => simp [intOf]; omega
    · have : k = sz := by omega
      subst this
      have hp := part_full big k ys HY.out
      rw [List.take_of_length_le (by rw [HY.out]; omega)]
      rw [hp]
      clear hp
      go_wp2_with fail
      go_ret2
      exact ⟨rfl, hq⟩
theorem get_wrong (p : Option Addr) (len cap : Nat) (at_ size : Int) (big : Bool) (w : World) (hs : sizeB size = false) :
    Calls Try.prog 15 #[.slice p len cap, .int .u64 at_, .int .i64 size, .bool big] w fun e w' => e = .returned (.tuple #[.int .u64 0, .int .i64 1]) ∧ Drawn w w' := by
  go_enter Try.func15, Try.ntmps15
  go_wp2_with fail
  refine (size_any _ _).mono ?_
  rintro e w' ⟨rfl, rfl⟩
  rw [hs]
  go_wp2_with fail
  go_ret2
  exact ⟨rfl, 0, rfl⟩
theorem get_cut (p : Option Addr) (len cap : Nat) (at_ : Int) (sz : Nat) (big : Bool) (w : World) (hl : len ≤ maxLen) (ha : 0 ≤ at_) (ha' : at_ ≤ 18446744073709551615) (h1 : 1 ≤ sz) (h8 : sz ≤ 8)
    (hs : sizeB (sz : Int) = true) (hin : withinB len at_ (sz : Int) = false) :
    Calls Try.prog 15 #[.slice p len cap, .int .u64 at_, .int .i64 (sz : Int), .bool big] w fun e w' => e = .returned (.tuple #[.int .u64 0, .int .i64 2]) ∧ Drawn w w' := by
  have hl' := hl
  unfold maxLen at hl
  go_enter Try.func15, Try.ntmps15
  go_wp2_with fail
  refine (size_any _ _).mono ?_
  rintro e w' ⟨rfl, rfl⟩
  rw [hs]
  go_wp2_with fail
  refine (within_any _ _ _ _ _ _ hl' (by omega) (by omega) (by omega) (by omega)).mono ?_
  rintro e w' ⟨rfl, rfl⟩
  rw [hin]
  go_wp2_with fail
  go_ret2
  exact ⟨rfl, 0, rfl⟩
theorem get_any (p : Option Addr) (len cap : Nat) (at_ size : Int) (big : Bool) (xs : List UInt8) (w : World) (hr : Row w p xs) (hx : xs.length = len) (hl : len ≤ maxLen) (ha : 0 ≤ at_) (ha' : at_ ≤ 18446744073709551615) :
    Calls Try.prog 15 #[.slice p len cap, .int .u64 at_, .int .i64 size, .bool big] w
      fun e w' => e = .returned (.tuple #[.int .u64 (getV xs at_ size big), .int .i64 (getE xs at_ size)]) ∧ Drawn w w' := by
  by_cases hs : sizeB size = true
  · obtain ⟨sz, rfl, h1, h8⟩ := size_cases hs
    by_cases hin : withinB len at_ (sz : Int) = true
    · obtain ⟨a, rfl⟩ : ∃ a : Nat, at_ = (a : Int) := ⟨at_.toNat, by omega⟩
      have hw : a + sz ≤ len := by have := of_decide_eq_true hin; omega
      obtain ⟨b, off, rfl, hb, hc⟩ := hr (by omega)
      have e1 : getV xs (a : Int) (sz : Int) big = ((numOf big ((xs.drop a).take sz) : Nat) : Int) := by
        unfold getV okGet
        rw [hx, hs, hin]; simp
      have e2 : getE xs (a : Int) (sz : Int) = 0 := by
        unfold getE
        rw [hx, hs, hin]; simp
      rw [e1, e2]
      refine get_loop b off len cap a sz big _ w (by simp; omega) h1 h8 hw hl ?_ hs hin
      intro i h
      have h' : a + i < xs.length := by simp at h; omega
      rw [hc (a + i) h']
      simp
    · have hin' : withinB len at_ (sz : Int) = false := by simpa using hin
      have e1 : getV xs at_ (sz : Int) big = 0 := by
        unfold getV okGet
        rw [hx, hin']; simp
      have e2 : getE xs at_ (sz : Int) = 2 := by
        unfold getE
        rw [hx, hs, hin']; simp
      rw [e1, e2]
      exact get_cut p len cap at_ sz big w hl ha ha' h1 h8 hs hin'
  · have hs' : sizeB size = false := by simpa using hs
    have e1 : getV xs at_ size big = 0 := by
      unfold getV okGet
      rw [hs']; simp
    have e2 : getE xs at_ size = 1 := by
      unfold getE
      rw [hs']; simp
    rw [e1, e2]
    exact get_wrong p len cap at_ size big w hs'
end Go.Proofs.Ytmobdanpkojbbaa.Oct

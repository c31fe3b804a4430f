
/- Contracts of the reckoning functions of package bits, and of what a reader looks up: byteAt, next, At, Left. -/
import Derived.Test.YtidicajedckaoaaGreatDoorBase
import Derived.Test.YtidicajedckaoaaGreatDoorBitN
namespace Go.Proofs.YtidicajedckaoaaGreatDoor.Bit
open Go.RowKit Go.Proofs.YtidicajedckaoaaGreatDoor.Oct
set_option linter.unusedVariables false

/-- but for the blocks S nothing that was there has turned -/
def Only (S : Nat → Prop) (w w' : World) : Prop :=
  w'.os = w.os ∧ w'.tape = w.tape ∧ w'.output = w.output ∧ w.heap.size ≤ w'.heap.size ∧ ∀ k, k < w.heap.size → ¬ S k → w'.heap[k]? = w.heap[k]?
theorem Only.refl (S : Nat → Prop) (w : World) : Only S w w := ⟨rfl, rfl, rfl, Nat.le_refl _, fun _ _ _ => rfl⟩
theorem Only.trans {S : Nat → Prop} {a b c : World} (h : Only S a b) (k : Only S b c) : Only S a c :=
  ⟨k.1.trans h.1, k.2.1.trans h.2.1, k.2.2.1.trans h.2.2.1, Nat.le_trans h.2.2.2.1 k.2.2.2.1, fun i hi hs => (k.2.2.2.2 i (by have := h.2.2.2.1; omega) hs).trans (h.2.2.2.2 i hi hs)⟩
theorem Only.below {S : Nat → Prop} {B : Nat} {w w' : World} (h : Only S w w') (hB : B ≤ w.heap.size) (hS : ∀ k, k < B → ¬ S k) : Below B w w' :=
  ⟨h.1, h.2.1, h.2.2.1, h.2.2.2.1, fun k hk => h.2.2.2.2 k (by omega) (hS k hk)⟩
theorem Only.of_below {S : Nat → Prop} {w w' : World} (h : Below w.heap.size w w') : Only S w w' := ⟨h.os, h.tape, h.output, h.size, fun k hk _ => h.block k hk⟩
theorem Only.drawn (S : Nat → Prop) {w w' : World} (h : Drawn w w') : Only S w w' := by
  obtain ⟨n, rfl⟩ := h
  exact ⟨rfl, rfl, rfl, Nat.le_refl _, fun _ _ _ => rfl⟩
theorem Only.setCell {S : Nat → Prop} {w : World} {p : Addr} (hp : S p.block) (u : Value) : Only S w (w.setCell p u) :=
  ⟨rfl, rfl, rfl, by simp [World.setCell], fun k hk hs => Below.heap_setCell _ _ _ _ (fun e => hs (e ▸ hp))⟩
theorem Only.mono {S S' : Nat → Prop} {w w' : World} (h : Only S w w') (hs : ∀ k, k < w.heap.size → S k → S' k) : Only S' w w' :=
  ⟨h.1, h.2.1, h.2.2.1, h.2.2.2.1, fun k hk hn => h.2.2.2.2 k hk (fun e => hn (hs k hk e))⟩

/-- a row whose bytes lie below block g -/
def RowB (w : World) (g : Nat) (p : Option Addr) (xs : List UInt8) : Prop :=
  0 < xs.length → ∃ b off, p = some ⟨b, off, none⟩ ∧ b < g ∧ ∀ i (h : i < xs.length), w.cell? ⟨b, off + i, none⟩ = some (.int .u8 (xs[i].toNat : Int))
/-- a reader in memory -/
def Rd (w : World) (g : Nat) (p : Option Addr) (cap : Nat) (xs : List UInt8) (at_ : Nat) (low : Bool) : Prop :=
  w.heap[g]? = some (.cells #[.slice p xs.length cap, .int .i64 (at_ : Int), .bool low] 99 (0, 0)) ∧ RowB w g p xs ∧ at_ ≤ 8 * xs.length ∧ 8 * xs.length ≤ 2000000000000000
theorem Rd.c0 {w : World} {g : Nat} {p : Option Addr} {cap : Nat} {xs : List UInt8} {at_ : Nat} {low : Bool} (h : Rd w g p cap xs at_ low) : w.cell? ⟨g, 0, none⟩ = some (.slice p xs.length cap) := by
  simp [World.cell?, h.1]
theorem Rd.c1 {w : World} {g : Nat} {p : Option Addr} {cap : Nat} {xs : List UInt8} {at_ : Nat} {low : Bool} (h : Rd w g p cap xs at_ low) : w.cell? ⟨g, 1, none⟩ = some (.int .i64 (at_ : Int)) := by
  simp [World.cell?, h.1]
theorem Rd.c2 {w : World} {g : Nat} {p : Option Addr} {cap : Nat} {xs : List UInt8} {at_ : Nat} {low : Bool} (h : Rd w g p cap xs at_ low) : w.cell? ⟨g, 2, none⟩ = some (.bool low) := by
  simp [World.cell?, h.1]
theorem Rd.fz {w : World} {g : Nat} {p : Option Addr} {cap : Nat} {xs : List UInt8} {at_ : Nat} {low : Bool} (h : Rd w g p cap xs at_ low) (i : Nat) : w.frozen? ⟨g, i, none⟩ = false := by
  simp [World.frozen?, h.1]
theorem Rd.drawn {w w' : World} {g : Nat} {p : Option Addr} {cap : Nat} {xs : List UInt8} {at_ : Nat} {low : Bool} (h : Rd w g p cap xs at_ low) (hd : Drawn w w') : Rd w' g p cap xs at_ low := by
  obtain ⟨n, rfl⟩ := hd
  exact h
theorem Rd.lt {w : World} {g : Nat} {p : Option Addr} {cap : Nat} {xs : List UInt8} {at_ : Nat} {low : Bool} (h : Rd w g p cap xs at_ low) : g < w.heap.size := by
  rcases Nat.lt_or_ge g w.heap.size with hlt | hge
  · exact hlt
  · have := h.1; rw [Array.getElem?_eq_none hge] at this; cases this
theorem Rd.below {w w' : World} {B g : Nat} {p : Option Addr} {cap : Nat} {xs : List UInt8} {at_ : Nat} {low : Bool} (h : Rd w g p cap xs at_ low) (hb : Below B w w') (hg : g < B) : Rd w' g p cap xs at_ low := by
  refine ⟨(hb.block g hg).trans h.1, fun h0 => ?_, h.2.2⟩
  obtain ⟨b, off, e, hlt, hc⟩ := h.2.1 h0
  exact ⟨b, off, e, hlt, fun i hi => (hb.cell (p := ⟨b, off + i, none⟩) (by show b < B; omega)).trans (hc i hi)⟩
theorem Rd.put {w : World} {g : Nat} {p : Option Addr} {cap : Nat} {xs : List UInt8} {at_ : Nat} {low : Bool} (h : Rd w g p cap xs at_ low) (k : Nat) (hk : k ≤ 8 * xs.length) :
    Rd (w.setCell ⟨g, 1, none⟩ (.int .i64 (k : Int))) g p cap xs k low := by
  refine ⟨?_, fun h0 => ?_, hk, h.2.2.2⟩
  · have := h.1
    simp [World.setCell, Array.getElem?_modify, this]
  · obtain ⟨b, off, e, hlt, hc⟩ := h.2.1 h0
    refine ⟨b, off, e, hlt, fun i hi => ?_⟩
    rw [← hc i hi]
    exact World.cell?_of_block (w := w) (Below.heap_setCell _ _ _ _ (by show b ≠ g; omega))

def cntB (n : Int) : Bool := decide (0 ≤ n ∧ n ≤ 32)
theorem count_any (n : Int) (w : World) : Calls Tryz.prog 74 #[.int .i64 n] w fun e w' => e = .returned (.bool (cntB n)) ∧ w = w' := by
  by_cases h0 : 0 ≤ n
  · by_cases h1 : n ≤ 32
    · have e : cntB n = true := by simp [cntB, h0, h1]
      rw [e]; clear e
      go_enter Tryz.func74, Tryz.ntmps74
      go_wp2
      go_ret
      exact ⟨rfl, rfl⟩
    · have e : cntB n = false := by simp [cntB, h1]
      rw [e]; clear e
      have hd : decide (n ≤ 32) = false := by simpa using h1
      go_enter Tryz.func74, Tryz.ntmps74
      go_wp2
      go_ret
      exact ⟨rfl, rfl⟩
  · have e : cntB n = false := by simp [cntB, h0]
    rw [e]; clear e
    have hd : decide (0 ≤ n) = false := by simpa using h0
    go_enter Tryz.func74, Tryz.ntmps74
    go_wp2
    go_ret
    exact ⟨rfl, rfl⟩
theorem bytesFor_any (n : Nat) (w : World) (h : n ≤ 4000000000000000) : Calls Tryz.prog 98 #[.int .i64 (n : Int)] w fun e w' => e = .returned (.int .i64 (((n + 7) / 8 : Nat) : Int)) ∧ w = w' := by
  have e : (((n + 7) / 8 : Nat) : Int) = ((n : Int) + 7) / 8 := by omega
  rw [e]; clear e
  go_enter Tryz.func98, Tryz.ntmps98
  go_wp2
  go_ret
  exact ⟨rfl, rfl⟩
theorem byteShift_any (i count : Nat) (low : Bool) (w : World) (h : i < count) (hc : count ≤ 5) :
    Calls Tryz.prog 100 #[.int .i64 (i : Int), .int .i64 (count : Int), .bool low] w fun e w' => e = .returned (.int .i64 ((gsh low (8 * i) 8 (8 * count) : Nat) : Int)) ∧ w = w' := by
  cases low
  · have e : ((gsh false (8 * i) 8 (8 * count) : Nat) : Int) = 8 * ((count : Int) - 1 - (i : Int)) := by simp only [gsh, Bool.false_eq_true, if_false]; omega
    rw [e]; clear e
    go_enter Tryz.func100, Tryz.ntmps100
    go_wp2
    go_ret
    exact ⟨rfl, rfl⟩
  · have e : ((gsh true (8 * i) 8 (8 * count) : Nat) : Int) = 8 * (i : Int) := by simp [gsh]
    rw [e]; clear e
    go_enter Tryz.func100, Tryz.ntmps100
    go_wp2
    go_ret
    exact ⟨rfl, rfl⟩
theorem groupShift_any (ahead n : Nat) (low : Bool) (w : World) (ha : ahead < 8) (hn : n ≤ 32) :
    Calls Tryz.prog 101 #[.int .i64 (ahead : Int), .int .i64 (n : Int), .bool low] w fun e w' => e = .returned (.int .i64 ((gsh low ahead n (8 * cnt ahead n) : Nat) : Int)) ∧ w = w' := by
  cases low
  · have e : ((gsh false ahead n (8 * cnt ahead n) : Nat) : Int) = 8 * (((cnt ahead n : Nat)) : Int) - (ahead : Int) - (n : Int) := by
      simp only [gsh, cnt, Bool.false_eq_true, if_false]; omega
    have hcn : cnt ahead n ≤ 5 := by unfold cnt; omega
    rw [e]; clear e
    go_enter Tryz.func101, Tryz.ntmps101
    go_wp2_with fail
    have e2 : (ahead : Int) + (n : Int) = ((ahead + n : Nat) : Int) := by omega
    rw [e2]
    refine (bytesFor_any _ _ (by omega)).mono ?_
    rintro e w' ⟨rfl, rfl⟩
    have e3 : (ahead + n + 7) / 8 = cnt ahead n := rfl
    rw [e3]
    clear e2 e3
    go_wp2
    go_ret
    exact ⟨rfl, rfl⟩
  · have e : ((gsh true ahead n (8 * cnt ahead n) : Nat) : Int) = (ahead : Int) := by simp [gsh]
    rw [e]; clear e
    go_enter Tryz.func101, Tryz.ntmps101
    go_wp2
    go_ret
    exact ⟨rfl, rfl⟩
theorem byteAt_any (g : Nat) (p : Option Addr) (cap : Nat) (xs : List UInt8) (at_ : Nat) (low : Bool) (w : World) (i : Nat) (hR : Rd w g p cap xs at_ low) (hi : i ≤ 4000000000000000) :
    Calls Tryz.prog 99 #[.pointer (some ⟨g, 0, none⟩), .int .i64 (i : Int)] w fun e w' => e = .returned (.int .u8 ((xs.getD i 0).toNat : Int)) ∧ w = w' := by
  have h0 := hR.c0
  by_cases h : i < xs.length
  · obtain ⟨b, off, rfl, _, hc⟩ := hR.2.1 (by omega)
    have hc' := hc i h
    have hx : xs[i].toNat < 256 := xs[i].toNat_lt
    have hd : decide ((xs.length : Int) ≤ (i : Int)) = false := by simp; omega
    have e : (xs.getD i 0).toNat = xs[i].toNat := by simp [List.getD, List.getElem?_eq_getElem h]
    have hl := hR.2.2.2
    rw [e]
    clear hR hc e
    go_enter Tryz.func99, Tryz.ntmps99
    go_wp2
    go_ret
    exact ⟨rfl, rfl⟩
  · have e : (((xs.getD i 0).toNat : Nat) : Int) = 0 := by simp [List.getD, List.getElem?_eq_none (Nat.le_of_not_lt h)]
    have hd : decide ((xs.length : Int) ≤ (i : Int)) = true := by simp; omega
    have hl := hR.2.2.2
    rw [e]
    clear hR e
    go_enter Tryz.func99, Tryz.ntmps99
    go_wp2
    go_ret
    exact ⟨rfl, rfl⟩
theorem left_any (g : Nat) (p : Option Addr) (cap : Nat) (xs : List UInt8) (at_ : Nat) (low : Bool) (w : World) (hR : Rd w g p cap xs at_ low) :
    Calls Tryz.prog 75 #[.pointer (some ⟨g, 0, none⟩)] w fun e w' => e = .returned (.int .i64 ((8 * xs.length - at_ : Nat) : Int)) ∧ Drawn w w' := by
  have h0 := hR.c0
  have h1 := hR.c1
  have hl := hR.2.2.1
  have hm := hR.2.2.2
  have e : (((8 * xs.length - at_ : Nat)) : Int) = 8 * (xs.length : Int) - (at_ : Int) := by omega
  rw [e]
  clear hR e
  go_enter Tryz.func75, Tryz.ntmps75
  go_wp2_with fail
  go_quiet (fail)
  go_wp2_with fail
  go_ret
  exact ⟨rfl, ⟨_, rfl⟩⟩
end Go.Proofs.YtidicajedckaoaaGreatDoor.Bit


/- Contracts of the reckoning functions of package bits, and of what a reader looks up: byteAt, next, At, Left. -/
import Derived.Test.YtkeplmnohenbnaaBase
import Derived.Test.YtkeplmnohenbnaaBitN
import Derived.Lib.SliceRun
namespace Go.Proofs.Ytkeplmnohenbnaa.Bit
open Go.RowKit Go.Proofs.Ytkeplmnohenbnaa.Oct
set_option linter.unusedVariables false

/-- but for the blocks S nothing that was there has turned -/
def Only (S : Nat → Prop) (w w' : World) : Prop :=
  w'.os = w.os ∧ w'.tape = w.tape ∧ w'.output = w.output ∧ w.heap.size ≤ w'.heap.size ∧ ∀ k, k < w.heap.size → ¬ S k → w'.heap[k]? = w.heap[k]?
theorem Only.refl (S : Nat → Prop) (w : World) : Only S w w := ⟨rfl, rfl, rfl, Nat.le_refl _, fun _ _ _ => rfl⟩
theorem Only.trans {S : Nat → Prop} {a b c : World} (h : Only S a b) (k : Only S b c) : Only S a c :=
  ⟨k.1.trans h.1, k.2.1.trans h.2.1, k.2.2.1.trans h.2.2.1, Nat.le_trans h.2.2.2.1 k.2.2.2.1, fun i hi hs => (k.2.2.2.2 i (by have := h.2.2.2.1; omega) hs).trans (h.2.2.2.2 i hi hs)⟩
theorem Only.below {S : Nat → Prop} {B : Nat} {w w' : World} (h : Only S w w') (hB : B ≤ w.heap.size) (hS : ∀ k, k < B → ¬ S k) : Below B w w' :=
  ⟨h.1, h.2.1, h.2.2.1, h.2.2.2.1, fun k hk => h.2.2.2.2 k (by omega) (hS k hk)⟩
theorem Only.of_below {S : Nat → Prop} {w w' : World} (h : Below w.heap.size w w') : Only S w w' := ⟨h.os, h.tape, h.output, h.size, fun k hk _ => h.block k hk⟩
theorem Only.drawn (S : Nat → Prop) {w w' : World} (h : Drawn w w') : Only S w w' := by
  obtain ⟨n, rfl⟩ := h
  exact ⟨rfl, rfl, rfl, Nat.le_refl _, fun _ _ _ => rfl⟩
theorem Only.setCell {S : Nat → Prop} {w : World} {p : Addr} (hp : S p.block) (u : Value) : Only S w (w.setCell p u) :=
  ⟨rfl, rfl, rfl, by simp [World.setCell], fun k hk hs => Below.heap_setCell _ _ _ _ (fun e => hs (e ▸ hp))⟩
theorem Only.mono {S S' : Nat → Prop} {w w' : World} (h : Only S w w') (hs : ∀ k, k < w.heap.size → S k → S' k) : Only S' w w' :=
  ⟨h.1, h.2.1, h.2.2.1, h.2.2.2.1, fun k hk hn => h.2.2.2.2 k hk (fun e => hn (hs k hk e))⟩

/-- a row whose bytes lie below block g -/
def RowB (w : World) (g : Nat) (p : Option Addr) (xs : List UInt8) : Prop :=
  0 < xs.length → ∃ b off, p = some ⟨b, off, none⟩ ∧ b < g ∧ ∀ i (h : i < xs.length), w.cell? ⟨b, off + i, none⟩ = some (.int .u8 (xs[i].toNat : Int))
/-- a reader in memory -/
def Rd (w : World) (g : Nat) (p : Option Addr) (cap : Nat) (xs : List UInt8) (at_ : Nat) (low : Bool) : Prop :=
  w.heap[g]? = some (.cells #[.slice p xs.length cap, .int .i64 (at_ : Int), .bool low] 75 (0, 0)) ∧ RowB w g p xs ∧ at_ ≤ 8 * xs.length ∧ 8 * xs.length ≤ 2000000000000000
theorem Rd.c0 {w : World} {g : Nat} {p : Option Addr} {cap : Nat} {xs : List UInt8} {at_ : Nat} {low : Bool} (h : Rd w g p cap xs at_ low) : w.cell? ⟨g, 0, none⟩ = some (.slice p xs.length cap) := by
  simp [World.cell?, h.1]
theorem Rd.c1 {w : World} {g : Nat} {p : Option Addr} {cap : Nat} {xs : List UInt8} {at_ : Nat} {low : Bool} (h : Rd w g p cap xs at_ low) : w.cell? ⟨g, 1, none⟩ = some (.int .i64 (at_ : Int)) := by
  simp [World.cell?, h.1]
theorem Rd.c2 {w : World} {g : Nat} {p : Option Addr} {cap : Nat} {xs : List UInt8} {at_ : Nat} {low : Bool} (h : Rd w g p cap xs at_ low) : w.cell? ⟨g, 2, none⟩ = some (.bool low) := by
  simp [World.cell?, h.1]
theorem Rd.fz {w : World} {g : Nat} {p : Option Addr} {cap : Nat} {xs : List UInt8} {at_ : Nat} {low : Bool} (h : Rd w g p cap xs at_ low) (i : Nat) : w.frozen? ⟨g, i, none⟩ = false := by
  simp [World.frozen?, h.1]
theorem Rd.drawn {w w' : World} {g : Nat} {p : Option Addr} {cap : Nat} {xs : List UInt8} {at_ : Nat} {low : Bool} (h : Rd w g p cap xs at_ low) (hd : Drawn w w') : Rd w' g p cap xs at_ low := by
  obtain ⟨n, rfl⟩ := hd
  exact h
theorem Rd.lt {w : World} {g : Nat} {p : Option Addr} {cap : Nat} {xs : List UInt8} {at_ : Nat} {low : Bool} (h : Rd w g p cap xs at_ low) : g < w.heap.size := by
  rcases Nat.lt_or_ge g w.heap.size with hlt | hge
  · exact hlt
  · have := h.1; rw [Array.getElem?_eq_none hge] at this; cases this
theorem Rd.below {w w' : World} {B g : Nat} {p : Option Addr} {cap : Nat} {xs : List UInt8} {at_ : Nat} {low : Bool} (h : Rd w g p cap xs at_ low) (hb : Below B w w') (hg : g < B) : Rd w' g p cap xs at_ low := by
  refine ⟨(hb.block g hg).trans h.1, fun h0 => ?_, h.2.2⟩
  obtain ⟨b, off, e, hlt, hc⟩ := h.2.1 h0
  exact ⟨b, off, e, hlt, fun i hi => (hb.cell (p := ⟨b, off + i, none⟩) (by show b < B; omega)).trans (hc i hi)⟩
theorem Rd.put {w : World} {g : Nat} {p : Option Addr} {cap : Nat} {xs : List UInt8} {at_ : Nat} {low : Bool} (h : Rd w g p cap xs at_ low) (k : Nat) (hk : k ≤ 8 * xs.length) :
    Rd (w.setCell ⟨g, 1, none⟩ (.int .i64 (k : Int))) g p cap xs k low := by
  refine ⟨?_, fun h0 => ?_, hk, h.2.2.2⟩
  · have := h.1
    simp [World.setCell, Array.getElem?_modify, this]
  · obtain ⟨b, off, e, hlt, hc⟩ := h.2.1 h0
    refine ⟨b, off, e, hlt, fun i hi => ?_⟩
    rw [← hc i hi]
    exact World.cell?_of_block (w := w) (Below.heap_setCell _ _ _ _ (by show b ≠ g; omega))

def cntB (n : Int) : Bool := decide (0 ≤ n ∧ n ≤ 32)
theorem count_any (n : Int) (w : World) : Calls Try.prog 39 #[.int .i64 n] w fun e w' => e = .returned (.bool (cntB n)) ∧ w = w' := by
  by_cases h0 : 0 ≤ n
  · by_cases h1 : n ≤ 32
    · have e : cntB n = true := by simp [cntB, h0, h1]
      rw [e]; clear e
      go_enter Try.func39, Try.ntmps39
      go_wp2
      go_ret
      exact ⟨rfl, rfl⟩
    · have e : cntB n = false := by simp [cntB, h1]
      rw [e]; clear e
      have hd : decide (n ≤ 32) = false := by simpa using h1
      go_enter Try.func39, Try.ntmps39
      go_wp2
      go_ret
      exact ⟨rfl, rfl⟩
  · have e : cntB n = false := by simp [cntB, h0]
    rw [e]; clear e
    have hd : decide (0 ≤ n) = false := by simpa using h0
    go_enter Try.func39, Try.ntmps39
    go_wp2
    go_ret
    exact ⟨rfl, rfl⟩
theorem bytesFor_any (n : Nat) (w : World) (h : n ≤ 4000000000000000) : Calls Try.prog 45 #[.int .i64 (n : Int)] w fun e w' => e = .returned (.int .i64 (((n + 7) / 8 : Nat) : Int)) ∧ w = w' := by
  have e : (((n + 7) / 8 : Nat) : Int) = ((n : Int) + 7) / 8 := by omega
  rw [e]; clear e
  go_enter Try.func45, Try.ntmps45
  go_wp2
  go_ret
  exact ⟨rfl, rfl⟩
theorem byteShift_any (i count : Nat) (low : Bool) (w : World) (h : i < count) (hc : count ≤ 5) :
    Calls Try.prog 48 #[.int .i64 (i : Int), .int .i64 (count : Int), .bool low] w fun e w' => e = .returned (.int .i64 ((gsh low (8 * i) 8 (8 * count) : Nat) : Int)) ∧ w = w' := by
  cases low
  · have e : ((gsh false (8 * i) 8 (8 * count) : Nat) : Int) = 8 * ((count : Int) - 1 - (i : Int)) := by simp only [gsh, Bool.false_eq_true, if_false]; omega
    rw [e]; clear e
    go_enter Try.func48, Try.ntmps48
    go_wp2
    go_ret
    exact ⟨rfl, rfl⟩
  · have e : ((gsh true (8 * i) 8 (8 * count) : Nat) : Int) = 8 * (i : Int) := by simp [gsh]
    rw [e]; clear e
    go_enter Try.func48, Try.ntmps48
    go_wp2
    go_ret
    exact ⟨rfl, rfl⟩
theorem groupShift_any (ahead n : Nat) (low : Bool) (w : World) (ha : ahead < 8) (hn : n ≤ 32) :
    Calls Try.prog 46 #[.int .i64 (ahead : Int), .int .i64 (n : Int), .bool low] w fun e w' => e = .returned (.int .i64 ((gsh low ahead n (8 * cnt ahead n) : Nat) : Int)) ∧ w = w' := by
  cases low
  · have e : ((gsh false ahead n (8 * cnt ahead n) : Nat) : Int) = 8 * (((cnt ahead n : Nat)) : Int) - (ahead : Int) - (n : Int) := by
      simp only [gsh, cnt, Bool.false_eq_true, if_false]; omega
    have hcn : cnt ahead n ≤ 5 := by unfold cnt; omega
    rw [e]; clear e
    go_enter Try.func46, Try.ntmps46
    go_wp2_with fail
    have e2 : (ahead : Int) + (n : Int) = ((ahead + n : Nat) : Int) := by omega
    rw [e2]
    refine (bytesFor_any _ _ (by omega)).mono ?_
    rintro e w' ⟨rfl, rfl⟩
    have e3 : (ahead + n + 7) / 8 = cnt ahead n := rfl
    rw [e3]
    clear e2 e3
    go_wp2
    go_ret
    exact ⟨rfl, rfl⟩
  · have e : ((gsh true ahead n (8 * cnt ahead n) : Nat) : Int) = (ahead : Int) := by simp [gsh]
    rw [e]; clear e
    go_enter Try.func46, Try.ntmps46
    go_wp2
    go_ret
    exact ⟨rfl, rfl⟩
theorem byteAt_any (g : Nat) (p : Option Addr) (cap : Nat) (xs : List UInt8) (at_ : Nat) (low : Bool) (w : World) (i : Nat) (hR : Rd w g p cap xs at_ low) (hi : i ≤ 4000000000000000) :
    Calls Try.prog 49 #[.pointer (some ⟨g, 0, none⟩), .int .i64 (i : Int)] w fun e w' => e = .returned (.int .u8 ((xs.getD i 0).toNat : Int)) ∧ w = w' := by
  have h0 := hR.c0
  by_cases h : i < xs.length
  · obtain ⟨b, off, rfl, _, hc⟩ := hR.2.1 (by omega)
    have hc' := hc i h
    have hx : xs[i].toNat < 256 := xs[i].toNat_lt
    have hd : decide ((xs.length : Int) ≤ (i : Int)) = false := by simp; omega
    have e : (xs.getD i 0).toNat = xs[i].toNat := by simp [List.getD, List.getElem?_eq_getElem h]
    have hl := hR.2.2.2
    rw [e]
    clear hR hc e
    go_enter Try.func49, Try.ntmps49
    go_wp2
    go_ret
    exact ⟨rfl, rfl⟩
  · have e : (((xs.getD i 0).toNat : Nat) : Int) = 0 := by simp [List.getD, List.getElem?_eq_none (Nat.le_of_not_lt h)]
    have hd : decide ((xs.length : Int) ≤ (i : Int)) = true := by simp; omega
    have hl := hR.2.2.2
    rw [e]
    clear hR e
    go_enter Try.func49, Try.ntmps49
    go_wp2
    go_ret
    exact ⟨rfl, rfl⟩
theorem left_any (g : Nat) (p : Option Addr) (cap : Nat) (xs : List UInt8) (at_ : Nat) (low : Bool) (w : World) (hR : Rd w g p cap xs at_ low) :
    Calls Try.prog 43 #[.pointer (some ⟨g, 0, none⟩)] w fun e w' => e = .returned (.int .i64 ((8 * xs.length - at_ : Nat) : Int)) ∧ Drawn w w' := by
  have h0 := hR.c0
  have h1 := hR.c1
  have hl := hR.2.2.1
  have hm := hR.2.2.2
  have e : (((8 * xs.length - at_ : Nat)) : Int) = 8 * (xs.length : Int) - (at_ : Int) := by omega
  rw [e]
  clear hR e
  go_enter Try.func43, Try.ntmps43
  go_wp2_with fail
  go_quiet (fail)
  go_wp2_with fail
  go_ret
  exact ⟨rfl, ⟨_, rfl⟩⟩
end Go.Proofs.Ytkeplmnohenbnaa.Bit
/- Contracts of a reader's next, Peek, Read and Align. -/
namespace Go.Proofs.Ytkeplmnohenbnaa.Bit
open Go.RowKit Go.Proofs.Ytkeplmnohenbnaa.Oct
set_option linter.unusedVariables false

theorem gsh_byte (low : Bool) (i c : Nat) (h : i < c) : gsh low (8 * i) 8 (8 * c) = shiftN i c (!low) := by
  cases low <;> simp [gsh, shiftN] <;> omega
theorem ret_int {k : IntKind} {a b : Int} (h : a = b) : Ending.returned (.int k a) = .returned (.int k b) := by rw [h]
theorem or_step (xs : List UInt8) (c k : Nat) (low : Bool) (x : UInt8) (hk : k < c) (hc : c ≤ 5) (hx : k < xs.length) (hl : xs.length = c) (hxx : xs[k] = x) :
    bits .or .u64 ((Oct.part (!low) c (xs.take k) : Nat) : Int) (IntKind.u64.wrap (IntKind.u64.wrap (x.toNat : Int) * 2 ^ min (gsh low (8 * k) 8 (8 * c)) 64)) = ((Oct.part (!low) c (xs.take (k + 1)) : Nat) : Int) := by
  subst hxx
  have hb : xs[k].toNat < 256 := xs[k].toNat_lt
  have ht := term_lt xs[k] k c (!low) hk (by omega)
  have hp := part_lt (!low) c (xs.take k) (by rw [List.length_take]; omega) (by omega)
  have e0 : min (gsh low (8 * k) 8 (8 * c)) 64 = shiftN k c (!low) := by
    rw [gsh_byte low k c hk]
    apply Nat.min_eq_left
    cases low <;> simp [shiftN] <;> omega
  have e1 : IntKind.u64.wrap ((xs[k].toNat : Int) * 2 ^ shiftN k c (!low)) = ((xs[k].toNat * 2 ^ shiftN k c (!low) : Nat) : Int) := by
    have e2 : ((xs[k].toNat : Int) * 2 ^ shiftN k c (!low)) = ((xs[k].toNat * 2 ^ shiftN k c (!low) : Nat) : Int) := by push_cast; rfl
    rw [e2, IntWalk.u64_in _ (by omega)]
  rw [e0, IntWalk.u64_in ((xs[k].toNat : Int)) (by omega), e1, u64_or_nat _ _ hp ht, take_succ' xs k hx]
  have hlen : (xs.take k).length = k := by rw [List.length_take]; omega
  have := part_step (!low) c (xs.take k) xs[k] (by omega) (by omega)
  rw [hlen] at this
  rw [this]
theorem mask_val (G s n : Nat) (hG : G < 18446744073709551616) (hn : n ≤ 32) (hs : s ≤ 40) :
    bits .and .u64 ((G : Int) / 2 ^ min s 64) (IntKind.u64.wrap (IntKind.u64.wrap (2 ^ n) - 1)) % 4294967296 = ((G / 2 ^ s % 2 ^ n : Nat) : Int) := by
  rw [Nat.min_eq_left (by omega)]
  have h32 : (2 : Nat) ^ n ≤ 2 ^ 32 := Nat.pow_le_pow_right (by omega) hn
  have hpos : 0 < (2 : Nat) ^ n := Nat.pow_pos (by omega)
  have e1 : ((2 : Int) ^ n) = ((2 ^ n : Nat) : Int) := by push_cast; rfl
  have e2 : ((G : Int) / 2 ^ s) = ((G / 2 ^ s : Nat) : Int) := by push_cast; rfl
  have hle : G / 2 ^ s ≤ G := Nat.div_le_self _ _
  have hlt : G / 2 ^ s % 2 ^ n < 2 ^ n := Nat.mod_lt _ hpos
  rw [e1, e2, IntWalk.u64_in ((2 ^ n : Nat) : Int) (by omega)]
  have e3 : (((2 ^ n : Nat) : Int) - 1) = ((2 ^ n - 1 : Nat) : Int) := by omega
  rw [e3, IntWalk.u64_in _ (by omega), u64_and_nat _ _ (by omega) (by omega), Nat.and_two_pow_sub_one_eq_mod]
  omega

set_option maxHeartbeats 1000000 in
theorem next_any (g : Nat) (p : Option Addr) (cap : Nat) (xs : List UInt8) (at_ : Nat) (low : Bool) (w : World) (n : Nat) (hR : Rd w g p cap xs at_ low) (hn : n ≤ 32) :
    Calls Try.prog 44 #[.pointer (some ⟨g, 0, none⟩), .int .i64 (n : Int)] w fun e w' => e = .returned (.int .u32 ((nextV low xs at_ n : Nat) : Int)) ∧ Drawn w w' := by
  have h1 := hR.c1
  have hl := hR.2.2.1
  have hm := hR.2.2.2
  have hgl := group_length xs at_ n hl hn
  have hnx := next_group low xs at_ n hl hn
  obtain ⟨c, hc⟩ : ∃ c, c = cnt (at_ % 8) n := ⟨_, rfl⟩
  have hc5 : c ≤ 5 := by rw [hc]; unfold cnt; omega
  have HN := Lib.hid hnx
  have HGL := Lib.hid hgl
  have HC := Lib.hid hc
  clear hnx hgl hc
  go_enter Try.func44, Try.ntmps44
  go_wp2_with fail
  have e2 : ((at_ : Int) % 8) + (n : Int) = ((at_ % 8 + n : Nat) : Int) := by omega
  rw [e2]
  refine (bytesFor_any _ _ (by omega)).mono ?_
  rintro e w' ⟨rfl, rfl⟩
  rw [show (at_ % 8 + n + 7) / 8 = c from HC.out.symm]
  clear e2
  go_wp2_with fail
  have HR := Lib.hid hR
  clear hR
  go_loopw [7, 8, 19] (fun v i k wr => ∃ j : Nat, j ≤ c ∧ k = .int .i64 (j : Int) ∧ v = .int .u64 ((Oct.part (!low) c ((group xs at_ c).take j) : Nat) : Int) ∧ Drawn w wr) (fun _ _ k _ => c - (intOf k).toNat)
  case atStart => exact ⟨0, by omega, rfl, by simp [part_nil], ⟨0, rfl⟩⟩
  case round =>
    obtain ⟨j, hj, rfl, rfl, hq⟩ := hrel
    have hRr : Rd wr g p cap xs at_ low := HR.out.drawn hq
    have c1 := hRr.c1
    have c2 := hRr.c2
    by_cases hlt : j < c
    · have hjl : j < (group xs at_ c).length := by rw [HC.out, HGL.out, ← HC.out]; exact hlt
      have hor := or_step (group xs at_ c) c j low (xs[at_ / 8 + j]?.getD 0) hlt hc5 hjl (by rw [HC.out]; exact HGL.out) (by rw [group_get, List.getD_eq_getElem?_getD])
      have HO := Lib.hid hor
      clear hor
      have s1 : IntKind.i64.wrap ((at_ : Int) / 8 + (j : Int)) = (at_ : Int) / 8 + (j : Int) := IntWalk.i64_in _ (by omega)
      have s2 : ((at_ : Int) / 8 + (j : Int)) = ((at_ / 8 + j : Nat) : Int) := by omega
      have s3 : at_ / 8 + j ≤ 4000000000000000 := by omega
      have S2 := Lib.hid s2
      clear s2
      go_wp2_with fail
      go_quiet (first | (go_at_call 49; rw [S2.out]; exact quietly (byteAt_any _ _ _ _ _ _ _ _ (by exact hRr) (by omega))) | (go_at_call 48; exact quietly (byteShift_any _ _ _ _ hlt hc5)))
      go_wp2_with fail
      go_roundw
      case rel => exact ⟨j + 1, by omega, by go_num, by rw [HO.out], hq.more _⟩
      case measure => simp [intOf]; omega
    · have hj' : j = c := by omega
      subst hj'
      have hfull := part_full (!low) j (group xs at_ j) (by rw [HC.out]; exact HGL.out)
      rw [List.take_of_length_le (by rw [HC.out, HGL.out]; omega), hfull]
      clear hfull
      obtain ⟨G, hG⟩ : ∃ G, G = numOf (!low) (group xs at_ j) := ⟨_, rfl⟩
      have hGl : G < 18446744073709551616 := by
        have h1 := part_lt (!low) j (group xs at_ j) (by rw [HC.out, HGL.out]; omega) (by omega)
        rw [part_full (!low) j (group xs at_ j) (by rw [HC.out]; exact HGL.out)] at h1
        omega
      rw [← hG]
      have HG := Lib.hid hG
      clear hG
      have e2 : (at_ : Int) % 8 = ((at_ % 8 : Nat) : Int) := by omega
      have E2 := Lib.hid e2
      clear e2
      go_wp2_with fail
      rw [E2.out]
      refine (groupShift_any _ _ _ _ (by omega) hn).mono ?_
      rintro e w' ⟨rfl, rfl⟩
      have hsb : gsh low (at_ % 8) n (8 * cnt (at_ % 8) n) ≤ 40 := by
        have : cnt (at_ % 8) n ≤ 5 := by unfold cnt; omega
        cases low <;> simp [gsh] <;> omega
      have hmv := mask_val G (gsh low (at_ % 8) n (8 * cnt (at_ % 8) n)) n hGl hn hsb
      rw [HG.out] at hmv
      have hN := HN.out
      rw [← HC.out] at hN hmv
      rw [hN, ← HG.out] at hmv
      rw [← HC.out]
      have HM := Lib.hid hmv
      clear hmv hN hsb
      generalize gsh low (at_ % 8) n (8 * j) = s at HM ⊢
      go_wp2_with fail
      go_ret
      exact ⟨ret_int HM.out, hq⟩
def peekA (n : Int) (low : Bool) (xs : List UInt8) (at_ : Nat) : Int := if cntB n then ((nextV low xs at_ n.toNat : Nat) : Int) else 0
def peekE (n : Int) : Int := if cntB n then 0 else 1
/-- may so many bits be read? -/
def okR (n : Int) (len at_ : Nat) : Bool := cntB n && decide ((at_ : Int) + n ≤ (len : Int))
def readV (n : Int) (low : Bool) (xs : List UInt8) (at_ : Nat) : Int := if okR n (8 * xs.length) at_ then ((nextV low xs at_ n.toNat : Nat) : Int) else 0
def readE (n : Int) (len at_ : Nat) : Int := if okR n len at_ then 0 else if cntB n then 2 else 1
def readA (n : Int) (len at_ : Nat) : Nat := if okR n len at_ then at_ + n.toNat else at_
def ReadP (g : Nat) (p : Option Addr) (cap : Nat) (xs : List UInt8) (at_ : Nat) (low : Bool) (w : World) (n : Int) (e : Ending) (w' : World) : Prop :=
  e = .returned (.tuple #[.int .u32 (readV n low xs at_), .int .i64 (readE n (8 * xs.length) at_)]) ∧ Rd w' g p cap xs (readA n (8 * xs.length) at_) low ∧ Only (· = g) w w' ∧ w'.heap.size = w.heap.size
theorem read_any (g : Nat) (p : Option Addr) (cap : Nat) (xs : List UInt8) (at_ : Nat) (low : Bool) (w : World) (n : Int) (hR : Rd w g p cap xs at_ low) :
    Calls Try.prog 35 #[.pointer (some ⟨g, 0, none⟩), .int .i64 n] w (ReadP g p cap xs at_ low w n) := by
  have hl := hR.2.2.1
  have hm := hR.2.2.2
  by_cases hc : cntB n = true
  · have hb := of_decide_eq_true hc
    obtain ⟨k, rfl⟩ : ∃ k : Nat, n = (k : Int) := ⟨n.toNat, by omega⟩
    by_cases hk : at_ + k ≤ 8 * xs.length
    · have ho : okR (k : Int) (8 * xs.length) at_ = true := by unfold okR; rw [hc]; simp; omega
      have e1 : readV (k : Int) low xs at_ = ((nextV low xs at_ k : Nat) : Int) := by unfold readV; rw [ho]; rfl
      have e2 : readE (k : Int) (8 * xs.length) at_ = 0 := by unfold readE; rw [ho]; rfl
      have e3 : readA (k : Int) (8 * xs.length) at_ = at_ + k := by unfold readA; rw [ho]; rfl
      have HC := Lib.hid hc
      have E1 := Lib.hid e1
      have E2 := Lib.hid e2
      have E3 := Lib.hid e3
      clear e1 e2 e3 hc ho
      go_enter Try.func35, Try.ntmps35
      go_wp2_with fail
      refine (count_any _ _).mono ?_
      rintro e w' ⟨rfl, rfl⟩
      rw [HC.out]
      go_wp2_with fail
      refine (left_any _ _ _ _ _ _ _ hR).mono ?_
      rintro e w1 ⟨rfl, hd1⟩
      have hR1 := hR.drawn hd1
      have hdec : decide (8 * xs.length - at_ < k) = false := by simp; omega
      go_wp2_with fail
      refine (next_any _ _ _ _ _ _ _ _ hR1 (by omega)).mono ?_
      rintro e w2 ⟨rfl, hd2⟩
      have hR2 := hR1.drawn hd2
      have c1 := hR2.c1
      have hf := hR2.fz 1
      clear hdec
      go_wp2_with fail
      go_ret2
      have hp := hR2.put (at_ + k) hk
      have es : (((at_ + k : Nat)) : Int) = (at_ : Int) + (k : Int) := by omega
      rw [es] at hp
      refine ⟨by rw [E1.out, E2.out]; rfl, by rw [E3.out]; exact hp, (((Only.drawn _ hd1).trans (Only.drawn _ hd2)).trans (Only.setCell (S := (· = g)) (p := ⟨g, 1, none⟩) (by rfl) _)), ?_⟩
      obtain ⟨_, rfl⟩ := hd1
      obtain ⟨_, rfl⟩ := hd2
      simp [World.setCell]
    · have ho : okR (k : Int) (8 * xs.length) at_ = false := by unfold okR; rw [hc]; simp; omega
      have e1 : readV (k : Int) low xs at_ = 0 := by unfold readV; rw [ho]; rfl
      have e2 : readE (k : Int) (8 * xs.length) at_ = 2 := by unfold readE; rw [ho, hc]; rfl
      have e3 : readA (k : Int) (8 * xs.length) at_ = at_ := by unfold readA; rw [ho]; rfl
      have HC := Lib.hid hc
      have E1 := Lib.hid e1
      have E2 := Lib.hid e2
      have E3 := Lib.hid e3
      clear e1 e2 e3 hc ho
      go_enter Try.func35, Try.ntmps35
      go_wp2_with fail
      refine (count_any _ _).mono ?_
      rintro e w' ⟨rfl, rfl⟩
      rw [HC.out]
      go_wp2_with fail
      refine (left_any _ _ _ _ _ _ _ hR).mono ?_
      rintro e w1 ⟨rfl, hd1⟩
      have hR1 := hR.drawn hd1
      have hdec : decide (8 * xs.length - at_ < k) = true := by simp; omega
      go_wp2_with fail
      go_ret2
      refine ⟨by rw [E1.out, E2.out]; rfl, by rw [E3.out]; exact hR1, Only.drawn _ hd1, ?_⟩
      obtain ⟨_, rfl⟩ := hd1
      rfl
  · have hc' : cntB n = false := by simpa using hc
    have ho : okR n (8 * xs.length) at_ = false := by unfold okR; rw [hc']; simp
    have e1 : readV n low xs at_ = 0 := by unfold readV; rw [ho]; rfl
    have e2 : readE n (8 * xs.length) at_ = 1 := by unfold readE; rw [ho, hc']; rfl
    have e3 : readA n (8 * xs.length) at_ = at_ := by unfold readA; rw [ho]; rfl
    have HC := Lib.hid hc'
    have E1 := Lib.hid e1
    have E2 := Lib.hid e2
    have E3 := Lib.hid e3
    clear e1 e2 e3 hc hc' ho
    go_enter Try.func35, Try.ntmps35
    go_wp2_with fail
    refine (count_any _ _).mono ?_
    rintro e w' ⟨rfl, rfl⟩
    rw [HC.out]
    go_wp2_with fail
    go_ret2
    exact ⟨by rw [E1.out, E2.out]; rfl, by rw [E3.out]; exact hR, Only.refl _ _, rfl⟩
def AlignP (g : Nat) (p : Option Addr) (cap : Nat) (xs : List UInt8) (at_ : Nat) (low : Bool) (w : World) (e : Ending) (w' : World) : Prop :=
  e = .returned (.tuple #[]) ∧ Rd w' g p cap xs (8 * ((at_ + 7) / 8)) low ∧ Only (· = g) w w' ∧ w'.heap.size = w.heap.size
end Go.Proofs.Ytkeplmnohenbnaa.Bit
/- Contracts of slices.Clone over bytes and of NewReader; the chapter's example holds. -/
namespace Go.Proofs.Ytkeplmnohenbnaa.Bit
open Go.RowKit Go.Proofs.Ytkeplmnohenbnaa.Oct
set_option linter.unusedVariables false

def CloneP (w : World) (xs : List UInt8) (e : Ending) (w' : World) : Prop :=
  Below w.heap.size w w' ∧ ∃ q cap, e = .returned (.slice q xs.length cap) ∧ Row w' q xs ∧ xs.length ≤ cap ∧ cap ≤ maxLen ∧ (q = none → cap = 0) ∧ ∀ a, q = some a → w.heap.size ≤ a.block
theorem clone_any (p : Option Addr) (len cap : Nat) (xs : List UInt8) (w : World) (hr : Row w p xs) (hx : xs.length = len) (hnil : p = none → cap = 0) (h47 : len ≤ 140737488355328) :
    Calls Try.prog 41 #[.slice p len cap] w (CloneP w xs) := by
  rcases p with _ | ad
  · have hxs : xs = [] := by
      rcases xs with _ | ⟨x, xs⟩
      · rfl
      · obtain ⟨b, off, he, _⟩ := hr (by simp)
        cases he
    subst hxs
    simp at hx
    subst hx
    have hcap := hnil rfl
    subst hcap
    clear hnil
    have heq : ∀ w' : World, (binOp .eql 24 (.slice none 0 0) (.slice none 0 0)).run Try.prog w' = .ok (.bool true) w' := fun w' => Lib.run_eql_slice_nil (P := Try.prog) w' 24 5 none 0 0 0 0 Try.underlying24
    go_enter Try.func41, Try.ntmps41
    go_wp2_with fail
    go_ret
    exact ⟨Below.refl _ _, none, 0, rfl, fun h => absurd h (by simp), by simp, by simp [maxLen], fun _ => rfl, (fun a h => by cases h)⟩
  · have hown := World.ownsRow_made (base := w.heap.size) (e := 5) (size := 1) w #[] 0 (Nat.le_refl _) (by simp [maxLen]) rfl
    have hr2 := hr.below ((Below.refl _ w).alloc (Nat.le_refl _) (.cells #[] 5))
    have HX := Lib.hid hx
    clear hx hnil
    have heq : ∀ w' : World, (binOp .eql 24 (.slice (some ad) len cap) (.slice none 0 0)).run Try.prog w' = .ok (.bool false) w' := fun w' => Lib.run_eql_slice_nil (P := Try.prog) w' 24 5 (some ad) len cap 0 0 Try.underlying24
    go_enter Try.func41, Try.ntmps41
    go_wp2_with (at_builtin; refine wpList_append_bytes rfl _ _ rfl w.heap.size _ 0 [] rfl hown (some ad) len cap xs rfl hr2 HX.out (fun h => by cases h) (by omega) (by simp) ?_)
    intro v' w2 hown' hgrow hv
    obtain ⟨g, cap2, hv', hgc, hgm, hgb, hgl, hrow2⟩ := own_form hown' hv
    rw [hv']
    have hb12 : Below w.heap.size w w2 := ((Below.refl _ w).alloc (Nat.le_refl _) _).grown hgrow (by simp) (fun k hk => by
      simp [Value.ownBlock] at hk; omega)
    clear hown hr2 hown' hgrow hv hv'
    go_wp2_with fail
    go_ret
    exact ⟨hb12, some ⟨g, 0, none⟩, cap2, by rw [HX.out]; simp, hrow2, by rw [HX.out]; omega, hgm, (fun h => by cases h), (fun a h => by injection h with h; subst h; exact hgb)⟩
def NewP (w : World) (xs : List UInt8) (low : Bool) (e : Ending) (w' : World) : Prop :=
  Below w.heap.size w w' ∧ ∃ g q cap, e = .returned (.pointer (some ⟨g, 0, none⟩)) ∧ w.heap.size ≤ g ∧ Rd w' g q cap xs 0 low ∧ ∀ a, q = some a → w.heap.size ≤ a.block
theorem newReader_any (p : Option Addr) (len cap : Nat) (xs : List UInt8) (low : Bool) (w : World) (hr : Row w p xs) (hx : xs.length = len) (hnil : p = none → cap = 0) (h47 : len ≤ 140737488355328) :
    Calls Try.prog 34 #[.slice p len cap, .bool low] w (NewP w xs low) := by
  go_enter Try.func34, Try.ntmps34
  go_wp2_with fail
  refine (clone_any _ _ _ xs _ hr hx hnil h47).mono ?_
  rintro e w1 ⟨hb, q, cap1, rfl, hr1, hc1, hc2, _, hqb⟩
  have HX := Lib.hid hx
  clear hx hnil
  go_wp2_with fail
  go_ret
  refine ⟨hb.alloc hb.size _, w1.heap.size, q, cap1, rfl, hb.size, ⟨?_, ?_, by omega, ?_⟩, hqb⟩
  · show (w1.heap.push _)[w1.heap.size]? = _
    simp
  · intro h0
    obtain ⟨b, off, e, hlt, hc⟩ := hr1 h0
    refine ⟨b, off, e, hlt, fun i hi => ?_⟩
    rw [← hc i hi]
    exact World.cell?_of_block (w := w1) (Below.heap_alloc _ _ _ hlt)
  · rw [HX.out]; omega
theorem row_one (w : World) (x : UInt8) (T : Nat) : Row (w.alloc (.cells #[.int .u8 (x.toNat : Int)] T)) (some ⟨w.heap.size, 0, none⟩) [x] := by
  intro _
  refine ⟨w.heap.size, 0, rfl, by simp, fun i h => ?_⟩
  match i, h with
  | 0, _ => simp
end Go.Proofs.Ytkeplmnohenbnaa.Bit

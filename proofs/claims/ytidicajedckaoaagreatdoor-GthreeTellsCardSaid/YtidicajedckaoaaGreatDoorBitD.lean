
/- Contracts of a reader's next, Peek, Read and Align. -/
import Derived.Test.YtidicajedckaoaaGreatDoorBitA
import Derived.Lib.SliceRun
namespace Go.Proofs.YtidicajedckaoaaGreatDoor.Bit
open Go.RowKit Go.Proofs.YtidicajedckaoaaGreatDoor.Oct
set_option linter.unusedVariables false

theorem gsh_byte (low : Bool) (i c : Nat) (h : i < c) : gsh low (8 * i) 8 (8 * c) = shiftN i c (!low) := by
  cases low <;> simp [gsh, shiftN] <;> omega
theorem ret_int {k : IntKind} {a b : Int} (h : a = b) : Ending.returned (.int k a) = .returned (.int k b) := by rw [h]
theorem or_step (xs : List UInt8) (c k : Nat) (low : Bool) (x : UInt8) (hk : k < c) (hc : c ≤ 5) (hx : k < xs.length) (hl : xs.length = c) (hxx : xs[k] = x) :
    bits .or .u64 ((Oct.part (!low) c (xs.take k) : Nat) : Int) (IntKind.u64.wrap (IntKind.u64.wrap (x.toNat : Int) * 2 ^ min (gsh low (8 * k) 8 (8 * c)) 64)) = ((Oct.part (!low) c (xs.take (k + 1)) : Nat) : Int) := by
  subst hxx
  have hb : xs[k].toNat < 256 := xs[k].toNat_lt
  have ht := term_lt xs[k] k c (!low) hk (by omega)
  have hp := part_lt (!low) c (xs.take k) (by rw [List.length_take]; omega) (by omega)
  have e0 : min (gsh low (8 * k) 8 (8 * c)) 64 = shiftN k c (!low) := by
    rw [gsh_byte low k c hk]
    apply Nat.min_eq_left
    cases low <;> simp [shiftN] <;> omega
  have e1 : IntKind.u64.wrap ((xs[k].toNat : Int) * 2 ^ shiftN k c (!low)) = ((xs[k].toNat * 2 ^ shiftN k c (!low) : Nat) : Int) := by
    have e2 : ((xs[k].toNat : Int) * 2 ^ shiftN k c (!low)) = ((xs[k].toNat * 2 ^ shiftN k c (!low) : Nat) : Int) := by push_cast; rfl
    rw [e2, IntWalk.u64_in _ (by omega)]
  rw [e0, IntWalk.u64_in ((xs[k].toNat : Int)) (by omega), e1, u64_or_nat _ _ hp ht, take_succ' xs k hx]
  have hlen : (xs.take k).length = k := by rw [List.length_take]; omega
  have := part_step (!low) c (xs.take k) xs[k] (by omega) (by omega)
  rw [hlen] at this
  rw [this]
theorem mask_val (G s n : Nat) (hG : G < 18446744073709551616) (hn : n ≤ 32) (hs : s ≤ 40) :
    bits .and .u64 ((G : Int) / 2 ^ min s 64) (IntKind.u64.wrap (IntKind.u64.wrap (2 ^ n) - 1)) % 4294967296 = ((G / 2 ^ s % 2 ^ n : Nat) : Int) := by
  rw [Nat.min_eq_left (by omega)]
  have h32 : (2 : Nat) ^ n ≤ 2 ^ 32 := Nat.pow_le_pow_right (by omega) hn
  have hpos : 0 < (2 : Nat) ^ n := Nat.pow_pos (by omega)
  have e1 : ((2 : Int) ^ n) = ((2 ^ n : Nat) : Int) := by push_cast; rfl
  have e2 : ((G : Int) / 2 ^ s) = ((G / 2 ^ s : Nat) : Int) := by push_cast; rfl
  have hle : G / 2 ^ s ≤ G := Nat.div_le_self _ _
  have hlt : G / 2 ^ s % 2 ^ n < 2 ^ n := Nat.mod_lt _ hpos
  rw [e1, e2, IntWalk.u64_in ((2 ^ n : Nat) : Int) (by omega)]
  have e3 : (((2 ^ n : Nat) : Int) - 1) = ((2 ^ n - 1 : Nat) : Int) := by omega
  rw [e3, IntWalk.u64_in _ (by omega), u64_and_nat _ _ (by omega) (by omega), Nat.and_two_pow_sub_one_eq_mod]
  omega

set_option maxHeartbeats 1000000 in
theorem next_any (g : Nat) (p : Option Addr) (cap : Nat) (xs : List UInt8) (at_ : Nat) (low : Bool) (w : World) (n : Nat) (hR : Rd w g p cap xs at_ low) (hn : n ≤ 32) :
    Calls Tryz.prog 76 #[.pointer (some ⟨g, 0, none⟩), .int .i64 (n : Int)] w fun e w' => e = .returned (.int .u32 ((nextV low xs at_ n : Nat) : Int)) ∧ Drawn w w' := by
  have h1 := hR.c1
  have hl := hR.2.2.1
  have hm := hR.2.2.2
  have hgl := group_length xs at_ n hl hn
  have hnx := next_group low xs at_ n hl hn
  obtain ⟨c, hc⟩ : ∃ c, c = cnt (at_ % 8) n := ⟨_, rfl⟩
  have hc5 : c ≤ 5 := by rw [hc]; unfold cnt; omega
  have HN := Lib.hid hnx
  have HGL := Lib.hid hgl
  have HC := Lib.hid hc
  clear hnx hgl hc
  go_enter Tryz.func76, Tryz.ntmps76
  go_wp2_with fail
  have e2 : ((at_ : Int) % 8) + (n : Int) = ((at_ % 8 + n : Nat) : Int) := by omega
  rw [e2]
  refine (bytesFor_any _ _ (by omega)).mono ?_
  rintro e w' ⟨rfl, rfl⟩
  rw [show (at_ % 8 + n + 7) / 8 = c from HC.out.symm]
  clear e2
  go_wp2_with fail
  have HR := Lib.hid hR
  clear hR
  go_loopw [7, 8, 19] (fun v i k wr => ∃ j : Nat, j ≤ c ∧ k = .int .i64 (j : Int) ∧ v = .int .u64 ((Oct.part (!low) c ((group xs at_ c).take j) : Nat) : Int) ∧ Drawn w wr) (fun _ _ k _ => c - (intOf k).toNat)
  case atStart => exact ⟨0, by omega, rfl, by simp [part_nil], ⟨0, rfl⟩⟩
  case round =>
    obtain ⟨j, hj, rfl, rfl, hq⟩ := hrel
    have hRr : Rd wr g p cap xs at_ low := HR.out.drawn hq
    have c1 := hRr.c1
    have c2 := hRr.c2
    by_cases hlt : j < c
    · have hjl : j < (group xs at_ c).length := by rw [HC.out, HGL.out, ← HC.out]; exact hlt
      have hor := or_step (group xs at_ c) c j low (xs[at_ / 8 + j]?.getD 0) hlt hc5 hjl (by rw [HC.out]; exact HGL.out) (by rw [group_get, List.getD_eq_getElem?_getD])
      have HO := Lib.hid hor
      clear hor
      have s1 : IntKind.i64.wrap ((at_ : Int) / 8 + (j : Int)) = (at_ : Int) / 8 + (j : Int) := IntWalk.i64_in _ (by omega)
      have s2 : ((at_ : Int) / 8 + (j : Int)) = ((at_ / 8 + j : Nat) : Int) := by omega
      have s3 : at_ / 8 + j ≤ 4000000000000000 := by omega
      have S2 := Lib.hid s2
      clear s2
      go_wp2_with fail
      go_quiet (first | (go_at_call 99; rw [S2.out]; exact quietly (byteAt_any _ _ _ _ _ _ _ _ (by exact hRr) (by omega))) | (go_at_call 100; exact quietly (byteShift_any _ _ _ _ hlt hc5)))
      go_wp2_with fail
      go_roundw
      case rel => exact ⟨j + 1, by omega, by go_num, by rw [HO.out], hq.more _⟩
      case measure => simp [intOf]; omega
    · have hj' : j = c := by omega
      subst hj'
      have hfull := part_full (!low) j (group xs at_ j) (by rw [HC.out]; exact HGL.out)
      rw [List.take_of_length_le (by rw [HC.out, HGL.out]; omega), hfull]
      clear hfull
      obtain ⟨G, hG⟩ : ∃ G, G = numOf (!low) (group xs at_ j) := ⟨_, rfl⟩
      have hGl : G < 18446744073709551616 := by
        have h1 := part_lt (!low) j (group xs at_ j) (by rw [HC.out, HGL.out]; omega) (by omega)
        rw [part_full (!low) j (group xs at_ j) (by rw [HC.out]; exact HGL.out)] at h1
        omega
      rw [← hG]
      have HG := Lib.hid hG
      clear hG
      have e2 : (at_ : Int) % 8 = ((at_ % 8 : Nat) : Int) := by omega
      have E2 := Lib.hid e2
      clear e2
      go_wp2_with fail
      rw [E2.out]
      refine (groupShift_any _ _ _ _ (by omega) hn).mono ?_
      rintro e w' ⟨rfl, rfl⟩
      have hsb : gsh low (at_ % 8) n (8 * cnt (at_ % 8) n) ≤ 40 := by
        have : cnt (at_ % 8) n ≤ 5 := by unfold cnt; omega
        cases low <;> simp [gsh] <;> omega
      have hmv := mask_val G (gsh low (at_ % 8) n (8 * cnt (at_ % 8) n)) n hGl hn hsb
      rw [HG.out] at hmv
      have hN := HN.out
      rw [← HC.out] at hN hmv
      rw [hN, ← HG.out] at hmv
      rw [← HC.out]
      have HM := Lib.hid hmv
      clear hmv hN hsb
      generalize gsh low (at_ % 8) n (8 * j) = s at HM ⊢
      go_wp2_with fail
      go_ret
      exact ⟨ret_int HM.out, hq⟩
def peekA (n : Int) (low : Bool) (xs : List UInt8) (at_ : Nat) : Int := if cntB n then ((nextV low xs at_ n.toNat : Nat) : Int) else 0
def peekE (n : Int) : Int := if cntB n then 0 else 1
/-- may so many bits be read? -/
def okR (n : Int) (len at_ : Nat) : Bool := cntB n && decide ((at_ : Int) + n ≤ (len : Int))
def readV (n : Int) (low : Bool) (xs : List UInt8) (at_ : Nat) : Int := if okR n (8 * xs.length) at_ then ((nextV low xs at_ n.toNat : Nat) : Int) else 0
def readE (n : Int) (len at_ : Nat) : Int := if okR n len at_ then 0 else if cntB n then 2 else 1
def readA (n : Int) (len at_ : Nat) : Nat := if okR n len at_ then at_ + n.toNat else at_
def ReadP (g : Nat) (p : Option Addr) (cap : Nat) (xs : List UInt8) (at_ : Nat) (low : Bool) (w : World) (n : Int) (e : Ending) (w' : World) : Prop :=
  e = .returned (.tuple #[.int .u32 (readV n low xs at_), .int .i64 (readE n (8 * xs.length) at_)]) ∧ Rd w' g p cap xs (readA n (8 * xs.length) at_) low ∧ Only (· = g) w w' ∧ w'.heap.size = w.heap.size
theorem read_any (g : Nat) (p : Option Addr) (cap : Nat) (xs : List UInt8) (at_ : Nat) (low : Bool) (w : World) (n : Int) (hR : Rd w g p cap xs at_ low) :
    Calls Tryz.prog 48 #[.pointer (some ⟨g, 0, none⟩), .int .i64 n] w (ReadP g p cap xs at_ low w n) := by
  have hl := hR.2.2.1
  have hm := hR.2.2.2
  by_cases hc : cntB n = true
  · have hb := of_decide_eq_true hc
    obtain ⟨k, rfl⟩ : ∃ k : Nat, n = (k : Int) := ⟨n.toNat, by omega⟩
    by_cases hk : at_ + k ≤ 8 * xs.length
    · have ho : okR (k : Int) (8 * xs.length) at_ = true := by unfold okR; rw [hc]; simp; omega
      have e1 : readV (k : Int) low xs at_ = ((nextV low xs at_ k : Nat) : Int) := by unfold readV; rw [ho]; rfl
      have e2 : readE (k : Int) (8 * xs.length) at_ = 0 := by unfold readE; rw [ho]; rfl
      have e3 : readA (k : Int) (8 * xs.length) at_ = at_ + k := by unfold readA; rw [ho]; rfl
      have HC := Lib.hid hc
      have E1 := Lib.hid e1
      have E2 := Lib.hid e2
      have E3 := Lib.hid e3
      clear e1 e2 e3 hc ho
      go_enter Tryz.func48, Tryz.ntmps48
      go_wp2_with fail
      refine (count_any _ _).mono ?_
      rintro e w' ⟨rfl, rfl⟩
      rw [HC.out]
      go_wp2_with fail
      refine (left_any _ _ _ _ _ _ _ hR).mono ?_
      rintro e w1 ⟨rfl, hd1⟩
      have hR1 := hR.drawn hd1
      have hdec : decide (8 * xs.length - at_ < k) = false := by simp; omega
      go_wp2_with fail
      refine (next_any _ _ _ _ _ _ _ _ hR1 (by omega)).mono ?_
      rintro e w2 ⟨rfl, hd2⟩
      have hR2 := hR1.drawn hd2
      have c1 := hR2.c1
      have hf := hR2.fz 1
      clear hdec
      go_wp2_with fail
      go_ret2
      have hp := hR2.put (at_ + k) hk
      have es : (((at_ + k : Nat)) : Int) = (at_ : Int) + (k : Int) := by omega
      rw [es] at hp
      refine ⟨by rw [E1.out, E2.out]; rfl, by rw [E3.out]; exact hp, (((Only.drawn _ hd1).trans (Only.drawn _ hd2)).trans (Only.setCell (S := (· = g)) (p := ⟨g, 1, none⟩) (by rfl) _)), ?_⟩
      obtain ⟨_, rfl⟩ := hd1
      obtain ⟨_, rfl⟩ := hd2
      simp [World.setCell]
    · have ho : okR (k : Int) (8 * xs.length) at_ = false := by unfold okR; rw [hc]; simp; omega
      have e1 : readV (k : Int) low xs at_ = 0 := by unfold readV; rw [ho]; rfl
      have e2 : readE (k : Int) (8 * xs.length) at_ = 2 := by unfold readE; rw [ho, hc]; rfl
      have e3 : readA (k : Int) (8 * xs.length) at_ = at_ := by unfold readA; rw [ho]; rfl
      have HC := Lib.hid hc
      have E1 := Lib.hid e1
      have E2 := Lib.hid e2
      have E3 := Lib.hid e3
      clear e1 e2 e3 hc ho
      go_enter Tryz.func48, Tryz.ntmps48
      go_wp2_with fail
      refine (count_any _ _).mono ?_
      rintro e w' ⟨rfl, rfl⟩
      rw [HC.out]
      go_wp2_with fail
      refine (left_any _ _ _ _ _ _ _ hR).mono ?_
      rintro e w1 ⟨rfl, hd1⟩
      have hR1 := hR.drawn hd1
      have hdec : decide (8 * xs.length - at_ < k) = true := by simp; omega
      go_wp2_with fail
      go_ret2
      refine ⟨by rw [E1.out, E2.out]; rfl, by rw [E3.out]; exact hR1, Only.drawn _ hd1, ?_⟩
      obtain ⟨_, rfl⟩ := hd1
      rfl
  · have hc' : cntB n = false := by simpa using hc
    have ho : okR n (8 * xs.length) at_ = false := by unfold okR; rw [hc']; simp
    have e1 : readV n low xs at_ = 0 := by unfold readV; rw [ho]; rfl
    have e2 : readE n (8 * xs.length) at_ = 1 := by unfold readE; rw [ho, hc']; rfl
    have e3 : readA n (8 * xs.length) at_ = at_ := by unfold readA; rw [ho]; rfl
    have HC := Lib.hid hc'
    have E1 := Lib.hid e1
    have E2 := Lib.hid e2
    have E3 := Lib.hid e3
    clear e1 e2 e3 hc hc' ho
    go_enter Tryz.func48, Tryz.ntmps48
    go_wp2_with fail
    refine (count_any _ _).mono ?_
    rintro e w' ⟨rfl, rfl⟩
    rw [HC.out]
    go_wp2_with fail
    go_ret2
    exact ⟨by rw [E1.out, E2.out]; rfl, by rw [E3.out]; exact hR, Only.refl _ _, rfl⟩
def AlignP (g : Nat) (p : Option Addr) (cap : Nat) (xs : List UInt8) (at_ : Nat) (low : Bool) (w : World) (e : Ending) (w' : World) : Prop :=
  e = .returned (.tuple #[]) ∧ Rd w' g p cap xs (8 * ((at_ + 7) / 8)) low ∧ Only (· = g) w w' ∧ w'.heap.size = w.heap.size
end Go.Proofs.YtidicajedckaoaaGreatDoor.Bit
/- Contracts of slices.Clone over bytes and of NewReader; the chapter's example holds. -/
namespace Go.Proofs.YtidicajedckaoaaGreatDoor.Bit
open Go.RowKit Go.Proofs.YtidicajedckaoaaGreatDoor.Oct
set_option linter.unusedVariables false

def CloneP (w : World) (xs : List UInt8) (e : Ending) (w' : World) : Prop :=
  Below w.heap.size w w' ∧ ∃ q cap, e = .returned (.slice q xs.length cap) ∧ Row w' q xs ∧ xs.length ≤ cap ∧ cap ≤ maxLen ∧ (q = none → cap = 0) ∧ ∀ a, q = some a → w.heap.size ≤ a.block
theorem clone_any (p : Option Addr) (len cap : Nat) (xs : List UInt8) (w : World) (hr : Row w p xs) (hx : xs.length = len) (hnil : p = none → cap = 0) (h47 : len ≤ 140737488355328) :
    Calls Tryz.prog 39 #[.slice p len cap] w (CloneP w xs) := by
  rcases p with _ | ad
  · have hxs : xs = [] := by
      rcases xs with _ | ⟨x, xs⟩
      · rfl
      · obtain ⟨b, off, he, _⟩ := hr (by simp)
        cases he
    subst hxs
    simp at hx
    subst hx
    have hcap := hnil rfl
    subst hcap
    clear hnil
    have heq : ∀ w' : World, (binOp .eql 30 (.slice none 0 0) (.slice none 0 0)).run Tryz.prog w' = .ok (.bool true) w' := fun w' => Lib.run_eql_slice_nil (P := Tryz.prog) w' 30 5 none 0 0 0 0 Tryz.underlying30
    go_enter Tryz.func39, Tryz.ntmps39
    go_wp2_with fail
    go_ret
    exact ⟨Below.refl _ _, none, 0, rfl, fun h => absurd h (by simp), by simp, by simp [maxLen], fun _ => rfl, (fun a h => by cases h)⟩
  · have hown := World.ownsRow_made (base := w.heap.size) (e := 5) (size := 1) w #[] 0 (Nat.le_refl _) (by simp [maxLen]) rfl
    have hr2 := hr.below ((Below.refl _ w).alloc (Nat.le_refl _) (.cells #[] 5))
    have HX := Lib.hid hx
    clear hx hnil
    have heq : ∀ w' : World, (binOp .eql 30 (.slice (some ad) len cap) (.slice none 0 0)).run Tryz.prog w' = .ok (.bool false) w' := fun w' => Lib.run_eql_slice_nil (P := Tryz.prog) w' 30 5 (some ad) len cap 0 0 Tryz.underlying30
    go_enter Tryz.func39, Tryz.ntmps39
    go_wp2_with (at_builtin; refine wpList_append_bytes rfl _ _ rfl w.heap.size _ 0 [] rfl hown (some ad) len cap xs rfl hr2 HX.out (fun h => by cases h) (by omega) (by simp) ?_)
    intro v' w2 hown' hgrow hv
    obtain ⟨g, cap2, hv', hgc, hgm, hgb, hgl, hrow2⟩ := own_form hown' hv
    rw [hv']
    have hb12 : Below w.heap.size w w2 := ((Below.refl _ w).alloc (Nat.le_refl _) _).grown hgrow (by simp) (fun k hk => by
      simp [Value.ownBlock] at hk; omega)
    clear hown hr2 hown' hgrow hv hv'
    go_wp2_with fail
    go_ret
    exact ⟨hb12, some ⟨g, 0, none⟩, cap2, by rw [HX.out]; simp, hrow2, by rw [HX.out]; omega, hgm, (fun h => by cases h), (fun a h => by injection h with h; subst h; exact hgb)⟩
def NewP (w : World) (xs : List UInt8) (low : Bool) (e : Ending) (w' : World) : Prop :=
  Below w.heap.size w w' ∧ ∃ g q cap, e = .returned (.pointer (some ⟨g, 0, none⟩)) ∧ w.heap.size ≤ g ∧ Rd w' g q cap xs 0 low ∧ ∀ a, q = some a → w.heap.size ≤ a.block
theorem newReader_any (p : Option Addr) (len cap : Nat) (xs : List UInt8) (low : Bool) (w : World) (hr : Row w p xs) (hx : xs.length = len) (hnil : p = none → cap = 0) (h47 : len ≤ 140737488355328) :
    Calls Tryz.prog 24 #[.slice p len cap, .bool low] w (NewP w xs low) := by
  go_enter Tryz.func24, Tryz.ntmps24
  go_wp2_with fail
  refine (clone_any _ _ _ xs _ hr hx hnil h47).mono ?_
  rintro e w1 ⟨hb, q, cap1, rfl, hr1, hc1, hc2, _, hqb⟩
  have HX := Lib.hid hx
  clear hx hnil
  go_wp2_with fail
  go_ret
  refine ⟨hb.alloc hb.size _, w1.heap.size, q, cap1, rfl, hb.size, ⟨?_, ?_, by omega, ?_⟩, hqb⟩
  · show (w1.heap.push _)[w1.heap.size]? = _
    simp
  · intro h0
    obtain ⟨b, off, e, hlt, hc⟩ := hr1 h0
    refine ⟨b, off, e, hlt, fun i hi => ?_⟩
    rw [← hc i hi]
    exact World.cell?_of_block (w := w1) (Below.heap_alloc _ _ _ hlt)
  · rw [HX.out]; omega
theorem row_one (w : World) (x : UInt8) (T : Nat) : Row (w.alloc (.cells #[.int .u8 (x.toNat : Int)] T)) (some ⟨w.heap.size, 0, none⟩) [x] := by
  intro _
  refine ⟨w.heap.size, 0, rfl, by simp, fun i h => ?_⟩
  match i, h with
  | 0, _ => simp
end Go.Proofs.YtidicajedckaoaaGreatDoor.Bit

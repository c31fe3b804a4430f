/- BitC, BitD, BitE, BitF, BitS, HfB: merged. -/
import Derived.Lib.SliceRun
import Derived.Test.YtkkfkmoikcmhoaaGreatQaa
import Derived.Test.YtkkfkmoikcmhoaaGreatQad
import Derived.Test.YtkkfkmoikcmhoaaGreatQag
set_option linter.unusedVariables false
set_option linter.unusedSimpArgs false
namespace Go.Proofs.YtkkfkmoikcmhoaaGreat.Bit
open Go.RowKit Oct
theorem Yib (low : Bool) (i c : Nat) (h : i < c) : gsh low (8 * i) 8 (8 * c) = shiftN i c (!low) := by
 cases low <;> simp [gsh, shiftN] <;> omega
theorem Yl8 {k : IntKind} {a b : Int} (h : a = b) : Ending.returned (.int k a) = .returned (.int k b) := by rw [h]
theorem Yl3 (xs : List UInt8) (c k : Nat) (low : Bool) (x : UInt8) (hk : k < c) (hc : c ≤ 5) (hx : k < xs.length) (hl : xs.length = c) (hxx : xs[k] = x) :
  bits .or .u64 ((Oct.part (!low) c (xs.take k) : Nat) : Int) (IntKind.u64.wrap (IntKind.u64.wrap (x.toNat : Int) * 2 ^ min (gsh low (8 * k) 8 (8 * c)) 64)) = ((Oct.part (!low) c (xs.take (k + 1)) : Nat) : Int) := by
 subst hxx
 have hb : xs[k].toNat < 256 := xs[k].toNat_lt
 have ht := Ybp xs[k] k c (!low) hk (by omega)
 have hp := Y8d (!low) c (xs.take k) (by rw [List.length_take]; omega) (by omega)
 have e0 : min (gsh low (8 * k) 8 (8 * c)) 64 = shiftN k c (!low) := by
  rw [Yib low k c hk]
  apply Nat.min_eq_left
  cases low <;> simp [shiftN] <;> omega
 have e1 : IntKind.u64.wrap ((xs[k].toNat : Int) * 2 ^ shiftN k c (!low)) = ((xs[k].toNat * 2 ^ shiftN k c (!low) : Nat) : Int) := by
  have e2 : ((xs[k].toNat : Int) * 2 ^ shiftN k c (!low)) = ((xs[k].toNat * 2 ^ shiftN k c (!low) : Nat) : Int) := by push_cast; rfl
  rw [e2, IntWalk.u64_in _ (by omega)]
 rw [e0, IntWalk.u64_in ((xs[k].toNat : Int)) (by omega), e1, u64_or_nat _ _ hp ht, Y1p xs k hx]
 have hlen : (xs.take k).length = k := by rw [List.length_take]; omega
 have := Y9p (!low) c (xs.take k) xs[k] (by omega) (by omega)
 rw [hlen] at this
 rw [this]
theorem Yil (G s n : Nat) (hG : G < 18446744073709551616) (hn : n ≤ 32) (hs : s ≤ 40) :
  bits .and .u64 ((G : Int) / 2 ^ min s 64) (IntKind.u64.wrap (IntKind.u64.wrap (2 ^ n) - 1)) % 4294967296 = ((G / 2 ^ s % 2 ^ n : Nat) : Int) := by
 rw [Nat.min_eq_left (by omega)]
 have h32 : (2 : Nat) ^ n ≤ 2 ^ 32 := Nat.pow_le_pow_right (by omega) hn
 have hpos : 0 < (2 : Nat) ^ n := Nat.pow_pos (by omega)
 have e1 : ((2 : Int) ^ n) = ((2 ^ n : Nat) : Int) := by push_cast; rfl
 have e2 : ((G : Int) / 2 ^ s) = ((G / 2 ^ s : Nat) : Int) := by push_cast; rfl
 have hle : G / 2 ^ s ≤ G := Nat.div_le_self _ _
 have hlt : G / 2 ^ s % 2 ^ n < 2 ^ n := Nat.mod_lt _ hpos
 rw [e1, e2, IntWalk.u64_in ((2 ^ n : Nat) : Int) (by omega)]
 have e3 : (((2 ^ n : Nat) : Int) - 1) = ((2 ^ n - 1 : Nat) : Int) := by omega
 rw [e3, IntWalk.u64_in _ (by omega), u64_and_nat _ _ (by omega) (by omega), Nat.and_two_pow_sub_one_eq_mod]
 omega
set_option maxHeartbeats 1000000 in
theorem Yio (g : Nat) (p : Option Addr) (cap : Nat) (xs : List UInt8) (at_ : Nat) (low : Bool) (w : World) (n : Nat) (hR : Rd w g p cap xs at_ low) (hn : n ≤ 32) :
  Calls Tryz.prog 88 #[.pointer (some ⟨g, 0, none⟩), .int .i64 (n : Int)] w fun e w' => e = .returned (.int .u32 ((nextV low xs at_ n : Nat) : Int)) ∧ Drawn w w' := by
 have h1 := hR.c1
 have hl := hR.2.2.1
 have hm := hR.2.2.2
 have hgl := Y5b xs at_ n hl hn
 have hnx := Yds low xs at_ n hl hn
 obtain ⟨c, hc⟩ : ∃ c, c = cnt (at_ % 8) n := ⟨_, rfl⟩
 have hc5 : c ≤ 5 := by rw [hc]; unfold cnt; omega
 have HN := Lib.hid hnx
 have HGL := Lib.hid hgl
 have HC := Lib.hid hc
 clear hnx hgl hc
 go_enter Tryz.func88, Tryz.ntmps88
 go_wp2_with fail
 have e2 : ((at_ : Int) % 8) + (n : Int) = ((at_ % 8 + n : Nat) : Int) := by omega
 rw [e2]
 refine (Y25 _ _ (by omega)).mono ?_
 rintro e w' ⟨rfl, rfl⟩
 rw [show (at_ % 8 + n + 7) / 8 = c from HC.out.symm]
 clear e2
 go_wp2_with fail
 have HR := Lib.hid hR
 clear hR
 go_loopw [7, 8, 19] (fun v i k wr => ∃ j : Nat, j ≤ c ∧ k = .int .i64 (j : Int) ∧ v = .int .u64 ((Oct.part (!low) c ((group xs at_ c).take j) : Nat) : Int) ∧ Drawn w wr) (fun _ _ k _ => c - (intOf k).toNat)
 case atStart => exact ⟨0, by omega, rfl, by simp [Yca], ⟨0, rfl⟩⟩
 case round =>
  obtain ⟨j, hj, rfl, rfl, hq⟩ := hrel
  have hRr : Rd wr g p cap xs at_ low := HR.out.drawn hq
  have c1 := hRr.c1
  have c2 := hRr.c2
  by_cases hlt : j < c
  ·have hjl : j < (group xs at_ c).length := by rw [HC.out, HGL.out, ← HC.out]; exact hlt
   have hor := Yl3 (group xs at_ c) c j low (xs[at_ / 8 + j]?.getD 0) hlt hc5 hjl (by rw [HC.out]; exact HGL.out) (by rw [Yfh, List.getD_eq_getElem?_getD])
   have HO := Lib.hid hor
   clear hor
   have s1 : IntKind.i64.wrap ((at_ : Int) / 8 + (j : Int)) = (at_ : Int) / 8 + (j : Int) := IntWalk.i64_in _ (by omega)
   have s2 : ((at_ : Int) / 8 + (j : Int)) = ((at_ / 8 + j : Nat) : Int) := by omega
   have s3 : at_ / 8 + j ≤ 4000000000000000 := by omega
   have S2 := Lib.hid s2
   clear s2
   go_wp2_with fail
   go_quiet (first | (go_at_call 117; rw [S2.out]; exact quietly (Yd3 _ _ _ _ _ _ _ _ (by exact hRr) (by omega))) | (go_at_call 118; exact quietly (Y4l _ _ _ _ hlt hc5)))
   go_wp2_with fail
   go_roundw
   case rel => exact ⟨j + 1, by omega, by go_num, by rw [HO.out], hq.more _⟩
   case measure => simp [intOf]; omega
  ·have hj' : j = c := by omega
   subst hj'
   have hfull := Y6c (!low) j (group xs at_ j) (by rw [HC.out]; exact HGL.out)
   rw [List.take_of_length_le (by rw [HC.out, HGL.out]; omega), hfull]
   clear hfull
   obtain ⟨G, hG⟩ : ∃ G, G = numOf (!low) (group xs at_ j) := ⟨_, rfl⟩
   have hGl : G < 18446744073709551616 := by
    have h1 := Y8d (!low) j (group xs at_ j) (by rw [HC.out, HGL.out]; omega) (by omega)
    rw [Y6c (!low) j (group xs at_ j) (by rw [HC.out]; exact HGL.out)] at h1
    omega
   rw [← hG]
   have HG := Lib.hid hG
   clear hG
   have e2 : (at_ : Int) % 8 = ((at_ % 8 : Nat) : Int) := by omega
   have E2 := Lib.hid e2
   clear e2
   go_wp2_with fail
   rw [E2.out]
   refine (Y47 _ _ _ _ (by omega) hn).mono ?_
   rintro e w' ⟨rfl, rfl⟩
   have hsb : gsh low (at_ % 8) n (8 * cnt (at_ % 8) n) ≤ 40 := by
    have : cnt (at_ % 8) n ≤ 5 := by unfold cnt; omega
    cases low <;> simp [gsh] <;> omega
   have hmv := Yil G (gsh low (at_ % 8) n (8 * cnt (at_ % 8) n)) n hGl hn hsb
   rw [HG.out] at hmv
   have hN := HN.out
   rw [← HC.out] at hN hmv
   rw [hN, ← HG.out] at hmv
   rw [← HC.out]
   have HM := Lib.hid hmv
   clear hmv hN hsb
   generalize gsh low (at_ % 8) n (8 * j) = s at HM ⊢
   go_wp2_with fail
   go_ret
   exact ⟨Yl8 HM.out, hq⟩
def Y8e (n : Int) : Int := if Y4m n then 0 else 1
def okR (n : Int) (len at_ : Nat) : Bool := Y4m n && decide ((at_ : Int) + n ≤ (len : Int))
def Y52 (n : Int) (low : Bool) (xs : List UInt8) (at_ : Nat) : Int := if okR n (8 * xs.length) at_ then ((nextV low xs at_ n.toNat : Nat) : Int) else 0
def Y2m (n : Int) (len at_ : Nat) : Int := if okR n len at_ then 0 else if Y4m n then 2 else 1
def Y2l (n : Int) (len at_ : Nat) : Nat := if okR n len at_ then at_ + n.toNat else at_
def ReadP (g : Nat) (p : Option Addr) (cap : Nat) (xs : List UInt8) (at_ : Nat) (low : Bool) (w : World) (n : Int) (e : Ending) (w' : World) : Prop :=
 e = .returned (.tuple #[.int .u32 (Y52 n low xs at_), .int .i64 (Y2m n (8 * xs.length) at_)]) ∧ Rd w' g p cap xs (Y2l n (8 * xs.length) at_) low ∧ Only (· = g) w w' ∧ w'.heap.size = w.heap.size
theorem Ycd (g : Nat) (p : Option Addr) (cap : Nat) (xs : List UInt8) (at_ : Nat) (low : Bool) (w : World) (n : Int) (hR : Rd w g p cap xs at_ low) :
  Calls Tryz.prog 55 #[.pointer (some ⟨g, 0, none⟩), .int .i64 n] w (ReadP g p cap xs at_ low w n) := by
 have hl := hR.2.2.1
 have hm := hR.2.2.2
 by_cases hc : Y4m n = true
 ·have hb := of_decide_eq_true hc
  obtain ⟨k, rfl⟩ : ∃ k : Nat, n = (k : Int) := ⟨n.toNat, by omega⟩
  by_cases hk : at_ + k ≤ 8 * xs.length
  ·have ho : okR (k : Int) (8 * xs.length) at_ = true := by unfold okR; rw [hc]; simp; omega
   have e1 : Y52 (k : Int) low xs at_ = ((nextV low xs at_ k : Nat) : Int) := by unfold Y52; rw [ho]; rfl
   have e2 : Y2m (k : Int) (8 * xs.length) at_ = 0 := by unfold Y2m; rw [ho]; rfl
   have e3 : Y2l (k : Int) (8 * xs.length) at_ = at_ + k := by unfold Y2l; rw [ho]; rfl
   have HC := Lib.hid hc
   have E1 := Lib.hid e1
   have E2 := Lib.hid e2
   have E3 := Lib.hid e3
   clear e1 e2 e3 hc ho
   go_enter Tryz.func55, Tryz.ntmps55
   go_wp2_with fail
   refine (Y2y _ _).mono ?_
   rintro e w' ⟨rfl, rfl⟩
   rw [HC.out]
   go_wp2_with fail
   refine (Ybw _ _ _ _ _ _ _ hR).mono ?_
   rintro e w1 ⟨rfl, hd1⟩
   have hR1 := hR.drawn hd1
   have hdec : decide (8 * xs.length - at_ < k) = false := by simp; omega
   go_wp2_with fail
   refine (Yio _ _ _ _ _ _ _ _ hR1 (by omega)).mono ?_
   rintro e w2 ⟨rfl, hd2⟩
   have hR2 := hR1.drawn hd2
   have c1 := hR2.c1
   have hf := hR2.fz 1
   clear hdec
   go_wp2_with fail
   go_ret2
   have hp := hR2.put (at_ + k) hk
   have es : (((at_ + k : Nat)) : Int) = (at_ : Int) + (k : Int) := by omega
   rw [es] at hp
   refine ⟨by rw [E1.out, E2.out]; rfl, by rw [E3.out]; exact hp, (((Only.drawn _ hd1).trans (Only.drawn _ hd2)).trans (Only.setCell (S := (· = g)) (p := ⟨g, 1, none⟩) (by rfl) _)), ?_⟩
   obtain ⟨_, rfl⟩ := hd1
   obtain ⟨_, rfl⟩ := hd2
   simp [World.setCell]
  ·have ho : okR (k : Int) (8 * xs.length) at_ = false := by unfold okR; rw [hc]; simp; omega
   have e1 : Y52 (k : Int) low xs at_ = 0 := by unfold Y52; rw [ho]; rfl
   have e2 : Y2m (k : Int) (8 * xs.length) at_ = 2 := by unfold Y2m; rw [ho, hc]; rfl
   have e3 : Y2l (k : Int) (8 * xs.length) at_ = at_ := by unfold Y2l; rw [ho]; rfl
   have HC := Lib.hid hc
   have E1 := Lib.hid e1
   have E2 := Lib.hid e2
   have E3 := Lib.hid e3
   clear e1 e2 e3 hc ho
   go_enter Tryz.func55, Tryz.ntmps55
   go_wp2_with fail
   refine (Y2y _ _).mono ?_
   rintro e w' ⟨rfl, rfl⟩
   rw [HC.out]
   go_wp2_with fail
   refine (Ybw _ _ _ _ _ _ _ hR).mono ?_
   rintro e w1 ⟨rfl, hd1⟩
   have hR1 := hR.drawn hd1
   have hdec : decide (8 * xs.length - at_ < k) = true := by simp; omega
   go_wp2_with fail
   go_ret2
   refine ⟨by rw [E1.out, E2.out]; rfl, by rw [E3.out]; exact hR1, Only.drawn _ hd1, ?_⟩
   obtain ⟨_, rfl⟩ := hd1
   rfl
 ·have hc' : Y4m n = false := by simpa using hc
  have ho : okR n (8 * xs.length) at_ = false := by unfold okR; rw [hc']; simp
  have e1 : Y52 n low xs at_ = 0 := by unfold Y52; rw [ho]; rfl
  have e2 : Y2m n (8 * xs.length) at_ = 1 := by unfold Y2m; rw [ho, hc']; rfl
  have e3 : Y2l n (8 * xs.length) at_ = at_ := by unfold Y2l; rw [ho]; rfl
  have HC := Lib.hid hc'
  have E1 := Lib.hid e1
  have E2 := Lib.hid e2
  have E3 := Lib.hid e3
  clear e1 e2 e3 hc hc' ho
  go_enter Tryz.func55, Tryz.ntmps55
  go_wp2_with fail
  refine (Y2y _ _).mono ?_
  rintro e w' ⟨rfl, rfl⟩
  rw [HC.out]
  go_wp2_with fail
  go_ret2
  exact ⟨by rw [E1.out, E2.out]; rfl, by rw [E3.out]; exact hR, Only.refl _ _, rfl⟩
def Ylr (g : Nat) (p : Option Addr) (cap : Nat) (xs : List UInt8) (at_ : Nat) (low : Bool) (w : World) (e : Ending) (w' : World) : Prop :=
 e = .returned (.tuple #[]) ∧ Rd w' g p cap xs (8 * ((at_ + 7) / 8)) low ∧ Only (· = g) w w' ∧ w'.heap.size = w.heap.size
theorem Yek (g : Nat) (p : Option Addr) (cap : Nat) (xs : List UInt8) (at_ : Nat) (low : Bool) (w : World) (hR : Rd w g p cap xs at_ low) :
  Calls Tryz.prog 89 #[.pointer (some ⟨g, 0, none⟩)] w (Ylr g p cap xs at_ low w) := by
 have hl := hR.2.2.1
 have hm := hR.2.2.2
 have c1 := hR.c1
 have hf := hR.fz 1
 go_enter Tryz.func89, Tryz.ntmps89
 go_wp2_with fail
 refine (Y25 _ _ (by omega)).mono ?_
 rintro e w' ⟨rfl, rfl⟩
 go_wp2_with fail
 go_end0
 have hp := hR.put (8 * ((at_ + 7) / 8)) (by omega)
 rw [Int.natCast_mul] at hp
 exact ⟨rfl, hp, Only.setCell (S := (· = g)) (p := ⟨g, 1, none⟩) (by rfl) _, by simp [World.setCell]⟩
end Go.Proofs.YtkkfkmoikcmhoaaGreat.Bit
namespace Go.Proofs.YtkkfkmoikcmhoaaGreat.Bit
open Go.RowKit Oct
def Yjy (w : World) (xs : List UInt8) (e : Ending) (w' : World) : Prop :=
 Below w.heap.size w w' ∧ ∃ q cap, e = .returned (.slice q xs.length cap) ∧ Row w' q xs ∧ xs.length ≤ cap ∧ cap ≤ maxLen ∧ (q = none → cap = 0) ∧ ∀ a, q = some a → w.heap.size ≤ a.block
theorem Y91 (p : Option Addr) (len cap : Nat) (xs : List UInt8) (w : World) (hr : Row w p xs) (hx : xs.length = len) (hnil : p = none → cap = 0) (h47 : len ≤ 140737488355328) :
  Calls Tryz.prog 53 #[.slice p len cap] w (Yjy w xs) := by
 rcases p with _ | ad
 ·have hxs : xs = [] := by
   rcases xs with _ | ⟨x, xs⟩
   ·rfl
   ·obtain ⟨b, off, he, _⟩ := hr (by simp)
    cases he
  subst hxs
  simp at hx
  subst hx
  have hcap := hnil rfl
  subst hcap
  clear hnil
  have heq : ∀ w' : World, (binOp .eql 22 (.slice none 0 0) (.slice none 0 0)).run Tryz.prog w' = .ok (.bool true) w' := fun w' => Lib.run_eql_slice_nil (P := Tryz.prog) w' 22 5 none 0 0 0 0 Tryz.underlying22
  go_enter Tryz.func53, Tryz.ntmps53
  go_wp2_with fail
  go_ret
  exact ⟨Below.refl _ _, none, 0, rfl, fun h => absurd h (by simp), by simp, by simp [maxLen], fun _ => rfl, (fun a h => by cases h)⟩
 ·have hown := World.ownsRow_made (base := w.heap.size) (e := 5) (size := 1) w #[] 0 (Nat.le_refl _) (by simp [maxLen]) rfl
  have hr2 := hr.below ((Below.refl _ w).alloc (Nat.le_refl _) (.cells #[] 5))
  have HX := Lib.hid hx
  clear hx hnil
  have heq : ∀ w' : World, (binOp .eql 22 (.slice (some ad) len cap) (.slice none 0 0)).run Tryz.prog w' = .ok (.bool false) w' := fun w' => Lib.run_eql_slice_nil (P := Tryz.prog) w' 22 5 (some ad) len cap 0 0 Tryz.underlying22
  go_enter Tryz.func53, Tryz.ntmps53
  go_wp2_with (at_builtin; refine Y1i rfl _ _ rfl w.heap.size _ 0 [] rfl hown (some ad) len cap xs rfl hr2 HX.out (fun h => by cases h) (by omega) (by simp) ?_)
  intro v' w2 hown' hgrow hv
  obtain ⟨g, cap2, hv', hgc, hgm, hgb, hgl, hrow2⟩ := Y4p hown' hv
  rw [hv']
  have hb12 : Below w.heap.size w w2 := ((Below.refl _ w).alloc (Nat.le_refl _) _).grown hgrow (by simp) (fun k hk => by
   simp [Value.ownBlock] at hk; omega)
  clear hown hr2 hown' hgrow hv hv'
  go_wp2_with fail
  go_ret
  exact ⟨hb12, some ⟨g, 0, none⟩, cap2, by rw [HX.out]; simp, hrow2, by rw [HX.out]; omega, hgm, (fun h => by cases h), (fun a h => by injection h with h; subst h; exact hgb)⟩
def NewP (w : World) (xs : List UInt8) (low : Bool) (e : Ending) (w' : World) : Prop :=
 Below w.heap.size w w' ∧ ∃ g q cap, e = .returned (.pointer (some ⟨g, 0, none⟩)) ∧ w.heap.size ≤ g ∧ Rd w' g q cap xs 0 low ∧ ∀ a, q = some a → w.heap.size ≤ a.block
theorem Y85 (p : Option Addr) (len cap : Nat) (xs : List UInt8) (low : Bool) (w : World) (hr : Row w p xs) (hx : xs.length = len) (hnil : p = none → cap = 0) (h47 : len ≤ 140737488355328) :
  Calls Tryz.prog 25 #[.slice p len cap, .bool low] w (NewP w xs low) := by
 go_enter Tryz.func25, Tryz.ntmps25
 go_wp2_with fail
 refine (Y91 _ _ _ xs _ hr hx hnil h47).mono ?_
 rintro e w1 ⟨hb, q, cap1, rfl, hr1, hc1, hc2, _, hqb⟩
 have HX := Lib.hid hx
 clear hx hnil
 go_wp2_with fail
 go_ret
 refine ⟨hb.alloc hb.size _, w1.heap.size, q, cap1, rfl, hb.size, ⟨?_, ?_, by omega, ?_⟩, hqb⟩
 ·show (w1.heap.push _)[w1.heap.size]? = _
  simp
 ·intro h0
  obtain ⟨b, off, e, hlt, hc⟩ := hr1 h0
  refine ⟨b, off, e, hlt, fun i hi => ?_⟩
  rw [← hc i hi]
  exact World.cell?_of_block (w := w1) (Below.heap_alloc _ _ _ hlt)
 ·rw [HX.out]; omega
theorem Ygf (w : World) (x : UInt8) (T : Nat) : Row (w.alloc (.cells #[.int .u8 (x.toNat : Int)] T)) (some ⟨w.heap.size, 0, none⟩) [x] := by
 intro _
 refine ⟨w.heap.size, 0, rfl, by simp, fun i h => ?_⟩
 match i, h with
 | 0, _ => simp
end Go.Proofs.YtkkfkmoikcmhoaaGreat.Bit
namespace Go.Proofs.YtkkfkmoikcmhoaaGreat.Bit
open Go.RowKit Oct
def dig (b : Bool) : UInt8 := if b then 49 else 48
def ds (l : List Bool) : ByteArray := bs (l.map dig)
theorem Y0p (l : List Bool) : (ds l).size = l.length := by simp [ds, Y12]
theorem Y27 (a b : List Bool) : ds a ++ ds b = ds (a ++ b) := by simp [ds, Y2g]
theorem Y2z (l : List Bool) (a b : Nat) : (ds l).extract a b = ds ((l.drop a).take (b - a)) := by simp [ds, Y2w, List.map_take, List.map_drop]
theorem Yk5 (l : List Bool) (k : Nat) (h : k < (ds l).size) (h' : k < l.length) : (ds l)[k] = dig l[k] := by
 have h2 := Y5r (l.map dig) k h (by simpa using h')
 rw [List.getElem_map] at h2
 exact h2
theorem Ym1 (a b : List Bool) (h : ds a = ds b) : a = b := by
 unfold ds bs at h
 injection h with h
 have h2 : a.map dig = b.map dig := by simpa using congrArg Array.toList h
 refine (List.map_inj_right (f := dig) ?_).1 h2
 intro x y hxy
 cases x <;> cases y <;> simp [dig] at hxy ⊢
theorem Y5u (b : Bool) : ((dig b).toNat : Int) = 48 + (b.toNat : Int) := by cases b <;> rfl
theorem Yla (w : World) (z : Int) (x : UInt8) (h : z = (x.toNat : Int)) : Row (w.alloc (.cells #[.int .u8 z] 5)) (some ⟨w.heap.size, 0, none⟩) [x] := by
 subst h
 exact Ygf w x _
set_option maxHeartbeats 400000 in
theorem Ygk (xs : List UInt8) (w : World) (hs : xs.length ≤ 1000000) :
  Calls Tryz.prog 62 #[.string (bs xs)] w fun e w' => e = .returned (.string (bs xs.reverse)) ∧ w = w' := by
 have hsz := Y12 xs
 go_enter Tryz.func62, Tryz.ntmps62
 go_wp2
 go_loop [3, 4] (fun n i => ∃ k : Nat, k ≤ xs.length ∧ i = .int .i64 ((k : Int) - 1) ∧ n = .string (bs (xs.drop k).reverse)) (fun _ i => (intOf i + 1).toNat)
 case atStart => exact ⟨xs.length, Nat.le_refl _, rfl, by simp [bs]⟩
 case round =>
  obtain ⟨k, hk, rfl, rfl⟩ := hrel
  rcases k with _ | k
  ·rw [List.drop_zero]
   rw [show (((0 : Nat) : Int) - 1) = -1 by omega]
   go_wp2
   go_ret
   exact ⟨rfl, rfl⟩
  ·rw [show (((k + 1 : Nat) : Int) - 1) = (k : Int) by omega]
   have hlt : k < xs.length := by omega
   have e1 := Y2w xs k (k + 1)
   have h1 := Yc4 xs k hlt
   rw [h1] at e1
   have hz1 : (bs [xs[k]]).size = 1 := by simp [Y12]
   have hz2 : (bs (xs.drop (k + 1)).reverse).size ≤ 1000000 := by simp [Y12]; omega
   clear h1
   have hk1 : (k : Int) + 1 ≤ (xs.length : Int) := by omega
   have ht1 : ((k : Int) + 1).toNat = k + 1 := by omega
   have h0 : 0 ≤ (k : Int) := by omega
   go_wp2
   go_round
   case rel => exact ⟨k, by omega, rfl, by rw [Y2g, List.drop_eq_getElem_cons hlt, List.reverse_cons]⟩
   case measure => simp [intOf]
theorem Ym7 (l : List Bool) (h : l.length ≤ 32) : num l < 4294967296 := by
 have h1 := Y1e l
 have h2 : (2 : Nat) ^ l.length ≤ 2 ^ 32 := Nat.pow_le_pow_right (by omega) h
 omega
theorem Y5i (l : List Bool) (k : Nat) (h : k < l.length) (h32 : l.length ≤ 32) (h' : k < (ds l).size) :
  (((num (l.take k) : Nat) : Int) * 2 % 4294967296 + (((ds l)[k].toNat : Int) - 48) % 256) % 4294967296 = ((num (l.take (k + 1)) : Nat) : Int) := by
 have h2 := Ym7 (l.take (k + 1)) (by rw [List.length_take]; omega)
 rw [Yk5 l k h' h, Y5u]
 rw [List.take_succ_eq_append_getElem h, Yiq] at h2 ⊢
 generalize num (l.take k) = m at h2 ⊢
 have hx : (l[k]).toNat ≤ 1 := by cases l[k] <;> simp
 generalize (l[k]).toNat = x at h2 hx ⊢
 omega
set_option maxHeartbeats 400000 in
theorem Y6j (l : List Bool) (w : World) (hs : l.length ≤ 32) :
  Calls Tryz.prog 85 #[.string (ds l)] w fun e w' => e = .returned (.int .u32 ((num l : Nat) : Int)) ∧ w = w' := by
 have hsz := Y0p l
 go_enter Tryz.func85, Tryz.ntmps85
 go_wp2
 go_loop [3, 4] (fun n i => ∃ k : Nat, k ≤ l.length ∧ i = .int .i64 (k : Int) ∧ n = .int .u32 ((num (l.take k) : Nat) : Int)) (fun _ i => l.length - (intOf i).toNat)
 case atStart => exact ⟨0, Nat.zero_le _, rfl, rfl⟩
 case round =>
  obtain ⟨k, hk, rfl, rfl⟩ := hrel
  by_cases hlt : k < l.length
  ·go_wp2
   go_round
   case rel => exact ⟨k + 1, by omega, by go_num, by rw [Y5i l k hlt hs]⟩
   case measure => simp [intOf]; omega
  ·have : k = l.length := by omega
   subst this
   rw [List.take_length]
   go_wp2
   go_ret
   exact ⟨rfl, rfl⟩
set_option maxHeartbeats 400000 in
theorem Ygl (v n : Nat) (w : World) (hn : n ≤ 32) (hv : v < 4294967296) :
  Calls Tryz.prog 61 #[.int .u32 (v : Int), .int .i64 (n : Int)] w fun e w' => e = .returned (.string (ds (word v n))) ∧ Below w.heap.size w w' := by
 go_enter Tryz.func61, Tryz.ntmps61
 go_wp2_with fail
 go_loopw [0, 5, 6] (fun m s i wr => ∃ k : Nat, k ≤ n ∧ i = .int .i64 (k : Int) ∧ m = .int .u32 ((v / 2 ^ k : Nat) : Int) ∧ s = .string (ds (word v k)) ∧ Below w.heap.size w wr) (fun _ _ c _ => n - (intOf c).toNat)
 case atStart => exact ⟨0, by omega, rfl, by simp, rfl, Below.refl _ _⟩
 case round =>
  obtain ⟨k, hk, rfl, rfl, rfl, hF⟩ := hrel
  by_cases hlt : k < n
  ·obtain ⟨q, hq⟩ : ∃ q, q = v / 2 ^ k := ⟨_, rfl⟩
   have hqn : q ≤ v := by rw [hq]; exact Nat.div_le_self _ _
   rw [← hq]
   have HQ := Lib.hid hq
   clear hq
   have cv := Y1q 1 1 (Yla wr (48 + (q : Int) % 2) (dig (q % 2 == 1)) (by rw [Y5u, Y5n]; omega)) rfl
   have hz1 : (bs [dig (q % 2 == 1)]).size = 1 := by simp [Y12]
   have hz2 : (ds (word v k)).size = k := by simp [Y0p, Y0d]
   go_wp2_with fail
   go_roundw
   case rel =>
    refine ⟨k + 1, by omega, by go_num, ?_, ?_, ?_⟩
    ·rw [Nat.pow_succ, ← Nat.div_div_eq_div_mul, ← HQ.out]; go_num
    ·show Value.string (ds [q % 2 == 1] ++ _) = _
     rw [Y27, HQ.out]; rfl
    ·exact Below.alloc hF (Below.size hF) _
   case measure => simp [intOf]; omega
  ·have : k = n := by omega
   subst this
   go_wp2_with fail
   go_ret
   exact ⟨rfl, hF⟩
end Go.Proofs.YtkkfkmoikcmhoaaGreat.Bit
namespace Go.Proofs.YtkkfkmoikcmhoaaGreat.Bit
open Go.RowKit Oct
theorem Y94 (l : List Bool) (w : World) (hs : l.length ≤ 1000000) :
  Calls Tryz.prog 62 #[.string (ds l)] w fun e w' => e = .returned (.string (ds l.reverse)) ∧ w = w' := by
 have h := Ygk (l.map dig) w (by simpa using hs)
 rw [← List.map_reverse] at h
 exact h
theorem zs32 : (Value.string { data := #[48, 48, 48, 48, 48, 48, 48, 48, 48, 48, 48, 48, 48, 48, 48, 48, 48, 48, 48, 48, 48, 48, 48, 48, 48, 48, 48, 48, 48, 48, 48, 48] }) = .string (ds (zs 32)) := by rfl
def rpV (n : Int) (low : Bool) (l : List Bool) (at_ : Nat) : Int := if Y4m n then ((Y4q low (l.drop at_) n.toNat : Nat) : Int) else 0
def rrV (n : Int) (low : Bool) (l : List Bool) (at_ : Nat) : Int := if okR n l.length at_ then ((Y4q low (l.drop at_) n.toNat : Nat) : Int) else 0
theorem Y6n (l : List Bool) (at_ : Nat) (n : Int) (low : Bool) (w : World) (ha : at_ ≤ l.length) (hl : l.length ≤ 100000) :
  Calls Tryz.prog 52 #[.string (ds l), .int .i64 (at_ : Int), .int .i64 n, .bool low] w fun e w' => e = .returned (.tuple #[.int .u32 (rpV n low l at_), .int .i64 (Y8e n)]) ∧ w = w' := by
 have hsz := Y0p l
 by_cases hc : Y4m n = true
 ·have e1 : rpV n low l at_ = ((Y4q low (l.drop at_) n.toNat : Nat) : Int) := by unfold rpV; rw [hc]; rfl
  have e2 : Y8e n = 0 := by unfold Y8e; rw [hc]; rfl
  have hb := of_decide_eq_true hc
  obtain ⟨k, rfl⟩ : ∃ k : Nat, n = (k : Int) := ⟨n.toNat, by omega⟩
  rw [e1, e2, Int.toNat_natCast]
  clear e1 e2 hc
  have hk : k ≤ 32 := by omega
  have x1 : (ds l).extract at_ l.length = ds (l.drop at_) := by rw [Y2z, List.take_of_length_le (by simp)]
  have x2 : ds (l.drop at_) ++ ds (zs 32) = ds (l.drop at_ ++ zs 32) := Y27 _ _
  have hz1 : (ds (l.drop at_)).size ≤ 100000 := by rw [Y0p, List.length_drop]; omega
  have hz2 : (ds (zs 32)).size = 32 := by rw [Y0p, Y07]
  have hz3 : k ≤ (ds (l.drop at_ ++ zs 32)).size := by rw [Y0p, List.length_append, Y07]; omega
  have x3 : (ds (l.drop at_ ++ zs 32)).extract 0 k = ds ((l.drop at_ ++ zs 32).take k) := by rw [Y2z]; simp
  have hd1 : decide ((k : Int) < 0) = false := by simp
  have hd2 : decide (32 < (k : Int)) = false := by simp; omega
  cases low
  ·have e1 : Y4q false (l.drop at_) k = num ((l.drop at_ ++ zs 32).take k) := rfl
   rw [e1]
   clear e1
   go_enter Tryz.func52, Tryz.ntmps52
   rw [zs32]
   go_wp2_with fail
   refine (Y6j _ _ (by rw [List.length_take]; omega)).mono ?_
   rintro e w' ⟨rfl, rfl⟩
   go_wp2_with fail
   go_ret2
   exact ⟨rfl, rfl⟩
  ·have e1 : Y4q true (l.drop at_) k = num ((l.drop at_ ++ zs 32).take k).reverse := rfl
   rw [e1]
   clear e1
   go_enter Tryz.func52, Tryz.ntmps52
   rw [zs32]
   go_wp2_with fail
   refine (Y94 _ _ (by rw [List.length_take]; omega)).mono ?_
   rintro e w' ⟨rfl, rfl⟩
   go_wp2_with fail
   refine (Y6j _ _ (by rw [List.length_reverse, List.length_take]; omega)).mono ?_
   rintro e w' ⟨rfl, rfl⟩
   go_wp2_with fail
   go_ret2
   exact ⟨rfl, rfl⟩
 ·have hc' : Y4m n = false := by simpa using hc
  have e1 : rpV n low l at_ = 0 := by unfold rpV; rw [hc']; rfl
  have e2 : Y8e n = 1 := by unfold Y8e; rw [hc']; rfl
  have hb : ¬ (0 ≤ n ∧ n ≤ 32) := of_decide_eq_false hc'
  rw [e1, e2]
  clear e1 e2 hc hc'
  by_cases h0 : n < 0
  ·have hd1 : decide (n < 0) = true := by simpa using h0
   clear hb
   go_enter Tryz.func52, Tryz.ntmps52
   go_wp2_with fail
   go_ret2
   exact ⟨rfl, rfl⟩
  ·have hd1 : decide (n < 0) = false := by simpa using h0
   have hd2 : decide (32 < n) = true := by simp; omega
   clear hb
   go_enter Tryz.func52, Tryz.ntmps52
   go_wp2_with fail
   go_ret2
   exact ⟨rfl, rfl⟩
theorem Y9z (l : List Bool) (at_ : Nat) (n : Int) (low : Bool) (w : World) (ha : at_ ≤ l.length) (hl : l.length ≤ 100000) :
  Calls Tryz.prog 63 #[.string (ds l), .int .i64 (at_ : Int), .int .i64 n, .bool low] w fun e w' => e = .returned (.tuple #[.int .u32 (rrV n low l at_), .int .i64 ((Y2l n l.length at_ : Nat) : Int), .int .i64 (Y2m n l.length at_)]) ∧ w = w' := by
 have hsz := Y0p l
 by_cases hc : Y4m n = true
 ·have hb := of_decide_eq_true hc
  have e0 : rpV n low l at_ = ((Y4q low (l.drop at_) n.toNat : Nat) : Int) := by unfold rpV; rw [hc]; rfl
  have e00 : Y8e n = 0 := by unfold Y8e; rw [hc]; rfl
  obtain ⟨k, rfl⟩ : ∃ k : Nat, n = (k : Int) := ⟨n.toNat, by omega⟩
  by_cases hk : at_ + k ≤ l.length
  ·have ho : okR (k : Int) l.length at_ = true := by unfold okR; rw [hc]; simp; omega
   have e1 : rrV (k : Int) low l at_ = ((Y4q low (l.drop at_) k : Nat) : Int) := by unfold rrV; rw [ho]; rfl
   have e2 : Y2m (k : Int) l.length at_ = 0 := by unfold Y2m; rw [ho]; rfl
   have e3 : ((Y2l (k : Int) l.length at_ : Nat) : Int) = (at_ : Int) + (k : Int) := by unfold Y2l; rw [ho]; simp
   have E0 := Lib.hid e0
   have E00 := Lib.hid e00
   have E1 := Lib.hid e1
   have E2 := Lib.hid e2
   have E3 := Lib.hid e3
   clear e0 e00 e1 e2 e3 hc ho
   have hd : decide ((l.length : Int) < (at_ : Int) + (k : Int)) = false := by simp; omega
   go_enter Tryz.func63, Tryz.ntmps63
   go_wp2_with fail
   refine (Y6n _ _ _ _ _ ha hl).mono ?_
   rintro e w' ⟨rfl, rfl⟩
   rw [E0.out, E00.out, Int.toNat_natCast]
   go_wp2_with fail
   go_ret3
   exact ⟨by rw [E1.out, E2.out, E3.out]; rfl, rfl⟩
  ·have ho : okR (k : Int) l.length at_ = false := by unfold okR; rw [hc]; simp; omega
   have e1 : rrV (k : Int) low l at_ = 0 := by unfold rrV; rw [ho]; rfl
   have e2 : Y2m (k : Int) l.length at_ = 2 := by unfold Y2m; rw [ho, hc]; rfl
   have e3 : ((Y2l (k : Int) l.length at_ : Nat) : Int) = (at_ : Int) := by unfold Y2l; rw [ho]; simp
   have E0 := Lib.hid e0
   have E00 := Lib.hid e00
   have E1 := Lib.hid e1
   have E2 := Lib.hid e2
   have E3 := Lib.hid e3
   clear e0 e00 e1 e2 e3 hc ho
   have hd : decide ((l.length : Int) < (at_ : Int) + (k : Int)) = true := by simp; omega
   go_enter Tryz.func63, Tryz.ntmps63
   go_wp2_with fail
   refine (Y6n _ _ _ _ _ ha hl).mono ?_
   rintro e w' ⟨rfl, rfl⟩
   rw [E0.out, E00.out, Int.toNat_natCast]
   go_wp2_with fail
   go_ret3
   exact ⟨by rw [E1.out, E2.out, E3.out]; rfl, rfl⟩
 ·have hc' : Y4m n = false := by simpa using hc
  have ho : okR n l.length at_ = false := by unfold okR; rw [hc']; simp
  have e00 : Y8e n = 1 := by unfold Y8e; rw [hc']; rfl
  have e1 : rrV n low l at_ = 0 := by unfold rrV; rw [ho]; rfl
  have e2 : Y2m n l.length at_ = 1 := by unfold Y2m; rw [ho, hc']; rfl
  have e3 : ((Y2l n l.length at_ : Nat) : Int) = (at_ : Int) := by unfold Y2l; rw [ho]; simp
  have E00 := Lib.hid e00
  have E1 := Lib.hid e1
  have E2 := Lib.hid e2
  have E3 := Lib.hid e3
  clear e00 e1 e2 e3 hc hc' ho
  go_enter Tryz.func63, Tryz.ntmps63
  go_wp2_with fail
  refine (Y6n _ _ _ _ _ ha hl).mono ?_
  rintro e w' ⟨rfl, rfl⟩
  rw [E00.out]
  go_wp2_with fail
  go_ret3
  exact ⟨by rw [E1.out, E2.out, E3.out]; rfl, rfl⟩
end Go.Proofs.YtkkfkmoikcmhoaaGreat.Bit
namespace Go.Proofs.YtkkfkmoikcmhoaaGreat.Bit
open Go.RowKit Oct
set_option maxRecDepth 20000
def Yae (xs : List UInt8) : Bool := xs.all fun c => c == 48 || c == 49
theorem Yhd (xs : List UInt8) (k : Nat) (h : k < xs.length) (h0 : xs[k] ≠ 48) (h1 : xs[k] ≠ 49) : Yae xs = false := by
 unfold Yae
 rw [List.all_eq_false]
 exact ⟨xs[k], List.getElem_mem h, by simp [h0, h1]⟩
theorem Yaf {xs : List UInt8} (h : Yae xs = true) : ∃ l : List Bool, xs = l.map dig := by
 refine ⟨xs.map fun c => c == 49, ?_⟩
 rw [List.map_map]
 have h' := List.all_eq_true.1 h
 conv => lhs; rw [← List.map_id xs]
 refine List.map_congr_left fun c hc => ?_
 have := h' c hc
 simp at this
 rcases this with rfl | rfl <;> rfl
theorem Yhe (l : List Bool) : Yae (l.map dig) = true := by
 unfold Yae
 rw [List.all_eq_true]
 intro c hc
 simp at hc
 rcases hc with ⟨_, rfl⟩ | ⟨_, rfl⟩ <;> rfl
theorem Ymg (x : UInt8) (n : Nat) (hn : n < 256) (h : x ≠ UInt8.ofNat n) : ((x.toNat : Int) != (n : Int)) = true := by
 simp
 intro e
 apply h
 apply UInt8.toNat_inj.1
 rw [UInt8.toNat_ofNat', Nat.mod_eq_of_lt hn]
 omega
end Go.Proofs.YtkkfkmoikcmhoaaGreat.Bit
namespace Go.Proofs.YtkkfkmoikcmhoaaGreat.Hf
open Go.RowKit Oct Bit
set_option maxRecDepth 20000
def VRow (w : World) (C : Nat) (p : Option Addr) (vs : List Value) : Prop :=
 0 < vs.length → ∃ b off, p = some ⟨b, off, none⟩ ∧ b < C ∧ ∀ i (h : i < vs.length), w.cell? ⟨b, off + i, none⟩ = some vs[i]
theorem VRow.below {w w' : World} {C B : Nat} {p : Option Addr} {vs : List Value} (h : VRow w C p vs) (hb : Below B w w') (hC : C ≤ B) : VRow w' C p vs := by
 intro hp
 obtain ⟨b, off, rfl, hlt, hc⟩ := h hp
 exact ⟨b, off, rfl, hlt, fun i hi => (hb.cell (p := ⟨b, off + i, none⟩) (by show b < B; omega)).trans (hc i hi)⟩
theorem VRow.mono {w : World} {C D : Nat} {p : Option Addr} {vs : List Value} (h : VRow w C p vs) (hC : C ≤ D) : VRow w D p vs := by
 intro hp
 obtain ⟨b, off, rfl, hlt, hc⟩ := h hp
 exact ⟨b, off, rfl, by omega, hc⟩
def ints (zs : List Int) : List Value := zs.map fun z => .int .i64 z
def strs (L : List (List UInt8)) : List Value := L.map fun s => .string (bs s)
theorem Y04 (zs : List Int) : (ints zs).length = zs.length := by simp [ints]
theorem Y19 (L : List (List UInt8)) : (strs L).length = L.length := by simp [strs]
theorem Y1g (L M : List Int) : ints (L ++ M) = ints L ++ ints M := by simp [ints]
theorem Y2d {zs : List Int} : ∀ v ∈ ints zs, v.oneCell' = true := by
 intro v hv
 simp [ints] at hv
 obtain ⟨x, _, rfl⟩ := hv
 rfl
theorem Yji {L : List (List UInt8)} : ∀ v ∈ strs L, v.oneCell' = true := by
 intro v hv
 simp [strs] at hv
 obtain ⟨x, _, rfl⟩ := hv
 rfl
theorem VRow.int {w : World} {C : Nat} {b off : Nat} {zs : List Int} (h : VRow w C (some ⟨b, off, none⟩) (ints zs)) (i : Nat) (hi : i < zs.length) : w.cell? ⟨b, off + i, none⟩ = some (.int .i64 zs[i]) := by
 obtain ⟨b', off', e, hlt, hc⟩ := h (by rw [Y04]; omega)
 injection e with e
 injection e with e1 e2
 subst e1; subst e2
 have := hc i (by rw [Y04]; exact hi)
 rw [this]
 simp [ints]
theorem VRow.str {w : World} {C : Nat} {b off : Nat} {L : List (List UInt8)} (h : VRow w C (some ⟨b, off, none⟩) (strs L)) (i : Nat) (hi : i < L.length) : w.cell? ⟨b, off + i, none⟩ = some (.string (bs L[i])) := by
 obtain ⟨b', off', e, hlt, hc⟩ := h (by rw [Y19]; omega)
 injection e with e
 injection e with e1 e2
 subst e1; subst e2
 have := hc i (by rw [Y19]; exact hi)
 rw [this]
 simp [strs]
theorem VRow.addr {w : World} {C : Nat} {p : Option Addr} {vs : List Value} (h : VRow w C p vs) (hp : 0 < vs.length) : ∃ b off, p = some ⟨b, off, none⟩ ∧ b < C := by
 obtain ⟨b, off, e, hlt, _⟩ := h hp
 exact ⟨b, off, e, hlt⟩
theorem Y0y {w : World} {g C : Nat} {vs : List Value} {T : TypeId} {fr : Nat × Nat} (h : w.heap[g]? = some (.cells vs.toArray T fr)) (hC : g < C) : VRow w C (some ⟨g, 0, none⟩) vs := by
 intro hp
 refine ⟨g, 0, rfl, hC, fun i hi => ?_⟩
 simp [World.cell?, h, hi]
theorem Y0z {w : World} {base n e : Nat} {v : Value} {vs : List Value} (h : w.ownsRow base e 1 v n vs) (hn : vs.length = n) :
  ∃ q c, v = .slice q n c ∧ (q = none → c = 0) ∧ n ≤ c ∧ c ≤ maxLen ∧ VRow w w.heap.size q vs ∧ ∀ a, q = some a → base ≤ a.block := by
 have hl := fun k hk => h.lt k hk
 have hc := fun g hg => h.cells (g := g) hg
 rcases h.2 with ⟨rfl, h0⟩ | ⟨g, cap, cur, rfl, hb, hh, h1, h2, _, _⟩
 ·subst h0
  have : vs = [] := List.eq_nil_of_length_eq_zero hn
  subst this
  exact ⟨none, 0, rfl, fun _ => rfl, Nat.le_refl _, by simp [maxLen], fun h => absurd h (by simp), fun a h => by cases h⟩
 ·refine ⟨some ⟨g, 0, none⟩, cap, rfl, fun h => (by cases h), h1, h2, fun hp => ⟨g, 0, rfl, (hl g rfl).2, fun i hi => ?_⟩, fun a h => by injection h with h; subst h; exact hb⟩
  have := hc g rfl i vs[i] (by simp [hi])
  rw [Y0i] at this
  exact this
theorem Tryz.infoStr : (Tryz.prog.info? 9).map (fun i => (i.zero, i.size, i.bytes)) = some (some (.string ByteArray.empty), 1, 16) := by kernel_rfl
theorem Tryz.infoInt : (Tryz.prog.info? 3).map (fun i => (i.zero, i.size, i.bytes)) = some (some (.int .i64 0), 1, 8) := by kernel_rfl
theorem Y0b {w : World} {ops : Array Oper} {rest : List Oper} {o : Oper} {a : Act} {Q : Exit → Act → World → Prop} {T e : TypeId} {i0 : TypeInfo} {z : Value} {by_ : Nat}
  (hT : Tryz.prog.underlying T = some (.slice e)) (hi : Tryz.prog.info? e = some i0) (hz0 : i0.zero = some z) (hz1 : i0.size = 1) (hz2 : i0.bytes = by_) (hzc : z.cells = #[z]) (hby2 : by_ ≤ 16)
  (hgd : o.guard = none) (s x : Operand)
  (ho : o.op = .call { callee := .builtin .append, args := #[s, x], argTypes := #[T, T] })
  (base : Nat) (v : Value) (n : Nat) (ys : List Value) (hs : a.eval s = v) (hown : w.ownsRow base e 1 v n ys)
  (p : Option Addr) (m c : Nat) (xs : List Value) (hx : a.eval x = .slice p m c) (hr : VRow w w.heap.size p xs) (hxm : xs.length = m) (hc0 : p = none → c = 0) (h1 : ∀ u ∈ xs, u.oneCell' = true)
  (h47 : n + m ≤ 100000000) (hbase : base ≤ w.heap.size)
  (h : ∀ v' w', w'.ownsRow base e 1 v' (n + m) (ys ++ xs) → w.grownBy w' v.ownBlock → Below base w w' → wpList Tryz.prog ops Q rest (a.put o.dst v') w') :
  wpList Tryz.prog ops Q (o :: rest) a w := by
 rcases p with _ | ad
 ·have hxs : xs = [] := by
   rcases xs with _ | ⟨x, xs⟩
   ·rfl
   ·obtain ⟨b, off, he, _⟩ := hr (by simp)
    cases he
  subst hxs
  simp at hxm
  subst hxm
  have := hc0 rfl
  subst this
  refine wpList_append_own_none hgd s x T ho base e i0 1 hT hi v n ys hs hown hx ?_
  exact h v w (by simpa using hown) (World.grownBy.refl w _) (Below.refl _ _)
 ·refine wpList_append_own w hgd s x T ho base e i0 z 1 by_ hT hi hz0 hz1 hz2 (by rw [hzc]; rfl) (by decide) v n ys hs hown ad m c xs hx (by rw [hxm]; omega) ?_ h1 (by unfold maxLen; omega) ?_ hbase ?_
  ·intro j u hj
   obtain ⟨hj', hju⟩ := List.getElem?_eq_some_iff.1 hj
   obtain ⟨b, off, he, _, hc⟩ := hr (by omega)
   injection he with he
   subst he
   rw [Y0i, ← hju]
   exact hc j hj'
  ·have := Nat.mul_le_mul_left (n + m) hby2
   first | omega | (have := Nat.mul_le_mul_left ((n + m) * 1) hby2; omega)
  ·intro v' w' h2 h3 h4
   exact h v' w' h2 h3 (Y37 hown h3 hbase)
def Yjz (w : World) (vs : List Value) (e : Ending) (w' : World) : Prop :=
 Below w.heap.size w w' ∧ ∃ q cap, e = .returned (.slice q vs.length cap) ∧ VRow w' w'.heap.size q vs ∧ vs.length ≤ cap ∧ cap ≤ maxLen ∧ (q = none → cap = 0) ∧ ∀ a, q = some a → w.heap.size ≤ a.block
set_option maxHeartbeats 400000 in
theorem Yd7 (p : Option Addr) (len cap : Nat) (vs : List Value) (w : World) (hr : VRow w w.heap.size p vs) (hx : vs.length = len) (hnil : p = none → cap = 0) (h47 : len ≤ 100000) (h1 : ∀ u ∈ vs, u.oneCell' = true) :
  Calls Tryz.prog 140 #[.slice p len cap] w (Yjz w vs) := by
 obtain ⟨i0, hi, hz0, hz1, hz2⟩ := info_parts Tryz.infoStr
 rcases p with _ | ad
 ·have hxs : vs = [] := by
   rcases vs with _ | ⟨x, xs⟩
   ·rfl
   ·obtain ⟨b, off, he, _⟩ := hr (by simp)
    cases he
  subst hxs
  simp at hx
  subst hx
  have hcap := hnil rfl
  subst hcap
  clear hnil
  have heq : ∀ w' : World, (binOp .eql 77 (.slice none 0 0) (.slice none 0 0)).run Tryz.prog w' = .ok (.bool true) w' := fun w' => Lib.run_eql_slice_nil (P := Tryz.prog) w' 77 9 none 0 0 0 0 Tryz.underlying77
  go_enter Tryz.func140, Tryz.ntmps140
  go_wp2_with fail
  go_ret
  exact ⟨Below.refl _ _, none, 0, rfl, fun h => absurd h (by simp), by simp, by simp [maxLen], fun _ => rfl, (fun a h => by cases h)⟩
 ·have hown := World.ownsRow_made (base := w.heap.size) (e := 9) (size := 1) w #[] 0 (Nat.le_refl _) (by simp [maxLen]) rfl
  have hba : Below w.heap.size w (w.alloc (.cells #[] 9)) := (Below.refl _ w).alloc (Nat.le_refl _) _
  have hr2 : VRow (w.alloc (.cells #[] 9)) (w.alloc (.cells #[] 9)).heap.size (some ad) vs := (hr.below hba (Nat.le_refl _)).mono (by simp)
  have HX := Lib.hid hx
  have HR2 := Lib.hid hr2
  have HBA := Lib.hid hba
  have H1 := Lib.hid h1
  clear hx hnil hr2 hba hr h1
  have heq : ∀ w' : World, (binOp .eql 77 (.slice (some ad) len cap) (.slice none 0 0)).run Tryz.prog w' = .ok (.bool false) w' := fun w' => Lib.run_eql_slice_nil (P := Tryz.prog) w' 77 9 (some ad) len cap 0 0 Tryz.underlying77
  go_enter Tryz.func140, Tryz.ntmps140
  go_wp2_with (at_builtin; refine Y0b Tryz.underlying77 hi hz0 hz1 hz2 rfl (by decide) rfl _ _ rfl w.heap.size _ 0 [] rfl hown (some ad) len cap vs rfl HR2.out HX.out (fun h => by cases h) H1.out (by omega) (by simp) ?_)
  intro v' w2 hown' hgrow hbel
  obtain ⟨q, cap2, hv', hq0, hgc, hgm, hrow2, hqb⟩ := Y0z hown' HX.out
  rw [hv']
  have HB12 := Lib.hid (HBA.out.trans hbel)
  have HROW := Lib.hid hrow2
  have HGC := Lib.hid hgc
  have HGM := Lib.hid hgm
  have HQB := Lib.hid hqb
  have HQ0 := Lib.hid hq0
  clear hown hown' hgrow hbel hv' hrow2 hgc hgm hqb hq0
  go_wp2_with fail
  go_ret
  refine ⟨HB12.out, q, cap2, by rw [HX.out]; simp, HROW.out, by have := HGC.out; rw [HX.out]; omega, HGM.out, HQ0.out, HQB.out⟩
set_option maxHeartbeats 400000 in
theorem Yd6 (p : Option Addr) (len cap : Nat) (vs : List Value) (w : World) (hr : VRow w w.heap.size p vs) (hx : vs.length = len) (hnil : p = none → cap = 0) (h47 : len ≤ 100000) (h1 : ∀ u ∈ vs, u.oneCell' = true) :
  Calls Tryz.prog 165 #[.slice p len cap] w (Yjz w vs) := by
 obtain ⟨i0, hi, hz0, hz1, hz2⟩ := info_parts Tryz.infoInt
 rcases p with _ | ad
 ·have hxs : vs = [] := by
   rcases vs with _ | ⟨x, xs⟩
   ·rfl
   ·obtain ⟨b, off, he, _⟩ := hr (by simp)
    cases he
  subst hxs
  simp at hx
  subst hx
  have hcap := hnil rfl
  subst hcap
  clear hnil
  have heq : ∀ w' : World, (binOp .eql 74 (.slice none 0 0) (.slice none 0 0)).run Tryz.prog w' = .ok (.bool true) w' := fun w' => Lib.run_eql_slice_nil (P := Tryz.prog) w' 74 3 none 0 0 0 0 Tryz.underlying74
  go_enter Tryz.func165, Tryz.ntmps165
  go_wp2_with fail
  go_ret
  exact ⟨Below.refl _ _, none, 0, rfl, fun h => absurd h (by simp), by simp, by simp [maxLen], fun _ => rfl, (fun a h => by cases h)⟩
 ·have hown := World.ownsRow_made (base := w.heap.size) (e := 3) (size := 1) w #[] 0 (Nat.le_refl _) (by simp [maxLen]) rfl
  have hba : Below w.heap.size w (w.alloc (.cells #[] 3)) := (Below.refl _ w).alloc (Nat.le_refl _) _
  have hr2 : VRow (w.alloc (.cells #[] 3)) (w.alloc (.cells #[] 3)).heap.size (some ad) vs := (hr.below hba (Nat.le_refl _)).mono (by simp)
  have HX := Lib.hid hx
  have HR2 := Lib.hid hr2
  have HBA := Lib.hid hba
  have H1 := Lib.hid h1
  clear hx hnil hr2 hba hr h1
  have heq : ∀ w' : World, (binOp .eql 74 (.slice (some ad) len cap) (.slice none 0 0)).run Tryz.prog w' = .ok (.bool false) w' := fun w' => Lib.run_eql_slice_nil (P := Tryz.prog) w' 74 3 (some ad) len cap 0 0 Tryz.underlying74
  go_enter Tryz.func165, Tryz.ntmps165
  go_wp2_with (at_builtin; refine Y0b Tryz.underlying74 hi hz0 hz1 hz2 rfl (by decide) rfl _ _ rfl w.heap.size _ 0 [] rfl hown (some ad) len cap vs rfl HR2.out HX.out (fun h => by cases h) H1.out (by omega) (by simp) ?_)
  intro v' w2 hown' hgrow hbel
  obtain ⟨q, cap2, hv', hq0, hgc, hgm, hrow2, hqb⟩ := Y0z hown' HX.out
  rw [hv']
  have HB12 := Lib.hid (HBA.out.trans hbel)
  have HROW := Lib.hid hrow2
  have HGC := Lib.hid hgc
  have HGM := Lib.hid hgm
  have HQB := Lib.hid hqb
  have HQ0 := Lib.hid hq0
  clear hown hown' hgrow hbel hv' hrow2 hgc hgm hqb hq0
  go_wp2_with fail
  go_ret
  refine ⟨HB12.out, q, cap2, by rw [HX.out]; simp, HROW.out, by have := HGC.out; rw [HX.out]; omega, HGM.out, HQ0.out, HQB.out⟩
end Go.Proofs.YtkkfkmoikcmhoaaGreat.Hf

/- BitW, BitX, BitY, IgG: merged. -/
import Derived.Deep.AppendLies
import Derived.Deep.RegionHeld3
import Derived.Laws.Externs
import Derived.Laws.IdiomCopy
import Derived.Lib.EndianMore
import Derived.Deep.RegionLaw
import Derived.LoopTactic
import Derived.Test.YtkkfkmoikcmhoaaGreatQah
set_option linter.unusedVariables false
set_option linter.unusedSimpArgs false
namespace Go.Proofs.YtkkfkmoikcmhoaaGreat.Bit
open Go.RowKit Oct
set_option maxRecDepth 20000
theorem Y8c {S : Nat → Prop} {w w' : World} {e n : Nat} {v : Value} {cs : List Value} (h : w.ownsRow 0 e 1 v n cs) (ho : Only S w w') (hv : ∀ k, v.ownBlock = some k → ¬ S k) : w'.ownsRow 0 e 1 v n cs := by
 refine ⟨h.1, ?_⟩
 rcases h.2 with hn | ⟨g, cap, cur, rfl, hb, hh, r⟩
 ·exact .inl hn
 ·refine .inr ⟨g, cap, cur, rfl, hb, ?_, r⟩
  have hlt : g < w.heap.size := by
   rcases Nat.lt_or_ge g w.heap.size with hlt | hge
   ·exact hlt
   ·rw [Array.getElem?_eq_none hge] at hh; cases hh
  rw [ho.2.2.2.2 g hlt (hv g rfl)]
  exact hh
def Wr (w : World) (g : Nat) (v : Value) (xs : List UInt8) (n : Nat) (low : Bool) : Prop :=
 w.heap[g]? = some (.cells #[v, .int .i64 (n : Int), .bool low] 121 (0, 0)) ∧ w.ownsRow 0 5 1 v xs.length (cellsOf xs) ∧ v.ownBlock ≠ some g
section
variable {w w' : World} {g n : Nat} {v : Value} {xs : List UInt8} {low : Bool}
theorem Wr.c0 (h : Wr w g v xs n low) : w.cell? ⟨g, 0, none⟩ = some v := by simp [World.cell?, h.1]
theorem Wr.c1 (h : Wr w g v xs n low) : w.cell? ⟨g, 1, none⟩ = some (.int .i64 (n : Int)) := by simp [World.cell?, h.1]
theorem Wr.c2 (h : Wr w g v xs n low) : w.cell? ⟨g, 2, none⟩ = some (.bool low) := by simp [World.cell?, h.1]
theorem Wr.fz (h : Wr w g v xs n low) (i : Nat) : w.frozen? ⟨g, i, none⟩ = false := by simp [World.frozen?, h.1]
theorem Wr.lt (h : Wr w g v xs n low) : g < w.heap.size := by
 rcases Nat.lt_or_ge g w.heap.size with hlt | hge
 ·exact hlt
 ·have := h.1; rw [Array.getElem?_eq_none hge] at this; cases this
theorem Wr.only {S : Nat → Prop} (h : Wr w g v xs n low) (ho : Only S w w') (hg : ¬ S g) (hv : ∀ k, v.ownBlock = some k → ¬ S k) : Wr w' g v xs n low :=
 ⟨(ho.2.2.2.2 g h.lt hg).trans h.1, Y8c h.2.1 ho hv, h.2.2⟩
theorem Wr.form (h : Wr w g v xs n low) : (v = .slice none 0 0 ∧ xs = []) ∨ ∃ r cap, v = .slice (some ⟨r, 0, none⟩) xs.length cap ∧ xs.length ≤ cap ∧ cap ≤ maxLen ∧ r < w.heap.size ∧ r ≠ g ∧ Row w (some ⟨r, 0, none⟩) xs := by
 by_cases hv : v = .slice none 0 0
 ·left
  refine ⟨hv, ?_⟩
  rcases h.2.1.2 with ⟨_, h0⟩ | ⟨r, cap, cur, he, _⟩
  ·exact List.eq_nil_of_length_eq_zero h0
  ·rw [hv] at he; cases he
 ·right
  obtain ⟨r, cap, rfl, h1, h2, _, h4, h5⟩ := Y4p h.2.1 hv
  exact ⟨r, cap, rfl, h1, h2, h4, fun e => h.2.2 (by rw [e]; rfl), h5⟩
theorem Wr.setLen (h : Wr w g v xs n low) (m : Nat) : Wr (w.setCell ⟨g, 1, none⟩ (.int .i64 (m : Int))) g v xs m low := by
 refine ⟨?_, Y8c h.2.1 (Only.setCell (S := (· = g)) (p := ⟨g, 1, none⟩) (by rfl) _) (fun k hk e => h.2.2 (by rw [hk, e])), h.2.2⟩
 have := h.1
 simp [World.setCell, Array.getElem?_modify, this]
theorem Yl4 {r i cap : Nat} (h : w.ownsRow 0 5 1 (.slice (some ⟨r, 0, none⟩) xs.length cap) xs.length (cellsOf xs)) (c : UInt8) :
  (w.setCell ⟨r, i, none⟩ (.int .u8 (c.toNat : Int))).ownsRow 0 5 1 (.slice (some ⟨r, 0, none⟩) (xs.set i c).length cap) (xs.set i c).length (cellsOf (xs.set i c)) := by
 obtain ⟨h1, h2⟩ := h
 refine ⟨by simp [cellsOf], .inr ?_⟩
 rcases h2 with ⟨hv, _⟩ | ⟨g', cap', cur, hv, hb, hh, hl, hm, hs, ht⟩
 ·cases hv
 ·injection hv with e1 _ e3
  injection e1 with e1
  injection e1 with e1
  subst e1
  subst e3
  refine ⟨r, cap, cur.setIfInBounds i (.int .u8 (c.toNat : Int)), by simp, hb, ?_, by simpa using hl, hm, by simpa using hs, ?_⟩
  ·simp [World.setCell, Array.getElem?_modify, hh]
  ·simp only [List.length_set, Array.toList_setIfInBounds, List.take_set]
   rw [ht]
   simp [cellsOf, List.map_set]
end
theorem Only.grown {w w' : World} {row : Option Nat} (hg : w.grownBy w' row) : Only (fun k => row = some k) w w' :=
 ⟨hg.os, hg.tape, hg.output, hg.size, fun k hk hs => hg.block k hk (fun e => hs e.symm)⟩
def Mine (g : Nat) (v : Value) (k : Nat) : Prop := k = g ∨ v.ownBlock = some k
def Yka (w : World) (g : Nat) (v : Value) (ys : List UInt8) (n : Nat) (low : Bool) (e : Ending) (w' : World) : Prop :=
 e = .returned (.tuple #[]) ∧ ∃ v', Wr w' g v' ys n low ∧ Only (Mine g v) w w' ∧ ∀ k, v'.ownBlock = some k → v.ownBlock = some k ∨ w.heap.size ≤ k
theorem Yi3 (w : World) (g : Nat) (v : Value) (xs : List UInt8) (n : Nat) (low : Bool) (c : UInt8) (hW : Wr w g v xs n low) (hl : xs.length ≤ 2000000) :
  Calls Tryz.prog 151 #[.pointer (some ⟨g, 0, none⟩), .int .i64 (xs.length : Int), .int .u8 (c.toNat : Int)] w (Yka w g v (xs ++ [c]) n low) := by
 obtain ⟨i0, hi, hz0, hz1, hz2⟩ := info_parts Tryz.infoByte
 have c0 := hW.c0
 have hlt := hW.lt
 have hA : Only (fun _ => False) w (w.alloc (.cells #[.int .u8 (c.toNat : Int)] 5)) := Only.of_below ((Below.refl _ w).alloc (Nat.le_refl _) _)
 have hWA := hW.only hA (fun h => h) (fun _ _ h => h)
 have hrow := Ygf w c 5
 have hcell : (w.alloc (.cells #[.int .u8 (c.toNat : Int)] 5)).cell? ⟨w.heap.size, 0, none⟩ = some (.int .u8 (c.toNat : Int)) := by simp
 obtain ⟨len, cap, p, hv⟩ : ∃ len cap p, v = .slice p len cap ∧ len = xs.length := by
  rcases hW.form with ⟨rfl, rfl⟩ | ⟨r, cap, rfl, _⟩
  ·exact ⟨0, 0, none, rfl, rfl⟩
  ·exact ⟨_, _, _, rfl, rfl⟩
 obtain ⟨rfl, rfl⟩ := hv
 have HWA := Lib.hid hWA
 have HC := Lib.hid hcell
 have HW := Lib.hid hW
 clear hWA hrow hA hcell hW
 go_enter Tryz.func151, Tryz.ntmps151
 go_wp2_with (at_builtin; refine wpList_append_lies _ rfl _ _ 22 rfl 0 5 i0 (.int .u8 0) 1 1 Tryz.underlying22 hi hz0 hz1 hz2 rfl (by decide) _ xs.length (cellsOf xs) rfl HWA.out.2.1 ⟨w.heap.size, 0, none⟩ 1 1 (cellsOf [c]) rfl rfl ?d1 Y20 (by decide) ?d2 ?d3 (Nat.zero_le _) (w.heap.size + 1) (by simp) ?_)
 case d1 =>
  intro j u hj
  obtain ⟨hj', rfl⟩ := Y4a hj
  have : j = 0 := by simpa using hj'
  subst this
  exact HC.out
 case d2 => unfold maxLen; omega
 case d3 => omega
 intro g' cap' w1 hown1 hgrow hdich hlt1
 have hne := HW.out.2.2
 have hG := Only.grown hgrow
 have hWg := HWA.out.1
 have hg1 : w1.heap[g]? = some (.cells #[.slice p xs.length cap, .int .i64 (n : Int), .bool low] 121 (0, 0)) := (hG.2.2.2.2 g (by simp; omega) hne).trans hWg
 have hgg : g' ≠ g := by
  rcases hdich with h | h
  ·intro e; exact hne (by rw [h, e])
  ·omega
 have c1 : w1.cell? ⟨g, 0, none⟩ = some (.slice p xs.length cap) := by simp [World.cell?, hg1]
 have f1 : w1.frozen? ⟨g, 0, none⟩ = false := by simp [World.frozen?, hg1]
 have HO := Lib.hid hown1
 have HG := Lib.hid hG
 have HG1 := Lib.hid hg1
 have HD := Lib.hid hdich
 clear hown1 hG hWg hg1 hgrow hdich
 go_wp2_with fail
 go_end0
 refine ⟨rfl, .slice (some ⟨g', 0, none⟩) (xs.length + 1) cap', ⟨?_, ?_, ?_⟩, ?_, ?_⟩
 ·have := HG1.out
  simp [World.setCell, Array.getElem?_modify, this]
 ·have h1 := Y8c HO.out (Only.setCell (S := (· = g)) (p := ⟨g, 0, none⟩) (by rfl) (.slice (some ⟨g', 0, none⟩) (xs.length + 1) cap')) (fun k hk e => by injection hk with hk; exact hgg (hk.trans e))
  rw [← Y1d] at h1
  simpa using h1
 ·intro e
  injection e with e
  exact hgg e
 ·have hA : Only (Mine g (.slice p xs.length cap)) w (w.alloc (.cells #[.int .u8 (c.toNat : Int)] 5)) := Only.of_below ((Below.refl _ w).alloc (Nat.le_refl _) _)
  exact (hA.trans (HG.out.mono (fun k _ h => .inr h))).trans (Only.setCell (p := ⟨g, 0, none⟩) (.inl rfl) _)
 ·intro k hk
  injection hk with hk
  subst hk
  rcases HD.out with h | h
  ·exact .inl h
  ·exact .inr (by show w.heap.size ≤ g'; omega)
theorem or_u8 (a b : UInt8) : bits .or .u8 (a.toNat : Int) (b.toNat : Int) = (((a ||| b).toNat : Nat) : Int) := by
 rw [u8_or_nat _ _ a.toNat_lt b.toNat_lt, UInt8.toNat_or]
theorem Ykp (w : World) (g : Nat) (v : Value) (xs : List UInt8) (n : Nat) (low : Bool) (i : Nat) (c : UInt8) (hW : Wr w g v xs n low) (hl : xs.length ≤ 2000000) (hi : i < xs.length) :
  Calls Tryz.prog 151 #[.pointer (some ⟨g, 0, none⟩), .int .i64 (i : Int), .int .u8 (c.toNat : Int)] w (Yka w g v (xs.set i (xs[i] ||| c)) n low) := by
 have c0 := hW.c0
 rcases hW.form with ⟨_, h0⟩ | ⟨r, cap, rfl, hlc, hcm, hr, hrg, hrow⟩
 ·subst h0; simp at hi
 obtain ⟨b, off, he, _, hc⟩ := hrow (by omega)
 injection he with he
 injection he with e1 e2
 subst e1
 subst e2
 have hci := hc i hi
 rw [Nat.zero_add] at hci
 have hfz : w.frozen? ⟨r, i, none⟩ = false := by
  rcases hW.2.1.2 with ⟨hv, _⟩ | ⟨g', cap', cur, hv, _, hh, _⟩
  ·cases hv
  ·injection hv with e1
   injection e1 with e1
   injection e1 with e1
   subst e1
   simp [World.frozen?, hh]
 have hx : xs[i].toNat < 256 := xs[i].toNat_lt
 have hcb : c.toNat < 256 := c.toNat_lt
 have hor := or_u8 xs[i] c
 have hne : ((i : Int) == (xs.length : Int)) = false := by simp; omega
 have HW := Lib.hid hW
 have HOR := Lib.hid hor
 clear hor hW hc hrow
 go_enter Tryz.func151, Tryz.ntmps151
 go_wp2_with fail
 go_end0
 rw [HOR.out]
 have hO := Only.setCell (S := Mine g (.slice (some ⟨r, 0, none⟩) xs.length cap)) (w := w) (p := ⟨r, i, none⟩) (.inr rfl) (.int .u8 (((xs[i] ||| c).toNat : Nat) : Int))
 refine ⟨rfl, .slice (some ⟨r, 0, none⟩) xs.length cap, ⟨?_, ?_, HW.out.2.2⟩, hO, fun k hk => .inl hk⟩
 ·rw [Below.heap_setCell _ _ _ _ (by show g ≠ r; omega)]
  exact HW.out.1
 ·have := Yl4 (i := i) HW.out.2.1 (xs[i] ||| c)
  simpa using this
end Go.Proofs.YtkkfkmoikcmhoaaGreat.Bit
namespace Go.Proofs.YtkkfkmoikcmhoaaGreat.Bit
open Go.RowKit Oct
set_option maxRecDepth 20000
def WrT (w : World) (g : Nat) (v : Value) (xs : List UInt8) (n : Nat) (low : Bool) (w' : World) : Prop :=
 ∃ v', Wr w' g v' xs n low ∧ Only (Mine g v) w w' ∧ ∀ k, v'.ownBlock = some k → v.ownBlock = some k ∨ w.heap.size ≤ k
theorem WrT.refl {w : World} {g : Nat} {v : Value} {xs : List UInt8} {n : Nat} {low : Bool} (h : Wr w g v xs n low) : WrT w g v xs n low w := ⟨v, h, Only.refl _ _, fun _ h => .inl h⟩
theorem WrT.more {w w1 w2 : World} {g : Nat} {v v1 : Value} {ys : List UInt8} {m : Nat} {low : Bool} (ho : Only (Mine g v) w w1) (hd : ∀ k, v1.ownBlock = some k → v.ownBlock = some k ∨ w.heap.size ≤ k)
  (h : WrT w1 g v1 ys m low w2) : WrT w g v ys m low w2 := by
 obtain ⟨v2, hW, ho2, hd2⟩ := h
 have hz := ho.2.2.2.1
 refine ⟨v2, hW, ⟨ho2.1.trans ho.1, ho2.2.1.trans ho.2.1, ho2.2.2.1.trans ho.2.2.1, Nat.le_trans hz ho2.2.2.2.1, fun k hk hn => ?_⟩, fun k hk => ?_⟩
 ·refine (ho2.2.2.2.2 k (by omega) (fun hm => hn ?_)).trans (ho.2.2.2.2 k hk hn)
  rcases hm with h | h
  ·exact .inl h
  ·rcases hd k h with h | h
   ·exact .inr h
   ·omega
 ·rcases hd2 k hk with h | h
  ·exact hd k h
  ·exact .inr (by omega)
def AddP (w : World) (g : Nat) (v : Value) (l : List Bool) (low : Bool) (e : Ending) (w' : World) : Prop := e = .returned (.tuple #[]) ∧ WrT w g v (Y0q low l) l.length low w'
theorem Ym4 (low : Bool) (used n : Nat) (hu : used < 8) (hn : n ≤ 32) : gsh low used n (8 * cnt used n) ≤ 40 := by
 have : cnt used n ≤ 5 := by unfold cnt; omega
 cases low <;> simp [gsh] <;> omega
theorem Ykt (low : Bool) (used n v : Nat) (hv : v < 2 ^ n) (hn : n ≤ 32) (hu : used < 8) :
  IntKind.u64.wrap ((v : Int) * 2 ^ min (gsh low used n (8 * cnt used n)) 64) = ((grpN low used n v : Nat) : Int) := by
 have h1 := Ym4 low used n hu hn
 have h2 := Yks low used n v hv hn hu
 rw [Nat.min_eq_left (by omega)]
 have e : ((v : Int) * 2 ^ gsh low used n (8 * cnt used n)) = ((grpN low used n v : Nat) : Int) := by unfold grpN; push_cast; rfl
 rw [e, IntWalk.u64_in _ (by omega)]
theorem Yhq (low : Bool) (used n v i : Nat) (hn : n ≤ 32) (hu : used < 8) (hi : i < cnt used n) :
  ((grpN low used n v : Nat) : Int) / 2 ^ min (gsh low (8 * i) 8 (8 * cnt used n)) 64 % 256 = (((Yhm low used n v i).toNat : Nat) : Int) := by
 have h1 : gsh low (8 * i) 8 (8 * cnt used n) ≤ 40 := by
  have : cnt used n ≤ 5 := by unfold cnt; omega
  cases low <;> simp [gsh] <;> omega
 rw [Nat.min_eq_left (by omega)]
 unfold Yhm
 generalize grpN low used n v = G
 generalize gsh low (8 * i) 8 (8 * cnt used n) = s
 have hb : G / 2 ^ s % 256 < 256 := Nat.mod_lt _ (by omega)
 have e2 : ((G : Int) / 2 ^ s) = ((G / 2 ^ s : Nat) : Int) := by push_cast; rfl
 rw [UInt8.toNat_ofNat', Nat.mod_eq_of_lt hb, e2]
 omega
theorem Yf9 (w : World) (g : Nat) (v : Value) (l : List Bool) (low : Bool) (m n j : Nat) (hv : m < 2 ^ n) (hj : j < cnt (l.length % 8) n) (hl : l.length ≤ 2000000) (hn : n ≤ 32)
  (hW : Wr w g v (Y4b low l (Y0f low m n) j) l.length low) :
  Calls Tryz.prog 151 #[.pointer (some ⟨g, 0, none⟩), .int .i64 ((l.length / 8 + j : Nat) : Int), .int .u8 (((Yhm low (l.length % 8) n m j).toNat : Nat) : Int)] w (Yka w g v (Y4b low l (Y0f low m n) (j + 1)) l.length low) := by
 have hwl := Y05 low m n
 by_cases hc : 1 ≤ j ∨ l.length % 8 = 0
 ·have hlen := Yf6 low l (Y0f low m n) n j hwl (by omega) hc
  have h1 := Yi3 w g v _ l.length low (Yhm low (l.length % 8) n m j) hW (by rw [hlen]; unfold cnt at hj; omega)
  rw [hlen, Yf7 low l m n j hv hj hc] at h1
  exact h1
 ·have hj0 : j = 0 := by omega
  subst hj0
  have hlen := Y0e low l
  rw [Ydb] at hW
  have hq : l.length / 8 < (Y0q low l).length := by rw [hlen]; omega
  have h1 := Ykp w g v _ l.length low (l.length / 8) (Yhm low (l.length % 8) n m 0) hW (by rw [hlen]; omega) hq
  rw [Yi2 low l m n hv (by omega) hq] at h1
  exact h1
set_option maxHeartbeats 1000000 in
theorem Yki (w : World) (g : Nat) (v : Value) (l : List Bool) (low : Bool) (m n : Nat) (hv : m < 2 ^ n) (hn : n ≤ 32) (hl : l.length ≤ 2000000) (hW : Wr w g v (Y0q low l) l.length low) :
  Calls Tryz.prog 131 #[.pointer (some ⟨g, 0, none⟩), .int .u32 (m : Int), .int .i64 (n : Int)] w (AddP w g v (l ++ Y0f low m n) low) := by
 have c1 := hW.c1
 have c2 := hW.c2
 have hm32 : m < 4294967296 := by
  have h1 : (2 : Nat) ^ n ≤ 2 ^ 32 := Nat.pow_le_pow_right (by omega) hn
  omega
 have hgv := Ykt low (l.length % 8) n m hv hn (by omega)
 obtain ⟨c, hc⟩ : ∃ c, c = cnt (l.length % 8) n := ⟨_, rfl⟩
 have hc5 : c ≤ 5 := by rw [hc]; unfold cnt; omega
 have HGV := Lib.hid hgv
 have HC := Lib.hid hc
 have HW := Lib.hid hW
 clear hgv hc hW
 go_enter Tryz.func131, Tryz.ntmps131
 go_wp2_with fail
 have e2 : ((l.length : Int) % 8) + (n : Int) = ((l.length % 8 + n : Nat) : Int) := by omega
 rw [e2]
 refine (Y25 _ _ (by omega)).mono ?_
 rintro e w' ⟨rfl, rfl⟩
 rw [show (l.length % 8 + n + 7) / 8 = c from HC.out.symm]
 clear e2
 have e3 : (l.length : Int) % 8 = ((l.length % 8 : Nat) : Int) := by omega
 have E3 := Lib.hid e3
 clear e3
 go_wp2_with fail
 rw [E3.out]
 refine (Y47 _ _ _ _ (by omega) hn).mono ?_
 rintro e w' ⟨rfl, rfl⟩
 go_wp2_with fail
 rw [HGV.out]
 go_loopw [9, 30] (fun u i wr => ∃ j : Nat, j ≤ c ∧ i = .int .i64 (j : Int) ∧ WrT w g v (Y4b low l (Y0f low m n) j) l.length low wr) (fun _ i _ => c - (intOf i).toNat)
 case atStart => exact ⟨0, by omega, rfl, WrT.refl HW.out⟩
 case round =>
  obtain ⟨j, hj, rfl, hT⟩ := hrel
  obtain ⟨v1, hW1, ho1, hd1⟩ := hT
  have k1 := hW1.c1
  have k2 := hW1.c2
  by_cases hlt : j < c
  ·have hav := Yhq low (l.length % 8) n m j hn (by omega) (by rw [← HC.out]; exact hlt)
   rw [← HC.out] at hav
   have s1 : IntKind.i64.wrap ((l.length : Int) / 8 + (j : Int)) = (l.length : Int) / 8 + (j : Int) := IntWalk.i64_in _ (by omega)
   have s2 : ((l.length : Int) / 8 + (j : Int)) = ((l.length / 8 + j : Nat) : Int) := by omega
   have s0 : IntKind.i64.wrap ((l.length : Int) / 8) = (l.length : Int) / 8 := IntWalk.i64_in _ (by omega)
   have S0 := Lib.hid s0
   have S1 := Lib.hid s1
   clear s0 s1
   have S2 := Lib.hid s2
   have HAV := Lib.hid hav
   clear s2 hav
   have hfs := Yf9 wr.drew g v1 l low m n j hv (by rw [← HC.out]; exact hlt) hl hn (by exact hW1)
   have HFS := Lib.hid hfs
   clear hfs
   go_wp2_with fail
   have kd1 : wr.drew.cell? ⟨g, 1, none⟩ = some (.int .i64 (l.length : Int)) := k1
   have kd2 : wr.drew.cell? ⟨g, 2, none⟩ = some (.bool low) := k2
   refine wp_region_held_drew (S := (fun w' => w'.cell? ⟨g, 1, none⟩ = some (.int .i64 (l.length : Int)) ∧ w'.cell? ⟨g, 2, none⟩ = some (.bool low))) (by kernel_rfl) ⟨kd1, kd2⟩ (fun hHeld => ?_)
   refine wpAnyH_take (i := 0) (v := ?v1) rfl (by kernel_rfl) (by kernel_rfl) (by kernel_rfl) (fun _ _ _ h => h) (Or.inl ⟨by rfl, fun w hSw => ?y1⟩) hHeld ?r1
   case y1 => (try dsimp only at hSw); first | (go_simp; done) | (go_simp; with_reducible rfl)
   try simp only [Act.put, List.setIfInBounds_toArray, List.set_cons_zero, List.set_cons_succ, List.getElem_toArray, List.getElem_cons_zero, List.getElem_cons_succ]
   refine wpAnyH_take (i := 1) (v := ?v2) rfl (by kernel_rfl) (by kernel_rfl) (by kernel_rfl) (fun _ _ _ h => h) (Or.inl ⟨by rfl, fun w hSw => ?y2⟩) hHeld ?r2
   case y2 => (try dsimp only at hSw); first | (go_simp; done) | (go_simp; with_reducible rfl)
   try simp only [Act.put, List.setIfInBounds_toArray, List.set_cons_zero, List.set_cons_succ, List.getElem_toArray, List.getElem_cons_zero, List.getElem_cons_succ]
   refine wpAnyH_take (i := 2) (v := ?v3) rfl (by kernel_rfl) (by kernel_rfl) (by kernel_rfl) (fun _ _ _ h => h) (Or.inl ⟨by rfl, fun w hSw => ?y3⟩) hHeld ?r3
   case y3 => (try dsimp only at hSw); first | (go_simp; done) | (go_simp; with_reducible rfl)
   try simp only [Act.put, List.setIfInBounds_toArray, List.set_cons_zero, List.set_cons_succ, List.getElem_toArray, List.getElem_cons_zero, List.getElem_cons_succ]
   refine wpAnyH_take (i := 3) (v := ?v4) rfl (by kernel_rfl) (by kernel_rfl) (by kernel_rfl) (fun _ _ _ h => h) (Or.inl ⟨by rfl, fun w hSw => ?y4⟩) hHeld ?r4
   case y4 => (try dsimp only at hSw); first | (go_simp; done) | (go_simp; with_reducible rfl)
   try simp only [Act.put, List.setIfInBounds_toArray, List.set_cons_zero, List.set_cons_succ, List.getElem_toArray, List.getElem_cons_zero, List.getElem_cons_succ]
   refine wpAnyH_take (i := 4) (v := ?v5) rfl (by kernel_rfl) (by kernel_rfl) (by kernel_rfl) (fun _ _ _ h => h) (Or.inl ⟨by rfl, fun w hSw => ?y5⟩) hHeld ?r5
   case y5 => (try dsimp only at hSw); first | (go_simp; done) | (go_simp; with_reducible rfl)
   try simp only [Act.put, List.setIfInBounds_toArray, List.set_cons_zero, List.set_cons_succ, List.getElem_toArray, List.getElem_cons_zero, List.getElem_cons_succ]
   refine wpAnyH_take (i := 5) (v := ?v6) rfl (by kernel_rfl) (by kernel_rfl) (by kernel_rfl) (fun _ _ _ h => h) (Or.inl ⟨by rfl, fun w hSw => ?y6⟩) hHeld ?r6
   case y6 => (try dsimp only at hSw); first | (go_simp; done) | (go_simp; with_reducible rfl)
   try simp only [Act.put, List.setIfInBounds_toArray, List.set_cons_zero, List.set_cons_succ, List.getElem_toArray, List.getElem_cons_zero, List.getElem_cons_succ]
   refine wpAnyH_take (i := 6) (v := ?v7) rfl (by kernel_rfl) (by kernel_rfl) (by kernel_rfl) (fun _ _ _ h => h) (Or.inl ⟨by rfl, fun w hSw => ?y7⟩) hHeld ?r7
   case y7 => (try dsimp only at hSw); first | (go_simp; done) | (go_simp; with_reducible rfl)
   try simp only [Act.put, List.setIfInBounds_toArray, List.set_cons_zero, List.set_cons_succ, List.getElem_toArray, List.getElem_cons_zero, List.getElem_cons_succ]
   refine wpAnyH_take (i := 7) (v := ?v8) rfl (by kernel_rfl) (by kernel_rfl) (by kernel_rfl) (fun _ _ _ h => h) (Or.inl ⟨by rfl, fun w hSw => ?y8⟩) hHeld ?r8
   case y8 => (try dsimp only at hSw); first | (go_simp; done) | (go_simp; with_reducible rfl)
   try simp only [Act.put, List.setIfInBounds_toArray, List.set_cons_zero, List.set_cons_succ, List.getElem_toArray, List.getElem_cons_zero, List.getElem_cons_succ]
   refine wpAnyH_take (i := 8) (v := ?v9) rfl (by kernel_rfl) (by kernel_rfl) (by kernel_rfl) (fun _ _ _ h => h) (Or.inl ⟨by rfl, fun w hSw => ?y9⟩) hHeld ?r9
   case y9 => (try dsimp only at hSw); first | (go_simp; done) | (go_simp; with_reducible rfl)
   try simp only [Act.put, List.setIfInBounds_toArray, List.set_cons_zero, List.set_cons_succ, List.getElem_toArray, List.getElem_cons_zero, List.getElem_cons_succ]
   refine wpAnyH_take (i := 9) (v := ?v10) rfl (by kernel_rfl) (by kernel_rfl) (by kernel_rfl) (fun _ _ _ h => h) (Or.inl ⟨by rfl, fun w hSw => ?y10⟩) hHeld ?r10
   case y10 => (try dsimp only at hSw); first | (go_simp; done) | (go_simp; with_reducible rfl)
   try simp only [Act.put, List.setIfInBounds_toArray, List.set_cons_zero, List.set_cons_succ, List.getElem_toArray, List.getElem_cons_zero, List.getElem_cons_succ]
   refine wpAnyH_take (i := 10) (v := ?v11) rfl (by kernel_rfl) (by kernel_rfl) (by kernel_rfl) (fun _ _ _ h => h) (Or.inl ⟨by rfl, fun w hSw => ?y11⟩) hHeld ?r11
   case y11 => (try dsimp only at hSw); first | (go_simp; done) | (go_simp; with_reducible rfl)
   try simp only [Act.put, List.setIfInBounds_toArray, List.set_cons_zero, List.set_cons_succ, List.getElem_toArray, List.getElem_cons_zero, List.getElem_cons_succ]
   refine wpAnyH_take (i := 11) (v := ?v12) rfl (by kernel_rfl) (by kernel_rfl) (by kernel_rfl) (fun _ _ _ h => h) (Or.inl ⟨by rfl, fun w hSw => ?y12⟩) hHeld ?r12
   case y12 => (try dsimp only at hSw); first | (go_simp; done) | (go_simp; with_reducible rfl)
   try simp only [Act.put, List.setIfInBounds_toArray, List.set_cons_zero, List.set_cons_succ, List.getElem_toArray, List.getElem_cons_zero, List.getElem_cons_succ]
   refine wpAnyH_take (i := 12) (v := ?v13) rfl (by kernel_rfl) (by kernel_rfl) (by kernel_rfl) (fun _ _ _ h => h) (Or.inl ⟨by rfl, fun w hSw => ?y13⟩) hHeld ?r13
   case y13 => (try dsimp only at hSw); first | (go_simp; done) | (go_simp; with_reducible rfl)
   try simp only [Act.put, List.setIfInBounds_toArray, List.set_cons_zero, List.set_cons_succ, List.getElem_toArray, List.getElem_cons_zero, List.getElem_cons_succ]
   refine wpAnyH_take (i := 13) (v := ?v14) rfl (by kernel_rfl) (by kernel_rfl) (by kernel_rfl) (fun _ _ _ h => h) (Or.inl ⟨by rfl, fun w hSw => ?y14⟩) hHeld ?r14
   case y14 => (try dsimp only at hSw); first | (go_simp; done) | (go_simp; with_reducible rfl)
   try simp only [Act.put, List.setIfInBounds_toArray, List.set_cons_zero, List.set_cons_succ, List.getElem_toArray, List.getElem_cons_zero, List.getElem_cons_succ]
   refine wpAnyH_take (i := 14) (v := ?v15) rfl (by kernel_rfl) (by kernel_rfl) (by kernel_rfl) (fun _ _ _ h => h) (Or.inl ⟨by rfl, fun w hSw => ?y15⟩) hHeld ?r15
   case y15 => (try dsimp only at hSw); first | (go_simp; done) | (go_simp; with_reducible rfl)
   try simp only [Act.put, List.setIfInBounds_toArray, List.set_cons_zero, List.set_cons_succ, List.getElem_toArray, List.getElem_cons_zero, List.getElem_cons_succ]
   refine wpAnyH_ready (rs := [15]) (by kernel_rfl) (by simp) ?_
   refine AllReadyH.cons rfl (fun K hK => ?_) AllReadyH.nil
   go_simp
   refine (Y4l _ _ _ _ hlt hc5).mono ?_
   rintro e w' ⟨rfl, rfl⟩
   go_wp2_with fail
   refine hK.out _ _ hHeld (fun hHeld1 => ?_)
   clear hK K
   try simp only [Act.put, List.setIfInBounds_toArray, List.set_cons_zero, List.set_cons_succ, List.getElem_toArray, List.getElem_cons_zero, List.getElem_cons_succ]
   refine wpAnyH_take (i := 16) (v := ?v16) rfl (by kernel_rfl) (by kernel_rfl) (by kernel_rfl) (fun _ _ _ h => h) (Or.inl ⟨by rfl, fun w hSw => ?y16⟩) hHeld ?r16
   case y16 => (try dsimp only at hSw); first | (go_simp; done) | (go_simp; with_reducible rfl)
   try simp only [Act.put, List.setIfInBounds_toArray, List.set_cons_zero, List.set_cons_succ, List.getElem_toArray, List.getElem_cons_zero, List.getElem_cons_succ]
   refine wpAnyH_take (i := 17) (v := ?v17) rfl (by kernel_rfl) (by kernel_rfl) (by kernel_rfl) (fun _ _ _ h => h) (Or.inl ⟨by rfl, fun w hSw => ?y17⟩) hHeld ?r17
   case y17 => (try dsimp only at hSw); first | (go_simp; done) | (go_simp; with_reducible rfl)
   try simp only [Act.put, List.setIfInBounds_toArray, List.set_cons_zero, List.set_cons_succ, List.getElem_toArray, List.getElem_cons_zero, List.getElem_cons_succ]
   refine wpAnyH_ready (rs := [18]) (by kernel_rfl) (by simp) ?_
   refine AllReadyH.cons rfl (fun K hK => ?_) AllReadyH.nil
   go_simp
   first | rw [S0.out, S1.out, S2.out] | rw [S1.out, S2.out] | rw [S2.out]
   first | rw [HAV.out] | rw [IntKind.wrap_u8, HAV.out]
   refine HFS.out.mono ?_
   rintro e w2 ⟨rfl, v2, hW2, ho2, hd2⟩
   go_wp2_with fail
   refine hK.out _ _ ⟨hW2.c1, hW2.c2⟩ (fun hHeld2 => ?_)
   clear hK K
   try simp only [Act.put, List.setIfInBounds_toArray, List.set_cons_zero, List.set_cons_succ, List.getElem_toArray, List.getElem_cons_zero, List.getElem_cons_succ]
   refine wpAnyH_done (by kernel_rfl) ?_ _
   go_wp2_with fail
   go_roundw
   case rel => exact ⟨j + 1, by omega, by go_num, WrT.more (ho1.trans (Only.drawn _ ⟨1, rfl⟩)) hd1 ⟨v2, hW2, ho2, hd2⟩⟩
   case measure => simp [intOf]; omega
  ·have hjc : j = c := by omega
   subst hjc
   have hall := Yf5 low l (Y0f low m n) n (Y05 low m n)
   rw [← HC.out] at hall
   rw [hall] at hW1
   have hWS := hW1.setLen (l.length + n)
   have hO2 : Only (Mine g v1) wr (wr.setCell ⟨g, 1, none⟩ (.int .i64 ((l.length + n : Nat) : Int))) := Only.setCell (p := ⟨g, 1, none⟩) (.inl rfl) _
   have hfz := hW1.fz 1
   rw [show (((l.length + n : Nat)) : Int) = (l.length : Int) + (n : Int) by omega] at hWS hO2
   have HWS := Lib.hid hWS
   have HO2 := Lib.hid hO2
   clear hWS hO2 hall
   go_wp2_with fail
   go_end0
   have hlen : (l ++ Y0f low m n).length = l.length + n := by rw [List.length_append, Y05]
   refine ⟨rfl, ?_⟩
   rw [hlen]
   exact WrT.more ho1 hd1 ⟨v1, HWS.out, HO2.out, fun _ h => .inl h⟩
end Go.Proofs.YtkkfkmoikcmhoaaGreat.Bit
namespace Go.Proofs.YtkkfkmoikcmhoaaGreat.Bit
open Go.RowKit Oct
set_option maxRecDepth 20000
def Ws (w : World) (g : Nat) (v : Value) (l : List Bool) (low : Bool) : Prop := Wr w g v (Y0q low l) l.length low
def WsT (w : World) (g : Nat) (v : Value) (l : List Bool) (low : Bool) (w' : World) : Prop := WrT w g v (Y0q low l) l.length low w'
def NewW (w : World) (low : Bool) (e : Ending) (w' : World) : Prop :=
 Below w.heap.size w w' ∧ e = .returned (.pointer (some ⟨w.heap.size, 0, none⟩)) ∧ Ws w' w.heap.size (.slice none 0 0) [] low
theorem Y86 (low : Bool) (w : World) : Calls Tryz.prog 43 #[.bool low] w (NewW w low) := by
 go_enter Tryz.func43, Tryz.ntmps43
 go_wp2_with fail
 go_ret
 refine ⟨(Below.refl _ w).alloc (Nat.le_refl _) _, rfl, ?_, ?_, ?_⟩
 ·show (w.heap.push _)[w.heap.size]? = _
  simp
 ·rw [Yg6]
  exact World.ownsRow_nil _ _ _ _
 ·intro h; cases h
theorem Yew (w : World) (g : Nat) (v : Value) (l : List Bool) (low : Bool) (hW : Ws w g v l low) (hl : l.length ≤ 2000000) :
  Calls Tryz.prog 84 #[.pointer (some ⟨g, 0, none⟩)] w (Yjy w (Y0q low l)) := by
 have c0 := Wr.c0 hW
 obtain ⟨p, cap, hv, hr, hnil⟩ : ∃ p cap, v = .slice p (Y0q low l).length cap ∧ Row w p (Y0q low l) ∧ (p = none → cap = 0) := by
  rcases Wr.form hW with ⟨rfl, h0⟩ | ⟨r, cap, rfl, _, _, _, _, hr⟩
  ·exact ⟨none, 0, by rw [h0]; rfl, by rw [h0]; exact fun h => absurd h (by simp), fun _ => rfl⟩
  ·exact ⟨_, _, rfl, hr, fun h => by cases h⟩
 subst hv
 have hpl := Y0e low l
 have hcl := Y91 p (Y0q low l).length cap (Y0q low l) w hr rfl hnil (by omega)
 have HCL := Lib.hid hcl
 clear hcl hnil hr hW hpl
 go_enter Tryz.func84, Tryz.ntmps84
 go_wp2_with fail
 refine HCL.out.mono ?_
 rintro e w1 ⟨hb, q, cap1, rfl, r⟩
 have R := Lib.hid r
 clear r
 go_wp2_with fail
 go_ret
 exact ⟨hb, q, cap1, rfl, R.out⟩
def Ylp (l : List Bool) : List Bool := l ++ zs (8 * ((l.length + 7) / 8) - l.length)
theorem Ybc (l : List Bool) : (Ylp l).length = 8 * ((l.length + 7) / 8) := by unfold Ylp; rw [List.length_append, Y07]; omega
def WAlP (w : World) (g : Nat) (v : Value) (l : List Bool) (low : Bool) (e : Ending) (w' : World) : Prop := e = .returned (.tuple #[]) ∧ WsT w g v (Ylp l) low w'
theorem Yea (w : World) (g : Nat) (v : Value) (l : List Bool) (low : Bool) (hW : Ws w g v l low) (hl : l.length ≤ 2000000) :
  Calls Tryz.prog 71 #[.pointer (some ⟨g, 0, none⟩)] w (WAlP w g v l low) := by
 have c1 := Wr.c1 hW
 have hfz := Wr.fz hW 1
 have hS := Wr.setLen hW (8 * ((l.length + 7) / 8))
 have hO : Only (Mine g v) w (w.setCell ⟨g, 1, none⟩ (.int .i64 ((8 * ((l.length + 7) / 8) : Nat) : Int))) := Only.setCell (p := ⟨g, 1, none⟩) (.inl rfl) _
 rw [Int.natCast_mul] at hS hO
 have HS := Lib.hid hS
 have HO := Lib.hid hO
 clear hS hO hW
 go_enter Tryz.func71, Tryz.ntmps71
 go_wp2_with fail
 refine (Y25 _ _ (by omega)).mono ?_
 rintro e w' ⟨rfl, rfl⟩
 go_wp2_with fail
 go_end0
 refine ⟨rfl, v, ?_, HO.out, fun _ h => .inl h⟩
 rw [Ybc, show Y0q low (Ylp l) = Y0q low l from Yg7 low l]
 exact HS.out
def okW (m : Nat) (n : Int) : Bool := Y4m n && decide (m < 2 ^ n.toNat)
def wrE (m : Nat) (n : Int) : Int := if Y4m n then (if okW m n then 0 else 7) else 1
def wrL (low : Bool) (l : List Bool) (m : Nat) (n : Int) : List Bool := if okW m n then l ++ Y0f low m n.toNat else l
def WrtP (w : World) (g : Nat) (v : Value) (l : List Bool) (low : Bool) (m : Nat) (n : Int) (e : Ending) (w' : World) : Prop :=
 e = .returned (.int .i64 (wrE m n)) ∧ WsT w g v (wrL low l m n) low w'
theorem Yje (m k : Nat) : ((m : Int) / 2 ^ k != 0) = !decide (m < 2 ^ k) := by
 have e : ((m : Int) / 2 ^ k) = ((m / 2 ^ k : Nat) : Int) := by push_cast; rfl
 rw [e, Bool.eq_iff_iff]
 have hp : 0 < 2 ^ k := Nat.pow_pos (by omega)
 have hz := @Nat.div_eq_zero_iff m (2 ^ k)
 generalize m / 2 ^ k = d at hz ⊢
 generalize 2 ^ k = b at hz hp ⊢
 simp
 omega
theorem Yhk (w : World) (g : Nat) (v : Value) (l : List Bool) (low : Bool) (m : Nat) (n : Int) (hm : m < 4294967296) (hl : l.length ≤ 2000000) (hW : Ws w g v l low) :
  Calls Tryz.prog 101 #[.pointer (some ⟨g, 0, none⟩), .int .u32 (m : Int), .int .i64 n] w (WrtP w g v l low m n) := by
 have HW := Lib.hid hW
 clear hW
 by_cases hc : Y4m n = true
 ·have hb := of_decide_eq_true hc
  obtain ⟨k, rfl⟩ : ∃ k : Nat, n = (k : Int) := ⟨n.toNat, by omega⟩
  have hk : k ≤ 32 := by omega
  have hsz := Yje m k
  by_cases ho : m < 2 ^ k
  ·have how : okW m (k : Int) = true := by unfold okW; rw [hc]; simpa using ho
   have e1 : wrE m (k : Int) = 0 := by unfold wrE; rw [hc, how]; rfl
   have e2 : wrL low l m (k : Int) = l ++ Y0f low m k := by unfold wrL; rw [how]; rfl
   rw [show decide (m < 2 ^ k) = true from by simpa using ho, Bool.not_true] at hsz
   have HC := Lib.hid hc
   have E1 := Lib.hid e1
   have E2 := Lib.hid e2
   have HO := Lib.hid ho
   clear hc e1 e2 how ho
   go_enter Tryz.func101, Tryz.ntmps101
   go_wp2_with fail
   refine (Y2y _ _).mono ?_
   rintro e w' ⟨rfl, rfl⟩
   rw [HC.out]
   go_wp2_with fail
   refine (Yki _ _ _ _ _ _ _ HO.out hk hl HW.out).mono ?_
   rintro e w1 ⟨rfl, hT⟩
   have HT := Lib.hid hT
   clear hT
   go_wp2_with fail
   go_ret
   exact ⟨by rw [E1.out]; rfl, by rw [E2.out]; exact HT.out⟩
  ·have how : okW m (k : Int) = false := by unfold okW; rw [hc]; simp at ho; simpa using ho
   have e1 : wrE m (k : Int) = 7 := by unfold wrE; rw [hc, how]; rfl
   have e2 : wrL low l m (k : Int) = l := by unfold wrL; rw [how]; rfl
   rw [show decide (m < 2 ^ k) = false from by simp at ho; simpa using ho, Bool.not_false] at hsz
   have HC := Lib.hid hc
   have E1 := Lib.hid e1
   have E2 := Lib.hid e2
   clear hc e1 e2 how ho
   go_enter Tryz.func101, Tryz.ntmps101
   go_wp2_with fail
   refine (Y2y _ _).mono ?_
   rintro e w' ⟨rfl, rfl⟩
   rw [HC.out]
   go_wp2_with fail
   go_ret
   exact ⟨by rw [E1.out]; rfl, by rw [E2.out]; exact WrT.refl HW.out⟩
 ·have hc' : Y4m n = false := by simpa using hc
  have how : okW m n = false := by unfold okW; rw [hc']; rfl
  have e1 : wrE m n = 1 := by unfold wrE; rw [hc']; rfl
  have e2 : wrL low l m n = l := by unfold wrL; rw [how]; rfl
  have HC := Lib.hid hc'
  have E1 := Lib.hid e1
  have E2 := Lib.hid e2
  clear hc hc' e1 e2 how
  go_enter Tryz.func101, Tryz.ntmps101
  go_wp2_with fail
  refine (Y2y _ _).mono ?_
  rintro e w' ⟨rfl, rfl⟩
  rw [HC.out]
  go_wp2_with fail
  go_ret
  exact ⟨by rw [E1.out]; rfl, by rw [E2.out]; exact WrT.refl HW.out⟩
end Go.Proofs.YtkkfkmoikcmhoaaGreat.Bit
namespace Go.Proofs.YtkkfkmoikcmhoaaGreat.Inf
open Go.RowKit Go.Shelf Oct Bit Hf
set_option maxRecDepth 100000
theorem Yem (c : Nat) (hc : c ≤ 1000) : bits .and .u64 (c : Int) 4294967295 = (c : Int) := by
 rw [show (4294967295 : Int) = ((4294967295 : Nat) : Int) from rfl, u64_and_nat c 4294967295 (by omega) (by omega)]
 congr 1
 rw [show (4294967295 : Nat) = 2 ^ 32 - 1 from rfl, Nat.and_two_pow_sub_one_eq_mod]
 omega
theorem Ydn (c : Nat) (w : World) (hc : c ≤ 1000) :
  Calls Tryz.prog 153 #[.int .u64 1, .int .u64 (c : Int)] w fun e w' => e = .returned (.tuple #[.int .u64 0, .int .u64 (c : Int)]) ∧ w = w' := by
 have h1 : bits .and .u64 1 4294967295 = 1 := by decide
 have h0 : bits .and .u64 0 4294967295 = 0 := by decide
 have h2 := Yem c hc
 have h3 : (c : Int) / 4294967296 = 0 := by omega
 go_enter Tryz.func153, Tryz.ntmps153
 go_wp2
 go_ret2
 exact ⟨rfl, rfl⟩
theorem Yim (c : Nat) (w : World) (hc : c ≤ 1000) :
  Calls Tryz.prog 133 #[.int .u64 1, .int .u64 (c : Int)] w fun e w' => e = .returned (.tuple #[.int .u64 0, .int .u64 (c : Int)]) ∧ w = w' := by
 go_enter Tryz.func133, Tryz.ntmps133
 go_wp2_with fail
 refine (Ydn _ _ hc).mono ?_
 rintro e w' ⟨rfl, rfl⟩
 go_wp2_with fail
 go_ret2
 exact ⟨rfl, rfl⟩
theorem Y75 {P : Program} {ops : Array Oper} {o : Oper} {a : Act} {w : World} {K : Act → World → Prop} {Q : Exit → Act → World → Prop} {E : Prop}
  (hg : o.guard = none) (d x : Operand) (dT sT : TypeId) (hop : o.op = Op.call { callee := Callee.builtin Builtin.copy, args := #[d, x], argTypes := #[dT, sT] })
  (v u : Value) (hd : a.eval d = v) (hx : a.eval x = u) {v' : Value} {w' : World} (hr : (Builtin.copy_ #[dT, sT] o.type #[v, u]).run P w = .ok v' w') (hK : K (a.put o.dst v') w') :
  if Region.wanted o (yielded ops a.tmps) = true then Oper.wp P o a w K Q else E := by
 have hw : Region.wanted o (yielded ops a.tmps) = true := by simp [Region.wanted, hg]
 rw [if_pos hw]
 unfold Oper.wp execOp
 simp only [hop, resolve, invoke, builtin, Sem.run_bind, Sem.run_pure, Result.andThen_ok, List.map_toArray, List.map_cons, List.map_nil, hd, hx, hr]
 exact hK
theorem Y3g {P : Program} {w : World} {ops : Array Oper} {rest : List Oper} {o : Oper} {a : Act} {Q : Exit → Act → World → Prop}
  (hg : o.guard = none) (d x : Operand) (dT sT : TypeId) (hop : o.op = Op.call { callee := Callee.builtin Builtin.copy, args := #[d, x], argTypes := #[dT, sT] })
  (v u : Value) (hd : a.eval d = v) (hx : a.eval x = u) {v' : Value} {w' : World} (hr : (Builtin.copy_ #[dT, sT] o.type #[v, u]).run P w = .ok v' w') (hK : wpList P ops Q rest (a.put o.dst v') w') : wpList P ops Q (o :: rest) a w := by
 refine wpList_plain hg fun K hK' => ?_
 unfold Oper.wp execOp
 simp only [hop, resolve, invoke, builtin, Sem.run_bind, Sem.run_pure, Result.andThen_ok, List.map_toArray, List.map_cons, List.map_nil, hd, hx, hr]
 exact hK' _ _ hK
theorem Ydm (z : Value) (n : Nat) : (madeCells #[z] n).toList = List.replicate n z := by
 simp [madeCells]
 apply List.ext_getElem <;> simp [Nat.mod_one]
def Y7w (w : World) (n : Nat) (z : Int) (k : Nat) (wr : World) : Prop :=
 Below w.heap.size w wr ∧ w.heap.size < wr.heap.size ∧ ∀ j, j < n → wr.cell? ⟨w.heap.size, j, none⟩ = some (.int .i64 (if j < k then z else 0)) ∧ wr.frozen? ⟨w.heap.size, j, none⟩ = false
theorem Y7w.drew {w wr : World} {n : Nat} {z : Int} {k : Nat} (h : Y7w w n z k wr) : Y7w w n z k wr.drew := ⟨h.1.trans ((show Drawn wr wr.drew from ⟨1, rfl⟩).below _), h.2⟩
theorem Y4t (b : Nat) : ∀ (vs : List Value) (o : Nat) (w : World), (w.setCells b o vs).heap.size = w.heap.size
 | [], _, _ => rfl
 | v :: r, o, w => by rw [World.setCells, Y4t b r]; simp [World.setCell]
theorem Y7w.copy {w wr : World} {n : Nat} {z : Int} {k m : Nat} (h : Y7w w n z k wr) (hkm : k + m ≤ n) : Y7w w n z (k + m) (wr.setCells w.heap.size k (List.replicate m (.int .i64 z))) := by
 have hin := World.cell?_setCells_in w.heap.size (List.replicate m (Value.int .i64 z)) k wr (fun j hj => by rw [List.length_replicate] at hj; rw [(h.2.2 (k + j) (by omega)).1]; rfl)
 have hout := World.cell?_setCells_out w.heap.size (List.replicate m (Value.int .i64 z)) k wr
 refine ⟨h.1.trans (Lib.below_setCells_w (Nat.le_refl _) _ _ _), by rw [Y4t]; exact h.2.1, fun j hj => ⟨?_, ?_⟩⟩
 ·by_cases h1 : k ≤ j ∧ j < k + m
  ·obtain ⟨d, rfl⟩ : ∃ d, j = k + d := ⟨j - k, by omega⟩
   rw [hin d (by rw [List.length_replicate]; omega), if_pos h1.2]
   simp
  ·rw [hout ⟨w.heap.size, j, none⟩ (fun _ _ => by rw [List.length_replicate]; show j < _ ∨ _ ≤ j; omega), (h.2.2 j hj).1]
   by_cases h2 : j < k
   ·rw [if_pos h2, if_pos (by omega)]
   ·rw [if_neg h2, if_neg (by omega)]
 ·rw [World.frozen?_setCells]
  exact (h.2.2 j hj).2
theorem Y8m : (Tryz.prog.info? 3).map (·.size) = some 1 := by kernel_rfl
theorem Ycg (w wr : World) (n k l1 c1 l2 c2 m ty : Nat) (z : Int) (a : Addr) (h : Y7w w n z k wr) (hm : m = min l2 l1) (hkm : k + m ≤ n) (hs : ∀ j, j < m → wr.cell? (a.add j) = some (.int .i64 z)) :
  (Builtin.copy_ #[74, 74] ty #[.slice (some ⟨w.heap.size, k, none⟩) l1 c1, .slice (some a) l2 c2]).run Tryz.prog wr = .ok (.int .i64 (m : Int)) (wr.setCells w.heap.size k (List.replicate m (.int .i64 z))) := by
 have hr := run_copy_cells (P := Tryz.prog) wr 74 74 ty 3 w.heap.size k l1 c1 a l2 c2 (List.replicate m (Value.int .i64 z)) Tryz.underlying74 Y8m (by rw [List.length_replicate]; exact hm)
  (fun j u hj => by
   rw [List.getElem?_replicate] at hj
   split at hj
   ·injection hj with hj
    subst hj
    exact hs j (by assumption)
   ·cases hj)
  (fun j hj => by rw [List.length_replicate] at hj; rw [(h.2.2 (k + j) (by omega)).1]; rfl)
  (fun j hj => by rw [List.length_replicate] at hj; exact (h.2.2 (k + j) (by omega)).2)
  (fun u hu => by rw [List.eq_of_mem_replicate hu]; rfl)
 rw [List.length_replicate] at hr
 exact hr
def RepI (w : World) (n : Nat) (z : Int) (e : Ending) (w' : World) : Prop :=
 e = .returned (.slice (some ⟨w.heap.size, 0, none⟩) n n) ∧ Below w.heap.size w w' ∧ VRow w' w'.heap.size (some ⟨w.heap.size, 0, none⟩) (ints (List.replicate n z))
set_option maxHeartbeats 4000000 in
theorem Yj6 (p : Option Addr) (cap : Nat) (z : Int) (n : Nat) (w : World) (hr : VRow w w.heap.size p (ints [z])) (h1 : 1 ≤ n) (hn : n ≤ 1000) :
  Calls Tryz.prog 103 #[.slice p 1 cap, .int .i64 (n : Int)] w (RepI w n z) := by
 obtain ⟨i0, hi, hz0, hz1, hz2⟩ := info_parts Tryz.infoInt
 obtain ⟨b, off, rfl, hb⟩ := hr.addr (by simp [ints])
 have c0 := hr.int 0 (by simp)
 have HC0 := Lib.hid c0
 have HBL := Lib.hid hb
 clear c0 hr hb
 have i1 : (0 : Int) ≤ (n : Int) := by omega
 have hw : IntKind.u64.wrap (n : Int) = (n : Int) := by rw [IntKind.wrap_u64]; omega
 go_enter Tryz.func103, Tryz.ntmps103
 go_wp2_with fail
 refine (Yim n _ hn).mono ?_
 rintro e w' ⟨rfl, rfl⟩
 have q2 : decide ((n : Int) > 9223372036854775807) = false := by simp; omega
 go_wp2_with (at_make; refine wpList_make_full _ rfl _ _ 74 rfl w.heap.size 3 i0 (.int .i64 0) 1 Tryz.underlying74 hi hz0 hz1 .i64 .i64 (n : Int) (n : Int) n rfl rfl rfl rfl ?c2 ?c3 ?c4 ?_)
 case c2 => rw [hz2]; omega
 case c3 => unfold maxLen; omega
 case c4 => omega
 intro w1 hown hgrow
 have hb1 : Below w.heap.size w w1 := (Below.refl _ _).grown hgrow (Nat.le_refl _) (fun k hk => by cases hk)
 have hblk := Y1k hown
 have hlt : w.heap.size < w1.heap.size := by
  rcases Nat.lt_or_ge w.heap.size w1.heap.size with h | h
  ·exact h
  ·rw [Array.getElem?_eq_none h] at hblk; cases hblk
 have hst0 : Y7w w n z 0 w1 := ⟨hb1, hlt, fun j hj => ⟨by
  have h0 : (madeCells #[Value.int .i64 0] n).toList[j]? = some (.int .i64 0) := by
   rw [Ydm, List.getElem?_replicate, if_pos hj]
  have := hown.cells (g := w.heap.size) rfl j _ h0
  rw [Y0i, Nat.zero_add] at this
  rw [if_neg (by omega)]
  exact this, by simp [World.frozen?, hblk]⟩⟩
 have hc1 := (hb1.cell (p := ⟨b, off + 0, none⟩) HBL.out).trans HC0.out
 have hr1 := Ycg w w1 n 0 n n 1 cap 1 3 z ⟨b, off, none⟩ hst0 (by omega) (by omega) (fun j hj => by
  have : j = 0 := by omega
  subst this
  rw [Y0i]
  exact hc1)
 have hst1 := hst0.copy (m := 1) (by omega)
 have HST := Lib.hid hst1
 clear hown hgrow hb1 hblk hlt hst0 hc1 hst1
 go_wp2_with (at_builtin; refine Y3g rfl _ _ 74 74 rfl _ _ rfl rfl hr1 ?_)
 go_wp2_with fail
 clear hr1
 go_loopw [8] (fun v wr => ∃ k : Nat, 1 ≤ k ∧ k ≤ n ∧ v = .int .i64 (k : Int) ∧ Hid (Y7w w n z k wr)) (fun v _ => n - (intOf v).toNat)
 case atStart => exact ⟨1, by omega, by omega, rfl, HST⟩
 case round =>
  obtain ⟨k, hk1, hkn, rfl, HB⟩ := hrel
  by_cases hlt : k < n
  ·have ql : decide ((k : Int) < (n : Int)) = true := by simpa using hlt
   obtain ⟨m, hm⟩ : ∃ m, m = min k (n - k) := ⟨_, rfl⟩
   have hm1 : 1 ≤ m := by omega
   have hm2 : k + m ≤ n := by omega
   have hr2 := Ycg w wr.drew n k (n - k) (n - k) k n m 3 z ⟨w.heap.size, 0, none⟩ HB.out.drew hm hm2 (fun j hj => by
    rw [Y0i, Nat.zero_add, (HB.out.drew.2.2 j (by omega)).1, if_pos (by omega)])
   have HB2 := Lib.hid (HB.out.drew.copy (m := m) hm2)
   have hck : ¬ n = k := by omega
   have hwp : IntKind.i64.wrap ((k : Int) + (m : Int)) = (k : Int) + (m : Int) := IntWalk.i64_in _ (by omega)
   clear HB hm HST
   go_wp2_with fail
   go_region_law (refine Y75 rfl _ _ 74 74 rfl (.slice (some ⟨w.heap.size, k, none⟩) (n - k) (n - k)) (.slice (some ⟨w.heap.size, 0, none⟩) k n) (by simp [Act.eval, Act.put]) (by simp [Act.eval, Act.put]) hr2 ?_)
   simp only [Act.put, List.setIfInBounds_toArray, List.set_cons_zero, List.set_cons_succ, List.getElem_toArray, List.getElem_cons_zero, List.getElem_cons_succ]
   go_wp2_with fail
   go_roundw
   case rel => exact ⟨k + m, by omega, hm2, by go_num, HB2⟩
   case measure => simp [intOf]; omega
  ·have : k = n := by omega
   subst this
   have ql : decide ((k : Int) < (k : Int)) = false := by simp
   go_wp2_with fail
   go_ret
   refine ⟨rfl, HB.out.1, fun _ => ⟨w.heap.size, 0, rfl, HB.out.2.1, fun i hi => ?_⟩⟩
   have hi' : i < k := by simpa [ints] using hi
   rw [Nat.zero_add, (HB.out.2.2 i hi').1, if_pos hi']
   simp [ints]
end Go.Proofs.YtkkfkmoikcmhoaaGreat.Inf

/- IfA, IgA, DfB: merged. -/
import Derived.Deep.DeepCutAuto
import Derived.Test.YtkkfkmoikcmhoaaGreatQag
import Derived.Test.YtkkfkmoikcmhoaaGreatQai
import Derived.Test.YtkkfkmoikcmhoaaGreatQaj
import Derived.Test.YtkkfkmoikcmhoaaGreatQak
set_option linter.unusedVariables false
set_option linter.unusedSimpArgs false
namespace Go.Proofs.YtkkfkmoikcmhoaaGreat.Inf
open Go.RowKit Oct Bit Hf
set_option maxRecDepth 100000
theorem Yfk {W : List (List Bool)} {q : List Bool} {i : Nat} (h : W[i]? = some q) (hn : ∀ j, j < i → W[j]? ≠ some q) : W.idxOf q = i := by
 have hm : q ∈ W := List.mem_of_getElem? h
 have hl := List.idxOf_lt_length_of_mem hm
 have hg : W[W.idxOf q]? = some q := by rw [List.getElem?_eq_getElem hl, List.getElem_idxOf]
 rcases Nat.lt_trichotomy (W.idxOf q) i with h1 | h1 | h1
 ·exact absurd hg (hn _ h1)
 ·exact h1
 ·refine absurd h1 (Nat.not_lt.2 ?_)
  obtain ⟨hi, he⟩ := List.getElem?_eq_some_iff.1 h
  exact Nat.le_of_not_lt fun hc => by
   have := List.not_of_lt_findIdx (p := (· == q)) (xs := W) (i := i) hc
   simp [he] at this
theorem Yk8 {xs : List UInt8} {a n : Nat} (h : a + n ≤ 8 * xs.length) (hn : n ≤ 32) : Y16 (Y00 true xs) a n = .ok (nextV true xs a n, a + n) := by
 unfold Y16 nextV Y4q
 rw [Y02, if_pos h, List.take_append_of_le_length (by rw [List.length_drop, Y02]; omega)]
theorem Yfx {xs : List UInt8} {a n : Nat} (h : ¬ a + n ≤ 8 * xs.length) : Y16 (Y00 true xs) a n = .error 2 := by
 unfold Y16
 rw [Y02, if_neg h]
def ReadN (w : World) (gr : Nat) (p : Option Addr) (cap : Nat) (xs : List UInt8) (a n : Nat) (e : Ending) (w' : World) : Prop :=
 ((∃ v, Y16 (Y00 true xs) a n = .ok (v, a + n) ∧ v < 2 ^ n ∧ e = .returned (.tuple #[.int .u32 (v : Int), .int .i64 0]) ∧ Rd w' gr p cap xs (a + n) true) ∨
   (Y16 (Y00 true xs) a n = .error 2 ∧ e = .returned (.tuple #[.int .u32 0, .int .i64 2]) ∧ Rd w' gr p cap xs a true)) ∧ Only (· = gr) w w' ∧ w'.heap.size = w.heap.size
theorem Yce (g : Nat) (p : Option Addr) (cap : Nat) (xs : List UInt8) (a n : Nat) (hn : n ≤ 32) (w : World) (hR : Rd w g p cap xs a true) :
  Calls Tryz.prog 55 #[.pointer (some ⟨g, 0, none⟩), .int .i64 (n : Int)] w (ReadN w g p cap xs a n) := by
 refine (Ycd g p cap xs a true w n hR).mono ?_
 rintro e w' ⟨rfl, hr, ho, hz⟩
 refine ⟨?_, ho, hz⟩
 have hc : Y4m (n : Int) = true := by unfold Y4m; simp; omega
 by_cases h : a + n ≤ 8 * xs.length
 ·have hk : okR (n : Int) (8 * xs.length) a = true := by unfold okR; rw [hc]; simp; omega
  left
  refine ⟨nextV true xs a n, Yk8 h hn, Yc1 true xs a n hn, ?_, ?_⟩
  ·unfold Y52 Y2m
   rw [hk]
   rfl
  ·unfold Y2l at hr
   rw [hk] at hr
   simpa using hr
 ·have hk : okR (n : Int) (8 * xs.length) a = false := by unfold okR; rw [hc]; simp; omega
  right
  refine ⟨Yfx h, ?_, ?_⟩
  ·unfold Y52 Y2m
   rw [hk, hc]
   rfl
  ·unfold Y2l at hr
   rw [hk] at hr
   simpa using hr
end Go.Proofs.YtkkfkmoikcmhoaaGreat.Inf
namespace Go.Proofs.YtkkfkmoikcmhoaaGreat.Inf
open Go.RowKit Oct Bit Hf
set_option maxRecDepth 100000
def Kept (B C : Nat) (P : World → Prop) (w : World) : Prop := C ≤ w.heap.size ∧ ∀ w' : World, C ≤ w'.heap.size → (∀ k, B ≤ k → k < C → w'.heap[k]? = w.heap[k]?) → P w'
theorem Kept.now {B C : Nat} {P : World → Prop} {w : World} (h : Kept B C P w) : P w := h.2 w h.1 fun _ _ _ => rfl
theorem Kept.same {B C : Nat} {P : World → Prop} {w w' : World} (h : Kept B C P w) (hz : w.heap.size ≤ w'.heap.size) (hs : ∀ k, B ≤ k → k < C → w'.heap[k]? = w.heap[k]?) : Kept B C P w' :=
 ⟨Nat.le_trans h.1 hz, fun w2 h2 hk => h.2 w2 h2 fun k a b => (hk k a b).trans (hs k a b)⟩
theorem Kept.only {B C : Nat} {P : World → Prop} {S : Nat → Prop} {w w' : World} (h : Kept B C P w) (ho : Only S w w') (hS : ∀ k, B ≤ k → k < C → ¬ S k) : Kept B C P w' :=
 h.same ho.2.2.2.1 fun k a b => ho.2.2.2.2 k (by have := h.1; omega) (hS k a b)
theorem Y3t {S : Nat → Prop} {w w' : World} {e n : Nat} {v : Value} {cs : List Value} (h : w.ownsRow 0 e 1 v n cs) (ho : Only S w w') (hv : ∀ k, v.ownBlock = some k → ¬ S k) : w'.ownsRow 0 e 1 v n cs := by
 refine ⟨h.1, ?_⟩
 rcases h.2 with hn | ⟨g, cap, cur, rfl, hb, hh, r⟩
 ·exact .inl hn
 ·refine .inr ⟨g, cap, cur, rfl, hb, ?_, r⟩
  have hlt : g < w.heap.size := by
   rcases Nat.lt_or_ge g w.heap.size with hlt | hge
   ·exact hlt
   ·rw [Array.getElem?_eq_none hge] at hh; cases hh
  rw [ho.2.2.2.2 g hlt (hv g rfl)]
  exact hh
theorem Y31 {w w' : World} {row : Option Nat} (hg : w.grownBy w' row) : Only (fun k => row = some k) w w' :=
 ⟨hg.os, hg.tape, hg.output, hg.size, fun k hk hs => hg.block k hk (fun e => hs e.symm)⟩
def places (n : Nat) : List Value := ints ((List.range n).map fun i : Nat => (i : Int))
def Bo (w : World) (B C g : Nat) (W : List (List Bool)) : Prop := BoU w B C g (Y0w W) (places W.length)
theorem Bo.same {B C g : Nat} {W : List (List Bool)} {S : Nat → Prop} {w w' : World} (h : Bo w B C g W) (ho : Only S w w') (hS : ∀ k, B ≤ k → k < C → ¬ S k) : Bo w' B C g W :=
 BoU.same h ho.2.2.2.1 fun k a b => ho.2.2.2.2 k (by have := h.1.1; omega) (hS k a b)
structure Kon where
 d : Nat
 gr : Nat
 p : Option Addr
 cap : Nat
 xs : List UInt8
 most : Nat
 bl : Nat
 cl : Nat
 bd : Nat
 cd : Nat
structure Fix where
 B : Nat
 C : Nat
 ga : Nat
 gb : Nat
def Clr (K : Kon) (v : Value) (B C : Nat) : Prop := K.d < B ∧ ∀ k, v.ownBlock = some k → ¬ (B ≤ k ∧ k < C)
def fixL (F : Option Fix) : Value := .pointer (F.map fun f => ⟨f.ga, 0, none⟩)
def fixR (F : Option Fix) : Value := .pointer (F.map fun f => ⟨f.gb, 0, none⟩)
def FixS (w : World) (K : Kon) (v : Value) : Option Fix → Prop
 | none => True
 | some f => Clr K v f.B f.C ∧ Bo w f.B f.C f.ga (Y06 Y0r) ∧ Bo w f.B f.C f.gb (Y06 Y0n)
def Yhl (w : World) (b : Nat) (far : Bool) : Prop := ∀ i, i < (froms far).length →
 w.cell? ⟨b, i * 2, none⟩ = some (.int .i64 (((froms far).getD i 0 : Nat) : Int)) ∧ w.cell? ⟨b, i * 2 + 1, none⟩ = some (.int .i64 (((extras far).getD i 0 : Nat) : Int))
def Tabs (K : Kon) (w : World) : Prop := Yhl w K.bl false ∧ Yhl w K.bd true
structure De (w : World) (K : Kon) (a : Nat) (v : Value) (out : List UInt8) (F : Option Fix) : Prop where
 blk : w.heap[K.d]? = some (.cells #[.pointer (some ⟨K.gr, 0, none⟩), v, .int .i64 (K.most : Int), .slice (some ⟨K.bl, 0, none⟩) 29 K.cl, .slice (some ⟨K.bd, 0, none⟩) 30 K.cd, fixL F, fixR F] 59 (0, 0))
 rd : Rd w K.gr K.p K.cap K.xs a true
 own : w.ownsRow 0 5 1 v out.length (cellsOf out)
 tbl : Kept (K.gr + 1) K.d (Tabs K) w
 lo : K.gr < K.d
 hv : ∀ k, v.ownBlock = some k → K.d < k
 om : out.length ≤ K.most
 sz : K.most ≤ 200000
 fx : FixS w K v F
 cl : 29 ≤ K.cl ∧ 30 ≤ K.cd
section
variable {w w' : World} {K : Kon} {a : Nat} {v : Value} {out : List UInt8} {F : Option Fix}
theorem De.c0 (h : De w K a v out F) : w.cell? ⟨K.d, 0, none⟩ = some (.pointer (some ⟨K.gr, 0, none⟩)) := by simp [World.cell?, h.blk]
theorem De.c1 (h : De w K a v out F) : w.cell? ⟨K.d, 1, none⟩ = some v := by simp [World.cell?, h.blk]
theorem De.c2 (h : De w K a v out F) : w.cell? ⟨K.d, 2, none⟩ = some (.int .i64 (K.most : Int)) := by simp [World.cell?, h.blk]
theorem De.c3 (h : De w K a v out F) : w.cell? ⟨K.d, 3, none⟩ = some (.slice (some ⟨K.bl, 0, none⟩) 29 K.cl) := by simp [World.cell?, h.blk]
theorem De.c4 (h : De w K a v out F) : w.cell? ⟨K.d, 4, none⟩ = some (.slice (some ⟨K.bd, 0, none⟩) 30 K.cd) := by simp [World.cell?, h.blk]
theorem De.c5 (h : De w K a v out F) : w.cell? ⟨K.d, 5, none⟩ = some (fixL F) := by simp [World.cell?, h.blk]
theorem De.c6 (h : De w K a v out F) : w.cell? ⟨K.d, 6, none⟩ = some (fixR F) := by simp [World.cell?, h.blk]
theorem De.fz (h : De w K a v out F) (i : Nat) : w.frozen? ⟨K.d, i, none⟩ = false := by simp [World.frozen?, h.blk]
theorem De.lt (h : De w K a v out F) : K.d < w.heap.size := by
 rcases Nat.lt_or_ge K.d w.heap.size with hlt | hge
 ·exact hlt
 ·have := h.blk; rw [Array.getElem?_eq_none hge] at this; cases this
theorem Y6h {S : Nat → Prop} {g : Nat} {p : Option Addr} {cap : Nat} {xs : List UInt8} {at_ : Nat} {low : Bool} (h : Rd w g p cap xs at_ low) (ho : Only S w w') (hg : ∀ k, k ≤ g → ¬ S k) : Rd w' g p cap xs at_ low := by
 have hlt := h.lt
 refine ⟨(ho.2.2.2.2 g hlt (hg g (Nat.le_refl _))).trans h.1, fun h0 => ?_, h.2.2⟩
 obtain ⟨b, off, e, hb, hc⟩ := h.2.1 h0
 refine ⟨b, off, e, hb, fun i hi => ?_⟩
 rw [← hc i hi]
 exact World.cell?_of_block (w := w) (ho.2.2.2.2 b (by omega) (hg b (by omega)))
theorem FixS.only {S : Nat → Prop} (h : FixS w K v F) (ho : Only S w w') (hS : ∀ f, F = some f → ∀ k, f.B ≤ k → k < f.C → ¬ S k) : FixS w' K v F := by
 rcases F with _ | f
 ·trivial
 ·exact ⟨h.1, h.2.1.same ho (hS f rfl), h.2.2.same ho (hS f rfl)⟩
theorem De.keep (h : De w K a v out F) (ho : Only (fun _ => False) w w') : De w' K a v out F :=
 ⟨(ho.2.2.2.2 K.d h.lt (fun e => e)).trans h.blk, Y6h h.rd ho (fun _ _ e => e), Y3t h.own ho (fun _ _ e => e), h.tbl.only ho (fun _ _ _ e => e), h.lo, h.hv, h.om, h.sz, h.fx.only ho (fun _ _ _ _ _ e => e), h.cl⟩
theorem De.drawn (h : De w K a v out F) (hd : Drawn w w') : De w' K a v out F := h.keep (Only.drawn _ hd)
theorem De.moved {b : Nat} (h : De w K a v out F) (ho : Only (· = K.gr) w w') (hr : Rd w' K.gr K.p K.cap K.xs b true) : De w' K b v out F := by
 have h1 := h.lo
 refine ⟨(ho.2.2.2.2 K.d h.lt (fun e => by omega)).trans h.blk, hr, Y3t h.own ho (fun k hk e => by have := h.hv k hk; omega), h.tbl.only ho (fun k h2 _ e => by omega), h.lo, h.hv, h.om, h.sz, h.fx.only ho ?_, h.cl⟩
 intro f hf k h2 _ e
 subst hf
 have := h.fx.1.1
 omega
theorem De.form (h : De w K a v out F) : ∃ p cap, v = .slice p out.length cap ∧ out.length ≤ cap ∧ cap ≤ maxLen ∧ (p = none → cap = 0) ∧ Row w p out := by
 obtain ⟨q, c, h1, h2, h3, h4, h5⟩ := Y1t h.own rfl
 exact ⟨q, c, h1, h3, h4, h2, h5⟩
theorem De.plain {v' : Value} {out' : List UInt8} (h : De w K a v out F) (ho : Only (fun k => v.ownBlock = some k) w w') (hown : w'.ownsRow 0 5 1 v' out'.length (cellsOf out')) (hv : ∀ k, v'.ownBlock = some k → v.ownBlock = some k ∨ w.heap.size ≤ k) (hm : out'.length ≤ K.most) :
  De (w'.setCell ⟨K.d, 1, none⟩ v') K a v' out' F := by
 have hlo := h.lo
 have hhv := h.hv
 have hlt := h.lt
 have hd : ∀ k, v'.ownBlock = some k → K.d < k := fun k e => by
  rcases hv k e with h1 | h1
  ·exact hhv k h1
  ·omega
 have hb := (ho.2.2.2.2 K.d hlt (fun e => by have := hhv _ e; omega)).trans h.blk
 have ho2 : Only (· = K.d) w' (w'.setCell ⟨K.d, 1, none⟩ v') := Only.setCell (S := (· = K.d)) (p := ⟨K.d, 1, none⟩) (by rfl) _
 refine ⟨?_, Y6h (Y6h h.rd ho (fun k hk e => by have := hhv _ e; omega)) ho2 (fun k hk e => by omega), Y3t hown ho2 (fun k hk e => by have := hd k hk; omega), (h.tbl.only ho (fun k _ h2 e => by have := hhv _ e; omega)).only ho2 (fun k _ h2 e => by omega), hlo, hd, hm, h.sz, ?_, h.cl⟩
 ·simp [World.setCell, Array.getElem?_modify, hb]
 ·have hfx := h.fx
  rcases F with _ | f
  ·trivial
  ·obtain ⟨⟨h1, h2⟩, h3, h4⟩ := hfx
   have h5 : ∀ k, f.B ≤ k → k < f.C → ¬ v.ownBlock = some k := fun k a b e => h2 k e ⟨a, b⟩
   have h6 : ∀ k, f.B ≤ k → k < f.C → ¬ k = K.d := fun k a b e => by omega
   refine ⟨⟨h1, fun k hk hh => ?_⟩, (h3.same ho h5).same ho2 h6, (h4.same ho h5).same ho2 h6⟩
   rcases hv k hk with e | e
   ·exact h2 k e hh
   ·have := h3.1.1; omega
end
def Y0u (K : Kon) (v : Value) (k : Nat) : Prop := k = K.d ∨ k = K.gr ∨ v.ownBlock = some k
def DeT (w : World) (K : Kon) (v : Value) (a : Nat) (out : List UInt8) (F : Option Fix) (w' : World) : Prop :=
 ∃ v', De w' K a v' out F ∧ Only (Y0u K v) w w' ∧ ∀ k, v'.ownBlock = some k → v.ownBlock = some k ∨ w.heap.size ≤ k
theorem Y2k {K : Kon} {w w1 w2 : World} {v v1 : Value} (ho : Only (Y0u K v) w w1) (hd : ∀ k, v1.ownBlock = some k → v.ownBlock = some k ∨ w.heap.size ≤ k) (ho2 : Only (Y0u K v1) w1 w2) : Only (Y0u K v) w w2 := by
 have hz := ho.2.2.2.1
 refine ⟨ho2.1.trans ho.1, ho2.2.1.trans ho.2.1, ho2.2.2.1.trans ho.2.2.1, Nat.le_trans hz ho2.2.2.2.1, fun k hk hn => ?_⟩
 refine (ho2.2.2.2.2 k (by omega) (fun hm => hn ?_)).trans (ho.2.2.2.2 k hk hn)
 rcases hm with h | h | h
 ·exact .inl h
 ·exact .inr (.inl h)
 ·rcases hd k h with h | h
  ·exact .inr (.inr h)
  ·omega
theorem DeT.more {K : Kon} {w w1 w2 : World} {v v1 : Value} {a : Nat} {out : List UInt8} {F : Option Fix} (ho : Only (Y0u K v) w w1) (hd : ∀ k, v1.ownBlock = some k → v.ownBlock = some k ∨ w.heap.size ≤ k)
  (h : DeT w1 K v1 a out F w2) : DeT w K v a out F w2 := by
 obtain ⟨v2, hW, ho2, hd2⟩ := h
 have hz := ho.2.2.2.1
 refine ⟨v2, hW, Y2k ho hd ho2, fun k hk => ?_⟩
 rcases hd2 k hk with h | h
 ·exact hd k h
 ·exact .inr (by omega)
theorem Bo.only {K : Kon} {w w' : World} {v : Value} {B C g : Nat} {W : List (List Bool)} (h : Bo w B C g W) (hc : Clr K v B C) (hlo : K.gr < K.d) (ho : Only (Y0u K v) w w') : Bo w' B C g W :=
 h.same ho fun k h1 h2 e => by
  rcases e with e | e | e
  ·have := hc.1; omega
  ·have := hc.1; omega
  ·exact hc.2 k e ⟨h1, h2⟩
theorem Clr.on {K : Kon} {w w' : World} {v v' : Value} {B C g : Nat} {W : List (List Bool)} (h : Clr K v B C) (hb : Bo w B C g W) (hd : ∀ k, v'.ownBlock = some k → v.ownBlock = some k ∨ w.heap.size ≤ k) : Clr K v' B C :=
 ⟨h.1, fun k hk hh => by
  rcases hd k hk with e | e
  ·exact h.2 k e hh
  ·have := hb.1.1; omega⟩
theorem De.one {w wd : World} {K : Kon} {a : Nat} {v : Value} {out : List UInt8} {F : Option Fix} (h : De w K a v out F) (x : UInt8) (hm : out.length + 1 ≤ K.most) (ho : Only (fun _ => False) w wd) :
  ∀ g1 cap1 w1, w1.ownsRow 0 5 1 (.slice (some ⟨g1, 0, none⟩) (out.length + 1) cap1) (out.length + 1) (cellsOf out ++ cellsOf [x]) → wd.grownBy w1 v.ownBlock → (v.ownBlock = some g1 ∨ g1 = wd.heap.size) →
   (w1.frozen? ⟨K.d, 1, none⟩ = false ∧ w1.cell? ⟨K.d, 1, none⟩ = some v) ∧ DeT w K v a (out ++ [x]) F (w1.setCell ⟨K.d, 1, none⟩ (.slice (some ⟨g1, 0, none⟩) (out.length + 1) cap1)) := by
 intro g1 cap1 w1 hown hgrow hat
 have hD := h.keep ho
 have hne : some K.d ≠ v.ownBlock := fun e => Nat.lt_irrefl _ (hD.hv K.d e.symm)
 have hon : Only (fun k => v.ownBlock = some k) wd w1 := Y31 hgrow
 have hv1 : ∀ k, (Value.slice (some ⟨g1, 0, none⟩) (out.length + 1) cap1).ownBlock = some k → v.ownBlock = some k ∨ wd.heap.size ≤ k := by
  intro k hk
  injection hk with hk
  subst hk
  exact hat.imp id (fun e => Nat.le_of_eq e.symm)
 refine ⟨⟨(hgrow.frozen_far ⟨K.d, 1, none⟩ hD.lt hne).trans (hD.fz 1), (hgrow.cell_far ⟨K.d, 1, none⟩ hD.lt hne).trans hD.c1⟩, ?_⟩
 have hown2 : w1.ownsRow 0 5 1 (.slice (some ⟨g1, 0, none⟩) (out.length + 1) cap1) (out ++ [x]).length (cellsOf (out ++ [x])) := by
  rw [Y1d, List.length_append]
  exact hown
 exact DeT.more (ho.mono fun _ _ e => e.elim) (fun k hk => .inl hk)
  ⟨_, hD.plain hon hown2 hv1 (by simpa using hm), (hon.mono (fun k _ h => .inr (.inr h))).trans (Only.setCell (p := ⟨K.d, 1, none⟩) (.inl rfl) _), hv1⟩
theorem news8 (w : World) (x : UInt8) : ∀ j u, (cellsOf [x])[j]? = some u → (w.alloc (.cells #[.int .u8 (x.toNat : Int)] 5)).cell? ((⟨w.heap.size, 0, none⟩ : Addr).add j) = some u := by
 intro j u hj
 obtain ⟨hj', rfl⟩ := Y4a hj
 have : j = 0 := by simpa using hj'
 subst this
 rw [Y0i]
 simp
def Yk0 (w : World) (K : Kon) (a : Nat) (v : Value) (out t : List UInt8) (F : Option Fix) (e : Ending) (w' : World) : Prop :=
 if K.most < out.length + t.length then e = .returned (.int .i64 8) ∧ Only (Y0u K v) w w' else e = .returned (.int .i64 0) ∧ DeT w K v a (out ++ t) F w'
set_option maxHeartbeats 1000000 in
theorem Y64 (w : World) (K : Kon) (a : Nat) (v : Value) (out : List UInt8) (F : Option Fix) (x : UInt8) (h : De w K a v out F) :
  Calls Tryz.prog 90 #[.pointer (some ⟨K.d, 0, none⟩), .int .u8 (x.toNat : Int)] w (Yk0 w K a v out [x] F) := by
 obtain ⟨i0, hi, hz0, hz1, hz2⟩ := info_parts Tryz.infoByte
 obtain ⟨p, cap, hv, hc1, hc2, hnil, hrow⟩ := h.form
 have k1 := h.c1
 have k2 := h.c2
 rw [hv] at k1
 have hom := h.om
 have hsz := h.sz
 by_cases hfull : K.most ≤ out.length
 ·have hres : ∀ e w', (e = .returned (.int .i64 8) ∧ Drawn w w') → Yk0 w K a v out [x] F e w' := by
   intro e w' hh
   unfold Yk0
   rw [if_pos (by simp; omega)]
   exact ⟨hh.1, Only.drawn _ hh.2⟩
  have HR := Lib.hid hres
  have hd0 : decide ((out.length : Int) ≥ (K.most : Int)) = true := by simp; omega
  clear hres h hrow hnil
  go_enter Tryz.func90, Tryz.ntmps90
  go_wp2_with fail
  go_quiet (fail)
  go_wp2_with fail
  go_ret
  exact HR.out _ _ ⟨rfl, ⟨_, rfl⟩⟩
 ·have hd0 : decide ((out.length : Int) ≥ (K.most : Int)) = false := by simp; omega
  have H := Lib.hid h
  have HV := Lib.hid hv
  clear h hrow
  go_enter Tryz.func90, Tryz.ntmps90
  go_wp2_with fail
  go_quiet (fail)
  have hab : Only (fun _ => False) w ((w.drewN nq).alloc (.cells #[.int .u8 (x.toNat : Int)] 5)) :=
   (Only.drawn (fun _ => False) (w := w) (w' := w.drewN nq) ⟨nq, rfl⟩).trans (Only.of_below ((Below.refl _ (w.drewN nq)).alloc (Nat.le_refl _) _))
  have HA := Lib.hid (H.out.keep hab)
  have HNW := Lib.hid (news8 (w.drewN nq) x)
  have HON := Lib.hid (H.out.one x (by omega) hab)
  unfold maxLen at hc2
  clear hab
  go_wp2_with (at_builtin; refine wpList_append_lies _ rfl _ _ 22 rfl 0 5 i0 (.int .u8 0) 1 1 Tryz.underlying22 hi hz0 hz1 hz2 rfl (by decide) v out.length (cellsOf out) (by rw [HV.out]; rfl) HA.out.own ⟨w.heap.size, 0, none⟩ 1 1 (cellsOf [x]) rfl rfl HNW.out Y20 (by decide) (by unfold maxLen; omega) (by omega) (Nat.zero_le _) _ rfl ?_)
  intro g1 cap1 w1 hown1 hgrow1 hat1 _
  obtain ⟨⟨f1, k3⟩, hT⟩ := HON.out g1 cap1 w1 hown1 (by rw [HV.out]; exact hgrow1) (by rw [HV.out]; simpa using hat1)
  have HT := Lib.hid hT
  clear hown1 hgrow1 hat1 hT
  go_wp2_with fail
  go_ret
  unfold Yk0
  rw [if_neg (by simp; omega)]
  exact ⟨rfl, HT.out⟩
end Go.Proofs.YtkkfkmoikcmhoaaGreat.Inf
namespace Go.Proofs.YtkkfkmoikcmhoaaGreat.Df
open Go.RowKit Oct Bit Hf Inf
set_option maxRecDepth 100000
def Foot (F : Nat → Prop) (P : World → Prop) (w : World) : Prop := (∀ k, F k → k < w.heap.size) ∧ ∀ w' : World, w.heap.size ≤ w'.heap.size → (∀ k, F k → w'.heap[k]? = w.heap[k]?) → P w'
theorem Foot.now {F : Nat → Prop} {P : World → Prop} {w : World} (h : Foot F P w) : P w := h.2 w (Nat.le_refl _) fun _ _ => rfl
theorem Foot.only {F S : Nat → Prop} {P : World → Prop} {w w' : World} (h : Foot F P w) (ho : Only S w w') (hS : ∀ k, F k → ¬ S k) : Foot F P w' :=
 ⟨fun k hk => Nat.lt_of_lt_of_le (h.1 k hk) ho.2.2.2.1, fun w2 hz hs => h.2 w2 (Nat.le_trans ho.2.2.2.1 hz) fun k hk => (hs k hk).trans (ho.2.2.2.2 k (h.1 k hk) (hS k hk))⟩
theorem Foot.below {F : Nat → Prop} {P : World → Prop} {w w' : World} (h : Foot F P w) (hb : Below w.heap.size w w') : Foot F P w' :=
 h.only (S := fun _ => False) (Only.of_below hb) fun _ _ e => e
def At (p : Option Addr) (k : Nat) : Prop := ∃ a, p = some a ∧ a.block = k
theorem Yfc {w : World} {p : Option Addr} {vs : List Value} (h : VRow w w.heap.size p vs) (h0 : 0 < vs.length) : Foot (At p) (fun w' => VRow w' w'.heap.size p vs) w := by
 obtain ⟨b, off, rfl, hb, hc⟩ := h h0
 refine ⟨fun k ⟨a, e, hk⟩ => by injection e with e; subst e; rw [← hk]; exact hb, fun w' hz hs _ => ⟨b, off, rfl, Nat.lt_of_lt_of_le hb hz, fun i hi => (World.cell?_of_block (hs b ⟨_, rfl, rfl⟩)).trans (hc i hi)⟩⟩
theorem Yi7 {w : World} {p : Option Addr} {xs : List UInt8} (h : Row w p xs) (h0 : 0 < xs.length) : Foot (At p) (fun w' => Row w' p xs) w := by
 obtain ⟨b, off, rfl, hb, hc⟩ := h h0
 refine ⟨fun k ⟨a, e, hk⟩ => by injection e with e; subst e; rw [← hk]; exact hb, fun w' hz hs _ => ⟨b, off, rfl, Nat.lt_of_lt_of_le hb hz, fun i hi => (World.cell?_of_block (hs b ⟨_, rfl, rfl⟩)).trans (hc i hi)⟩⟩
structure Ke where
 e : Nat
 gw : Nat
 bl : Nat
 cl : Nat
 bd : Nat
 cd : Nat
structure En (w : World) (K : Ke) (v : Value) (l : List Bool) : Prop where
 blk : w.heap[K.e]? = some (.cells #[.pointer (some ⟨K.gw, 0, none⟩), .slice (some ⟨K.bl, 0, none⟩) 29 K.cl, .slice (some ⟨K.bd, 0, none⟩) 30 K.cd, .int .i64 0] 86 (0, 0))
 ws : Ws w K.gw v l true
 tl : Yhl w K.bl false
 td : Yhl w K.bd true
 ge : K.gw < K.e
 gl : K.gw < K.bl ∧ K.gw < K.bd
 lt : K.bl < K.e ∧ K.bd < K.e
 vv : ∀ k, v.ownBlock = some k → K.e < k
 cl : 29 ≤ K.cl ∧ 30 ≤ K.cd
section
variable {w w' w1 w2 : World} {K : Ke} {v v1 : Value} {l l' : List Bool}
theorem En.c0 (h : En w K v l) : w.cell? ⟨K.e, 0, none⟩ = some (.pointer (some ⟨K.gw, 0, none⟩)) := by simp [World.cell?, h.blk]
theorem En.c3 (h : En w K v l) : w.cell? ⟨K.e, 3, none⟩ = some (.int .i64 0) := by simp [World.cell?, h.blk]
theorem En.fz (h : En w K v l) (i : Nat) : w.frozen? ⟨K.e, i, none⟩ = false := by simp [World.frozen?, h.blk]
theorem En.lt' (h : En w K v l) : K.e < w.heap.size := by
 rcases Nat.lt_or_ge K.e w.heap.size with hlt | hge
 ·exact hlt
 ·have := h.blk; rw [Array.getElem?_eq_none hge] at this; cases this
theorem Y5j {b : Nat} {far : Bool} (h : Yhl w b far) (hb : w'.heap[b]? = w.heap[b]?) : Yhl w' b far := fun i hi =>
 ⟨(World.cell?_of_block hb).trans (h i hi).1, (World.cell?_of_block hb).trans (h i hi).2⟩
theorem own_lt (h : En w K v l) (k : Nat) (hk : v.ownBlock = some k) : k < w.heap.size := by
 have h1 : w.ownsRow 0 5 1 v (Y0q true l).length (cellsOf (Y0q true l)) := h.ws.2.1
 rcases h1.2 with ⟨e, _⟩ | ⟨g, cap, cur, rfl, hb, hh, r⟩
 ·rw [e] at hk; cases hk
 ·injection hk with hk
  subst hk
  rcases Nat.lt_or_ge g w.heap.size with hlt | hge
  ·exact hlt
  ·rw [Array.getElem?_eq_none hge] at hh; cases hh
theorem En.only {S : Nat → Prop} (h : En w K v l) (ho : Only S w w') (he : ∀ k, k ≤ K.e → ¬ S k) (hv : ∀ k, v.ownBlock = some k → ¬ S k) : En w' K v l := by
 have hlt := h.lt'
 have h1 := h.ge
 have h2 := h.lt
 exact ⟨(ho.2.2.2.2 _ hlt (he _ (Nat.le_refl _))).trans h.blk, Wr.only h.ws ho (he _ (by omega)) hv, Y5j h.tl (ho.2.2.2.2 _ (by omega) (he _ (by omega))),
  Y5j h.td (ho.2.2.2.2 _ (by omega) (he _ (by omega))), h.ge, h.gl, h.lt, h.vv, h.cl⟩
theorem En.below (h : En w K v l) (hb : Below w.heap.size w w') : En w' K v l := h.only (S := fun _ => False) (Only.of_below hb) (fun _ _ e => e) (fun _ _ e => e)
def EnT (w : World) (K : Ke) (v : Value) (l : List Bool) (w' : World) : Prop :=
 ∃ v', En w' K v' l ∧ Only (Mine K.gw v) w w' ∧ ∀ k, v'.ownBlock = some k → v.ownBlock = some k ∨ w.heap.size ≤ k
theorem En.wst (h : En w K v l) (ht : WsT w K.gw v l' true w') : EnT w K v l' w' := by
 obtain ⟨v', hw, ho, hd⟩ := ht
 have hlt := h.lt'
 have h1 := h.ge
 have h2 := h.lt
 have h3 := h.gl
 have hm : ∀ k, k ≤ K.e → k ≠ K.gw → ¬ Mine K.gw v k := fun k hk hne e => by
  rcases e with e | e
  ·exact hne e
  ·have := h.vv k e; omega
 refine ⟨v', ⟨(ho.2.2.2.2 _ hlt (hm _ (Nat.le_refl _) (by omega))).trans h.blk, hw, Y5j h.tl (ho.2.2.2.2 _ (by omega) (hm _ (by omega) (by omega))),
  Y5j h.td (ho.2.2.2.2 _ (by omega) (hm _ (by omega) (by omega))), h.ge, h.gl, h.lt, fun k hk => ?_, h.cl⟩, ho, hd⟩
 rcases hd k hk with e | e
 ·exact h.vv k e
 ·omega
theorem EnT.more (ho : Only (Mine K.gw v) w w1) (hd : ∀ k, v1.ownBlock = some k → v.ownBlock = some k ∨ w.heap.size ≤ k) (h : EnT w1 K v1 l w2) : EnT w K v l w2 := by
 obtain ⟨v2, hW, ho2, hd2⟩ := h
 have hz := ho.2.2.2.1
 refine ⟨v2, hW, ⟨ho2.1.trans ho.1, ho2.2.1.trans ho.2.1, ho2.2.2.1.trans ho.2.2.1, Nat.le_trans hz ho2.2.2.2.1, fun k hk hn => ?_⟩, fun k hk => ?_⟩
 ·refine (ho2.2.2.2.2 k (by omega) (fun hm => hn ?_)).trans (ho.2.2.2.2 k hk hn)
  rcases hm with h | h
  ·exact .inl h
  ·rcases hd k h with h | h
   ·exact .inr h
   ·omega
 ·rcases hd2 k hk with h | h
  ·exact hd k h
  ·exact .inr (by omega)
theorem EnT.below (h : En w K v l) (hb : Below w.heap.size w w') : EnT w K v l w' := ⟨v, h.below hb, (Only.of_below (S := fun _ => False) hb).mono (fun _ _ e => False.elim e), fun _ e => .inl e⟩
def Far (K : Ke) (v : Value) (F : Nat → Prop) : Prop := ∀ k, F k → k ≠ K.gw ∧ v.ownBlock ≠ some k
theorem Foot.ent {F : Nat → Prop} {P : World → Prop} (h : Foot F P w) (hf : Far K v F) (ho : Only (Mine K.gw v) w w') : Foot F P w' :=
 h.only ho fun k hk e => by
  rcases e with e | e
  ·exact (hf k hk).1 e
  ·exact (hf k hk).2 e
theorem Yko {F : Nat → Prop} (h : En w K v l) (hF : ∀ k, F k → w.heap.size ≤ k) : Far K v F := fun k hk => by
 have h1 := hF k hk
 have h2 := h.lt'
 have h3 := h.ge
 exact ⟨by omega, fun e => by have := own_lt h k e; omega⟩
end
theorem Ym8 (b : Nat) (w : World) (h : ∀ i, i < 2 → w.cell? ⟨b, i, none⟩ = some (.int .i64 0)) : Calls Tryz.prog 130 #[.slice (some ⟨b, 0, none⟩) 2 2] w fun e w' => e = .returned (.int .i64 0) ∧ w' = w := by
 have H := Lib.hid h
 clear h
 go_enter Tryz.func130, Tryz.ntmps130
 go_wp2_with fail
 go_loopw [8] (fun i wr => ∃ k : Nat, k ≤ 2 ∧ i = .int .i64 (k : Int) ∧ wr = w) (fun i _ => 2 - (intOf i).toNat)
 case atStart => exact ⟨0, by omega, rfl, rfl⟩
 case round =>
  obtain ⟨k, hk, rfl, rfl⟩ := hrel
  by_cases hlt : k < 2
  ·have q : decide ((k : Int) < 2) = true := decide_eq_true (by omega)
   have hc := H.out k hlt
   have hc2 : wr.cell? ⟨b, 0 + k, none⟩ = some (.int .i64 0) := by rw [Nat.zero_add]; exact hc
   go_wp2_with fail
   go_roundw
   case rel => exact ⟨k + 1, by omega, by first | rfl | (push_cast; rfl), by first | rfl | trivial⟩
   case measure => simp [intOf]; omega
  ·have q : decide ((k : Int) < 2) = false := by simp; omega
   go_wp2_with fail
   go_ret
   exact ⟨rfl, rfl⟩
theorem Yjc {w : World} {b i : Nat} {cs : Array Value} {T : TypeId} {fr : Nat × Nat} {v : Value} (h : w.heap[b]? = some (.cells cs T fr)) (hv : cs[i]? = some v) : (w.setCell ⟨b, i, none⟩ v).heap = w.heap := by
 apply Array.ext_getElem?
 intro j
 by_cases hj : b = j
 ·subst hj
  simp only [World.setCell, Array.getElem?_modify, h]
  simp only [if_true, Option.map_some]
  congr 2
  rw [if_neg (by simp)]
  apply Array.ext_getElem?
  intro k
  rw [Array.getElem?_setIfInBounds]
  by_cases hk : i = k
  ·subst hk; rw [if_pos rfl]; split
   ·exact hv.symm
   ·rename_i hge
    rw [Array.getElem?_eq_none (by omega)]
  ·rw [if_neg hk]
 ·simp [World.setCell, Array.getElem?_modify, hj]
theorem Ygo {w : World} {b i B : Nat} {v : Value} (h : (w.setCell ⟨b, i, none⟩ v).heap = w.heap) : Below B w (w.setCell ⟨b, i, none⟩ v) :=
 ⟨rfl, rfl, rfl, by rw [h]; exact Nat.le_refl _, fun k hk => by rw [h]⟩
theorem Yig (w : World) (K : Ke) (v : Value) (l : List Bool) (h : En w K v l) :
  Calls Tryz.prog 100 #[.pointer (some ⟨K.e, 0, none⟩), .int .i64 0] w fun e w' => e = .returned (.tuple #[]) ∧ Below w.heap.size w w' := by
 have c3 := h.c3
 have hlt := h.lt'
 have hba : Below w.heap.size w (w.alloc (.cells #[.int .i64 0, .int .i64 0] 24)) := (Below.refl _ w).alloc (Nat.le_refl _) _
 have hE := h.below hba
 have fz := hE.fz 3
 have hor := Ym8 w.heap.size (w.alloc (.cells #[.int .i64 0, .int .i64 0] 24)) (fun i hi => by
  have e : i = 0 ∨ i = 1 := by omega
  rcases e with rfl | rfl
  ·simp
  ·simp)
 have HOR := Lib.hid hor
 have hsame := Yjc (i := 3) (v := .int .i64 0) h.blk rfl
 have hb1 : Below w.heap.size w (w.setCell ⟨K.e, 3, none⟩ (.int .i64 0)) := Ygo hsame
 have HB := Lib.hid (hb1.alloc hb1.size (.cells #[.int .i64 0, .int .i64 0] 24))
 clear h hor hE hba hsame hb1
 go_enter Tryz.func100, Tryz.ntmps100
 go_wp2_with fail
 refine HOR.out.mono ?_
 rintro e w' ⟨rfl, rfl⟩
 go_wp2_with fail
 go_end0
 exact ⟨rfl, HB.out⟩
theorem Y0t (w : World) (K : Ke) (v : Value) (l : List Bool) (m n : Nat) (h : En w K v l) (hn : n ≤ 32) (hm : m < 2 ^ n) (hm2 : m < 4294967296) (hl : l.length ≤ 2000000) :
  Calls Tryz.prog 72 #[.pointer (some ⟨K.e, 0, none⟩), .int .i64 (m : Int), .int .i64 (n : Int)] w fun e w' => e = .returned (.tuple #[]) ∧ EnT w K v (l ++ Y0f true m n) w' := by
 have c0 := h.c0
 have hlt := h.lt'
 have hc : Y4m (n : Int) = true := by unfold Y4m; simp; omega
 have how : okW m (n : Int) = true := by unfold okW; rw [hc]; simpa using hm
 have hw := Yhk w K.gw v l true m (n : Int) hm2 hl h.ws
 unfold WrtP at hw
 rw [show wrE m (n : Int) = 0 from by unfold wrE; rw [hc, how]; rfl, show wrL true l m (n : Int) = l ++ Y0f true m n from by unfold wrL; rw [how]; rfl] at hw
 have HW := Lib.hid hw
 have H := Lib.hid h
 have wm : IntKind.u32.wrap (m : Int) = (m : Int) := by rw [IntKind.wrap_u32]; omega
 clear h hw hc how hm hl hn
 go_enter Tryz.func72, Tryz.ntmps72
 go_wp2_with fail
 refine HW.out.mono ?_
 rintro e w1 ⟨rfl, ht⟩
 have hT := H.out.wst ht
 obtain ⟨v1, hE1, ho1, hd1⟩ := hT
 have HE1 := Lib.hid hE1
 have HO1 := Lib.hid ho1
 have HD1 := Lib.hid hd1
 clear ht hE1 ho1 hd1
 go_wp2_with fail
 refine (Yig w1 K v1 _ HE1.out).mono ?_
 rintro e w2 ⟨rfl, hb2⟩
 have HB2 := Lib.hid hb2
 clear hb2
 go_wp2_with fail
 go_end0
 exact ⟨rfl, EnT.more HO1.out HD1.out (EnT.below HE1.out HB2.out)⟩
theorem Ycz (b k : Nat) (hb : b < 2) (hk : k < 4) : Y0f true (b + 2 * k) 3 = Y0f true b 1 ++ Y0f true k 2 := by
 have hk4 : k = 0 ∨ k = 1 ∨ k = 2 ∨ k = 3 := by omega
 have hb2 : b = 0 ∨ b = 1 := by omega
 rcases hk4 with rfl | rfl | rfl | rfl <;> rcases hb2 with rfl | rfl <;> rfl
theorem Yer (w : World) (K : Ke) (v : Value) (l : List Bool) (last : Bool) (b k : Nat) (hb : b = if last then 1 else 0) (h : En w K v l) (hk : k < 4) (hl : l.length + 3 ≤ 2000000) :
  Calls Tryz.prog 70 #[.pointer (some ⟨K.e, 0, none⟩), .bool last, .int .i64 (k : Int)] w fun e w' => e = .returned (.tuple #[]) ∧ EnT w K v (l ++ Y0f true (b + 2 * k) 3) w' := by
 have hb2 : b < 2 := by cases last <;> simp at hb <;> omega
 have E1 := Lib.hid (Ycz b k hb2 hk)
 have HN := Lib.hid (Y0t w K v l b 1 h (by omega) hb2 (by omega) (by omega))
 have HL := Lib.hid (show (l ++ Y0f true b 1).length ≤ 2000000 by rw [List.length_append, Y05]; omega)
 have hk2 : k < 2 ^ 2 := hk
 clear h hl hb2
 cases last
 ·have hb0 : b = 0 := by simpa using hb
  subst hb0
  have HN2 : Hid (Calls Tryz.prog 72 #[.pointer (some ⟨K.e, 0, none⟩), .int .i64 0, .int .i64 1] w fun e w' => e = .returned (.tuple #[]) ∧ EnT w K v (l ++ Y0f true 0 1) w') := HN
  have HN3 : Hid (∀ w1 v1, En w1 K v1 (l ++ Y0f true 0 1) → Calls Tryz.prog 72 #[.pointer (some ⟨K.e, 0, none⟩), .int .i64 (k : Int), .int .i64 2] w1 fun e w' => e = .returned (.tuple #[]) ∧ EnT w1 K v1 (l ++ Y0f true 0 1 ++ Y0f true k 2) w') := Lib.hid fun w1 v1 hE => Y0t w1 K v1 _ k 2 hE (by omega) hk2 (by omega) HL.out
  clear HN
  clear hb
  go_enter  Tryz.func70, Tryz.ntmps70
  go_wp2_with fail
  refine HN2.out.mono ?_
  rintro e w1 ⟨rfl, v1, hE1, ho1, hd1⟩
  have HE1 := Lib.hid hE1
  have HO1 := Lib.hid ho1
  have HD1 := Lib.hid hd1
  clear hE1 ho1 hd1
  go_wp2_with fail
  refine (HN3.out w1 v1 HE1.out).mono ?_
  rintro e w2 ⟨rfl, ht⟩
  have HT := Lib.hid ht
  clear ht
  go_wp2_with fail
  go_end0
  refine ⟨rfl, ?_⟩
  have := EnT.more HO1.out HD1.out HT.out
  rwa [List.append_assoc, ← E1.out] at this
 ·have hb0 : b = 1 := by simpa using hb
  subst hb0
  have HN2 : Hid (Calls Tryz.prog 72 #[.pointer (some ⟨K.e, 0, none⟩), .int .i64 1, .int .i64 1] w fun e w' => e = .returned (.tuple #[]) ∧ EnT w K v (l ++ Y0f true 1 1) w') := HN
  have HN3 : Hid (∀ w1 v1, En w1 K v1 (l ++ Y0f true 1 1) → Calls Tryz.prog 72 #[.pointer (some ⟨K.e, 0, none⟩), .int .i64 (k : Int), .int .i64 2] w1 fun e w' => e = .returned (.tuple #[]) ∧ EnT w1 K v1 (l ++ Y0f true 1 1 ++ Y0f true k 2) w') := Lib.hid fun w1 v1 hE => Y0t w1 K v1 _ k 2 hE (by omega) hk2 (by omega) HL.out
  clear HN
  clear hb
  go_enter  Tryz.func70, Tryz.ntmps70
  go_wp2_with fail
  refine HN2.out.mono ?_
  rintro e w1 ⟨rfl, v1, hE1, ho1, hd1⟩
  have HE1 := Lib.hid hE1
  have HO1 := Lib.hid ho1
  have HD1 := Lib.hid hd1
  clear hE1 ho1 hd1
  go_wp2_with fail
  refine (HN3.out w1 v1 HE1.out).mono ?_
  rintro e w2 ⟨rfl, ht⟩
  have HT := Lib.hid ht
  clear ht
  go_wp2_with fail
  go_end0
  refine ⟨rfl, ?_⟩
  have := EnT.more HO1.out HD1.out HT.out
  rwa [List.append_assoc, ← E1.out] at this
theorem Yeq (w : World) (K : Ke) (v : Value) (l : List Bool) (last : Bool) (k : Nat) (h : En w K v l) (hk : k < 4) (hl : l.length + 3 ≤ 2000000) :
  Calls Tryz.prog 70 #[.pointer (some ⟨K.e, 0, none⟩), .bool last, .int .i64 (k : Int)] w fun e w' => e = .returned (.tuple #[]) ∧ EnT w K v (l ++ Y0f true ((if last then 1 else 0) + 2 * k) 3) w' :=
 Yer w K v l last _ k rfl h hk hl
end Go.Proofs.YtkkfkmoikcmhoaaGreat.Df

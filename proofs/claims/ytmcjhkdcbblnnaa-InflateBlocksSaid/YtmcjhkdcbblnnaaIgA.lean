
/- A decoder of blocks in memory; the contract of literal. -/
import Derived.Test.YtmcjhkdcbblnnaaIfQ
import Derived.Test.YtmcjhkdcbblnnaaIfA
import Derived.Deep.RegionLaw
import Derived.Deep.DeepCutAuto
import Derived.BigRegion
import Derived.Deep.AppendLies
namespace Go.Proofs.Ytmcjhkdcbblnnaa.Inf
open Go.RowKit Go.Proofs.Ytmcjhkdcbblnnaa.Oct Go.Proofs.Ytmcjhkdcbblnnaa.Bit Go.Proofs.Ytmcjhkdcbblnnaa.Hf
set_option linter.unusedVariables false
set_option linter.unusedSimpArgs false
set_option maxRecDepth 100000

/-- what stands in the blocks from B up to C, whatever else turns -/
def Kept (B C : Nat) (P : World → Prop) (w : World) : Prop := C ≤ w.heap.size ∧ ∀ w' : World, C ≤ w'.heap.size → (∀ k, B ≤ k → k < C → w'.heap[k]? = w.heap[k]?) → P w'
theorem Kept.now {B C : Nat} {P : World → Prop} {w : World} (h : Kept B C P w) : P w := h.2 w h.1 fun _ _ _ => rfl
theorem Kept.same {B C : Nat} {P : World → Prop} {w w' : World} (h : Kept B C P w) (hz : w.heap.size ≤ w'.heap.size) (hs : ∀ k, B ≤ k → k < C → w'.heap[k]? = w.heap[k]?) : Kept B C P w' :=
  ⟨Nat.le_trans h.1 hz, fun w2 h2 hk => h.2 w2 h2 fun k a b => (hk k a b).trans (hs k a b)⟩
theorem Kept.only {B C : Nat} {P : World → Prop} {S : Nat → Prop} {w w' : World} (h : Kept B C P w) (ho : Only S w w') (hS : ∀ k, B ≤ k → k < C → ¬ S k) : Kept B C P w' :=
  h.same ho.2.2.2.1 fun k a b => ho.2.2.2.2 k (by have := h.1; omega) (hS k a b)
theorem own_only8 {S : Nat → Prop} {w w' : World} {e n : Nat} {v : Value} {cs : List Value} (h : w.ownsRow 0 e 1 v n cs) (ho : Only S w w') (hv : ∀ k, v.ownBlock = some k → ¬ S k) : w'.ownsRow 0 e 1 v n cs := by
  refine ⟨h.1, ?_⟩
  rcases h.2 with hn | ⟨g, cap, cur, rfl, hb, hh, r⟩
  · exact .inl hn
  · refine .inr ⟨g, cap, cur, rfl, hb, ?_, r⟩
    have hlt : g < w.heap.size := by
      rcases Nat.lt_or_ge g w.heap.size with hlt | hge
      · exact hlt
      · rw [Array.getElem?_eq_none hge] at hh; cases hh
    rw [ho.2.2.2.2 g hlt (hv g rfl)]
    exact hh
theorem only_grown {w w' : World} {row : Option Nat} (hg : w.grownBy w' row) : Only (fun k => row = some k) w w' :=
  ⟨hg.os, hg.tape, hg.output, hg.size, fun k hk hs => hg.block k hk (fun e => hs e.symm)⟩

/-- a book of these words, each of which means its place, in blocks of its own -/
def places (n : Nat) : List Value := ints ((List.range n).map fun i : Nat => (i : Int))
def Bo (w : World) (B C g : Nat) (W : List (List Bool)) : Prop := BoU w B C g (wordsU W) (places W.length)
theorem Bo.same {B C g : Nat} {W : List (List Bool)} {S : Nat → Prop} {w w' : World} (h : Bo w B C g W) (ho : Only S w w') (hS : ∀ k, B ≤ k → k < C → ¬ S k) : Bo w' B C g W :=
  BoU.same h ho.2.2.2.1 fun k a b => ho.2.2.2.2 k (by have := h.1.1; omega) (hS k a b)
/-- what of a decoder never turns -/
structure Kon where
  d : Nat
  gr : Nat
  p : Option Addr
  cap : Nat
  xs : List UInt8
  most : Nat
  bl : Nat
  cl : Nat
  bd : Nat
  cd : Nat
structure Fix where
  B : Nat
  C : Nat
  ga : Nat
  gb : Nat
def Clr (K : Kon) (v : Value) (B C : Nat) : Prop := K.d < B ∧ ∀ k, v.ownBlock = some k → ¬ (B ≤ k ∧ k < C)
def fixL (F : Option Fix) : Value := .pointer (F.map fun f => ⟨f.ga, 0, none⟩)
def fixR (F : Option Fix) : Value := .pointer (F.map fun f => ⟨f.gb, 0, none⟩)
def FixS (w : World) (K : Kon) (v : Value) : Option Fix → Prop
  | none => True
  | some f => Clr K v f.B f.C ∧ Bo w f.B f.C f.ga (canonW fixedA) ∧ Bo w f.B f.C f.gb (canonW fixedB)
def TabR (w : World) (b : Nat) (far : Bool) : Prop := ∀ i, i < (froms far).length →
  w.cell? ⟨b, i * 2, none⟩ = some (.int .i64 (((froms far).getD i 0 : Nat) : Int)) ∧ w.cell? ⟨b, i * 2 + 1, none⟩ = some (.int .i64 (((extras far).getD i 0 : Nat) : Int))
def Tabs (K : Kon) (w : World) : Prop := TabR w K.bl false ∧ TabR w K.bd true
/-- a decoder in memory -/
structure De (w : World) (K : Kon) (a : Nat) (v : Value) (out : List UInt8) (F : Option Fix) : Prop where
  blk : w.heap[K.d]? = some (.cells #[.pointer (some ⟨K.gr, 0, none⟩), v, .int .i64 (K.most : Int), .slice (some ⟨K.bl, 0, none⟩) 29 K.cl, .slice (some ⟨K.bd, 0, none⟩) 30 K.cd, fixL F, fixR F] 58 (0, 0))
  rd : Rd w K.gr K.p K.cap K.xs a true
  own : w.ownsRow 0 5 1 v out.length (cellsOf out)
  tbl : Kept (K.gr + 1) K.d (Tabs K) w
  lo : K.gr < K.d
  hv : ∀ k, v.ownBlock = some k → K.d < k
  om : out.length ≤ K.most
  sz : K.most ≤ 200000
  fx : FixS w K v F
  cl : 29 ≤ K.cl ∧ 30 ≤ K.cd
section
variable {w w' : World} {K : Kon} {a : Nat} {v : Value} {out : List UInt8} {F : Option Fix}
theorem De.c0 (h : De w K a v out F) : w.cell? ⟨K.d, 0, none⟩ = some (.pointer (some ⟨K.gr, 0, none⟩)) := by simp [World.cell?, h.blk]
theorem De.c1 (h : De w K a v out F) : w.cell? ⟨K.d, 1, none⟩ = some v := by simp [World.cell?, h.blk]
theorem De.c2 (h : De w K a v out F) : w.cell? ⟨K.d, 2, none⟩ = some (.int .i64 (K.most : Int)) := by simp [World.cell?, h.blk]
theorem De.c3 (h : De w K a v out F) : w.cell? ⟨K.d, 3, none⟩ = some (.slice (some ⟨K.bl, 0, none⟩) 29 K.cl) := by simp [World.cell?, h.blk]
theorem De.c4 (h : De w K a v out F) : w.cell? ⟨K.d, 4, none⟩ = some (.slice (some ⟨K.bd, 0, none⟩) 30 K.cd) := by simp [World.cell?, h.blk]
theorem De.c5 (h : De w K a v out F) : w.cell? ⟨K.d, 5, none⟩ = some (fixL F) := by simp [World.cell?, h.blk]
theorem De.c6 (h : De w K a v out F) : w.cell? ⟨K.d, 6, none⟩ = some (fixR F) := by simp [World.cell?, h.blk]
theorem De.fz (h : De w K a v out F) (i : Nat) : w.frozen? ⟨K.d, i, none⟩ = false := by simp [World.frozen?, h.blk]
theorem De.lt (h : De w K a v out F) : K.d < w.heap.size := by
  rcases Nat.lt_or_ge K.d w.heap.size with hlt | hge
  · exact hlt
  · have := h.blk; rw [Array.getElem?_eq_none hge] at this; cases this
theorem rd_only {S : Nat → Prop} {g : Nat} {p : Option Addr} {cap : Nat} {xs : List UInt8} {at_ : Nat} {low : Bool} (h : Rd w g p cap xs at_ low) (ho : Only S w w') (hg : ∀ k, k ≤ g → ¬ S k) : Rd w' g p cap xs at_ low := by
  have hlt := h.lt
  refine ⟨(ho.2.2.2.2 g hlt (hg g (Nat.le_refl _))).trans h.1, fun h0 => ?_, h.2.2⟩
  obtain ⟨b, off, e, hb, hc⟩ := h.2.1 h0
  refine ⟨b, off, e, hb, fun i hi => ?_⟩
  rw [← hc i hi]
  exact World.cell?_of_block (w := w) (ho.2.2.2.2 b (by omega) (hg b (by omega)))
theorem FixS.only {S : Nat → Prop} (h : FixS w K v F) (ho : Only S w w') (hS : ∀ f, F = some f → ∀ k, f.B ≤ k → k < f.C → ¬ S k) : FixS w' K v F := by
  rcases F with _ | f
  · trivial
  · exact ⟨h.1, h.2.1.same ho (hS f rfl), h.2.2.same ho (hS f rfl)⟩
/-- nothing has turned of what was there -/
theorem De.keep (h : De w K a v out F) (ho : Only (fun _ => False) w w') : De w' K a v out F :=
  ⟨(ho.2.2.2.2 K.d h.lt (fun e => e)).trans h.blk, rd_only h.rd ho (fun _ _ e => e), own_only8 h.own ho (fun _ _ e => e), h.tbl.only ho (fun _ _ _ e => e), h.lo, h.hv, h.om, h.sz, h.fx.only ho (fun _ _ _ _ _ e => e), h.cl⟩
theorem De.drawn (h : De w K a v out F) (hd : Drawn w w') : De w' K a v out F := h.keep (Only.drawn _ hd)
/-- the reader has gone on -/
theorem De.moved {b : Nat} (h : De w K a v out F) (ho : Only (· = K.gr) w w') (hr : Rd w' K.gr K.p K.cap K.xs b true) : De w' K b v out F := by
  have h1 := h.lo
  refine ⟨(ho.2.2.2.2 K.d h.lt (fun e => by omega)).trans h.blk, hr, own_only8 h.own ho (fun k hk e => by have := h.hv k hk; omega), h.tbl.only ho (fun k h2 _ e => by omega), h.lo, h.hv, h.om, h.sz, h.fx.only ho ?_, h.cl⟩
  intro f hf k h2 _ e
  subst hf
  have := h.fx.1.1
  omega
theorem De.form (h : De w K a v out F) : ∃ p cap, v = .slice p out.length cap ∧ out.length ≤ cap ∧ cap ≤ maxLen ∧ (p = none → cap = 0) ∧ Row w p out := by
  obtain ⟨q, c, h1, h2, h3, h4, h5⟩ := own_shape h.own rfl
  exact ⟨q, c, h1, h3, h4, h2, h5⟩
/-- bytes of its own have grown -/
theorem De.plain {v' : Value} {out' : List UInt8} (h : De w K a v out F) (ho : Only (fun k => v.ownBlock = some k) w w') (hown : w'.ownsRow 0 5 1 v' out'.length (cellsOf out')) (hv : ∀ k, v'.ownBlock = some k → v.ownBlock = some k ∨ w.heap.size ≤ k) (hm : out'.length ≤ K.most) :
    De (w'.setCell ⟨K.d, 1, none⟩ v') K a v' out' F := by
  have hlo := h.lo
  have hhv := h.hv
  have hlt := h.lt
  have hd : ∀ k, v'.ownBlock = some k → K.d < k := fun k e => by
    rcases hv k e with h1 | h1
    · exact hhv k h1
    · omega
  have hb := (ho.2.2.2.2 K.d hlt (fun e => by have := hhv _ e; omega)).trans h.blk
  have ho2 : Only (· = K.d) w' (w'.setCell ⟨K.d, 1, none⟩ v') := Only.setCell (S := (· = K.d)) (p := ⟨K.d, 1, none⟩) (by rfl) _
  refine ⟨?_, rd_only (rd_only h.rd ho (fun k hk e => by have := hhv _ e; omega)) ho2 (fun k hk e => by omega), own_only8 hown ho2 (fun k hk e => by have := hd k hk; omega), (h.tbl.only ho (fun k _ h2 e => by have := hhv _ e; omega)).only ho2 (fun k _ h2 e => by omega), hlo, hd, hm, h.sz, ?_, h.cl⟩
  · simp [World.setCell, Array.getElem?_modify, hb]
  · have hfx := h.fx
    rcases F with _ | f
    · trivial
    · obtain ⟨⟨h1, h2⟩, h3, h4⟩ := hfx
      have h5 : ∀ k, f.B ≤ k → k < f.C → ¬ v.ownBlock = some k := fun k a b e => h2 k e ⟨a, b⟩
      have h6 : ∀ k, f.B ≤ k → k < f.C → ¬ k = K.d := fun k a b e => by omega
      refine ⟨⟨h1, fun k hk hh => ?_⟩, (h3.same ho h5).same ho2 h6, (h4.same ho h5).same ho2 h6⟩
      rcases hv k hk with e | e
      · exact h2 k e hh
      · have := h3.1.1; omega
end
/-- which blocks a call on a decoder may turn -/
def MineE (K : Kon) (v : Value) (k : Nat) : Prop := k = K.d ∨ k = K.gr ∨ v.ownBlock = some k
/-- a decoder behind calls on it -/
def DeT (w : World) (K : Kon) (v : Value) (a : Nat) (out : List UInt8) (F : Option Fix) (w' : World) : Prop :=
  ∃ v', De w' K a v' out F ∧ Only (MineE K v) w w' ∧ ∀ k, v'.ownBlock = some k → v.ownBlock = some k ∨ w.heap.size ≤ k
theorem only_more {K : Kon} {w w1 w2 : World} {v v1 : Value} (ho : Only (MineE K v) w w1) (hd : ∀ k, v1.ownBlock = some k → v.ownBlock = some k ∨ w.heap.size ≤ k) (ho2 : Only (MineE K v1) w1 w2) : Only (MineE K v) w w2 := by
  have hz := ho.2.2.2.1
  refine ⟨ho2.1.trans ho.1, ho2.2.1.trans ho.2.1, ho2.2.2.1.trans ho.2.2.1, Nat.le_trans hz ho2.2.2.2.1, fun k hk hn => ?_⟩
  refine (ho2.2.2.2.2 k (by omega) (fun hm => hn ?_)).trans (ho.2.2.2.2 k hk hn)
  rcases hm with h | h | h
  · exact .inl h
  · exact .inr (.inl h)
  · rcases hd k h with h | h
    · exact .inr (.inr h)
    · omega
theorem DeT.more {K : Kon} {w w1 w2 : World} {v v1 : Value} {a : Nat} {out : List UInt8} {F : Option Fix} (ho : Only (MineE K v) w w1) (hd : ∀ k, v1.ownBlock = some k → v.ownBlock = some k ∨ w.heap.size ≤ k)
    (h : DeT w1 K v1 a out F w2) : DeT w K v a out F w2 := by
  obtain ⟨v2, hW, ho2, hd2⟩ := h
  have hz := ho.2.2.2.1
  refine ⟨v2, hW, only_more ho hd ho2, fun k hk => ?_⟩
  rcases hd2 k hk with h | h
  · exact hd k h
  · exact .inr (by omega)
/-- a book stands behind calls on a decoder -/
theorem Bo.only {K : Kon} {w w' : World} {v : Value} {B C g : Nat} {W : List (List Bool)} (h : Bo w B C g W) (hc : Clr K v B C) (hlo : K.gr < K.d) (ho : Only (MineE K v) w w') : Bo w' B C g W :=
  h.same ho fun k h1 h2 e => by
    rcases e with e | e | e
    · have := hc.1; omega
    · have := hc.1; omega
    · exact hc.2 k e ⟨h1, h2⟩
theorem Clr.on {K : Kon} {w w' : World} {v v' : Value} {B C g : Nat} {W : List (List Bool)} (h : Clr K v B C) (hb : Bo w B C g W) (hd : ∀ k, v'.ownBlock = some k → v.ownBlock = some k ∨ w.heap.size ≤ k) : Clr K v' B C :=
  ⟨h.1, fun k hk hh => by
    rcases hd k hk with e | e
    · exact h.2 k e hh
    · have := hb.1.1; omega⟩
theorem De.one {w wd : World} {K : Kon} {a : Nat} {v : Value} {out : List UInt8} {F : Option Fix} (h : De w K a v out F) (x : UInt8) (hm : out.length + 1 ≤ K.most) (ho : Only (fun _ => False) w wd) :
    ∀ g1 cap1 w1, w1.ownsRow 0 5 1 (.slice (some ⟨g1, 0, none⟩) (out.length + 1) cap1) (out.length + 1) (cellsOf out ++ cellsOf [x]) → wd.grownBy w1 v.ownBlock → (v.ownBlock = some g1 ∨ g1 = wd.heap.size) →
      (w1.frozen? ⟨K.d, 1, none⟩ = false ∧ w1.cell? ⟨K.d, 1, none⟩ = some v) ∧ DeT w K v a (out ++ [x]) F (w1.setCell ⟨K.d, 1, none⟩ (.slice (some ⟨g1, 0, none⟩) (out.length + 1) cap1)) := by
  intro g1 cap1 w1 hown hgrow hat
  have hD := h.keep ho
  have hne : some K.d ≠ v.ownBlock := fun e => Nat.lt_irrefl _ (hD.hv K.d e.symm)
  have hon : Only (fun k => v.ownBlock = some k) wd w1 := only_grown hgrow
  have hv1 : ∀ k, (Value.slice (some ⟨g1, 0, none⟩) (out.length + 1) cap1).ownBlock = some k → v.ownBlock = some k ∨ wd.heap.size ≤ k := by
    intro k hk
    injection hk with hk
    subst hk
    exact hat.imp id (fun e => Nat.le_of_eq e.symm)
  refine ⟨⟨(hgrow.frozen_far ⟨K.d, 1, none⟩ hD.lt hne).trans (hD.fz 1), (hgrow.cell_far ⟨K.d, 1, none⟩ hD.lt hne).trans hD.c1⟩, ?_⟩
  have hown2 : w1.ownsRow 0 5 1 (.slice (some ⟨g1, 0, none⟩) (out.length + 1) cap1) (out ++ [x]).length (cellsOf (out ++ [x])) := by
    rw [cellsOf_append, List.length_append]
    exact hown
  exact DeT.more (ho.mono fun _ _ e => e.elim) (fun k hk => .inl hk)
    ⟨_, hD.plain hon hown2 hv1 (by simpa using hm), (hon.mono (fun k _ h => .inr (.inr h))).trans (Only.setCell (p := ⟨K.d, 1, none⟩) (.inl rfl) _), hv1⟩
theorem news8 (w : World) (x : UInt8) : ∀ j u, (cellsOf [x])[j]? = some u → (w.alloc (.cells #[.int .u8 (x.toNat : Int)] 5)).cell? ((⟨w.heap.size, 0, none⟩ : Addr).add j) = some u := by
  intro j u hj
  obtain ⟨hj', rfl⟩ := cellsOf_get hj
  have : j = 0 := by simpa using hj'
  subst this
  rw [add_plain]
  simp
def LitP (w : World) (K : Kon) (a : Nat) (v : Value) (out t : List UInt8) (F : Option Fix) (e : Ending) (w' : World) : Prop :=
  if K.most < out.length + t.length then e = .returned (.int .i64 8) ∧ Only (MineE K v) w w' else e = .returned (.int .i64 0) ∧ DeT w K v a (out ++ t) F w'
set_option maxHeartbeats 1000000 in
theorem literal_any (w : World) (K : Kon) (a : Nat) (v : Value) (out : List UInt8) (F : Option Fix) (x : UInt8) (h : De w K a v out F) :
    Calls Try.prog 53 #[.pointer (some ⟨K.d, 0, none⟩), .int .u8 (x.toNat : Int)] w (LitP w K a v out [x] F) := by
  obtain ⟨i0, hi, hz0, hz1, hz2⟩ := info_parts Try.infoByte
  obtain ⟨p, cap, hv, hc1, hc2, hnil, hrow⟩ := h.form
  have k1 := h.c1
  have k2 := h.c2
  rw [hv] at k1
  have hom := h.om
  have hsz := h.sz
  by_cases hfull : K.most ≤ out.length
  · have hres : ∀ e w', (e = .returned (.int .i64 8) ∧ Drawn w w') → LitP w K a v out [x] F e w' := by
      intro e w' hh
      unfold LitP
      rw [if_pos (by simp; omega)]
      exact ⟨hh.1, Only.drawn _ hh.2⟩
    have HR := Lib.hid hres
    have hd0 : decide ((out.length : Int) ≥ (K.most : Int)) = true := by simp; omega
    clear hres h hrow hnil
    go_enter Try.func53, Try.ntmps53
    go_wp2_with fail
    go_quiet (fail)
    go_wp2_with fail
    go_ret
    exact HR.out _ _ ⟨rfl, ⟨_, rfl⟩⟩
  · have hd0 : decide ((out.length : Int) ≥ (K.most : Int)) = false := by simp; omega
    have H := Lib.hid h
    have HV := Lib.hid hv
    clear h hrow
    go_enter Try.func53, Try.ntmps53
    go_wp2_with fail
    go_quiet (fail)
    have hab : Only (fun _ => False) w ((w.drewN nq).alloc (.cells #[.int .u8 (x.toNat : Int)] 5)) :=
      (Only.drawn (fun _ => False) (w := w) (w' := w.drewN nq) ⟨nq, rfl⟩).trans (Only.of_below ((Below.refl _ (w.drewN nq)).alloc (Nat.le_refl _) _))
    have HA := Lib.hid (H.out.keep hab)
    have HNW := Lib.hid (news8 (w.drewN nq) x)
    have HON := Lib.hid (H.out.one x (by omega) hab)
    unfold maxLen at hc2
    clear hab
    go_wp2_with (at_builtin; refine wpList_append_lies _ rfl _ _ 22 rfl 0 5 i0 (.int .u8 0) 1 1 Try.underlying22 hi hz0 hz1 hz2 rfl (by decide) v out.length (cellsOf out) (by rw [HV.out]; rfl) HA.out.own ⟨w.heap.size, 0, none⟩ 1 1 (cellsOf [x]) rfl rfl HNW.out cellsOf_one (by decide) (by unfold maxLen; omega) (by omega) (Nat.zero_le _) _ rfl ?_)
    intro g1 cap1 w1 hown1 hgrow1 hat1 _
    obtain ⟨⟨f1, k3⟩, hT⟩ := HON.out g1 cap1 w1 hown1 (by rw [HV.out]; exact hgrow1) (by rw [HV.out]; simpa using hat1)
    have HT := Lib.hid hT
    clear hown1 hgrow1 hat1 hT
    go_wp2_with fail
    go_ret
    unfold LitP
    rw [if_neg (by simp; omega)]
    exact ⟨rfl, HT.out⟩
end Go.Proofs.Ytmcjhkdcbblnnaa.Inf

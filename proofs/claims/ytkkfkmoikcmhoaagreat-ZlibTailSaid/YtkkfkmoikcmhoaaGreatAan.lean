/- IgA, DfB, DfN: merged. -/
import Derived.Deep.DeepCutAuto
import Derived.Test.YtkkfkmoikcmhoaaGreatAai
import Derived.Test.YtkkfkmoikcmhoaaGreatAal
import Derived.Test.YtkkfkmoikcmhoaaGreatAam
set_option linter.unusedVariables false
set_option linter.unusedSimpArgs false
namespace Go.Proofs.YtkkfkmoikcmhoaaGreat.Inf
open Go.RowKit Oct Bit Hf
set_option maxRecDepth 100000
def Kept (B C : Nat) (P : World → Prop) (w : World) : Prop := C ≤ w.heap.size ∧ ∀ w' : World, C ≤ w'.heap.size → (∀ k, B ≤ k → k < C → w'.heap[k]? = w.heap[k]?) → P w'
theorem Kept.now {B C : Nat} {P : World → Prop} {w : World} (h : Kept B C P w) : P w := h.2 w h.1 fun _ _ _ => rfl
theorem Kept.same {B C : Nat} {P : World → Prop} {w w' : World} (h : Kept B C P w) (hz : w.heap.size ≤ w'.heap.size) (hs : ∀ k, B ≤ k → k < C → w'.heap[k]? = w.heap[k]?) : Kept B C P w' :=
 ⟨Nat.le_trans h.1 hz, fun w2 h2 hk => h.2 w2 h2 fun k a b => (hk k a b).trans (hs k a b)⟩
theorem Kept.only {B C : Nat} {P : World → Prop} {S : Nat → Prop} {w w' : World} (h : Kept B C P w) (ho : Only S w w') (hS : ∀ k, B ≤ k → k < C → ¬ S k) : Kept B C P w' :=
 h.same ho.2.2.2.1 fun k a b => ho.2.2.2.2 k (by have := h.1; omega) (hS k a b)
theorem Y5u {S : Nat → Prop} {w w' : World} {e n : Nat} {v : Value} {cs : List Value} (h : w.ownsRow 0 e 1 v n cs) (ho : Only S w w') (hv : ∀ k, v.ownBlock = some k → ¬ S k) : w'.ownsRow 0 e 1 v n cs := by
 refine ⟨h.1, ?_⟩
 rcases h.2 with hn | ⟨g, cap, cur, rfl, hb, hh, r⟩
 ·exact .inl hn
 ·refine .inr ⟨g, cap, cur, rfl, hb, ?_, r⟩
  have hlt : g < w.heap.size := by
   rcases Nat.lt_or_ge g w.heap.size with hlt | hge
   ·exact hlt
   ·rw [Array.getElem?_eq_none hge] at hh; cases hh
  rw [ho.2.2.2.2 g hlt (hv g rfl)]
  exact hh
theorem Y4j {w w' : World} {row : Option Nat} (hg : w.grownBy w' row) : Only (fun k => row = some k) w w' :=
 ⟨hg.os, hg.tape, hg.output, hg.size, fun k hk hs => hg.block k hk (fun e => hs e.symm)⟩
def places (n : Nat) : List Value := ints ((List.range n).map fun i : Nat => (i : Int))
def Bo (w : World) (B C g : Nat) (W : List (List Bool)) : Prop := BoU w B C g (Y27 W) (places W.length)
theorem Bo.same {B C g : Nat} {W : List (List Bool)} {S : Nat → Prop} {w w' : World} (h : Bo w B C g W) (ho : Only S w w') (hS : ∀ k, B ≤ k → k < C → ¬ S k) : Bo w' B C g W :=
 BoU.same h ho.2.2.2.1 fun k a b => ho.2.2.2.2 k (by have := h.1.1; omega) (hS k a b)
structure Kon where
 d : Nat
 gr : Nat
 p : Option Addr
 cap : Nat
 xs : List UInt8
 most : Nat
 bl : Nat
 cl : Nat
 bd : Nat
 cd : Nat
structure Fix where
 B : Nat
 C : Nat
 ga : Nat
 gb : Nat
def Clr (K : Kon) (v : Value) (B C : Nat) : Prop := K.d < B ∧ ∀ k, v.ownBlock = some k → ¬ (B ≤ k ∧ k < C)
def fixL (F : Option Fix) : Value := .pointer (F.map fun f => ⟨f.ga, 0, none⟩)
def fixR (F : Option Fix) : Value := .pointer (F.map fun f => ⟨f.gb, 0, none⟩)
def FixS (w : World) (K : Kon) (v : Value) : Option Fix → Prop
 | none => True
 | some f => Clr K v f.B f.C ∧ Bo w f.B f.C f.ga (Y03 Y0l) ∧ Bo w f.B f.C f.gb (Y03 Y0s)
def Ymz (w : World) (b : Nat) (far : Bool) : Prop := ∀ i, i < (froms far).length →
 w.cell? ⟨b, i * 2, none⟩ = some (.int .i64 (((froms far).getD i 0 : Nat) : Int)) ∧ w.cell? ⟨b, i * 2 + 1, none⟩ = some (.int .i64 (((extras far).getD i 0 : Nat) : Int))
def Tabs (K : Kon) (w : World) : Prop := Ymz w K.bl false ∧ Ymz w K.bd true
structure De (w : World) (K : Kon) (a : Nat) (v : Value) (out : List UInt8) (F : Option Fix) : Prop where
 blk : w.heap[K.d]? = some (.cells #[.pointer (some ⟨K.gr, 0, none⟩), v, .int .i64 (K.most : Int), .slice (some ⟨K.bl, 0, none⟩) 29 K.cl, .slice (some ⟨K.bd, 0, none⟩) 30 K.cd, fixL F, fixR F] 59 (0, 0))
 rd : Rd w K.gr K.p K.cap K.xs a true
 own : w.ownsRow 0 5 1 v out.length (cellsOf out)
 tbl : Kept (K.gr + 1) K.d (Tabs K) w
 lo : K.gr < K.d
 hv : ∀ k, v.ownBlock = some k → K.d < k
 om : out.length ≤ K.most
 sz : K.most ≤ 200000
 fx : FixS w K v F
 cl : 29 ≤ K.cl ∧ 30 ≤ K.cd
section
variable {w w' : World} {K : Kon} {a : Nat} {v : Value} {out : List UInt8} {F : Option Fix}
theorem De.c0 (h : De w K a v out F) : w.cell? ⟨K.d, 0, none⟩ = some (.pointer (some ⟨K.gr, 0, none⟩)) := by simp [World.cell?, h.blk]
theorem De.c1 (h : De w K a v out F) : w.cell? ⟨K.d, 1, none⟩ = some v := by simp [World.cell?, h.blk]
theorem De.c2 (h : De w K a v out F) : w.cell? ⟨K.d, 2, none⟩ = some (.int .i64 (K.most : Int)) := by simp [World.cell?, h.blk]
theorem De.c3 (h : De w K a v out F) : w.cell? ⟨K.d, 3, none⟩ = some (.slice (some ⟨K.bl, 0, none⟩) 29 K.cl) := by simp [World.cell?, h.blk]
theorem De.c4 (h : De w K a v out F) : w.cell? ⟨K.d, 4, none⟩ = some (.slice (some ⟨K.bd, 0, none⟩) 30 K.cd) := by simp [World.cell?, h.blk]
theorem De.c5 (h : De w K a v out F) : w.cell? ⟨K.d, 5, none⟩ = some (fixL F) := by simp [World.cell?, h.blk]
theorem De.c6 (h : De w K a v out F) : w.cell? ⟨K.d, 6, none⟩ = some (fixR F) := by simp [World.cell?, h.blk]
theorem De.fz (h : De w K a v out F) (i : Nat) : w.frozen? ⟨K.d, i, none⟩ = false := by simp [World.frozen?, h.blk]
theorem De.lt (h : De w K a v out F) : K.d < w.heap.size := by
 rcases Nat.lt_or_ge K.d w.heap.size with hlt | hge
 ·exact hlt
 ·have := h.blk; rw [Array.getElem?_eq_none hge] at this; cases this
theorem Yaw {S : Nat → Prop} {g : Nat} {p : Option Addr} {cap : Nat} {xs : List UInt8} {at_ : Nat} {low : Bool} (h : Rd w g p cap xs at_ low) (ho : Only S w w') (hg : ∀ k, k ≤ g → ¬ S k) : Rd w' g p cap xs at_ low := by
 have hlt := h.lt
 refine ⟨(ho.2.2.2.2 g hlt (hg g (Nat.le_refl _))).trans h.1, fun h0 => ?_, h.2.2⟩
 obtain ⟨b, off, e, hb, hc⟩ := h.2.1 h0
 refine ⟨b, off, e, hb, fun i hi => ?_⟩
 rw [← hc i hi]
 exact World.cell?_of_block (w := w) (ho.2.2.2.2 b (by omega) (hg b (by omega)))
theorem FixS.only {S : Nat → Prop} (h : FixS w K v F) (ho : Only S w w') (hS : ∀ f, F = some f → ∀ k, f.B ≤ k → k < f.C → ¬ S k) : FixS w' K v F := by
 rcases F with _ | f
 ·trivial
 ·exact ⟨h.1, h.2.1.same ho (hS f rfl), h.2.2.same ho (hS f rfl)⟩
theorem De.keep (h : De w K a v out F) (ho : Only (fun _ => False) w w') : De w' K a v out F :=
 ⟨(ho.2.2.2.2 K.d h.lt (fun e => e)).trans h.blk, Yaw h.rd ho (fun _ _ e => e), Y5u h.own ho (fun _ _ e => e), h.tbl.only ho (fun _ _ _ e => e), h.lo, h.hv, h.om, h.sz, h.fx.only ho (fun _ _ _ _ _ e => e), h.cl⟩
theorem De.drawn (h : De w K a v out F) (hd : Drawn w w') : De w' K a v out F := h.keep (Only.drawn _ hd)
theorem De.moved {b : Nat} (h : De w K a v out F) (ho : Only (· = K.gr) w w') (hr : Rd w' K.gr K.p K.cap K.xs b true) : De w' K b v out F := by
 have h1 := h.lo
 refine ⟨(ho.2.2.2.2 K.d h.lt (fun e => by omega)).trans h.blk, hr, Y5u h.own ho (fun k hk e => by have := h.hv k hk; omega), h.tbl.only ho (fun k h2 _ e => by omega), h.lo, h.hv, h.om, h.sz, h.fx.only ho ?_, h.cl⟩
 intro f hf k h2 _ e
 subst hf
 have := h.fx.1.1
 omega
theorem De.form (h : De w K a v out F) : ∃ p cap, v = .slice p out.length cap ∧ out.length ≤ cap ∧ cap ≤ maxLen ∧ (p = none → cap = 0) ∧ Row w p out := by
 obtain ⟨q, c, h1, h2, h3, h4, h5⟩ := Y5v h.own rfl
 exact ⟨q, c, h1, h3, h4, h2, h5⟩
theorem De.plain {v' : Value} {out' : List UInt8} (h : De w K a v out F) (ho : Only (fun k => v.ownBlock = some k) w w') (hown : w'.ownsRow 0 5 1 v' out'.length (cellsOf out')) (hv : ∀ k, v'.ownBlock = some k → v.ownBlock = some k ∨ w.heap.size ≤ k) (hm : out'.length ≤ K.most) :
  De (w'.setCell ⟨K.d, 1, none⟩ v') K a v' out' F := by
 have hlo := h.lo
 have hhv := h.hv
 have hlt := h.lt
 have hd : ∀ k, v'.ownBlock = some k → K.d < k := fun k e => by
  rcases hv k e with h1 | h1
  ·exact hhv k h1
  ·omega
 have hb := (ho.2.2.2.2 K.d hlt (fun e => by have := hhv _ e; omega)).trans h.blk
 have ho2 : Only (· = K.d) w' (w'.setCell ⟨K.d, 1, none⟩ v') := Only.setCell (S := (· = K.d)) (p := ⟨K.d, 1, none⟩) (by rfl) _
 refine ⟨?_, Yaw (Yaw h.rd ho (fun k hk e => by have := hhv _ e; omega)) ho2 (fun k hk e => by omega), Y5u hown ho2 (fun k hk e => by have := hd k hk; omega), (h.tbl.only ho (fun k _ h2 e => by have := hhv _ e; omega)).only ho2 (fun k _ h2 e => by omega), hlo, hd, hm, h.sz, ?_, h.cl⟩
 ·simp [World.setCell, Array.getElem?_modify, hb]
 ·have hfx := h.fx
  rcases F with _ | f
  ·trivial
  ·obtain ⟨⟨h1, h2⟩, h3, h4⟩ := hfx
   have h5 : ∀ k, f.B ≤ k → k < f.C → ¬ v.ownBlock = some k := fun k a b e => h2 k e ⟨a, b⟩
   have h6 : ∀ k, f.B ≤ k → k < f.C → ¬ k = K.d := fun k a b e => by omega
   refine ⟨⟨h1, fun k hk hh => ?_⟩, (h3.same ho h5).same ho2 h6, (h4.same ho h5).same ho2 h6⟩
   rcases hv k hk with e | e
   ·exact h2 k e hh
   ·have := h3.1.1; omega
end
def Y0x (K : Kon) (v : Value) (k : Nat) : Prop := k = K.d ∨ k = K.gr ∨ v.ownBlock = some k
def DeT (w : World) (K : Kon) (v : Value) (a : Nat) (out : List UInt8) (F : Option Fix) (w' : World) : Prop :=
 ∃ v', De w' K a v' out F ∧ Only (Y0x K v) w w' ∧ ∀ k, v'.ownBlock = some k → v.ownBlock = some k ∨ w.heap.size ≤ k
theorem Y3i {K : Kon} {w w1 w2 : World} {v v1 : Value} (ho : Only (Y0x K v) w w1) (hd : ∀ k, v1.ownBlock = some k → v.ownBlock = some k ∨ w.heap.size ≤ k) (ho2 : Only (Y0x K v1) w1 w2) : Only (Y0x K v) w w2 := by
 have hz := ho.2.2.2.1
 refine ⟨ho2.1.trans ho.1, ho2.2.1.trans ho.2.1, ho2.2.2.1.trans ho.2.2.1, Nat.le_trans hz ho2.2.2.2.1, fun k hk hn => ?_⟩
 refine (ho2.2.2.2.2 k (by omega) (fun hm => hn ?_)).trans (ho.2.2.2.2 k hk hn)
 rcases hm with h | h | h
 ·exact .inl h
 ·exact .inr (.inl h)
 ·rcases hd k h with h | h
  ·exact .inr (.inr h)
  ·omega
theorem DeT.more {K : Kon} {w w1 w2 : World} {v v1 : Value} {a : Nat} {out : List UInt8} {F : Option Fix} (ho : Only (Y0x K v) w w1) (hd : ∀ k, v1.ownBlock = some k → v.ownBlock = some k ∨ w.heap.size ≤ k)
  (h : DeT w1 K v1 a out F w2) : DeT w K v a out F w2 := by
 obtain ⟨v2, hW, ho2, hd2⟩ := h
 have hz := ho.2.2.2.1
 refine ⟨v2, hW, Y3i ho hd ho2, fun k hk => ?_⟩
 rcases hd2 k hk with h | h
 ·exact hd k h
 ·exact .inr (by omega)
theorem Bo.only {K : Kon} {w w' : World} {v : Value} {B C g : Nat} {W : List (List Bool)} (h : Bo w B C g W) (hc : Clr K v B C) (hlo : K.gr < K.d) (ho : Only (Y0x K v) w w') : Bo w' B C g W :=
 h.same ho fun k h1 h2 e => by
  rcases e with e | e | e
  ·have := hc.1; omega
  ·have := hc.1; omega
  ·exact hc.2 k e ⟨h1, h2⟩
theorem Clr.on {K : Kon} {w w' : World} {v v' : Value} {B C g : Nat} {W : List (List Bool)} (h : Clr K v B C) (hb : Bo w B C g W) (hd : ∀ k, v'.ownBlock = some k → v.ownBlock = some k ∨ w.heap.size ≤ k) : Clr K v' B C :=
 ⟨h.1, fun k hk hh => by
  rcases hd k hk with e | e
  ·exact h.2 k e hh
  ·have := hb.1.1; omega⟩
theorem De.one {w wd : World} {K : Kon} {a : Nat} {v : Value} {out : List UInt8} {F : Option Fix} (h : De w K a v out F) (x : UInt8) (hm : out.length + 1 ≤ K.most) (ho : Only (fun _ => False) w wd) :
  ∀ g1 cap1 w1, w1.ownsRow 0 5 1 (.slice (some ⟨g1, 0, none⟩) (out.length + 1) cap1) (out.length + 1) (cellsOf out ++ cellsOf [x]) → wd.grownBy w1 v.ownBlock → (v.ownBlock = some g1 ∨ g1 = wd.heap.size) →
   (w1.frozen? ⟨K.d, 1, none⟩ = false ∧ w1.cell? ⟨K.d, 1, none⟩ = some v) ∧ DeT w K v a (out ++ [x]) F (w1.setCell ⟨K.d, 1, none⟩ (.slice (some ⟨g1, 0, none⟩) (out.length + 1) cap1)) := by
 intro g1 cap1 w1 hown hgrow hat
 have hD := h.keep ho
 have hne : some K.d ≠ v.ownBlock := fun e => Nat.lt_irrefl _ (hD.hv K.d e.symm)
 have hon : Only (fun k => v.ownBlock = some k) wd w1 := Y4j hgrow
 have hv1 : ∀ k, (Value.slice (some ⟨g1, 0, none⟩) (out.length + 1) cap1).ownBlock = some k → v.ownBlock = some k ∨ wd.heap.size ≤ k := by
  intro k hk
  injection hk with hk
  subst hk
  exact hat.imp id (fun e => Nat.le_of_eq e.symm)
 refine ⟨⟨(hgrow.frozen_far ⟨K.d, 1, none⟩ hD.lt hne).trans (hD.fz 1), (hgrow.cell_far ⟨K.d, 1, none⟩ hD.lt hne).trans hD.c1⟩, ?_⟩
 have hown2 : w1.ownsRow 0 5 1 (.slice (some ⟨g1, 0, none⟩) (out.length + 1) cap1) (out ++ [x]).length (cellsOf (out ++ [x])) := by
  rw [Y46, List.length_append]
  exact hown
 exact DeT.more (ho.mono fun _ _ e => e.elim) (fun k hk => .inl hk)
  ⟨_, hD.plain hon hown2 hv1 (by simpa using hm), (hon.mono (fun k _ h => .inr (.inr h))).trans (Only.setCell (p := ⟨K.d, 1, none⟩) (.inl rfl) _), hv1⟩
theorem news8 (w : World) (x : UInt8) : ∀ j u, (cellsOf [x])[j]? = some u → (w.alloc (.cells #[.int .u8 (x.toNat : Int)] 5)).cell? ((⟨w.heap.size, 0, none⟩ : Addr).add j) = some u := by
 intro j u hj
 obtain ⟨hj', rfl⟩ := Y6g hj
 have : j = 0 := by simpa using hj'
 subst this
 rw [Y08]
 simp
def Yv8 (w : World) (K : Kon) (a : Nat) (v : Value) (out t : List UInt8) (F : Option Fix) (e : Ending) (w' : World) : Prop :=
 if K.most < out.length + t.length then e = .returned (.int .i64 8) ∧ Only (Y0x K v) w w' else e = .returned (.int .i64 0) ∧ DeT w K v a (out ++ t) F w'
set_option maxHeartbeats 1000000 in
theorem Yac (w : World) (K : Kon) (a : Nat) (v : Value) (out : List UInt8) (F : Option Fix) (x : UInt8) (h : De w K a v out F) :
  Calls Tryz.prog 90 #[.pointer (some ⟨K.d, 0, none⟩), .int .u8 (x.toNat : Int)] w (Yv8 w K a v out [x] F) := by
 obtain ⟨i0, hi, hz0, hz1, hz2⟩ := info_parts Tryz.infoByte
 obtain ⟨p, cap, hv, hc1, hc2, hnil, hrow⟩ := h.form
 have k1 := h.c1
 have k2 := h.c2
 rw [hv] at k1
 have hom := h.om
 have hsz := h.sz
 by_cases hfull : K.most ≤ out.length
 ·have hres : ∀ e w', (e = .returned (.int .i64 8) ∧ Drawn w w') → Yv8 w K a v out [x] F e w' := by
   intro e w' hh
   unfold Yv8
   rw [if_pos (by simp; omega)]
   exact ⟨hh.1, Only.drawn _ hh.2⟩
  have HR := Lib.hid hres
  have hd0 : decide ((out.length : Int) ≥ (K.most : Int)) = true := by simp; omega
  clear hres h hrow hnil
  go_enter Tryz.func90, Tryz.ntmps90
  go_wp2_with fail
  go_quiet (fail)
  go_wp2_with fail
  go_ret
  exact HR.out _ _ ⟨rfl, ⟨_, rfl⟩⟩
 ·have hd0 : decide ((out.length : Int) ≥ (K.most : Int)) = false := by simp; omega
  have H := Lib.hid h
  have HV := Lib.hid hv
  clear h hrow
  go_enter Tryz.func90, Tryz.ntmps90
  go_wp2_with fail
  go_quiet (fail)
  have hab : Only (fun _ => False) w ((w.drewN nq).alloc (.cells #[.int .u8 (x.toNat : Int)] 5)) :=
   (Only.drawn (fun _ => False) (w := w) (w' := w.drewN nq) ⟨nq, rfl⟩).trans (Only.of_below ((Below.refl _ (w.drewN nq)).alloc (Nat.le_refl _) _))
  have HA := Lib.hid (H.out.keep hab)
  have HNW := Lib.hid (news8 (w.drewN nq) x)
  have HON := Lib.hid (H.out.one x (by omega) hab)
  unfold maxLen at hc2
  clear hab
  go_wp2_with (at_builtin; refine wpList_append_lies _ rfl _ _ 22 rfl 0 5 i0 (.int .u8 0) 1 1 Tryz.underlying22 hi hz0 hz1 hz2 rfl (by decide) v out.length (cellsOf out) (by rw [HV.out]; rfl) HA.out.own ⟨w.heap.size, 0, none⟩ 1 1 (cellsOf [x]) rfl rfl HNW.out Y4r (by decide) (by unfold maxLen; omega) (by omega) (Nat.zero_le _) _ rfl ?_)
  intro g1 cap1 w1 hown1 hgrow1 hat1 _
  obtain ⟨⟨f1, k3⟩, hT⟩ := HON.out g1 cap1 w1 hown1 (by rw [HV.out]; exact hgrow1) (by rw [HV.out]; simpa using hat1)
  have HT := Lib.hid hT
  clear hown1 hgrow1 hat1 hT
  go_wp2_with fail
  go_ret
  unfold Yv8
  rw [if_neg (by simp; omega)]
  exact ⟨rfl, HT.out⟩
end Go.Proofs.YtkkfkmoikcmhoaaGreat.Inf
namespace Go.Proofs.YtkkfkmoikcmhoaaGreat.Df
open Go.RowKit Oct Bit Hf Inf
set_option maxRecDepth 100000
def Foot (F : Nat → Prop) (P : World → Prop) (w : World) : Prop := (∀ k, F k → k < w.heap.size) ∧ ∀ w' : World, w.heap.size ≤ w'.heap.size → (∀ k, F k → w'.heap[k]? = w.heap[k]?) → P w'
theorem Foot.now {F : Nat → Prop} {P : World → Prop} {w : World} (h : Foot F P w) : P w := h.2 w (Nat.le_refl _) fun _ _ => rfl
theorem Foot.only {F S : Nat → Prop} {P : World → Prop} {w w' : World} (h : Foot F P w) (ho : Only S w w') (hS : ∀ k, F k → ¬ S k) : Foot F P w' :=
 ⟨fun k hk => Nat.lt_of_lt_of_le (h.1 k hk) ho.2.2.2.1, fun w2 hz hs => h.2 w2 (Nat.le_trans ho.2.2.2.1 hz) fun k hk => (hs k hk).trans (ho.2.2.2.2 k (h.1 k hk) (hS k hk))⟩
theorem Foot.below {F : Nat → Prop} {P : World → Prop} {w w' : World} (h : Foot F P w) (hb : Below w.heap.size w w') : Foot F P w' :=
 h.only (S := fun _ => False) (Only.of_below hb) fun _ _ e => e
theorem Foot.mono {F : Nat → Prop} {P Q : World → Prop} {w : World} (h : Foot F P w) (hq : ∀ w', P w' → Q w') : Foot F Q w := ⟨h.1, fun w' hz hs => hq w' (h.2 w' hz hs)⟩
def At (p : Option Addr) (k : Nat) : Prop := ∃ a, p = some a ∧ a.block = k
theorem Y5l {w : World} {p : Option Addr} {vs : List Value} (h : VRow w w.heap.size p vs) (h0 : 0 < vs.length) : Foot (At p) (fun w' => VRow w' w'.heap.size p vs) w := by
 obtain ⟨b, off, rfl, hb, hc⟩ := h h0
 refine ⟨fun k ⟨a, e, hk⟩ => by injection e with e; subst e; rw [← hk]; exact hb, fun w' hz hs _ => ⟨b, off, rfl, Nat.lt_of_lt_of_le hb hz, fun i hi => (World.cell?_of_block (hs b ⟨_, rfl, rfl⟩)).trans (hc i hi)⟩⟩
theorem Ysu {w : World} {p : Option Addr} {xs : List UInt8} (h : Row w p xs) (h0 : 0 < xs.length) : Foot (At p) (fun w' => Row w' p xs) w := by
 obtain ⟨b, off, rfl, hb, hc⟩ := h h0
 refine ⟨fun k ⟨a, e, hk⟩ => by injection e with e; subst e; rw [← hk]; exact hb, fun w' hz hs _ => ⟨b, off, rfl, Nat.lt_of_lt_of_le hb hz, fun i hi => (World.cell?_of_block (hs b ⟨_, rfl, rfl⟩)).trans (hc i hi)⟩⟩
structure Ke where
 e : Nat
 gw : Nat
 bl : Nat
 cl : Nat
 bd : Nat
 cd : Nat
structure En (w : World) (K : Ke) (v : Value) (l : List Bool) : Prop where
 blk : w.heap[K.e]? = some (.cells #[.pointer (some ⟨K.gw, 0, none⟩), .slice (some ⟨K.bl, 0, none⟩) 29 K.cl, .slice (some ⟨K.bd, 0, none⟩) 30 K.cd, .int .i64 0] 86 (0, 0))
 ws : Ws w K.gw v l true
 tl : Ymz w K.bl false
 td : Ymz w K.bd true
 ge : K.gw < K.e
 gl : K.gw < K.bl ∧ K.gw < K.bd
 lt : K.bl < K.e ∧ K.bd < K.e
 vv : ∀ k, v.ownBlock = some k → K.e < k
 cl : 29 ≤ K.cl ∧ 30 ≤ K.cd
section
variable {w w' w1 w2 : World} {K : Ke} {v v1 : Value} {l l' : List Bool}
theorem En.c0 (h : En w K v l) : w.cell? ⟨K.e, 0, none⟩ = some (.pointer (some ⟨K.gw, 0, none⟩)) := by simp [World.cell?, h.blk]
theorem En.c1 (h : En w K v l) : w.cell? ⟨K.e, 1, none⟩ = some (.slice (some ⟨K.bl, 0, none⟩) 29 K.cl) := by simp [World.cell?, h.blk]
theorem En.c2 (h : En w K v l) : w.cell? ⟨K.e, 2, none⟩ = some (.slice (some ⟨K.bd, 0, none⟩) 30 K.cd) := by simp [World.cell?, h.blk]
theorem En.c3 (h : En w K v l) : w.cell? ⟨K.e, 3, none⟩ = some (.int .i64 0) := by simp [World.cell?, h.blk]
theorem En.fz (h : En w K v l) (i : Nat) : w.frozen? ⟨K.e, i, none⟩ = false := by simp [World.frozen?, h.blk]
theorem En.lt' (h : En w K v l) : K.e < w.heap.size := by
 rcases Nat.lt_or_ge K.e w.heap.size with hlt | hge
 ·exact hlt
 ·have := h.blk; rw [Array.getElem?_eq_none hge] at this; cases this
theorem Y7r {b : Nat} {far : Bool} (h : Ymz w b far) (hb : w'.heap[b]? = w.heap[b]?) : Ymz w' b far := fun i hi =>
 ⟨(World.cell?_of_block hb).trans (h i hi).1, (World.cell?_of_block hb).trans (h i hi).2⟩
theorem own_lt (h : En w K v l) (k : Nat) (hk : v.ownBlock = some k) : k < w.heap.size := by
 have h1 : w.ownsRow 0 5 1 v (Y0m true l).length (cellsOf (Y0m true l)) := h.ws.2.1
 rcases h1.2 with ⟨e, _⟩ | ⟨g, cap, cur, rfl, hb, hh, r⟩
 ·rw [e] at hk; cases hk
 ·injection hk with hk
  subst hk
  rcases Nat.lt_or_ge g w.heap.size with hlt | hge
  ·exact hlt
  ·rw [Array.getElem?_eq_none hge] at hh; cases hh
theorem En.only {S : Nat → Prop} (h : En w K v l) (ho : Only S w w') (he : ∀ k, k ≤ K.e → ¬ S k) (hv : ∀ k, v.ownBlock = some k → ¬ S k) : En w' K v l := by
 have hlt := h.lt'
 have h1 := h.ge
 have h2 := h.lt
 exact ⟨(ho.2.2.2.2 _ hlt (he _ (Nat.le_refl _))).trans h.blk, Wr.only h.ws ho (he _ (by omega)) hv, Y7r h.tl (ho.2.2.2.2 _ (by omega) (he _ (by omega))),
  Y7r h.td (ho.2.2.2.2 _ (by omega) (he _ (by omega))), h.ge, h.gl, h.lt, h.vv, h.cl⟩
theorem En.below (h : En w K v l) (hb : Below w.heap.size w w') : En w' K v l := h.only (S := fun _ => False) (Only.of_below hb) (fun _ _ e => e) (fun _ _ e => e)
def EnT (w : World) (K : Ke) (v : Value) (l : List Bool) (w' : World) : Prop :=
 ∃ v', En w' K v' l ∧ Only (Mine K.gw v) w w' ∧ ∀ k, v'.ownBlock = some k → v.ownBlock = some k ∨ w.heap.size ≤ k
theorem En.wst (h : En w K v l) (ht : WsT w K.gw v l' true w') : EnT w K v l' w' := by
 obtain ⟨v', hw, ho, hd⟩ := ht
 have hlt := h.lt'
 have h1 := h.ge
 have h2 := h.lt
 have h3 := h.gl
 have hm : ∀ k, k ≤ K.e → k ≠ K.gw → ¬ Mine K.gw v k := fun k hk hne e => by
  rcases e with e | e
  ·exact hne e
  ·have := h.vv k e; omega
 refine ⟨v', ⟨(ho.2.2.2.2 _ hlt (hm _ (Nat.le_refl _) (by omega))).trans h.blk, hw, Y7r h.tl (ho.2.2.2.2 _ (by omega) (hm _ (by omega) (by omega))),
  Y7r h.td (ho.2.2.2.2 _ (by omega) (hm _ (by omega) (by omega))), h.ge, h.gl, h.lt, fun k hk => ?_, h.cl⟩, ho, hd⟩
 rcases hd k hk with e | e
 ·exact h.vv k e
 ·omega
theorem EnT.more (ho : Only (Mine K.gw v) w w1) (hd : ∀ k, v1.ownBlock = some k → v.ownBlock = some k ∨ w.heap.size ≤ k) (h : EnT w1 K v1 l w2) : EnT w K v l w2 := by
 obtain ⟨v2, hW, ho2, hd2⟩ := h
 have hz := ho.2.2.2.1
 refine ⟨v2, hW, ⟨ho2.1.trans ho.1, ho2.2.1.trans ho.2.1, ho2.2.2.1.trans ho.2.2.1, Nat.le_trans hz ho2.2.2.2.1, fun k hk hn => ?_⟩, fun k hk => ?_⟩
 ·refine (ho2.2.2.2.2 k (by omega) (fun hm => hn ?_)).trans (ho.2.2.2.2 k hk hn)
  rcases hm with h | h
  ·exact .inl h
  ·rcases hd k h with h | h
   ·exact .inr h
   ·omega
 ·rcases hd2 k hk with h | h
  ·exact hd k h
  ·exact .inr (by omega)
theorem EnT.below (h : En w K v l) (hb : Below w.heap.size w w') : EnT w K v l w' := ⟨v, h.below hb, (Only.of_below (S := fun _ => False) hb).mono (fun _ _ e => False.elim e), fun _ e => .inl e⟩
def Far (K : Ke) (v : Value) (F : Nat → Prop) : Prop := ∀ k, F k → k ≠ K.gw ∧ v.ownBlock ≠ some k
theorem Foot.ent {F : Nat → Prop} {P : World → Prop} (h : Foot F P w) (hf : Far K v F) (ho : Only (Mine K.gw v) w w') : Foot F P w' :=
 h.only ho fun k hk e => by
  rcases e with e | e
  ·exact (hf k hk).1 e
  ·exact (hf k hk).2 e
theorem Far.ent {F : Nat → Prop} {P : World → Prop} (h : Foot F P w) (hf : Far K v F) (hd : ∀ k, v1.ownBlock = some k → v.ownBlock = some k ∨ w.heap.size ≤ k) : Far K v1 F := fun k hk =>
 ⟨(hf k hk).1, fun e => by
   rcases hd k e with e | e
   ·exact (hf k hk).2 e
   ·have := h.1 k hk; omega⟩
theorem Y2a {F : Nat → Prop} (h : En w K v l) (hF : ∀ k, F k → w.heap.size ≤ k) : Far K v F := fun k hk => by
 have h1 := hF k hk
 have h2 := h.lt'
 have h3 := h.ge
 exact ⟨by omega, fun e => by have := own_lt h k e; omega⟩
end
theorem Yze (b : Nat) (w : World) (h : ∀ i, i < 2 → w.cell? ⟨b, i, none⟩ = some (.int .i64 0)) : Calls Tryz.prog 130 #[.slice (some ⟨b, 0, none⟩) 2 2] w fun e w' => e = .returned (.int .i64 0) ∧ w' = w := by
 have H := Lib.hid h
 clear h
 go_enter Tryz.func130, Tryz.ntmps130
 go_wp2_with fail
 go_loopw [8] (fun i wr => ∃ k : Nat, k ≤ 2 ∧ i = .int .i64 (k : Int) ∧ wr = w) (fun i _ => 2 - (intOf i).toNat)
 case atStart => exact ⟨0, by omega, rfl, rfl⟩
 case round =>
  obtain ⟨k, hk, rfl, rfl⟩ := hrel
  by_cases hlt : k < 2
  ·have q : decide ((k : Int) < 2) = true := decide_eq_true (by omega)
   have hc := H.out k hlt
   have hc2 : wr.cell? ⟨b, 0 + k, none⟩ = some (.int .i64 0) := by rw [Nat.zero_add]; exact hc
   go_wp2_with fail
   go_roundw
   case rel => exact ⟨k + 1, by omega, by first | rfl | (push_cast; rfl), by first | rfl | trivial⟩
   case measure => simp [intOf]; omega
  ·have q : decide ((k : Int) < 2) = false := by simp; omega
   go_wp2_with fail
   go_ret
   exact ⟨rfl, rfl⟩
theorem Yu6 {w : World} {b i : Nat} {cs : Array Value} {T : TypeId} {fr : Nat × Nat} {v : Value} (h : w.heap[b]? = some (.cells cs T fr)) (hv : cs[i]? = some v) : (w.setCell ⟨b, i, none⟩ v).heap = w.heap := by
 apply Array.ext_getElem?
 intro j
 by_cases hj : b = j
 ·subst hj
  simp only [World.setCell, Array.getElem?_modify, h]
  simp only [if_true, Option.map_some]
  congr 2
  rw [if_neg (by simp)]
  apply Array.ext_getElem?
  intro k
  rw [Array.getElem?_setIfInBounds]
  by_cases hk : i = k
  ·subst hk; rw [if_pos rfl]; split
   ·exact hv.symm
   ·rename_i hge
    rw [Array.getElem?_eq_none (by omega)]
  ·rw [if_neg hk]
 ·simp [World.setCell, Array.getElem?_modify, hj]
theorem Yqi {w : World} {b i B : Nat} {v : Value} (h : (w.setCell ⟨b, i, none⟩ v).heap = w.heap) : Below B w (w.setCell ⟨b, i, none⟩ v) :=
 ⟨rfl, rfl, rfl, by rw [h]; exact Nat.le_refl _, fun k hk => by rw [h]⟩
theorem Y78 (w : World) (K : Ke) (v : Value) (l : List Bool) (h : En w K v l) :
  Calls Tryz.prog 100 #[.pointer (some ⟨K.e, 0, none⟩), .int .i64 0] w fun e w' => e = .returned (.tuple #[]) ∧ Below w.heap.size w w' := by
 have c3 := h.c3
 have hlt := h.lt'
 have hba : Below w.heap.size w (w.alloc (.cells #[.int .i64 0, .int .i64 0] 24)) := (Below.refl _ w).alloc (Nat.le_refl _) _
 have hE := h.below hba
 have fz := hE.fz 3
 have hor := Yze w.heap.size (w.alloc (.cells #[.int .i64 0, .int .i64 0] 24)) (fun i hi => by
  have e : i = 0 ∨ i = 1 := by omega
  rcases e with rfl | rfl
  ·simp
  ·simp)
 have HOR := Lib.hid hor
 have hsame := Yu6 (i := 3) (v := .int .i64 0) h.blk rfl
 have hb1 : Below w.heap.size w (w.setCell ⟨K.e, 3, none⟩ (.int .i64 0)) := Yqi hsame
 have HB := Lib.hid (hb1.alloc hb1.size (.cells #[.int .i64 0, .int .i64 0] 24))
 clear h hor hE hba hsame hb1
 go_enter Tryz.func100, Tryz.ntmps100
 go_wp2_with fail
 refine HOR.out.mono ?_
 rintro e w' ⟨rfl, rfl⟩
 go_wp2_with fail
 go_end0
 exact ⟨rfl, HB.out⟩
theorem Y0r (w : World) (K : Ke) (v : Value) (l : List Bool) (m n : Nat) (h : En w K v l) (hn : n ≤ 32) (hm : m < 2 ^ n) (hm2 : m < 4294967296) (hl : l.length ≤ 2000000) :
  Calls Tryz.prog 72 #[.pointer (some ⟨K.e, 0, none⟩), .int .i64 (m : Int), .int .i64 (n : Int)] w fun e w' => e = .returned (.tuple #[]) ∧ EnT w K v (l ++ Y07 true m n) w' := by
 have c0 := h.c0
 have hlt := h.lt'
 have hc : Ybe (n : Int) = true := by unfold Ybe; simp; omega
 have how : okW m (n : Int) = true := by unfold okW; rw [hc]; simpa using hm
 have hw := Yrp w K.gw v l true m (n : Int) hm2 hl h.ws
 unfold WrtP at hw
 rw [show wrE m (n : Int) = 0 from by unfold wrE; rw [hc, how]; rfl, show wrL true l m (n : Int) = l ++ Y07 true m n from by unfold wrL; rw [how]; rfl] at hw
 have HW := Lib.hid hw
 have H := Lib.hid h
 have wm : IntKind.u32.wrap (m : Int) = (m : Int) := by rw [IntKind.wrap_u32]; omega
 clear h hw hc how hm hl hn
 go_enter Tryz.func72, Tryz.ntmps72
 go_wp2_with fail
 refine HW.out.mono ?_
 rintro e w1 ⟨rfl, ht⟩
 have hT := H.out.wst ht
 obtain ⟨v1, hE1, ho1, hd1⟩ := hT
 have HE1 := Lib.hid hE1
 have HO1 := Lib.hid ho1
 have HD1 := Lib.hid hd1
 clear ht hE1 ho1 hd1
 go_wp2_with fail
 refine (Y78 w1 K v1 _ HE1.out).mono ?_
 rintro e w2 ⟨rfl, hb2⟩
 have HB2 := Lib.hid hb2
 clear hb2
 go_wp2_with fail
 go_end0
 exact ⟨rfl, EnT.more HO1.out HD1.out (EnT.below HE1.out HB2.out)⟩
theorem Ykl (b k : Nat) (hb : b < 2) (hk : k < 4) : Y07 true (b + 2 * k) 3 = Y07 true b 1 ++ Y07 true k 2 := by
 have hk4 : k = 0 ∨ k = 1 ∨ k = 2 ∨ k = 3 := by omega
 have hb2 : b = 0 ∨ b = 1 := by omega
 rcases hk4 with rfl | rfl | rfl | rfl <;> rcases hb2 with rfl | rfl <;> rfl
theorem Yni (w : World) (K : Ke) (v : Value) (l : List Bool) (last : Bool) (b k : Nat) (hb : b = if last then 1 else 0) (h : En w K v l) (hk : k < 4) (hl : l.length + 3 ≤ 2000000) :
  Calls Tryz.prog 70 #[.pointer (some ⟨K.e, 0, none⟩), .bool last, .int .i64 (k : Int)] w fun e w' => e = .returned (.tuple #[]) ∧ EnT w K v (l ++ Y07 true (b + 2 * k) 3) w' := by
 have hb2 : b < 2 := by cases last <;> simp at hb <;> omega
 have E1 := Lib.hid (Ykl b k hb2 hk)
 have HN := Lib.hid (Y0r w K v l b 1 h (by omega) hb2 (by omega) (by omega))
 have HL := Lib.hid (show (l ++ Y07 true b 1).length ≤ 2000000 by rw [List.length_append, Y00]; omega)
 have hk2 : k < 2 ^ 2 := hk
 clear h hl hb2
 cases last
 ·have hb0 : b = 0 := by simpa using hb
  subst hb0
  have HN2 : Hid (Calls Tryz.prog 72 #[.pointer (some ⟨K.e, 0, none⟩), .int .i64 0, .int .i64 1] w fun e w' => e = .returned (.tuple #[]) ∧ EnT w K v (l ++ Y07 true 0 1) w') := HN
  have HN3 : Hid (∀ w1 v1, En w1 K v1 (l ++ Y07 true 0 1) → Calls Tryz.prog 72 #[.pointer (some ⟨K.e, 0, none⟩), .int .i64 (k : Int), .int .i64 2] w1 fun e w' => e = .returned (.tuple #[]) ∧ EnT w1 K v1 (l ++ Y07 true 0 1 ++ Y07 true k 2) w') := Lib.hid fun w1 v1 hE => Y0r w1 K v1 _ k 2 hE (by omega) hk2 (by omega) HL.out
  clear HN
  clear hb
  go_enter  Tryz.func70, Tryz.ntmps70
  go_wp2_with fail
  refine HN2.out.mono ?_
  rintro e w1 ⟨rfl, v1, hE1, ho1, hd1⟩
  have HE1 := Lib.hid hE1
  have HO1 := Lib.hid ho1
  have HD1 := Lib.hid hd1
  clear hE1 ho1 hd1
  go_wp2_with fail
  refine (HN3.out w1 v1 HE1.out).mono ?_
  rintro e w2 ⟨rfl, ht⟩
  have HT := Lib.hid ht
  clear ht
  go_wp2_with fail
  go_end0
  refine ⟨rfl, ?_⟩
  have := EnT.more HO1.out HD1.out HT.out
  rwa [List.append_assoc, ← E1.out] at this
 ·have hb0 : b = 1 := by simpa using hb
  subst hb0
  have HN2 : Hid (Calls Tryz.prog 72 #[.pointer (some ⟨K.e, 0, none⟩), .int .i64 1, .int .i64 1] w fun e w' => e = .returned (.tuple #[]) ∧ EnT w K v (l ++ Y07 true 1 1) w') := HN
  have HN3 : Hid (∀ w1 v1, En w1 K v1 (l ++ Y07 true 1 1) → Calls Tryz.prog 72 #[.pointer (some ⟨K.e, 0, none⟩), .int .i64 (k : Int), .int .i64 2] w1 fun e w' => e = .returned (.tuple #[]) ∧ EnT w1 K v1 (l ++ Y07 true 1 1 ++ Y07 true k 2) w') := Lib.hid fun w1 v1 hE => Y0r w1 K v1 _ k 2 hE (by omega) hk2 (by omega) HL.out
  clear HN
  clear hb
  go_enter  Tryz.func70, Tryz.ntmps70
  go_wp2_with fail
  refine HN2.out.mono ?_
  rintro e w1 ⟨rfl, v1, hE1, ho1, hd1⟩
  have HE1 := Lib.hid hE1
  have HO1 := Lib.hid ho1
  have HD1 := Lib.hid hd1
  clear hE1 ho1 hd1
  go_wp2_with fail
  refine (HN3.out w1 v1 HE1.out).mono ?_
  rintro e w2 ⟨rfl, ht⟩
  have HT := Lib.hid ht
  clear ht
  go_wp2_with fail
  go_end0
  refine ⟨rfl, ?_⟩
  have := EnT.more HO1.out HD1.out HT.out
  rwa [List.append_assoc, ← E1.out] at this
theorem Y9i (w : World) (K : Ke) (v : Value) (l : List Bool) (last : Bool) (k : Nat) (h : En w K v l) (hk : k < 4) (hl : l.length + 3 ≤ 2000000) :
  Calls Tryz.prog 70 #[.pointer (some ⟨K.e, 0, none⟩), .bool last, .int .i64 (k : Int)] w fun e w' => e = .returned (.tuple #[]) ∧ EnT w K v (l ++ Y07 true ((if last then 1 else 0) + 2 * k) 3) w' :=
 Yni w K v l last _ k rfl h hk hl
end Go.Proofs.YtkkfkmoikcmhoaaGreat.Df
namespace Go.Proofs.YtkkfkmoikcmhoaaGreat.Df
open Bit Hf Oct Inf
def Yeb (W : List (List Bool)) (op : Nat × Nat) : List Bool := W.getD op.1 [] ++ Y07 true op.2 (wideV op.1)
def Yrv (all : List Nat) (op : Nat × Nat) : List Nat := all ++ List.replicate (timesV op.1 + op.2) (valueV op.1 all)
def Y5x : List (Nat × Nat) → List Nat → List Nat
 | [], all => all
 | op :: l, all => Y5x l (Yrv all op)
theorem Y6q (all : List Nat) (op : Nat × Nat) : (Yrv all op).length = all.length + (timesV op.1 + op.2) := by simp [Yrv]
theorem Y3o : ∀ (ops : List (Nat × Nat)) (all : List Nat), all.length + ops.length ≤ (Y5x ops all).length
 | [], all => by simp [Y5x]
 | op :: l, all => by
  have h1 := Y3o l (Yrv all op)
  rw [Y6q] at h1
  have h2 := Y3f op.1
  rw [Y5x, List.length_cons]
  omega
theorem Yp7 {W : List (List Bool)} {L r : List Bool} {n : Nat} : ∀ (ops : List (Nat × Nat)) (all : List Nat) (a : Nat), (∀ op ∈ ops, Fre W op.1 ∧ op.2 < 2 ^ wideV op.1) → (all = [] → ∀ op l, ops = op :: l → op.1 ≠ 16) →
  (Y5x ops all).length = n → L.drop a = ops.flatMap (Yeb W) ++ r → a ≤ L.length → Y6l W n L a all = .ok (Y5x ops all, a + (ops.flatMap (Yeb W)).length)
 | [], all, a, hu, h16, hn, hd, ha => Yfe W n L a all hn
 | op :: l, all, a, hu, h16, hn, hd, ha => by
  obtain ⟨h1, h2⟩ := hu op List.mem_cons_self
  have hg := Y3o (op :: l) all
  have hg2 := Y3o l (Yrv all op)
  rw [Y5x] at hn
  rw [Y5x] at hg
  rw [List.length_cons] at hg
  rw [Y6q] at hg2
  rw [List.flatMap_cons, Yeb] at hd
  simp only [List.append_assoc] at hd
  have a1 := Y0o hd ha
  have d1 := Y0f hd
  have a2 := Y0o d1 a1
  have d2 := Y0f d1
  rw [Y00] at a2 d2
  have ht := Y3f op.1
  rw [Yj7 W n L a all (by omega), Yah h1 hd, R.then_ok, if_neg (fun h => h16 h.2 op l rfl h.1), Yfp d1 a1 h2, R.then_ok, if_neg (by omega)]
  have ih := Yp7 (n := n) l (Yrv all op) _ (fun o ho => hu o (List.mem_cons_of_mem _ ho)) (fun e => by
   have := Y6q all op
   rw [e] at this
   simp at this
   omega) hn d2 a2
  rw [Y5x]
  unfold Yrv at ih
  rw [ih, List.flatMap_cons, List.length_append, Yeb, List.length_append, Y00]
  simp only [Nat.add_assoc]
  rfl
def Yru : List Nat → Nat → List Nat → List Nat
 | [], i, l => l
 | v :: vs, i, l => Yru vs (i + 1) (l.set (order.getD i 0) v)
theorem Yaz : ∀ (vs : List Nat) (i : Nat) (l : List Nat), (Yru vs i l).length = l.length
 | [], i, l => rfl
 | v :: vs, i, l => by rw [Yru, Yaz vs, List.length_set]
def Y5r (vs : List Nat) : List Bool := vs.flatMap fun v => Y07 true v 3
theorem Y1m (vs : List Nat) : (Y5r vs).length = 3 * vs.length := by
 induction vs with
 | nil => rfl
 | cons v vs ih =>
  unfold Y5r at ih ⊢
  rw [List.flatMap_cons, List.length_append, ih, Y00, List.length_cons]
  omega
theorem Ypg {L r : List Bool} : ∀ (vs : List Nat) (i a : Nat) (l : List Nat), (∀ v ∈ vs, v < 8) → L.drop a = Y5r vs ++ r → a ≤ L.length → Y6m L vs.length i a l = .ok (Yru vs i l, a + 3 * vs.length)
 | [], i, a, l, hv, hd, ha => rfl
 | v :: vs, i, a, l, hv, hd, ha => by
  unfold Y5r at hd
  rw [List.flatMap_cons, List.append_assoc] at hd
  have a1 := Y0o hd ha
  have d1 := Y0f hd
  rw [Y00] at a1 d1
  have h8 : v < 2 ^ 3 := hv v List.mem_cons_self
  rw [List.length_cons, Y6m, Yfp hd ha h8, R.then_ok, Ypg vs (i + 1) (a + 3) _ (fun x hx => hv x (List.mem_cons_of_mem _ hx)) d1 a1, Yru]
  congr 2
  omega
theorem Ypv : ∀ i, i < 19 → ∀ j, j < 19 → (order.getD i 0 = j ↔ i = order.idxOf j) := by decide +kernel
theorem Yto : ∀ j, j < 19 → order.idxOf j < 19 ∧ order.getD (order.idxOf j) 0 = j := by decide +kernel
theorem Yjv (j : Nat) (hj : j < 19) : ∀ (vs : List Nat) (i : Nat) (l : List Nat), i + vs.length ≤ 19 → l.length = 19 →
  (Yru vs i l).getD j 0 = if i ≤ order.idxOf j ∧ order.idxOf j < i + vs.length then vs.getD (order.idxOf j - i) 0 else l.getD j 0
 | [], i, l, h1, h2 => by
  rw [if_neg (by simp)]
  rfl
 | v :: vs, i, l, h1, h2 => by
  rw [List.length_cons] at h1
  have hi : i < 19 := by omega
  have ho := Ypv i hi j hj
  rw [Yru, Yjv j hj vs (i + 1) _ (by omega) (by rw [List.length_set]; exact h2)]
  rw [List.length_cons]
  by_cases hq : i = order.idxOf j
  ·have hs := ho.2 hq
   rw [if_neg (by omega), if_pos (by omega), hs, ← hq, Nat.sub_self]
   rw [List.getD_eq_getElem?_getD, List.getElem?_set, if_pos rfl, if_pos (by omega)]
   rfl
  ·have hs : order.getD i 0 ≠ j := fun e => hq (ho.1 e)
   by_cases hc : i + 1 ≤ order.idxOf j ∧ order.idxOf j < i + 1 + vs.length
   ·rw [if_pos hc, if_pos (by omega), show order.idxOf j - i = (order.idxOf j - (i + 1)) + 1 from by omega]
    rfl
   ·rw [if_neg hc, if_neg (by omega), List.getD_eq_getElem?_getD, List.getElem?_set, if_neg hs, List.getD_eq_getElem?_getD]
theorem Yxz (m : List Nat) (hm : m.length = 19) (k : Nat) (hk : k ≤ 19) (h0 : ∀ i, k ≤ i → i < 19 → m.getD (order.getD i 0) 0 = 0) : Yru ((order.take k).map fun s => m.getD s 0) 0 (List.replicate 19 0) = m := by
 have hol : order.length = 19 := rfl
 have hvl : ((order.take k).map fun s => m.getD s 0).length = k := by rw [List.length_map, List.length_take, hol]; omega
 apply List.ext_getElem
 ·rw [Yaz, List.length_replicate, hm]
 ·intro j h1 h2
  have hj : j < 19 := by omega
  have hg := Yjv j hj ((order.take k).map fun s => m.getD s 0) 0 (List.replicate 19 0) (by rw [hvl]; omega) (by simp)
  obtain ⟨q1, q2⟩ := Yto j hj
  have e1 : (Yru ((order.take k).map fun s => m.getD s 0) 0 (List.replicate 19 0)).getD j 0 = (Yru ((order.take k).map fun s => m.getD s 0) 0 (List.replicate 19 0))[j] := by
   rw [List.getD_eq_getElem?_getD, List.getElem?_eq_getElem h1]; rfl
  have e2 : m.getD j 0 = m[j] := by rw [List.getD_eq_getElem?_getD, List.getElem?_eq_getElem h2]; rfl
  rw [← e1, ← e2, hg, hvl]
  by_cases hq : order.idxOf j < k
  ·rw [if_pos ⟨Nat.zero_le _, by omega⟩, Nat.sub_zero]
   have hv : order.idxOf j < ((order.take k).map fun s => m.getD s 0).length := by rw [hvl]; exact hq
   have h3 : order.idxOf j < (order.take k).length := by rw [List.length_take, hol]; omega
   have h4 : order.idxOf j < order.length := by rw [hol]; exact q1
   rw [List.getD_eq_getElem?_getD, List.getElem?_eq_getElem hv, List.getElem_map, List.getElem_take]
   have h5 : order[order.idxOf j] = j := by
    have := q2
    rw [List.getD_eq_getElem?_getD, List.getElem?_eq_getElem h4] at this
    exact this
   rw [h5]
   rfl
  ·rw [if_neg (by omega)]
   have := h0 (order.idxOf j) (by omega) q1
   rw [q2] at this
   rw [this, List.getD_eq_getElem?_getD, List.getElem?_replicate, if_pos hj]
   rfl
theorem Yup {L r : List Bool} {a x y z : Nat} (h : L.drop a = Y07 true x 5 ++ (Y07 true y 5 ++ (Y07 true z 4 ++ r))) (ha : a ≤ L.length) (hx : x < 32) (hy : y < 32) (hz : z < 16) :
  Y54 L a = .ok ((x + 257, y + 1, z + 4), a + 14) := by
 have a1 := Y0o h ha
 have d1 := Y0f h
 rw [Y00] at a1 d1
 have a2 := Y0o d1 a1
 have d2 := Y0f d1
 rw [Y00] at a2 d2
 have a3 := Y0o d2 a2
 rw [Y00] at a3
 rw [Nat.add_assoc] at d2
 unfold Y54
 rw [if_pos (by omega), h, List.take_left' (Y00 _ _ _), d1, List.take_left' (Y00 _ _ _), d2, List.take_left' (Y00 _ _ _), Y1d true x 5 hx, Y1d true y 5 hy, Y1d true z 4 hz]
def Yjl (LA LB m : List Nat) (k : Nat) (ops : List (Nat × Nat)) (l : List Tok) : List Bool :=
 Y07 true (LA.length - 257) 5 ++ (Y07 true (LB.length - 1) 5 ++ (Y07 true (k - 4) 4 ++ (Y5r ((order.take k).map fun s => m.getD s 0) ++ (ops.flatMap (Yeb (Y03 m)) ++ Y1y (Y03 LA) (Y03 LB) l))))
structure OwnL (LA LB m : List Nat) (k : Nat) (ops : List (Nat × Nat)) : Prop where
 a1 : 257 ≤ LA.length
 a2 : LA.length ≤ 286
 b1 : 1 ≤ LB.length
 b2 : LB.length ≤ 30
 k1 : 4 ≤ k
 k2 : k ≤ 19
 ml : m.length = 19
 m7 : ∀ n ∈ m, n ≤ 7
 mz : ∀ i, k ≤ i → i < 19 → m.getD (order.getD i 0) 0 = 0
 mf : startN m 31 = 1073741824
 ou : ∀ op ∈ ops, op.1 < 19 ∧ 1 ≤ m.getD op.1 0 ∧ op.2 < 2 ^ wideV op.1
 o16 : ∀ op r, ops = op :: r → op.1 ≠ 16
 os : Y5x ops [] = LA ++ LB
 ae : LA.getD 256 0 ≠ 0
 af : startN LA 31 = 1073741824
 bf : startN LB 31 = 1073741824 ∨ (startN LB 31 < 1073741824 ∧ Inf.lone LB = true)
 a30 : ∀ n ∈ LA, n ≤ 30
 b30 : ∀ n ∈ LB, n ≤ 30
theorem Ye7 {β : Type} (W : List (List Bool)) (f : List (List Bool) → R β) : withW (.ok W) f = f W := rfl
def Y9e (LA LB : List Nat) (t : Tok) : Prop := if t.len = 0 then 1 ≤ LA.getD t.lit.toNat 0 else 1 ≤ LA.getD (257 + placeN false t.len.toNat) 0 ∧ 1 ≤ LB.getD (placeN true t.dist.toNat) 0
theorem Yf7 {L : List Nat} (h30 : ∀ n ∈ L, n ≤ 30) (hT : startN L 31 ≤ 1073741824) {i : Nat} (h : 1 ≤ L.getD i 0) : Fre (Y03 L) i := by
 have hi : i < L.length := by
  rcases Nat.lt_or_ge i L.length with hlt | hge
  ·exact hlt
  ·rw [List.getD_eq_getElem?_getD, List.getElem?_eq_none hge] at h
   exact absurd h (by decide)
 have e : L.getD i 0 = L[i] := by rw [List.getD_eq_getElem?_getD, List.getElem?_eq_getElem hi]; rfl
 rw [e] at h
 exact Ykx L h30 hT i hi h
theorem Yy6 {LA LB m : List Nat} {k : Nat} {ops : List (Nat × Nat)} (h : OwnL LA LB m k ops) {t : Tok} (ht : Y9e LA LB t) : Ybl (Y03 LA) (Y03 LB) t := by
 have ha := Nat.le_of_eq h.af
 have hb : startN LB 31 ≤ 1073741824 := by
  rcases h.bf with e | e
  ·exact Nat.le_of_eq e
  ·exact Nat.le_of_lt e.1
 unfold Y9e at ht
 unfold Ybl
 by_cases h0 : t.len = 0
 ·rw [if_pos h0] at ht ⊢
  exact Yf7 h.a30 ha ht
 ·rw [if_neg h0] at ht ⊢
  exact ⟨Yf7 h.a30 ha ht.1, Yf7 h.b30 hb ht.2⟩
theorem Yzf {LA LB m : List Nat} {k : Nat} {ops : List (Nat × Nat)} (h : OwnL LA LB m k ops) {L rest : List Bool} {most lim a : Nat} {l : List Tok} {out o : List UInt8} (hu : ∀ t ∈ l, Y9e LA LB t) (hr : Y2d lim l out = some o) (ho : o.length ≤ most)
  (hd : L.drop a = Yjl LA LB m k ops l ++ rest) (ha : a ≤ L.length) : Ye4 L most a out = .ok (o, a + (Yjl LA LB m k ops l).length) := by
 unfold Yjl at hd
 simp only [List.append_assoc] at hd
 have hl1 := h.a1
 have hl2 := h.a2
 have hl3 := h.b1
 have hl4 := h.b2
 have hl5 := h.k1
 have hl6 := h.k2
 have h3 := Yup hd ha (by omega) (by omega) (by omega)
 rw [show LA.length - 257 + 257 = LA.length from by omega, show LB.length - 1 + 1 = LB.length from by omega, show k - 4 + 4 = k from by omega] at h3
 have a1 := Y0o hd ha
 have d1 := Y0f hd
 rw [Y00] at a1 d1
 have a2 := Y0o d1 a1
 have d2 := Y0f d1
 rw [Y00] at a2 d2
 have a3 := Y0o d2 a2
 have d3 := Y0f d2
 rw [Y00] at a3 d3
 rw [show a + 5 + 5 + 4 = a + 14 from by omega] at a3 d3
 have hol : order.length = 19 := rfl
 have hvl : ((order.take k).map fun s => m.getD s 0).length = k := by rw [List.length_map, List.length_take, hol]; omega
 have hv8 : ∀ v ∈ (order.take k).map fun s => m.getD s 0, v < 8 := by
  intro v hv
  obtain ⟨s, _, rfl⟩ := List.mem_map.1 hv
  rw [List.getD_eq_getElem?_getD]
  rcases hx : m[s]? with _ | x
  ·simp
  ·have := h.m7 x (List.mem_of_getElem? hx)
   simp
   omega
 have hmt := Ypg _ 0 (a + 14) (List.replicate 19 0) hv8 d3 a3
 rw [hvl, Yxz m h.ml k h.k2 h.mz] at hmt
 have a4 := Y0o d3 a3
 have d4 := Y0f d3
 rw [Y1m, hvl] at a4 d4
 have hT : startN m 31 ≤ 1073741824 := Nat.le_of_eq h.mf
 have hm30 : ∀ n ∈ m, n ≤ 30 := fun n hn => by have := h.m7 n hn; omega
 have hle := Yp7 (W := Y03 m) (n := LA.length + LB.length) ops [] (a + 14 + 3 * k) (fun op hop => ⟨Yf7 hm30 hT (h.ou op hop).2.1, (h.ou op hop).2.2⟩) (fun _ => h.o16) (by rw [h.os, List.length_append]) d4 a4
 rw [h.os] at hle
 have a5 := Y0o d4 a4
 have d5 := Y0f d4
 have h256 : Fre (Y03 LA) 256 := Yf7 h.a30 (Nat.le_of_eq h.af) (by have := h.ae; omega)
 have hbl := Y70 (A := Y03 LA) (B := Y03 LB) h256 ho l out _ (fun t ht => Yy6 h (hu t ht)) hr d5 a5
 have hwm : Y1h m false = .ok (Y03 m) := by unfold Y1h; rw [if_pos (.inl h.mf)]
 have hwa : Y1h LA false = .ok (Y03 LA) := by unfold Y1h; rw [if_pos (.inl h.af)]
 have hwb : Y1h LB true = .ok (Y03 LB) := by
  unfold Y1h
  rw [if_pos]
  rcases h.bf with e | e
  ·exact .inl e
  ·exact .inr ⟨e.1, rfl, e.2⟩
 have hg : (LA ++ LB).getD 256 0 = LA.getD 256 0 := by
  rw [List.getD_eq_getElem?_getD, List.getD_eq_getElem?_getD, List.getElem?_append_left (by omega)]
 unfold Ye4
 rw [h3, R.then_ok, if_neg (by show ¬ (LA.length > 286 ∨ LB.length > 30); omega)]
 show ((Y6m L k 0 (a + 14) (List.replicate 19 0)).then fun l a => _) = _
 rw [hmt, R.then_ok, hwm, Ye7]
 show ((Y6l (Y03 m) (LA.length + LB.length) L (a + 14 + 3 * k) []).then fun all a => _) = _
 rw [hle, R.then_ok, if_neg (by rw [hg]; exact h.ae)]
 rw [show (LA ++ LB).take LA.length = LA from by simp, show (LA ++ LB).drop LA.length = LB from by simp, hwa, Ye7, hwb, Ye7, hbl]
 congr 2
 unfold Yjl
 simp only [List.length_append, Y00, Y1m, hvl]
 omega
theorem Yq3 {h most : Nat} {body : List Bool} {o : List UInt8} (h8 : h < 8) (hodd : h % 2 = 1)
  (hone : ∀ (L rest : List Bool), L.drop 3 = body ++ rest → 3 ≤ L.length → Yal L most h 3 [] = .ok (o, 3 + body.length)) :
  inflate (Y0m true (Y07 true h 3 ++ body)) most = .ok (o, (Y0m true (Y07 true h 3 ++ body)).length) := by
 rw [Y4f, Y2x, List.append_assoc, Y0a, List.length_append, Y00]
 generalize hz : zs (8 * ((3 + body.length + 7) / 8) - (3 + body.length)) = pad
 obtain ⟨L, hL⟩ : ∃ L, Y07 true h 3 ++ (body ++ pad) = L := ⟨_, rfl⟩
 rw [hL]
 have d0 : L.drop 0 = Y07 true h 3 ++ (body ++ pad) := by rw [List.drop_zero, hL]
 have a1 := Y0o d0 (Nat.zero_le _)
 have d1 := Y0f d0
 rw [Y00, Nat.zero_add] at a1 d1
 rw [Ycy d0 (Nat.zero_le _) h8 (o := o) (b := 3 + body.length) (by rw [Nat.zero_add]; exact hone L pad d1 a1), if_pos hodd]
theorem Yss {l : List Tok} {o : List UInt8} {lim most : Nat} (hr : Y2d lim l [] = some o) (ho : o.length ≤ most) :
  inflate (Y0m true (Y07 true 3 3 ++ Y1y (Y03 Y0l) (Y03 Y0s) l)) most = .ok (o, (Y0m true (Y07 true 3 3 ++ Y1y (Y03 Y0l) (Y03 Y0s) l)).length) := by
 refine Yq3 (by decide) (by decide) (fun L rest hd ha => ?_)
 unfold Yal
 rw [if_neg (by decide), if_pos (by decide)]
 refine Y70 (Yyk 256 (by omega)) ho l [] 3 (fun t ht => ?_) hr hd ha
 unfold Ybl
 split
 ·have hlt : t.lit.toNat < 256 := t.lit.toNat_lt
  exact Yyk _ (by omega)
 ·have hp1 := Y16 false t.len.toNat
  have hp2 := Y16 true t.dist.toNat
  have e1 : (froms false).length = 29 := rfl
  have e2 : (froms true).length = 30 := rfl
  exact ⟨Yyk _ (by omega), freB _ (by omega)⟩
end Go.Proofs.YtkkfkmoikcmhoaaGreat.Df

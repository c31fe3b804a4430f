/- LtB, LtC, LtD: merged. -/
import Derived.Laws.Externs
import Derived.Laws.IdiomCopy
import Derived.Lib.EndianMore
import Derived.Shelf.Spec.SlicesGrow
import Derived.LoopTactic
import Derived.Lib.MinMax
import Derived.Test.YtkkfkmoikcmhoaaGreatAab
set_option linter.unusedVariables false
set_option linter.unusedSimpArgs false
namespace Go.Proofs.YtkkfkmoikcmhoaaGreat.Lzt
open Go.RowKit Go.Shelf Oct
set_option maxRecDepth 100000
theorem Tryz.infoInt9 : (Tryz.prog.info? 3).map (fun i => (i.zero, i.size, i.bytes)) = some (some (.int .i64 0), 1, 8) := by kernel_rfl
theorem Y9h (c : Nat) (hc : c ≤ 40000) : bits .and .u64 (c : Int) 4294967295 = (c : Int) := by
 rw [show (4294967295 : Int) = ((4294967295 : Nat) : Int) from rfl, u64_and_nat c 4294967295 (by omega) (by omega)]
 congr 1
 rw [show (4294967295 : Nat) = 2 ^ 32 - 1 from rfl, Nat.and_two_pow_sub_one_eq_mod]
 omega
theorem Y89 (c : Nat) (w : World) (hc : c ≤ 40000) :
  Calls Tryz.prog 153 #[.int .u64 1, .int .u64 (c : Int)] w fun e w' => e = .returned (.tuple #[.int .u64 0, .int .u64 (c : Int)]) ∧ w = w' := by
 have h1 : bits .and .u64 1 4294967295 = 1 := by decide
 have h0 : bits .and .u64 0 4294967295 = 0 := by decide
 have h2 := Y9h c hc
 have h3 : (c : Int) / 4294967296 = 0 := by omega
 go_enter Tryz.func153, Tryz.ntmps153
 go_wp2
 go_ret2
 exact ⟨rfl, rfl⟩
theorem Yd8 (c : Nat) (w : World) (hc : c ≤ 40000) :
  Calls Tryz.prog 133 #[.int .u64 1, .int .u64 (c : Int)] w fun e w' => e = .returned (.tuple #[.int .u64 0, .int .u64 (c : Int)]) ∧ w = w' := by
 go_enter Tryz.func133, Tryz.ntmps133
 go_wp2_with fail
 refine (Y89 _ _ hc).mono ?_
 rintro e w' ⟨rfl, rfl⟩
 go_wp2_with fail
 go_ret2
 exact ⟨rfl, rfl⟩
theorem Y48 {P : Program} {ops : Array Oper} {o : Oper} {a : Act} {w : World} {K : Act → World → Prop} {Q : Exit → Act → World → Prop} {E : Prop}
  (hg : o.guard = none) (d x : Operand) (dT sT : TypeId) (hop : o.op = Op.call { callee := Callee.builtin Builtin.copy, args := #[d, x], argTypes := #[dT, sT] })
  (v u : Value) (hd : a.eval d = v) (hx : a.eval x = u) {v' : Value} {w' : World} (hr : (Builtin.copy_ #[dT, sT] o.type #[v, u]).run P w = .ok v' w') (hK : K (a.put o.dst v') w') :
  if Region.wanted o (yielded ops a.tmps) = true then Oper.wp P o a w K Q else E := by
 have hw : Region.wanted o (yielded ops a.tmps) = true := by simp [Region.wanted, hg]
 rw [if_pos hw]
 unfold Oper.wp execOp
 simp only [hop, resolve, invoke, builtin, Sem.run_bind, Sem.run_pure, Result.andThen_ok, List.map_toArray, List.map_cons, List.map_nil, hd, hx, hr]
 exact hK
theorem Y35 {P : Program} {w : World} {ops : Array Oper} {rest : List Oper} {o : Oper} {a : Act} {Q : Exit → Act → World → Prop}
  (hg : o.guard = none) (d x : Operand) (dT sT : TypeId) (hop : o.op = Op.call { callee := Callee.builtin Builtin.copy, args := #[d, x], argTypes := #[dT, sT] })
  (v u : Value) (hd : a.eval d = v) (hx : a.eval x = u) {v' : Value} {w' : World} (hr : (Builtin.copy_ #[dT, sT] o.type #[v, u]).run P w = .ok v' w') (hK : wpList P ops Q rest (a.put o.dst v') w') : wpList P ops Q (o :: rest) a w := by
 refine wpList_plain hg fun K hK' => ?_
 unfold Oper.wp execOp
 simp only [hop, resolve, invoke, builtin, Sem.run_bind, Sem.run_pure, Result.andThen_ok, List.map_toArray, List.map_cons, List.map_nil, hd, hx, hr]
 exact hK' _ _ hK
theorem Y4h (z : Value) (n : Nat) : (madeCells #[z] n).toList = List.replicate n z := by
 simp [madeCells]
 apply List.ext_getElem <;> simp [Nat.mod_one]
def Y45 (w : World) (n : Nat) (z : Int) (k : Nat) (wr : World) : Prop :=
 Below w.heap.size w wr ∧ w.heap.size < wr.heap.size ∧ ∀ j, j < n → wr.cell? ⟨w.heap.size, j, none⟩ = some (.int .i64 (if j < k then z else 0)) ∧ wr.frozen? ⟨w.heap.size, j, none⟩ = false
theorem Y45.drew {w wr : World} {n : Nat} {z : Int} {k : Nat} (h : Y45 w n z k wr) : Y45 w n z k wr.drew := ⟨h.1.trans ((show Drawn wr wr.drew from ⟨1, rfl⟩).below _), h.2⟩
theorem Y2e (b : Nat) : ∀ (vs : List Value) (o : Nat) (w : World), (w.setCells b o vs).heap.size = w.heap.size
 | [], _, _ => rfl
 | v :: r, o, w => by rw [World.setCells, Y2e b r]; simp [World.setCell]
theorem Y45.copy {w wr : World} {n : Nat} {z : Int} {k m : Nat} (h : Y45 w n z k wr) (hkm : k + m ≤ n) : Y45 w n z (k + m) (wr.setCells w.heap.size k (List.replicate m (.int .i64 z))) := by
 have hin := World.cell?_setCells_in w.heap.size (List.replicate m (Value.int .i64 z)) k wr (fun j hj => by rw [List.length_replicate] at hj; rw [(h.2.2 (k + j) (by omega)).1]; rfl)
 have hout := World.cell?_setCells_out w.heap.size (List.replicate m (Value.int .i64 z)) k wr
 refine ⟨h.1.trans (Lib.below_setCells_w (Nat.le_refl _) _ _ _), by rw [Y2e]; exact h.2.1, fun j hj => ⟨?_, ?_⟩⟩
 ·by_cases h1 : k ≤ j ∧ j < k + m
  ·obtain ⟨d, rfl⟩ : ∃ d, j = k + d := ⟨j - k, by omega⟩
   rw [hin d (by rw [List.length_replicate]; omega), if_pos h1.2]
   simp
  ·rw [hout ⟨w.heap.size, j, none⟩ (fun _ _ => by rw [List.length_replicate]; show j < _ ∨ _ ≤ j; omega), (h.2.2 j hj).1]
   by_cases h2 : j < k
   ·rw [if_pos h2, if_pos (by omega)]
   ·rw [if_neg h2, if_neg (by omega)]
 ·rw [World.frozen?_setCells]
  exact (h.2.2 j hj).2
theorem Y7o : (Tryz.prog.info? 3).map (·.size) = some 1 := by kernel_rfl
theorem Y7i (w wr : World) (n k l1 c1 l2 c2 m ty : Nat) (z : Int) (a : Addr) (h : Y45 w n z k wr) (hm : m = min l2 l1) (hkm : k + m ≤ n) (hs : ∀ j, j < m → wr.cell? (a.add j) = some (.int .i64 z)) :
  (Builtin.copy_ #[74, 74] ty #[.slice (some ⟨w.heap.size, k, none⟩) l1 c1, .slice (some a) l2 c2]).run Tryz.prog wr = .ok (.int .i64 (m : Int)) (wr.setCells w.heap.size k (List.replicate m (.int .i64 z))) := by
 have hr := run_copy_cells (P := Tryz.prog) wr 74 74 ty 3 w.heap.size k l1 c1 a l2 c2 (List.replicate m (Value.int .i64 z)) Tryz.underlying74 Y7o (by rw [List.length_replicate]; exact hm)
  (fun j u hj => by
   rw [List.getElem?_replicate] at hj
   split at hj
   ·injection hj with hj
    subst hj
    exact hs j (by assumption)
   ·cases hj)
  (fun j hj => by rw [List.length_replicate] at hj; rw [(h.2.2 (k + j) (by omega)).1]; rfl)
  (fun j hj => by rw [List.length_replicate] at hj; exact (h.2.2 (k + j) (by omega)).2)
  (fun u hu => by rw [List.eq_of_mem_replicate hu]; rfl)
 rw [List.length_replicate] at hr
 exact hr
def RepI (w : World) (n : Nat) (z : Int) (e : Ending) (w' : World) : Prop :=
 e = .returned (.slice (some ⟨w.heap.size, 0, none⟩) n n) ∧ Y45 w n z n w'
set_option maxHeartbeats 4000000 in
theorem Y8g (p : Option Addr) (cap : Nat) (z : Int) (n : Nat) (w : World) (b off : Nat) (hpa : p = some ⟨b, off, none⟩) (hb : b < w.heap.size) (c0 : w.cell? ⟨b, off + 0, none⟩ = some (.int .i64 z)) (h1 : 1 ≤ n) (hn : n ≤ 40000) :
  Calls Tryz.prog 103 #[.slice p 1 cap, .int .i64 (n : Int)] w (RepI w n z) := by
 obtain ⟨i0, hi, hz0, hz1, hz2⟩ := info_parts Tryz.infoInt9
 subst hpa
 have HC0 := Lib.hid c0
 have HBL := Lib.hid hb
 clear c0 hb
 have i1 : (0 : Int) ≤ (n : Int) := by omega
 have hw : IntKind.u64.wrap (n : Int) = (n : Int) := by rw [IntKind.wrap_u64]; omega
 go_enter Tryz.func103, Tryz.ntmps103
 go_wp2_with fail
 refine (Yd8 n _ hn).mono ?_
 rintro e w' ⟨rfl, rfl⟩
 have q2 : decide ((n : Int) > 9223372036854775807) = false := by simp; omega
 go_wp2_with (at_make; refine wpList_make_full _ rfl _ _ 74 rfl w.heap.size 3 i0 (.int .i64 0) 1 Tryz.underlying74 hi hz0 hz1 .i64 .i64 (n : Int) (n : Int) n rfl rfl rfl rfl ?c2 ?c3 ?c4 ?_)
 case c2 => rw [hz2]; omega
 case c3 => unfold maxLen; omega
 case c4 => omega
 intro w1 hown hgrow
 have hb1 : Below w.heap.size w w1 := (Below.refl _ _).grown hgrow (Nat.le_refl _) (fun k hk => by cases hk)
 have hblk := Y2j hown
 have hlt : w.heap.size < w1.heap.size := by
  rcases Nat.lt_or_ge w.heap.size w1.heap.size with h | h
  ·exact h
  ·rw [Array.getElem?_eq_none h] at hblk; cases hblk
 have hst0 : Y45 w n z 0 w1 := ⟨hb1, hlt, fun j hj => ⟨by
  have h0 : (madeCells #[Value.int .i64 0] n).toList[j]? = some (.int .i64 0) := by
   rw [Y4h, List.getElem?_replicate, if_pos hj]
  have := hown.cells (g := w.heap.size) rfl j _ h0
  rw [Y08, Nat.zero_add] at this
  rw [if_neg (by omega)]
  exact this, by simp [World.frozen?, hblk]⟩⟩
 have hc1 := (hb1.cell (p := ⟨b, off + 0, none⟩) HBL.out).trans HC0.out
 have hr1 := Y7i w w1 n 0 n n 1 cap 1 3 z ⟨b, off, none⟩ hst0 (by omega) (by omega) (fun j hj => by
  have : j = 0 := by omega
  subst this
  rw [Y08]
  exact hc1)
 have hst1 := hst0.copy (m := 1) (by omega)
 have HST := Lib.hid hst1
 clear hown hgrow hb1 hblk hlt hst0 hc1 hst1
 go_wp2_with (at_builtin; refine Y35 rfl _ _ 74 74 rfl _ _ rfl rfl hr1 ?_)
 go_wp2_with fail
 clear hr1
 go_loopw [8] (fun v wr => ∃ k : Nat, 1 ≤ k ∧ k ≤ n ∧ v = .int .i64 (k : Int) ∧ Hid (Y45 w n z k wr)) (fun v _ => n - (intOf v).toNat)
 case atStart => exact ⟨1, by omega, by omega, rfl, HST⟩
 case round =>
  obtain ⟨k, hk1, hkn, rfl, HB⟩ := hrel
  by_cases hlt : k < n
  ·have ql : decide ((k : Int) < (n : Int)) = true := by simpa using hlt
   obtain ⟨m, hm⟩ : ∃ m, m = min k (n - k) := ⟨_, rfl⟩
   have hm1 : 1 ≤ m := by omega
   have hm2 : k + m ≤ n := by omega
   have hr2 := Y7i w wr.drew n k (n - k) (n - k) k n m 3 z ⟨w.heap.size, 0, none⟩ HB.out.drew hm hm2 (fun j hj => by
    rw [Y08, Nat.zero_add, (HB.out.drew.2.2 j (by omega)).1, if_pos (by omega)])
   have HB2 := Lib.hid (HB.out.drew.copy (m := m) hm2)
   have hck : ¬ n = k := by omega
   have hwp : IntKind.i64.wrap ((k : Int) + (m : Int)) = (k : Int) + (m : Int) := IntWalk.i64_in _ (by omega)
   clear HB hm HST
   go_wp2_with fail
   go_region_law (refine Y48 rfl _ _ 74 74 rfl (.slice (some ⟨w.heap.size, k, none⟩) (n - k) (n - k)) (.slice (some ⟨w.heap.size, 0, none⟩) k n) (by simp [Act.eval, Act.put]) (by simp [Act.eval, Act.put]) hr2 ?_)
   simp only [Act.put, List.setIfInBounds_toArray, List.set_cons_zero, List.set_cons_succ, List.getElem_toArray, List.getElem_cons_zero, List.getElem_cons_succ]
   go_wp2_with fail
   go_roundw
   case rel => exact ⟨k + m, by omega, hm2, by go_num, HB2⟩
   case measure => simp [intOf]; omega
  ·have : k = n := by omega
   subst this
   have ql : decide ((k : Int) < (k : Int)) = false := by simp
   go_wp2_with fail
   go_ret
   exact ⟨rfl, HB.out⟩
def Yvq (w : World) (e : Ending) (w' : World) : Prop := (∃ r : Nat, r ≤ 300 ∧ e = .returned (.int .i64 (r : Int))) ∧ w = w'
theorem Ywt (w : World) (y : UInt8) : Yvq w (.returned (.int .i64 (wrap64 (wrap64 (y.toNat : Int))))) w := by
 have h := y.toNat_lt
 have h2 : wrap64 (y.toNat : Int) = (y.toNat : Int) := by unfold wrap64; omega
 refine ⟨⟨y.toNat, by omega, ?_⟩, rfl⟩
 rw [h2, h2]
theorem Ywu (w : World) (y : UInt8) : Yvq w (.returned (.int .i64 (wrap64 (8 + wrap64 (y.toNat : Int))))) w := by
 have h := y.toNat_lt
 have h2 : wrap64 (y.toNat : Int) = (y.toNat : Int) := by unfold wrap64; omega
 have h4 : wrap64 (8 + (y.toNat : Int)) = ((8 + y.toNat : Nat) : Int) := by unfold wrap64; omega
 refine ⟨⟨8 + y.toNat, by omega, ?_⟩, rfl⟩
 rw [h2, h4]
theorem Yp5 (w : World) (y : UInt8) : Yvq w (.returned (.int .i64 (wrap64 (16 + wrap64 (y.toNat : Int))))) w := by
 have h := y.toNat_lt
 have h2 : wrap64 (y.toNat : Int) = (y.toNat : Int) := by unfold wrap64; omega
 have h4 : wrap64 (16 + (y.toNat : Int)) = ((16 + y.toNat : Nat) : Int) := by unfold wrap64; omega
 refine ⟨⟨16 + y.toNat, by omega, ?_⟩, rfl⟩
 rw [h2, h4]
set_option maxHeartbeats 1000000 in
theorem Yhl (n : Nat) (w : World) (hn : n ≤ 100000) : Calls Tryz.prog 143 #[.int .u64 (n : Int)] w (Yvq w) := by
 have q1 : decide (4294967296 ≤ (n : Int)) = false := by simp; omega
 by_cases hbig : 65536 ≤ n
 ·have q2 : decide (65536 ≤ (n : Int)) = true := by simp; omega
  have q3 : (n : Int) / 65536 = 1 := by omega
  have q4 : n / 65536 = 1 := by omega
  go_enter Tryz.func143, Tryz.ntmps143
  go_wp2_with fail
  go_ret
  exact Yp5 _ _
 ·have q2 : decide (65536 ≤ (n : Int)) = false := by simp; omega
  go_enter Tryz.func143, Tryz.ntmps143
  go_wp2_with fail
  ·go_ret
   exact Ywu _ _
  ·go_ret
   exact Ywt _ _
theorem Yp4 (n : Nat) (w : World) (hn : n ≤ 100000) : Calls Tryz.prog 108 #[.int .u64 (n : Int)] w (Yvq w) := by
 have HL := Lib.hid (Yhl n w hn)
 go_enter Tryz.func108, Tryz.ntmps108
 go_wp2_with fail
 refine HL.out.mono ?_
 rintro e w' ⟨⟨r, hr, rfl⟩, rfl⟩
 have HR := Lib.hid hr
 clear hr
 go_wp2_with fail
 go_ret
 exact ⟨⟨r, HR.out, rfl⟩, rfl⟩
end Go.Proofs.YtkkfkmoikcmhoaaGreat.Lzt
namespace Go.Proofs.YtkkfkmoikcmhoaaGreat.Lzt
open Go.RowKit Oct
set_option maxRecDepth 100000
structure Fdr where
 xs : List UInt8
 p : Option Addr
 cap : Nat
 C : Nat
 d : Nat
 g : Nat
 h : Nat
 m : Nat
def Y3g (z : Int) (a : Nat) : Prop := z = -32769 ∨ (0 ≤ z ∧ z < (a : Int))
structure Fi (w : World) (K : Fdr) (a : Nat) : Prop where
 blk : w.heap[K.d]? = some (.cells #[.slice K.p K.xs.length K.cap, .int .i64 (K.m : Int), .slice (some ⟨K.g, 0, none⟩) (2 ^ K.m) (2 ^ K.m), .slice (some ⟨K.h, 0, none⟩) (min K.xs.length 32768) (min K.xs.length 32768)] 174 (0, 0))
 row : 0 < K.xs.length → ∃ b off, K.p = some ⟨b, off, none⟩ ∧ b < K.C ∧ ∀ i (h : i < K.xs.length), w.cell? ⟨b, off + i, none⟩ = some (.int .u8 (K.xs[i].toNat : Int))
 lat : ∀ j, j < 2 ^ K.m → (∃ z, w.cell? ⟨K.g, j, none⟩ = some (.int .i64 z) ∧ Y3g z a) ∧ w.frozen? ⟨K.g, j, none⟩ = false
 bef : ∀ j, j < min K.xs.length 32768 → (∃ z, w.cell? ⟨K.h, j, none⟩ = some (.int .i64 z) ∧ Y3g z (max a 1)) ∧ w.frozen? ⟨K.h, j, none⟩ = false
 gd : K.g ≠ K.d
 hd : K.h ≠ K.d
 gh : K.g ≠ K.h
 Cd : K.C ≤ K.d
 Cg : K.C ≤ K.g
 Ch : K.C ≤ K.h
 m15 : K.m ≤ 15
 n2 : K.xs.length ≤ 100000
 cap : K.xs.length ≤ K.cap ∧ K.cap ≤ maxLen
def Yry (K : Fdr) (k : Nat) : Prop := k = K.d ∨ k = K.g ∨ k = K.h
section
variable {w w' : World} {K : Fdr} {a : Nat}
theorem Y5m {w w' : World} {p : Addr} (h : w'.heap[p.block]? = w.heap[p.block]?) : w'.frozen? p = w.frozen? p := by simp [World.frozen?, h]
theorem Fi.c0 (h : Fi w K a) : w.cell? ⟨K.d, 0, none⟩ = some (.slice K.p K.xs.length K.cap) := by simp [World.cell?, h.blk]
theorem Fi.c1 (h : Fi w K a) : w.cell? ⟨K.d, 1, none⟩ = some (.int .i64 (K.m : Int)) := by simp [World.cell?, h.blk]
theorem Fi.c2 (h : Fi w K a) : w.cell? ⟨K.d, 2, none⟩ = some (.slice (some ⟨K.g, 0, none⟩) (2 ^ K.m) (2 ^ K.m)) := by simp [World.cell?, h.blk]
theorem Fi.c3 (h : Fi w K a) : w.cell? ⟨K.d, 3, none⟩ = some (.slice (some ⟨K.h, 0, none⟩) (min K.xs.length 32768) (min K.xs.length 32768)) := by simp [World.cell?, h.blk]
theorem Fi.dlt (h : Fi w K a) : K.d < w.heap.size := by
 rcases Nat.lt_or_ge K.d w.heap.size with hlt | hge
 ·exact hlt
 ·have := h.blk; rw [Array.getElem?_eq_none hge] at this; cases this
theorem Fi.only {S : Nat → Prop} (h : Fi w K a) (ho : Only S w w') (hd : ¬ S K.d) (hg : ¬ S K.g) (hh : ¬ S K.h) (hC : ∀ k, k < K.C → ¬ S k) : Fi w' K a := by
 refine ⟨(ho.2.2.2.2 _ h.dlt hd).trans h.blk, fun hp => ?_, fun j hj => ?_, fun j hj => ?_, h.gd, h.hd, h.gh, h.Cd, h.Cg, h.Ch, h.m15, h.n2, h.cap⟩
 ·obtain ⟨b, off, e, hlt, hc⟩ := h.row hp
  exact ⟨b, off, e, hlt, fun i hi => (World.cell?_of_block (ho.2.2.2.2 b (Y25 (hc i hi)) (hC b hlt))).trans (hc i hi)⟩
 ·obtain ⟨⟨z, hz, hp⟩, hf⟩ := h.lat j hj
  have hb := ho.2.2.2.2 K.g (Y25 hz) hg
  exact ⟨⟨z, (World.cell?_of_block hb).trans hz, hp⟩, (Y5m hb).trans hf⟩
 ·obtain ⟨⟨z, hz, hp⟩, hf⟩ := h.bef j hj
  have hb := ho.2.2.2.2 K.h (Y25 hz) hh
  exact ⟨⟨z, (World.cell?_of_block hb).trans hz, hp⟩, (Y5m hb).trans hf⟩
theorem Fi.drawn (h : Fi w K a) (hd : Drawn w w') : Fi w' K a :=
 h.only (S := fun _ => False) (Only.drawn _ hd) (fun e => e) (fun e => e) (fun e => e) (fun _ _ e => e)
theorem Fi.below (h : Fi w K a) (hb : Below w.heap.size w w') : Fi w' K a :=
 h.only (S := fun _ => False) (Only.of_below hb) (fun e => e) (fun e => e) (fun e => e) (fun _ _ e => e)
end
def Ype (x0 x1 x2 : UInt8) (m : Nat) : Int := bits BinOp.or IntKind.u32 (bits BinOp.or IntKind.u32 (x0.toNat : Int) ((x1.toNat : Int) * 256)) ((x2.toNat : Int) * 65536) * 2654435761 % 4294967296 / 2 ^ (32 - m)
theorem Yzj (Y : Int) (m : Nat) (h0 : 0 ≤ Y) (h1 : Y < 4294967296) (hm : m ≤ 15) : 0 ≤ Y / 2 ^ (32 - m) ∧ Y / 2 ^ (32 - m) < ((2 ^ m : Nat) : Int) := by
 obtain ⟨y, rfl⟩ : ∃ y : Nat, Y = (y : Int) := ⟨Y.toNat, by omega⟩
 have e : (y : Int) / 2 ^ (32 - m) = ((y / 2 ^ (32 - m) : Nat) : Int) := by push_cast; rfl
 rw [e]
 have h2 : y < 2 ^ (32 - m) * 2 ^ m := by rw [← Nat.pow_add, show 32 - m + m = 32 by omega]; omega
 have h3 := Nat.div_lt_of_lt_mul h2
 exact ⟨Int.natCast_nonneg _, Int.ofNat_lt.2 h3⟩
theorem Yje (x0 x1 x2 : UInt8) (m : Nat) (hm : m ≤ 15) : 0 ≤ Ype x0 x1 x2 m ∧ Ype x0 x1 x2 m < ((2 ^ m : Nat) : Int) :=
 Yzj _ m (Int.emod_nonneg _ (by decide)) (Int.emod_lt_of_pos _ (by decide)) hm
def markK (K : Fdr) (i : Nat) : Nat := (Ype (K.xs.getD i 0) (K.xs.getD (i + 1) 0) (K.xs.getD (i + 2) 0) K.m).toNat
theorem Yjd (K : Fdr) (i : Nat) (hm : K.m ≤ 15) : markK K i < 2 ^ K.m := by
 have h := Yje (K.xs.getD i 0) (K.xs.getD (i + 1) 0) (K.xs.getD (i + 2) 0) K.m hm
 unfold markK
 omega
theorem Yhe {xs : List UInt8} {i : Nat} (h : i < xs.length) : xs.getD i 0 = xs[i] := by
 rw [List.getD_eq_getElem?_getD, List.getElem?_eq_getElem h]
 rfl
theorem Y3y (K : Fdr) (a : Nat) (at_ : Nat) (w : World) (hF : Fi w K a) (h3 : at_ + 3 ≤ K.xs.length) :
  Calls Tryz.prog 111 #[.pointer (some ⟨K.d, 0, none⟩), .int .i64 (at_ : Int)] w fun e w' => e = .returned (.int .u32 (markK K at_ : Int)) ∧ Drawn w w' := by
 have c0 := hF.c0
 have c1 := hF.c1
 obtain ⟨b, off, hp, hlt, hc⟩ := hF.row (by omega)
 have n2 := hF.n2
 have m15 := hF.m15
 rw [hp] at c0
 have d0 := hc at_ (by omega)
 have d1 := hc (at_ + 1) (by omega)
 have d2 := hc (at_ + 2) (by omega)
 have hmk : ((markK K at_ : Nat) : Int) = Ype K.xs[at_] K.xs[at_ + 1] K.xs[at_ + 2] K.m := by
  have h := Yje (K.xs.getD at_ 0) (K.xs.getD (at_ + 1) 0) (K.xs.getD (at_ + 2) 0) K.m m15
  rw [← Yhe (show at_ < K.xs.length by omega), ← Yhe (show at_ + 1 < K.xs.length by omega), ← Yhe (show at_ + 2 < K.xs.length by omega)]
  unfold markK
  omega
 rw [hmk]
 generalize K.xs[at_]'(by omega) = x0 at d0 ⊢
 generalize K.xs[at_ + 1]'(by omega) = x1 at d1 ⊢
 generalize K.xs[at_ + 2]'(by omega) = x2 at d2 ⊢
 obtain ⟨n, hn⟩ : ∃ n, n = K.xs.length := ⟨_, rfl⟩
 obtain ⟨m, hm⟩ : ∃ m, m = K.m := ⟨_, rfl⟩
 rw [← hn] at c0 h3 n2
 rw [← hm] at c1 m15 ⊢
 have y0 := x0.toNat_lt
 have y1 := x1.toNat_lt
 have y2 := x2.toNat_lt
 clear hc hF hlt hp hn hm hmk
 have i0 : (0 : Int) ≤ (at_ : Int) := by omega
 have i1 : (at_ : Int) < (n : Int) := by omega
 have i2 : (at_ : Int) + 1 < (n : Int) := by omega
 have i3 : (at_ : Int) + 2 < (n : Int) := by omega
 have i4 : ((at_ + 1 : Nat) : Int) < (n : Int) := by omega
 have i5 : ((at_ + 2 : Nat) : Int) < (n : Int) := by omega
 unfold Ype
 obtain ⟨Z, hZ⟩ : ∃ Z, bits BinOp.or IntKind.u32 (bits BinOp.or IntKind.u32 (x0.toNat : Int) ((x1.toNat : Int) * 256)) ((x2.toNat : Int) * 65536) = Z := ⟨_, rfl⟩
 rw [hZ]
 have HZ := Lib.hid hZ
 clear hZ
 go_enter Tryz.func111, Tryz.ntmps111
 go_wp2_with fail
 go_quiet (fail)
 rw [HZ.out]
 have j1 : (0 : Int) ≤ 32 - (m : Int) := by omega
 have j2 : ((32 : Int) - (m : Int)).toNat = 32 - m := by omega
 go_wp2_with fail
 go_ret
 exact ⟨rfl, _, rfl⟩
def Y3s (w : World) (K : Fdr) (at_ : Nat) (z : Int) : Prop := if K.xs.length < at_ + 3 then z = -32769 else w.cell? ⟨K.g, markK K at_, none⟩ = some (.int .i64 z)
theorem Yt4 (K : Fdr) (a : Nat) (at_ : Nat) (w : World) (hF : Fi w K a) (h3 : at_ ≤ K.xs.length) :
  Calls Tryz.prog 109 #[.pointer (some ⟨K.d, 0, none⟩), .int .i64 (at_ : Int)] w fun e w' => (∃ z : Int, Y3g z a ∧ Y3s w K at_ z ∧ e = .returned (.int .i64 z)) ∧ Drawn w w' := by
 have c0 := hF.c0
 have c2 := hF.c2
 have n2 := hF.n2
 have m15 := hF.m15
 obtain ⟨n, hn⟩ : ∃ n, n = K.xs.length := ⟨_, rfl⟩
 rw [← hn] at c0 h3 n2
 by_cases hlt : n < at_ + 3
 ·have q : decide ((n : Int) - (at_ : Int) < 3) = true := by rw [decide_eq_true_eq]; omega
  have HFP : Hid (Y3s w K at_ (-32769)) := Lib.hid (by unfold Y3s; rw [← hn, if_pos hlt])
  clear hF c2 hn
  go_enter Tryz.func109, Tryz.ntmps109
  go_wp2_with fail
  go_ret
  exact ⟨⟨-32769, .inl rfl, HFP.out, rfl⟩, 0, rfl⟩
 ·have q : decide ((n : Int) - (at_ : Int) < 3) = false := by rw [decide_eq_false_iff_not]; omega
  have hk := Yjd K at_ m15
  have HM : Hid (∀ N, Calls Tryz.prog 111 #[.pointer (some ⟨K.d, 0, none⟩), .int .i64 (at_ : Int)] (w.drewN N) fun e w' => e = .returned (.int .u32 (markK K at_ : Int)) ∧ ∃ M, w' = w.drewN M) :=
   Lib.hid fun N => (Y3y K a at_ (w.drewN N) (hF.drawn ⟨N, rfl⟩) (by rw [← hn]; omega)).mono fun e w' ⟨h, M, hM⟩ => ⟨h, N + M, by rw [hM, World.drewN_drewN]⟩
  obtain ⟨⟨z, hz, hp⟩, _⟩ := hF.lat _ hk
  have HFP : Hid (Y3s w K at_ z) := Lib.hid (by unfold Y3s; rw [← hn, if_neg hlt]; exact hz)
  obtain ⟨L, hL⟩ : ∃ L, L = 2 ^ K.m := ⟨_, rfl⟩
  rw [← hL] at hk c2
  obtain ⟨k, hkk⟩ : ∃ k, k = markK K at_ := ⟨_, rfl⟩
  rw [← hkk] at hk hz HM
  have HP := Lib.hid hp
  have i0 : (0 : Int) ≤ (k : Int) := by omega
  have i1 : (k : Int) < (L : Int) := by omega
  clear hF hn hL hkk hp
  go_enter Tryz.func109, Tryz.ntmps109
  go_wp2_with fail
  go_quiet ((go_at_call 111; exact HM.out _))
  go_wp2_with fail
  go_ret
  exact ⟨⟨z, HP.out, HFP.out, rfl⟩, _, rfl⟩
end Go.Proofs.YtkkfkmoikcmhoaaGreat.Lzt
namespace Go.Proofs.YtkkfkmoikcmhoaaGreat.Lzt
open Go.RowKit Oct
set_option maxRecDepth 100000
theorem Y3g.mono {z : Int} {a b : Nat} (h : Y3g z a) (hab : a ≤ b) : Y3g z b := by
 rcases h with h | ⟨h1, h2⟩
 ·exact .inl h
 ·exact .inr ⟨h1, by omega⟩
theorem Fi.more {w : World} {K : Fdr} {a b : Nat} (h : Fi w K a) (hab : a ≤ b) : Fi w K b :=
 ⟨h.blk, h.row, fun j hj => by
  obtain ⟨⟨z, hz, hp⟩, hf⟩ := h.lat j hj
  exact ⟨⟨z, hz, hp.mono hab⟩, hf⟩, fun j hj => by
  obtain ⟨⟨z, hz, hp⟩, hf⟩ := h.bef j hj
  exact ⟨⟨z, hz, hp.mono (by omega)⟩, hf⟩, h.gd, h.hd, h.gh, h.Cd, h.Cg, h.Ch, h.m15, h.n2, h.cap⟩
theorem Y2o {w : World} {p q : Addr} {u : Value} (h : p.block ≠ q.block) : (w.setCell p u).heap[q.block]? = w.heap[q.block]? := Below.heap_setCell _ _ _ _ (fun e => h e.symm)
theorem Yir {w : World} {b i j : Nat} {u v : Value} (h : w.cell? ⟨b, i, none⟩ = some v) : (w.setCell ⟨b, i, none⟩ u).cell? ⟨b, j, none⟩ = if i = j then some u else w.cell? ⟨b, j, none⟩ := by
 by_cases e : i = j
 ·subst e
  rw [if_pos rfl]
  exact World.cell?_setCell_same _ _ _ h
 ·rw [if_neg e]
  exact World.cell?_setCell_other _ _ _ _ (fun h => e (by injection h))
theorem Fi.setBef {w : World} {K : Fdr} {a i : Nat} {z : Int} (h : Fi w K a) (hi : i < min K.xs.length 32768) (hz : Y3g z a) : Fi (w.setCell ⟨K.h, i, none⟩ (.int .i64 z)) K a := by
 obtain ⟨⟨y, hy, _⟩, _⟩ := h.bef i hi
 refine ⟨?_, fun hp => ?_, fun j hj => ?_, fun j hj => ?_, h.gd, h.hd, h.gh, h.Cd, h.Cg, h.Ch, h.m15, h.n2, h.cap⟩
 ·exact (Y2o (q := ⟨K.d, 0, none⟩) (by exact h.hd)).trans h.blk
 ·obtain ⟨b, off, e, hlt, hc⟩ := h.row hp
  refine ⟨b, off, e, hlt, fun i hi => (World.cell?_of_block (Y2o (by show K.h ≠ b; have := h.Ch; omega))).trans (hc i hi)⟩
 ·obtain ⟨⟨x, hx, hp⟩, hf⟩ := h.lat j hj
  have hb := Y2o (w := w) (p := ⟨K.h, i, none⟩) (q := ⟨K.g, j, none⟩) (u := .int .i64 z) (fun e => h.gh e.symm)
  exact ⟨⟨x, (World.cell?_of_block hb).trans hx, hp⟩, (Y5m hb).trans hf⟩
 ·obtain ⟨⟨x, hx, hp⟩, hf⟩ := h.bef j hj
  refine ⟨?_, by rw [World.frozen?_setCell]; exact hf⟩
  rw [Yir hy]
  by_cases e : i = j
  ·exact ⟨z, by rw [if_pos e], hz.mono (by omega)⟩
  ·exact ⟨x, by rw [if_neg e]; exact hx, hp⟩
theorem Fi.setLat {w : World} {K : Fdr} {a i : Nat} {z : Int} (h : Fi w K a) (hi : i < 2 ^ K.m) (hz : Y3g z a) : Fi (w.setCell ⟨K.g, i, none⟩ (.int .i64 z)) K a := by
 obtain ⟨⟨y, hy, _⟩, _⟩ := h.lat i hi
 refine ⟨?_, fun hp => ?_, fun j hj => ?_, fun j hj => ?_, h.gd, h.hd, h.gh, h.Cd, h.Cg, h.Ch, h.m15, h.n2, h.cap⟩
 ·exact (Y2o (q := ⟨K.d, 0, none⟩) (by exact h.gd)).trans h.blk
 ·obtain ⟨b, off, e, hlt, hc⟩ := h.row hp
  refine ⟨b, off, e, hlt, fun i hi => (World.cell?_of_block (Y2o (by show K.g ≠ b; have := h.Cg; omega))).trans (hc i hi)⟩
 ·obtain ⟨⟨x, hx, hp⟩, hf⟩ := h.lat j hj
  refine ⟨?_, by rw [World.frozen?_setCell]; exact hf⟩
  rw [Yir hy]
  by_cases e : i = j
  ·exact ⟨z, by rw [if_pos e], hz⟩
  ·exact ⟨x, by rw [if_neg e]; exact hx, hp⟩
 ·obtain ⟨⟨x, hx, hp⟩, hf⟩ := h.bef j hj
  have hb := Y2o (w := w) (p := ⟨K.g, i, none⟩) (q := ⟨K.h, j, none⟩) (u := .int .i64 z) (fun e => h.gh e)
  exact ⟨⟨x, (World.cell?_of_block hb).trans hx, hp⟩, (Y5m hb).trans hf⟩
set_option maxHeartbeats 2000000 in
theorem Yo2 (K : Fdr) (a : Nat) (w : World) (hF : Fi w K a) (h3 : a < K.xs.length) :
  Calls Tryz.prog 79 #[.pointer (some ⟨K.d, 0, none⟩), .int .i64 (a : Int)] w fun e w' => e = .returned (.tuple #[]) ∧ Fi w' K (a + 1) ∧ Only (Yry K) w w' ∧ (a + 3 ≤ K.xs.length → w'.cell? ⟨K.g, markK K a, none⟩ = some (.int .i64 (a : Int))) := by
 have c0 := hF.c0
 have n2 := hF.n2
 have m15 := hF.m15
 obtain ⟨n, hn⟩ : ∃ n, n = K.xs.length := ⟨_, rfl⟩
 have HF := Lib.hid hF
 rw [← hn] at c0 h3 n2
 by_cases hlt : n < a + 3
 ·have q : decide ((n : Int) - (a : Int) < 3) = true := by rw [decide_eq_true_eq]; omega
  have HNN := Lib.hid hn
  clear hF hn
  go_enter Tryz.func79, Tryz.ntmps79
  go_wp2_with fail
  refine bodyPost_ret (results_none rfl _ _ _) rfl ?_
  exact ⟨rfl, HF.out.more (by omega), Only.refl _ _, fun h => by have := HNN.out; omega⟩
 ·have q : decide ((n : Int) - (a : Int) < 3) = false := by rw [decide_eq_false_iff_not]; omega
  have hk := Yjd K a m15
  have HM := Lib.hid (Y3y K a a w hF (by rw [← hn]; omega))
  obtain ⟨L, hL⟩ : ∃ L, L = 2 ^ K.m := ⟨_, rfl⟩
  have HL := Lib.hid hL
  have HN := Lib.hid hn
  rw [← hL] at hk
  obtain ⟨k, hkk⟩ : ∃ k, k = markK K a := ⟨_, rfl⟩
  rw [← hkk] at hk HM
  have i0 : (0 : Int) ≤ (k : Int) := by omega
  have i1 : (k : Int) < (L : Int) := by omega
  obtain ⟨nb, hnb⟩ : ∃ nb, nb = min n 32768 := ⟨_, rfl⟩
  have HNB : Hid (nb = min K.xs.length 32768) := Lib.hid (by rw [hnb, hn])
  obtain ⟨ar, har⟩ : ∃ ar, ar = a % 32768 := ⟨_, rfl⟩
  have har2 : ar < nb := by omega
  have i2 : (0 : Int) ≤ (ar : Int) := by omega
  have i3 : (ar : Int) < (nb : Int) := by omega
  have hrem : (a : Int).tmod 32768 = (ar : Int) := by
   rw [har, Int.tmod_eq_emod_of_nonneg (by omega)]
   omega
  have HKK := Lib.hid hkk
  clear hF hn hL hkk hnb har
  go_enter Tryz.func79, Tryz.ntmps79
  go_wp2_with fail
  refine HM.out.mono ?_
  rintro e w1 ⟨rfl, hd1⟩
  have HF1 := Lib.hid (HF.out.drawn hd1)
  have HO1 := Lib.hid (Only.drawn (Yry K) hd1)
  clear hd1 c0
  obtain ⟨⟨z, hz, hp⟩, hfz⟩ := HF1.out.lat k (by rw [← HL.out]; exact hk)
  obtain ⟨⟨y, hy, _⟩, hfy⟩ := HF1.out.bef ar (by rw [← HNB.out]; exact har2)
  have HP := Lib.hid hp
  have c2 := HF1.out.c2
  have c3 := HF1.out.c3
  rw [← HL.out] at c2
  rw [← HNB.out] at c3
  clear hp
  go_wp2_with fail
  go_region
  have HF2 := Lib.hid ((HF1.out.setBef (i := ar) (z := z) (by rw [← HNB.out]; exact har2) HP.out).drawn (w' := (w1.setCell ⟨K.h, ar, none⟩ (.int .i64 z)).drew) ⟨1, rfl⟩)
  have HO2 := Lib.hid ((HO1.out.trans (Only.setCell (p := ⟨K.h, ar, none⟩) (.inr (.inr rfl)) (.int .i64 z))).trans (Only.drawn (Yry K) (w' := (w1.setCell ⟨K.h, ar, none⟩ (.int .i64 z)).drew) ⟨1, rfl⟩))
  clear c2 c3 hz hfz hy hfy
  generalize (w1.setCell ⟨K.h, ar, none⟩ (.int .i64 z)).drew = w2 at HF2 HO2 ⊢
  obtain ⟨⟨z2, hz, _⟩, hfz⟩ := HF2.out.lat k (by rw [← HL.out]; exact hk)
  have c2 := HF2.out.c2
  rw [← HL.out] at c2
  go_wp2_with fail
  go_end0
  refine ⟨rfl, (HF2.out.more (Nat.le_succ a)).setLat (by rw [← HL.out]; exact hk) (.inr ⟨by omega, by omega⟩), HO2.out.trans (Only.setCell (p := ⟨K.g, k, none⟩) (.inr (.inl rfl)) _), fun _ => by rw [← HKK.out]; exact World.cell?_setCell_same _ _ _ hz⟩
def eqN : List UInt8 → List UInt8 → Nat
 | x :: xs, y :: ys => if x = y then eqN xs ys + 1 else 0
 | _, _ => 0
theorem Yo4 : ∀ xs ys : List UInt8, eqN xs ys ≤ ys.length
 | [], ys => Nat.zero_le _
 | x :: xs, [] => Nat.le_refl _
 | x :: xs, y :: ys => by
  unfold eqN
  have := Yo4 xs ys
  split
  ·simp; omega
  ·simp
theorem Yj1 : ∀ (xs ys : List UInt8) (k : Nat), k < eqN xs ys → xs[k]? = ys[k]?
 | [], ys, k, h => by simp [eqN] at h
 | x :: xs, [], k, h => by simp [eqN] at h
 | x :: xs, y :: ys, k, h => by
  unfold eqN at h
  split at h
  ·rename_i e
   subst e
   cases k with
   | zero => rfl
   | succ k => exact Yj1 xs ys k (by omega)
  ·omega
theorem Yj0 {x y : UInt8} {xs ys : List UInt8} : eqN (x :: xs) (y :: ys) = if x = y then eqN xs ys + 1 else 0 := rfl
theorem Yo5 (xs : List UInt8) : eqN xs [] = 0 := by cases xs <;> rfl
set_option maxHeartbeats 2000000 in
theorem Yl4 (p1 p2 : Option Addr) (l1 c1 l2 c2 : Nat) (xs ys : List UInt8) (w : World) (h1 : Row w p1 xs) (h2 : Row w p2 ys) (e1 : xs.length = l1) (e2 : ys.length = l2) (hl : l2 ≤ l1) (hb : l1 ≤ 100000) :
  Calls Tryz.prog 110 #[.slice p1 l1 c1, .slice p2 l2 c2] w fun e w' => e = .returned (.int .i64 (eqN xs ys : Int)) ∧ Drawn w w' := by
 have H1 := Lib.hid h1
 have H2 := Lib.hid h2
 have E1 := Lib.hid e1
 have E2 := Lib.hid e2
 clear h1 h2 e1 e2
 go_enter Tryz.func110, Tryz.ntmps110
 go_wp2_with fail
 go_loopw [5] (fun i wr => ∃ k : Nat, k ≤ l2 ∧ i = .int .i64 (k : Int) ∧ Hid (k + eqN (xs.drop k) (ys.drop k) = eqN xs ys) ∧ Hid (Drawn w wr)) (fun i _ => l2 - (intOf i).toNat)
 case atStart => exact ⟨0, by omega, rfl, Lib.hid (by simp), Lib.hid ⟨0, rfl⟩⟩
 case round =>
  obtain ⟨k, hk, rfl, HE, HD⟩ := hrel
  by_cases hlt : k < l2
  ·have ql : decide ((k : Int) < (l2 : Int)) = true := by simpa using hlt
   have hx : k < xs.length := by rw [E1.out]; omega
   have hy : k < ys.length := by rw [E2.out]; exact hlt
   obtain ⟨b1, o1, rfl, hb1, hc1⟩ := (H1.out.below (HD.out.below _)) (by omega)
   obtain ⟨b2, o2, rfl, hb2, hc2⟩ := (H2.out.below (HD.out.below _)) (by omega)
   have d1 := hc1 k hx
   have d2 := hc2 k hy
   have he := HE.out
   rw [List.drop_eq_getElem_cons hx, List.drop_eq_getElem_cons hy, Yj0] at he
   generalize xs[k] = x at d1 he
   generalize ys[k] = y at d2 he
   have i0 : (0 : Int) ≤ (k : Int) := by omega
   have i1 : (k : Int) < (l1 : Int) := by omega
   have i2 : (k : Int) < (l2 : Int) := by omega
   by_cases hxy : x = y
   ·subst hxy
    rw [if_pos rfl] at he
    have HE2 : Hid (k + 1 + eqN (xs.drop (k + 1)) (ys.drop (k + 1)) = eqN xs ys) := Lib.hid (by omega)
    have qe : ((x.toNat : Int) == (x.toNat : Int)) = true := by simp
    clear he hc1 hc2 HE
    go_wp2_with fail
    go_quiet (fail)
    go_wp2_with fail
    go_roundw
    case rel => exact ⟨k + 1, by omega, by first | rfl | (push_cast; rfl), HE2, Lib.hid (HD.out.more _)⟩
    case measure => simp [intOf]; omega
   ·rw [if_neg hxy] at he
    have HE2 := Lib.hid he
    have qe : ((x.toNat : Int) == (y.toNat : Int)) = false := by
     rw [beq_eq_false_iff_ne]
     intro h
     exact hxy (UInt8.toNat_inj.1 (by omega))
    clear he hc1 hc2 HE hxy
    go_wp2_with fail
    go_quiet (fail)
    go_wp2_with fail
    go_ret
    refine ⟨?_, HD.out.more _⟩
    rw [← HE2.out]
    rfl
  ·have hkn : k = l2 := by omega
   have ql : decide ((k : Int) < (l2 : Int)) = false := by simp; omega
   have he := HE.out
   rw [show ys.drop k = [] from List.drop_eq_nil_of_le (by rw [E2.out]; omega), Yo5] at he
   have HE2 := Lib.hid he
   clear he HE
   go_wp2_with fail
   go_quiet (fail)
   go_wp2_with fail
   go_ret
   refine ⟨?_, HD.out.more _⟩
   rw [← HE2.out]
   rfl
end Go.Proofs.YtkkfkmoikcmhoaaGreat.Lzt

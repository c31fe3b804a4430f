/- IgG, IgH, IgI, IgJ, HfR, IfA: merged. -/
import Derived.Laws.Externs
import Derived.Laws.IdiomCopy
import Derived.Lib.EndianMore
import Derived.LoopTactic
import Derived.Test.YtkkfkmoikcmhoaaGreatPaf
import Derived.Test.YtkkfkmoikcmhoaaGreatPaj
import Derived.Test.YtkkfkmoikcmhoaaGreatPak
set_option linter.unusedVariables false
set_option linter.unusedSimpArgs false
namespace Go.Proofs.YtkkfkmoikcmhoaaGreat.Inf
open Go.RowKit Go.Shelf Oct Bit Hf
set_option maxRecDepth 100000
theorem Y9v (c : Nat) (hc : c ≤ 1000) : bits .and .u64 (c : Int) 4294967295 = (c : Int) := by
 rw [show (4294967295 : Int) = ((4294967295 : Nat) : Int) from rfl, u64_and_nat c 4294967295 (by omega) (by omega)]
 congr 1
 rw [show (4294967295 : Nat) = 2 ^ 32 - 1 from rfl, Nat.and_two_pow_sub_one_eq_mod]
 omega
theorem Y8r (c : Nat) (w : World) (hc : c ≤ 1000) :
  Calls Tryz.prog 153 #[.int .u64 1, .int .u64 (c : Int)] w fun e w' => e = .returned (.tuple #[.int .u64 0, .int .u64 (c : Int)]) ∧ w = w' := by
 have h1 : bits .and .u64 1 4294967295 = 1 := by decide
 have h0 : bits .and .u64 0 4294967295 = 0 := by decide
 have h2 := Y9v c hc
 have h3 : (c : Int) / 4294967296 = 0 := by omega
 go_enter Tryz.func153, Tryz.ntmps153
 go_wp2
 go_ret2
 exact ⟨rfl, rfl⟩
theorem Ydj (c : Nat) (w : World) (hc : c ≤ 1000) :
  Calls Tryz.prog 133 #[.int .u64 1, .int .u64 (c : Int)] w fun e w' => e = .returned (.tuple #[.int .u64 0, .int .u64 (c : Int)]) ∧ w = w' := by
 go_enter Tryz.func133, Tryz.ntmps133
 go_wp2_with fail
 refine (Y8r _ _ hc).mono ?_
 rintro e w' ⟨rfl, rfl⟩
 go_wp2_with fail
 go_ret2
 exact ⟨rfl, rfl⟩
theorem Y4l {P : Program} {ops : Array Oper} {o : Oper} {a : Act} {w : World} {K : Act → World → Prop} {Q : Exit → Act → World → Prop} {E : Prop}
  (hg : o.guard = none) (d x : Operand) (dT sT : TypeId) (hop : o.op = Op.call { callee := Callee.builtin Builtin.copy, args := #[d, x], argTypes := #[dT, sT] })
  (v u : Value) (hd : a.eval d = v) (hx : a.eval x = u) {v' : Value} {w' : World} (hr : (Builtin.copy_ #[dT, sT] o.type #[v, u]).run P w = .ok v' w') (hK : K (a.put o.dst v') w') :
  if Region.wanted o (yielded ops a.tmps) = true then Oper.wp P o a w K Q else E := by
 have hw : Region.wanted o (yielded ops a.tmps) = true := by simp [Region.wanted, hg]
 rw [if_pos hw]
 unfold Oper.wp execOp
 simp only [hop, resolve, invoke, builtin, Sem.run_bind, Sem.run_pure, Result.andThen_ok, List.map_toArray, List.map_cons, List.map_nil, hd, hx, hr]
 exact hK
theorem Y3e {P : Program} {w : World} {ops : Array Oper} {rest : List Oper} {o : Oper} {a : Act} {Q : Exit → Act → World → Prop}
  (hg : o.guard = none) (d x : Operand) (dT sT : TypeId) (hop : o.op = Op.call { callee := Callee.builtin Builtin.copy, args := #[d, x], argTypes := #[dT, sT] })
  (v u : Value) (hd : a.eval d = v) (hx : a.eval x = u) {v' : Value} {w' : World} (hr : (Builtin.copy_ #[dT, sT] o.type #[v, u]).run P w = .ok v' w') (hK : wpList P ops Q rest (a.put o.dst v') w') : wpList P ops Q (o :: rest) a w := by
 refine wpList_plain hg fun K hK' => ?_
 unfold Oper.wp execOp
 simp only [hop, resolve, invoke, builtin, Sem.run_bind, Sem.run_pure, Result.andThen_ok, List.map_toArray, List.map_cons, List.map_nil, hd, hx, hr]
 exact hK' _ _ hK
theorem Y4s (z : Value) (n : Nat) : (madeCells #[z] n).toList = List.replicate n z := by
 simp [madeCells]
 apply List.ext_getElem <;> simp [Nat.mod_one]
def Y4j (w : World) (n : Nat) (z : Int) (k : Nat) (wr : World) : Prop :=
 Below w.heap.size w wr ∧ w.heap.size < wr.heap.size ∧ ∀ j, j < n → wr.cell? ⟨w.heap.size, j, none⟩ = some (.int .i64 (if j < k then z else 0)) ∧ wr.frozen? ⟨w.heap.size, j, none⟩ = false
theorem Y4j.drew {w wr : World} {n : Nat} {z : Int} {k : Nat} (h : Y4j w n z k wr) : Y4j w n z k wr.drew := ⟨h.1.trans ((show Drawn wr wr.drew from ⟨1, rfl⟩).below _), h.2⟩
theorem Y2l (b : Nat) : ∀ (vs : List Value) (o : Nat) (w : World), (w.setCells b o vs).heap.size = w.heap.size
 | [], _, _ => rfl
 | v :: r, o, w => by rw [World.setCells, Y2l b r]; simp [World.setCell]
theorem Y4j.copy {w wr : World} {n : Nat} {z : Int} {k m : Nat} (h : Y4j w n z k wr) (hkm : k + m ≤ n) : Y4j w n z (k + m) (wr.setCells w.heap.size k (List.replicate m (.int .i64 z))) := by
 have hin := World.cell?_setCells_in w.heap.size (List.replicate m (Value.int .i64 z)) k wr (fun j hj => by rw [List.length_replicate] at hj; rw [(h.2.2 (k + j) (by omega)).1]; rfl)
 have hout := World.cell?_setCells_out w.heap.size (List.replicate m (Value.int .i64 z)) k wr
 refine ⟨h.1.trans (Lib.below_setCells_w (Nat.le_refl _) _ _ _), by rw [Y2l]; exact h.2.1, fun j hj => ⟨?_, ?_⟩⟩
 ·by_cases h1 : k ≤ j ∧ j < k + m
  ·obtain ⟨d, rfl⟩ : ∃ d, j = k + d := ⟨j - k, by omega⟩
   rw [hin d (by rw [List.length_replicate]; omega), if_pos h1.2]
   simp
  ·rw [hout ⟨w.heap.size, j, none⟩ (fun _ _ => by rw [List.length_replicate]; show j < _ ∨ _ ≤ j; omega), (h.2.2 j hj).1]
   by_cases h2 : j < k
   ·rw [if_pos h2, if_pos (by omega)]
   ·rw [if_neg h2, if_neg (by omega)]
 ·rw [World.frozen?_setCells]
  exact (h.2.2 j hj).2
theorem Y83 : (Tryz.prog.info? 3).map (·.size) = some 1 := by kernel_rfl
theorem Y7x (w wr : World) (n k l1 c1 l2 c2 m ty : Nat) (z : Int) (a : Addr) (h : Y4j w n z k wr) (hm : m = min l2 l1) (hkm : k + m ≤ n) (hs : ∀ j, j < m → wr.cell? (a.add j) = some (.int .i64 z)) :
  (Builtin.copy_ #[74, 74] ty #[.slice (some ⟨w.heap.size, k, none⟩) l1 c1, .slice (some a) l2 c2]).run Tryz.prog wr = .ok (.int .i64 (m : Int)) (wr.setCells w.heap.size k (List.replicate m (.int .i64 z))) := by
 have hr := run_copy_cells (P := Tryz.prog) wr 74 74 ty 3 w.heap.size k l1 c1 a l2 c2 (List.replicate m (Value.int .i64 z)) Tryz.underlying74 Y83 (by rw [List.length_replicate]; exact hm)
  (fun j u hj => by
   rw [List.getElem?_replicate] at hj
   split at hj
   ·injection hj with hj
    subst hj
    exact hs j (by assumption)
   ·cases hj)
  (fun j hj => by rw [List.length_replicate] at hj; rw [(h.2.2 (k + j) (by omega)).1]; rfl)
  (fun j hj => by rw [List.length_replicate] at hj; exact (h.2.2 (k + j) (by omega)).2)
  (fun u hu => by rw [List.eq_of_mem_replicate hu]; rfl)
 rw [List.length_replicate] at hr
 exact hr
def RepI (w : World) (n : Nat) (z : Int) (e : Ending) (w' : World) : Prop :=
 e = .returned (.slice (some ⟨w.heap.size, 0, none⟩) n n) ∧ Below w.heap.size w w' ∧ VRow w' w'.heap.size (some ⟨w.heap.size, 0, none⟩) (ints (List.replicate n z))
set_option maxHeartbeats 4000000 in
theorem Yvc (p : Option Addr) (cap : Nat) (z : Int) (n : Nat) (w : World) (hr : VRow w w.heap.size p (ints [z])) (h1 : 1 ≤ n) (hn : n ≤ 1000) :
  Calls Tryz.prog 103 #[.slice p 1 cap, .int .i64 (n : Int)] w (RepI w n z) := by
 obtain ⟨i0, hi, hz0, hz1, hz2⟩ := info_parts Tryz.infoInt
 obtain ⟨b, off, rfl, hb⟩ := hr.addr (by simp [ints])
 have c0 := hr.int 0 (by simp)
 have HC0 := Lib.hid c0
 have HBL := Lib.hid hb
 clear c0 hr hb
 have i1 : (0 : Int) ≤ (n : Int) := by omega
 have hw : IntKind.u64.wrap (n : Int) = (n : Int) := by rw [IntKind.wrap_u64]; omega
 go_enter Tryz.func103, Tryz.ntmps103
 go_wp2_with fail
 refine (Ydj n _ hn).mono ?_
 rintro e w' ⟨rfl, rfl⟩
 have q2 : decide ((n : Int) > 9223372036854775807) = false := by simp; omega
 go_wp2_with (at_make; refine wpList_make_full _ rfl _ _ 74 rfl w.heap.size 3 i0 (.int .i64 0) 1 Tryz.underlying74 hi hz0 hz1 .i64 .i64 (n : Int) (n : Int) n rfl rfl rfl rfl ?c2 ?c3 ?c4 ?_)
 case c2 => rw [hz2]; omega
 case c3 => unfold maxLen; omega
 case c4 => omega
 intro w1 hown hgrow
 have hb1 : Below w.heap.size w w1 := (Below.refl _ _).grown hgrow (Nat.le_refl _) (fun k hk => by cases hk)
 have hblk := Y2s hown
 have hlt : w.heap.size < w1.heap.size := by
  rcases Nat.lt_or_ge w.heap.size w1.heap.size with h | h
  ·exact h
  ·rw [Array.getElem?_eq_none h] at hblk; cases hblk
 have hst0 : Y4j w n z 0 w1 := ⟨hb1, hlt, fun j hj => ⟨by
  have h0 : (madeCells #[Value.int .i64 0] n).toList[j]? = some (.int .i64 0) := by
   rw [Y4s, List.getElem?_replicate, if_pos hj]
  have := hown.cells (g := w.heap.size) rfl j _ h0
  rw [Y08, Nat.zero_add] at this
  rw [if_neg (by omega)]
  exact this, by simp [World.frozen?, hblk]⟩⟩
 have hc1 := (hb1.cell (p := ⟨b, off + 0, none⟩) HBL.out).trans HC0.out
 have hr1 := Y7x w w1 n 0 n n 1 cap 1 3 z ⟨b, off, none⟩ hst0 (by omega) (by omega) (fun j hj => by
  have : j = 0 := by omega
  subst this
  rw [Y08]
  exact hc1)
 have hst1 := hst0.copy (m := 1) (by omega)
 have HST := Lib.hid hst1
 clear hown hgrow hb1 hblk hlt hst0 hc1 hst1
 go_wp2_with (at_builtin; refine Y3e rfl _ _ 74 74 rfl _ _ rfl rfl hr1 ?_)
 go_wp2_with fail
 clear hr1
 go_loopw [8] (fun v wr => ∃ k : Nat, 1 ≤ k ∧ k ≤ n ∧ v = .int .i64 (k : Int) ∧ Hid (Y4j w n z k wr)) (fun v _ => n - (intOf v).toNat)
 case atStart => exact ⟨1, by omega, by omega, rfl, HST⟩
 case round =>
  obtain ⟨k, hk1, hkn, rfl, HB⟩ := hrel
  by_cases hlt : k < n
  ·have ql : decide ((k : Int) < (n : Int)) = true := by simpa using hlt
   obtain ⟨m, hm⟩ : ∃ m, m = min k (n - k) := ⟨_, rfl⟩
   have hm1 : 1 ≤ m := by omega
   have hm2 : k + m ≤ n := by omega
   have hr2 := Y7x w wr.drew n k (n - k) (n - k) k n m 3 z ⟨w.heap.size, 0, none⟩ HB.out.drew hm hm2 (fun j hj => by
    rw [Y08, Nat.zero_add, (HB.out.drew.2.2 j (by omega)).1, if_pos (by omega)])
   have HB2 := Lib.hid (HB.out.drew.copy (m := m) hm2)
   have hck : ¬ n = k := by omega
   have hwp : IntKind.i64.wrap ((k : Int) + (m : Int)) = (k : Int) + (m : Int) := IntWalk.i64_in _ (by omega)
   clear HB hm HST
   go_wp2_with fail
   go_region_law (refine Y4l rfl _ _ 74 74 rfl (.slice (some ⟨w.heap.size, k, none⟩) (n - k) (n - k)) (.slice (some ⟨w.heap.size, 0, none⟩) k n) (by simp [Act.eval, Act.put]) (by simp [Act.eval, Act.put]) hr2 ?_)
   simp only [Act.put, List.setIfInBounds_toArray, List.set_cons_zero, List.set_cons_succ, List.getElem_toArray, List.getElem_cons_zero, List.getElem_cons_succ]
   go_wp2_with fail
   go_roundw
   case rel => exact ⟨k + m, by omega, hm2, by go_num, HB2⟩
   case measure => simp [intOf]; omega
  ·have : k = n := by omega
   subst this
   have ql : decide ((k : Int) < (k : Int)) = false := by simp
   go_wp2_with fail
   go_ret
   refine ⟨rfl, HB.out.1, fun _ => ⟨w.heap.size, 0, rfl, HB.out.2.1, fun i hi => ?_⟩⟩
   have hi' : i < k := by simpa [ints] using hi
   rw [Nat.zero_add, (HB.out.2.2 i hi').1, if_pos hi']
   simp [ints]
end Go.Proofs.YtkkfkmoikcmhoaaGreat.Inf
namespace Go.Proofs.YtkkfkmoikcmhoaaGreat.Inf
open Go.RowKit Go.Shelf Oct Bit Hf
set_option maxRecDepth 100000
def renI : Ren := ⟨fun n => if n = 4 then 132 else n, fun n => if n = 22 then 74 else if n = 25 then 3 else if n = 3 then 3 else if n = 4 then 4 else if n = 9 then 9 else if n = 20 then 20 else n, fun n => n⟩
theorem X0o : Lays8.n4 Tryz.prog renI where
 mixed := by kernel_rfl
 f4 := ⟨ "slices.Grow[[]int,int]", by kernel_rfl, by kernel_rfl⟩
 t0 := by kernel_rfl
 a0 _ := by kernel_rfl
 z0 _ := by kernel_rfl
 v0 _ := by kernel_rfl
 t3 := by kernel_rfl
 a3 _ := by kernel_rfl
 z3 _ := by kernel_rfl
 v3 _ := by kernel_rfl
 t4 := by kernel_rfl
 a4 _ := by kernel_rfl
 z4 _ := by kernel_rfl
 v4 _ := by kernel_rfl
 t9 := by kernel_rfl
 a9 _ := by kernel_rfl
 z9 _ := by kernel_rfl
 v9 _ := by kernel_rfl
 t20 := by kernel_rfl
 a20 _ := by kernel_rfl
 z20 _ := by kernel_rfl
 v20 _ := by kernel_rfl
 t22 := by kernel_rfl
 a22 _ := by kernel_rfl
 z22 _ := by kernel_rfl
 v22 _ := by kernel_rfl
def IOwn (w : World) (base : Nat) (v : Value) (zs : List Int) : Prop := w.ownsRow base 3 1 v zs.length (ints zs)
def X05 (w : World) (e : Ending) (w' : World) : Prop := ∃ v, e = .returned v ∧ IOwn w' w.heap.size v [] ∧ Below w.heap.size w w'
theorem Ypj (n : Nat) (w : World) (hn : n ≤ 1000000) : Calls Tryz.prog 132 #[.slice none 0 0, .int .i64 (n : Int)] w (X05 w) := by
 obtain ⟨i0, hi, hz0, hz1, hz2⟩ := info_parts Tryz.infoInt
 have e : renI.f 4 = 132 := rfl
 rcases Nat.eq_zero_or_pos n with h0 | h0
 ·have h := Any8.slices_Grow_room X0o none 0 0 n w (by omega) (by omega) (by omega) (by omega)
  rw [e] at h
  refine h.mono ?_
  rintro e w' ⟨rfl, rfl⟩
  exact ⟨_, rfl, ⟨rfl, .inl ⟨rfl, rfl⟩⟩, Below.refl _ _⟩
 ·have h := Any8.slices_Grow_grow X0o i0 _ hi hz0 (by omega) none 0 0 n [] w (by omega) (by omega) (by rw [hz2]; omega) (by omega) (by simp) (fun _ => rfl) (fun a h => by cases h)
  rw [e] at h
  refine h.mono ?_
  rintro e w' ⟨rfl, rfl⟩
  refine ⟨_, rfl, ?_, ((Below.refl _ w).drew).alloc (Nat.le_refl _) _⟩
  have hm := World.ownsRow_made (size := 1) (w := w.drew) (base := w.heap.size) (e := 3) (([] : List Value).toArray ++ Builtin.zeroCells (Value.int .i64 0).cells (0 + n - 0) ++ Builtin.zeroCells (Value.int .i64 0).cells (grownCap w (0 + n) 0 3 - (0 + n))) (grownCap w (0 + n) 0 3) (Nat.le_refl _) (grownCap_le_maxLen _ _ _ _ (by unfold maxLen; omega)) ?_
  ·exact hm
  ·have hge := grownCap_ge w (0 + n) 0 3
   rw [Nat.zero_add] at hge
   simp [Builtin.zeroCells, Value.cells]
   omega
def X02 (w : World) (zs : List Int) (e : Ending) (w' : World) : Prop := ∃ v, e = .returned v ∧ IOwn w' w.heap.size v zs ∧ Below w.heap.size w w'
def Ynp (w : World) (sb : Nat) (R : List (List Int)) : Prop := ∀ k (h : k < R.length), ∃ p cc, w.cell? ⟨sb, k, none⟩ = some (.slice p R[k].length cc) ∧ VRow w w.heap.size p (ints R[k]) ∧ (p = none → cc = 0) ∧ R[k].length ≤ 1000
theorem Ybh (R : List (List Int)) (k : Nat) (h : k < R.length) : (R.take (k + 1)).flatten = (R.take k).flatten ++ R[k] := by
 rw [List.take_succ_eq_append_getElem h, List.flatten_append]
 simp
theorem Yu4 (R : List (List Int)) (hl : R.length ≤ 10) (h : ∀ k (h : k < R.length), R[k].length ≤ 1000) (k : Nat) (hk : k ≤ R.length) : (R.take k).flatten.length ≤ 1000 * k := by
 induction k with
 | zero => simp
 | succ k ih =>
  rw [Ybh R k (by omega), List.length_append]
  have := ih (by omega)
  have := h k (by omega)
  omega
set_option maxHeartbeats 4000000 in
theorem Ya9 (sb c : Nat) (R : List (List Int)) (w : World) (hsb : sb < w.heap.size) (hR : Ynp w sb R) (hl : R.length ≤ 10) (h1 : 1 ≤ R.length) :
  Calls Tryz.prog 102 #[.slice (some ⟨sb, 0, none⟩) R.length c] w (X02 w R.flatten) := by
 obtain ⟨i0, hi, hz0, hz1, hz2⟩ := info_parts Tryz.infoInt
 have HR := Lib.hid hR
 have HFL := Lib.hid (Yu4 R hl (fun k h => by obtain ⟨_, _, _, _, _, h5⟩ := hR k h; exact h5))
 obtain ⟨N, hN⟩ : ∃ N, N = R.length := ⟨_, rfl⟩
 rw [← hN]
 have hN10 : N ≤ 10 := by omega
 have HN := Lib.hid hN
 clear hR hl hN h1
 go_enter Tryz.func102, Tryz.ntmps102
 go_wp2
 go_loopg [3, 11] N (fun kx s3 s11 wr => ∃ (k s : Nat), s11 = .int .i64 (k : Int) ∧ s3 = .int .i64 (s : Int) ∧ k ≤ N ∧ N - k ≤ kx ∧ Hid (s = (R.take k).flatten.length) ∧ s ≤ 10000 ∧ w = wr)
 case atStart => exact ⟨0, 0, rfl, rfl, by omega, by omega, Lib.hid (by simp), by omega, rfl⟩
 case round =>
  obtain ⟨k, s, rfl, rfl, hk, hkx, HS, hs, rfl⟩ := hrel
  by_cases hlt : k < N
  ·have hkz : (k : Int) < (N : Int) := by omega
   have hk0 : (0 : Int) ≤ (k : Int) := by omega
   have hkR : k < R.length := by rw [← HN.out]; exact hlt
   obtain ⟨p, cc, hc, hv0, hp0, hn⟩ := HR.out k hkR
   clear hv0 hp0
   have hss : s + R[k].length = (R.take (k + 1)).flatten.length := by rw [Ybh R k hkR, List.length_append, ← HS.out]
   have HSS := Lib.hid hss
   have hs2 : s + R[k].length ≤ 10000 := by
    rw [hss]
    have := HFL.out (k + 1) (by omega)
    omega
   generalize R[k].length = n at hc hn HSS hs2
   have ws : IntKind.i64.wrap ((s : Int) + (n : Int)) = ((s + n : Nat) : Int) := by rw [IntKind.wrap_i64]; omega
   obtain ⟨sn, hsn⟩ : ∃ sn, sn = s + n := ⟨_, rfl⟩
   rw [← hsn] at ws HSS hs2
   have hneg : ¬ (sn : Int) < 0 := by omega
   clear hss hsn hkR
   go_wp2
   go_roundg (N - (k + 1))
   case measure => omega
   case rel => exact ⟨k + 1, sn, by go_num, rfl, by omega, Nat.le_refl _, HSS, hs2, rfl⟩
  ·have hkz : ¬ (k : Int) < (N : Int) := by omega
   have hk2 : k = N := by omega
   have hg := Ypj s w (by omega)
   go_wp2_with (go_at_call 132; refine hg.mono ?_; rintro e w' ⟨v, rfl, ho, hb⟩)
   go_loopg [6, 27] N (fun kx s6 s27 wr => ∃ (k : Nat), s27 = .int .i64 (k : Int) ∧ k ≤ N ∧ N - k ≤ kx ∧ Hid (IOwn wr w.heap.size s6 (R.take k).flatten ∧ Below w.heap.size w wr))
   case atStart => exact ⟨0, rfl, by omega, by omega, Lib.hid ⟨by simpa using ho, hb⟩⟩
   case round =>
    clear ho hb
    obtain ⟨k', rfl, hk', hkx', HT⟩ := hrel
    by_cases hlt' : k' < N
    ·have hkz' : (k' : Int) < (N : Int) := by omega
     have hk0' : (0 : Int) ≤ (k' : Int) := by omega
     have hkR : k' < R.length := by rw [← HN.out]; exact hlt'
     obtain ⟨p, cc, hc, hv, hp0, hn⟩ := HR.out k' hkR
     have hcw : wr.cell? ⟨sb, k', none⟩ = some (Value.slice p R[k'].length cc) := (HT.out.2.cell (p := ⟨sb, k', none⟩) hsb).trans hc
     have HV := Lib.hid ((hv.below HT.out.2 (Nat.le_refl _)).mono HT.out.2.size)
     have HP0 := Lib.hid hp0
     have hfl := HFL.out k' (by omega)
     have HTF := Lib.hid (Ybh R k' hkR)
     obtain ⟨z, hz⟩ : ∃ z, z = R[k'] := ⟨_, rfl⟩
     rw [← hz] at hcw HV hn HTF
     clear hc hv hp0 hz
     go_wp2_with (at_builtin; refine Y0i Tryz.underlying74 hi hz0 hz1 hz2 rfl (by decide) rfl _ _ rfl w.heap.size _ (R.take k').flatten.length (ints (R.take k').flatten) rfl HT.out.1 p z.length cc (ints z) rfl HV.out (Y06 _) HP0.out Y46 (by omega) HT.out.2.size ?_; intro v2 w2 ho2 hg2 hb2)
     have HX : Hid (IOwn w2 w.heap.size v2 (R.take (k' + 1)).flatten ∧ Below w.heap.size w w2) := Lib.hid ⟨by
      unfold IOwn
      rw [HTF.out, List.length_append, Y2w]
      exact ho2, HT.out.2.trans hb2⟩
     clear ho2 hg2 hb2
     go_roundg (N - (k' + 1))
     case measure => omega
     case rel => exact ⟨k' + 1, by go_num, by omega, Nat.le_refl _, HX⟩
    ·have hkz' : ¬ (k' : Int) < (N : Int) := by omega
     have hk2' : k' = N := by omega
     go_wp2
     go_ret
     refine ⟨_, rfl, ?_⟩
     have := HT.out
     rwa [hk2', HN.out, List.take_length] at this
end Go.Proofs.YtkkfkmoikcmhoaaGreat.Inf
namespace Go.Proofs.YtkkfkmoikcmhoaaGreat.Inf
open Go.RowKit Go.Shelf Oct Bit Hf
set_option maxRecDepth 100000
def Y05 (L : List Nat) : List Int := L.map fun n : Nat => (n : Int)
theorem Y01 (L : List Nat) : (Y05 L).length = L.length := by simp [Y05]
theorem Y7y (w0 w : World) (hb : Below w0.heap.size w0 w) (z N : Int) (n : Nat) (hN : N = (n : Int)) (h1 : 1 ≤ n) (hn : n ≤ 1000) :
  Calls Tryz.prog 103 #[.slice (some ⟨w.heap.size, 0, none⟩) 1 1, .int .i64 N] (w.alloc (.cells #[.int .i64 z] 3)) fun e w' => ∃ b, e = .returned (.slice (some ⟨b, 0, none⟩) n n) ∧ Below w0.heap.size w0 w' ∧ Below w.heap.size w w' ∧ VRow w' w'.heap.size (some ⟨b, 0, none⟩) (ints (List.replicate n z)) := by
 subst hN
 have hba : Below w.heap.size w (w.alloc (.cells #[.int .i64 z] 3)) := (Below.refl _ w).alloc (Nat.le_refl _) _
 have hv : VRow (w.alloc (.cells #[.int .i64 z] 3)) (w.alloc (.cells #[.int .i64 z] 3)).heap.size (some ⟨w.heap.size, 0, none⟩) (ints [z]) := Y17 (vs := ints [z]) (T := 3) (fr := (0, 0)) (Array.getElem?_push_size) (by simp)
 refine (Yvc _ 1 z n _ hv h1 hn).mono ?_
 rintro e w' ⟨rfl, hb2, hv2⟩
 have h3 : Below w.heap.size w w' := hba.trans (hb2.mono (by simp))
 exact ⟨_, rfl, hb.trans (h3.mono hb.size), h3, hv2⟩
def Yx4 (w : World) (e : Ending) (w' : World) : Prop :=
 Below w.heap.size w w' ∧ ∃ q c r d, e = .returned (.tuple #[.slice q 288 c, .slice r 30 d]) ∧ VRow w' w'.heap.size q (ints (Y05 Y0l)) ∧ (q = none → c = 0) ∧ VRow w' w'.heap.size r (ints (Y05 Y0m)) ∧ (r = none → d = 0)
theorem Yhn : ([List.replicate 144 8, List.replicate 112 9, List.replicate 24 7, List.replicate 8 8] : List (List Int)).flatten = Y05 Y0l := by decide +kernel
theorem Yhp : (List.replicate 30 5 : List Int) = Y05 Y0m := by decide +kernel
set_option maxHeartbeats 1000000 in
theorem Yp6 (w : World) : Calls Tryz.prog 73 #[] w (Yx4 w) := by
 go_enter Tryz.func73, Tryz.ntmps73
 go_wp2_with fail
 refine (Y7y w w (Below.refl _ _) 8 144 144 rfl (by omega) (by omega)).mono ?_
 rintro e w1 ⟨b1, rfl, hB1, _, hv1⟩
 have HB1 := Lib.hid hB1
 have HV1 := Lib.hid hv1
 clear hB1 hv1
 go_wp2_with fail
 refine (Y7y w w1 HB1.out 9 112 112 rfl (by omega) (by omega)).mono ?_
 rintro e w2 ⟨b2, rfl, hB2, hb2, hv2⟩
 have HB2 := Lib.hid hB2
 have HV2 := Lib.hid hv2
 have HV12 := Lib.hid ((HV1.out.below hb2 (Nat.le_refl _)).mono hb2.size)
 clear hB2 hv2 hb2
 go_wp2_with fail
 refine (Y7y w w2 HB2.out 7 24 24 rfl (by omega) (by omega)).mono ?_
 rintro e w3 ⟨b3, rfl, hB3, hb3, hv3⟩
 have HB3 := Lib.hid hB3
 have HV3 := Lib.hid hv3
 have HV13 := Lib.hid ((HV12.out.below hb3 (Nat.le_refl _)).mono hb3.size)
 have HV23 := Lib.hid ((HV2.out.below hb3 (Nat.le_refl _)).mono hb3.size)
 clear hB3 hv3 hb3
 go_wp2_with fail
 refine (Y7y w w3 HB3.out 8 8 8 rfl (by omega) (by omega)).mono ?_
 rintro e w4 ⟨b4, rfl, hB4, hb4, hv4⟩
 have HB4 := Lib.hid hB4
 obtain ⟨w5, hw5⟩ : ∃ w5, w5 = w4.alloc (.cells #[.slice (some ⟨b1, 0, none⟩) 144 144, .slice (some ⟨b2, 0, none⟩) 112 112, .slice (some ⟨b3, 0, none⟩) 24 24, .slice (some ⟨b4, 0, none⟩) 8 8] 74) := ⟨_, rfl⟩
 have hb5 : Below w4.heap.size w4 w5 := by rw [hw5]; exact (Below.refl _ w4).alloc (Nat.le_refl _) _
 have hblk : w5.heap[w4.heap.size]? = some (.cells #[.slice (some ⟨b1, 0, none⟩) 144 144, .slice (some ⟨b2, 0, none⟩) 112 112, .slice (some ⟨b3, 0, none⟩) 24 24, .slice (some ⟨b4, 0, none⟩) 8 8] 74 (0, 0)) := by rw [hw5]; exact Array.getElem?_push_size
 have hrows : Ynp w5 w4.heap.size [List.replicate 144 8, List.replicate 112 9, List.replicate 24 7, List.replicate 8 8] := by
  have lift : ∀ {p : Option Addr} {vs : List Value}, VRow w4 w4.heap.size p vs → VRow w5 w5.heap.size p vs := fun h => (h.below hb5 (Nat.le_refl _)).mono hb5.size
  intro k hk
  match k, hk with
  | 0, _ => exact ⟨some ⟨b1, 0, none⟩, 144, by simp [World.cell?, hblk], lift ((HV13.out.below hb4 (Nat.le_refl _)).mono hb4.size), (fun h => by cases h), by simp⟩
  | 1, _ => exact ⟨some ⟨b2, 0, none⟩, 112, by simp [World.cell?, hblk], lift ((HV23.out.below hb4 (Nat.le_refl _)).mono hb4.size), (fun h => by cases h), by simp⟩
  | 2, _ => exact ⟨some ⟨b3, 0, none⟩, 24, by simp [World.cell?, hblk], lift ((HV3.out.below hb4 (Nat.le_refl _)).mono hb4.size), (fun h => by cases h), by simp⟩
  | 3, _ => exact ⟨some ⟨b4, 0, none⟩, 8, by simp [World.cell?, hblk], lift hv4, (fun h => by cases h), by simp⟩
 have HCAT := Lib.hid (Ya9 w4.heap.size 4 _ w5 (by rw [hw5]; simp) hrows (by simp) (by simp))
 have HB5 := Lib.hid (HB4.out.trans (hb5.mono HB4.out.size))
 have HW5 := Lib.hid hw5
 clear hB4 hv4 hb4 hb5 hblk hrows hw5
 go_wp2_with fail
 rw [← HW5.out]
 refine HCAT.out.mono ?_
 rintro e w6 ⟨v, rfl, ho, hb6⟩
 rw [Yhn] at ho
 obtain ⟨q, c, rfl, hq0, hqc, hqm, hqr, _⟩ := Y18 ho (Y06 _)
 have HB6 := Lib.hid (HB5.out.trans (hb6.mono HB5.out.size))
 have HQ := Lib.hid hqr
 have HQ0 := Lib.hid hq0
 clear ho hb6 hqr hq0 hqc hqm
 go_wp2_with fail
 refine (Y7y w w6 HB6.out 5 30 30 rfl (by omega) (by omega)).mono ?_
 rintro e w7 ⟨b7, rfl, hB7, hb7, hv7⟩
 have HB7 := Lib.hid hB7
 have HV7 := Lib.hid hv7
 have HQ7 := Lib.hid ((HQ.out.below hb7 (Nat.le_refl _)).mono hb7.size)
 clear hB7 hv7 hb7
 go_wp2_with fail
 go_ret2
 exact ⟨HB7.out, q, c, _, _, rfl, HQ7.out, HQ0.out, by rw [← Yhp]; exact HV7.out, fun h => by cases h⟩
def OrdP (w : World) (e : Ending) (w' : World) : Prop := e = .returned (.slice (some ⟨w.heap.size, 0, none⟩) 19 19) ∧ Below w.heap.size w w' ∧ VRow w' w'.heap.size (some ⟨w.heap.size, 0, none⟩) (ints (Y05 order))
theorem Yqq (w : World) : Calls Tryz.prog 124 #[] w (OrdP w) := by
 go_enter Tryz.func124, Tryz.ntmps124
 go_wp2_with fail
 go_ret
 exact ⟨rfl, (Below.refl _ w).alloc (Nat.le_refl _) _, Y17 (vs := ints (Y05 order)) (T := 3) (fr := (0, 0)) (Array.getElem?_push_size) (by simp)⟩
theorem Ymr (w : World) : Calls Tryz.prog 67 #[] w (OrdP w) := by
 go_enter Tryz.func67, Tryz.ntmps67
 go_wp2_with fail
 go_ret
 exact ⟨rfl, (Below.refl _ w).alloc (Nat.le_refl _) _, Y17 (vs := ints (Y05 order)) (T := 3) (fr := (0, 0)) (Array.getElem?_push_size) (by simp)⟩
end Go.Proofs.YtkkfkmoikcmhoaaGreat.Inf
namespace Go.Proofs.YtkkfkmoikcmhoaaGreat.Inf
open Go.RowKit Go.Shelf Oct Bit Hf
set_option maxRecDepth 100000
def exN (g i : Nat) : Nat := i / g - 1
def frN (f g : Nat) : Nat → Nat
 | 0 => f
 | k + 1 => frN f g k + 2 ^ exN g k
def Ykp (f g n : Nat) : List (Nat × Nat) := (List.range n).map fun i => (frN f g i, exN g i)
def bcells : List (Nat × Nat) → List Value
 | [] => []
 | x :: r => .int .i64 (x.1 : Int) :: .int .i64 (x.2 : Int) :: bcells r
theorem Y7d : ∀ a b : List (Nat × Nat), bcells (a ++ b) = bcells a ++ bcells b
 | [], b => rfl
 | x :: r, b => by simp [bcells, Y7d r b]
theorem Y11 : ∀ a : List (Nat × Nat), (bcells a).length = a.length * 2
 | [] => rfl
 | x :: r => by simp [bcells, Y11 r]; omega
theorem Y8e : ∀ (a : List (Nat × Nat)) (i : Nat) (x : Nat × Nat), a[i]? = some x → (bcells a)[i * 2]? = some (.int .i64 (x.1 : Int)) ∧ (bcells a)[i * 2 + 1]? = some (.int .i64 (x.2 : Int))
 | [], i, x, h => by cases h
 | y :: r, 0, x, h => by
  injection h with h
  subst h
  exact ⟨rfl, rfl⟩
 | y :: r, i + 1, x, h => by
  have := Y8e r i x h
  rw [show (i + 1) * 2 = i * 2 + 1 + 1 from by omega]
  exact this
theorem Y8f : ∀ (a : List (Nat × Nat)) (i : Nat) (x : Nat × Nat), ((bcells a).set (i * 2) (.int .i64 (x.1 : Int))).set (i * 2 + 1) (.int .i64 (x.2 : Int)) = bcells (a.set i x)
 | [], i, x => by simp [bcells]
 | y :: r, 0, x => rfl
 | y :: r, i + 1, x => by
  have := Y8f r i x
  rw [show (i + 1) * 2 = i * 2 + 1 + 1 from by omega]
  simp only [bcells, List.set_cons_succ]
  rw [this]
def Y2p (ps : List (Nat × Nat)) (k : Nat) : List (Nat × Nat) := ps.take k ++ List.replicate (ps.length - k) (0, 0)
theorem Y92 (ps : List (Nat × Nat)) (k : Nat) (h : k ≤ ps.length) : (Y2p ps k).length = ps.length := by simp [Y2p]; omega
theorem Yc1 (ps : List (Nat × Nat)) (k : Nat) (h : k < ps.length) : (Y2p ps k).set k ps[k] = Y2p ps (k + 1) := by
 unfold Y2p
 rw [List.set_append, if_neg (by simp; omega)]
 rw [List.take_succ_eq_append_getElem h, List.append_assoc]
 congr 1
 rw [List.length_take, Nat.min_eq_left (Nat.le_of_lt h), Nat.sub_self, show ps.length - k = (ps.length - (k + 1)) + 1 from by omega, List.replicate_succ]
 rfl
theorem Y9e {w : World} {g : Nat} {vs : List Value} {T : TypeId} {fr : Nat × Nat} (h : w.heap[g]? = some (.cells vs.toArray T fr)) (i : Nat) (u : Value) : (w.setCell ⟨g, i, none⟩ u).heap[g]? = some (.cells (vs.set i u).toArray T fr) := by
 simp [World.setCell, Array.getElem?_modify, h]
theorem Tryz.infoBase : (Tryz.prog.info? 102).map (fun i => (i.zero, i.size, i.bytes)) = some (some (.agg #[.int .i64 0, .int .i64 0]), 2, 16) := by kernel_rfl
theorem Yfo (n : Nat) : (madeCells #[Value.int .i64 0, .int .i64 0] (n * 2)).toList = bcells (List.replicate n (0, 0)) := by
 have h1 : ∀ (m : Nat) (j : Nat), (bcells (List.replicate m (0, 0)))[j]? = if j < m * 2 then some (.int .i64 0) else none := by
  intro m
  induction m with
  | zero => intro j; simp [bcells]
  | succ m ih =>
   intro j
   rw [List.replicate_succ, bcells]
   match j with
   | 0 => simp
   | 1 => rw [List.getElem?_cons_succ, List.getElem?_cons_zero, if_pos (by omega)]; rfl
   | j + 2 =>
    rw [List.getElem?_cons_succ, List.getElem?_cons_succ, ih j]
    by_cases h : j < m * 2
    ·rw [if_pos h, if_pos (by omega)]
    ·rw [if_neg h, if_neg (by omega)]
 apply List.ext_getElem?
 intro j
 rw [h1]
 by_cases h : j < n * 2
 ·rw [if_pos h]
  have h2 : j % 2 = 0 ∨ j % 2 = 1 := by omega
  rcases h2 with h2 | h2 <;> simp [madeCells, h2, h]
 ·rw [if_neg h]
  simp [madeCells, h]
theorem Yo8 {w : World} {B T n g : Nat} {xs : List Value} (h : w.ownsRow B T 2 (.slice (some ⟨g, 0, none⟩) n n) n xs) : w.heap[g]? = some (.cells xs.toArray T (0, 0)) := by
 rcases h.2 with ⟨hv, _⟩ | ⟨g', cap, cur, hv, _, hh, _, _, hs, ht⟩
 ·cases hv
 ·injection hv with e1 _ e3
  injection e1 with e1
  injection e1 with e1
  subst e1
  subst e3
  have e : cur = xs.toArray := by
   rw [← ht, List.take_of_length_le (by simp [hs])]
  rw [hh, e]
def BasP (w : World) (L : List (Nat × Nat)) (e : Ending) (w' : World) : Prop :=
 ∃ v, e = .returned v ∧ Below w.heap.size w w' ∧ w'.ownsRow w.heap.size 102 2 v L.length (bcells L)
def Yky (w : World) (H : Nat) (L : List (Nat × Nat)) (k : Nat) (wr : World) : Prop := Below w.heap.size w wr ∧ wr.heap[H]? = some (.cells (bcells (Y2p L k)).toArray 102 (0, 0))
theorem Ygw (z : Int) (h0 : 0 ≤ z) (h1 : z ≤ 1000000) : wrap64 z = z := by
 unfold wrap64
 omega
theorem Yr2 (x : Nat) (hx : x ≤ 13) : ∃ y : Nat, (2 : Int) ^ x = (y : Int) ∧ 2 ^ x = y ∧ y ≤ 8192 := by
 refine ⟨2 ^ x, by simp, rfl, ?_⟩
 have hb : (2 : Nat) ^ x ≤ 2 ^ 13 := Nat.pow_le_pow_right (by omega) hx
 exact Nat.le_trans hb (by decide)
theorem Ynw (fr x n : Nat) (hf : fr ≤ 100000) (hx : x ≤ 13) (hn : n = fr + 2 ^ x) : wrap64 ((fr : Int) + wrap64 ((2 : Int) ^ x)) = (n : Int) := by
 obtain ⟨y, h1, h2, h3⟩ := Yr2 x hx
 rw [h2] at hn
 rw [h1, Ygw (y : Int) (by omega) (by omega), Ygw _ (by omega) (by omega)]
 omega
theorem Yhr : ∀ k, k ≤ 28 → frN 3 4 k ≤ 100000 := by decide +kernel
theorem Ylt : ∀ k, k ≤ 30 → frN 1 2 k ≤ 100000 := by decide +kernel
set_option maxHeartbeats 1000000 in
theorem Yl0 (w : World) : Calls Tryz.prog 54 #[.int .i64 3, .int .i64 4, .int .i64 28] w (BasP w (Ykp 3 4 28)) := by
 obtain ⟨i0, hi, hz0, hz1, hz2⟩ := info_parts Tryz.infoBase
 go_enter Tryz.func54, Tryz.ntmps54
 go_wp2_with (at_make; refine wpList_make_full _ rfl _ _ 53 rfl w.heap.size 102 i0 (.agg #[.int .i64 0, .int .i64 0]) 2 Tryz.underlying53 hi hz0 hz1 .i64 .i64 28 28 28 rfl rfl rfl rfl ?c2 ?c3 ?c4 ?_)
 case c2 => rw [hz2]; omega
 case c3 => unfold maxLen; omega
 case c4 => omega
 intro w1 hown hgrow
 have hb1 : Below w.heap.size w w1 := (Below.refl _ _).grown hgrow (Nat.le_refl _) (fun k hk => by cases hk)
 obtain ⟨L, hL⟩ : ∃ L, L = Ykp 3 4 28 := ⟨_, rfl⟩
 have hLl : L.length = 28 := by rw [hL]; simp [Ykp]
 have hrow : w1.heap[w.heap.size]? = some (.cells (bcells (Y2p L 0)).toArray 102 (0, 0)) := by
  have h0 : Y2p L 0 = List.replicate 28 (0, 0) := by unfold Y2p; rw [hLl]; rfl
  rw [h0, ← Yfo 28]
  exact Yo8 hown
 have HST := Lib.hid (show Yky w w.heap.size L 0 w1 from ⟨hb1, hrow⟩)
 have HL := Lib.hid hL
 have HLL := Lib.hid hLl
 have hwl : w.heap.size ≤ w.heap.size := Nat.le_refl _
 generalize hH : w.heap.size = H at hown HST ⊢
 have hwl : w.heap.size ≤ H := by omega
 clear hown hgrow hb1 hrow hL hLl hH
 go_wp2_with fail
 go_loopw [0, 8, 9, 14] (fun f u x i wr => ∃ k : Nat, k ≤ 28 ∧ f = .int .i64 ((frN 3 4 k : Nat) : Int) ∧ i = .int .i64 (k : Int) ∧ Hid (Yky w H L k wr)) (fun f u x i wr => 28 - (intOf i).toNat)
 case atStart => exact ⟨0, by omega, rfl, rfl, HST⟩
 case round =>
  obtain ⟨k, hk, rfl, rfl, HB⟩ := hrel
  by_cases hlt : k < 28
  ·have hkL : k < L.length := by rw [HLL.out]; exact hlt
   have hblk := HB.out.2
   have hl1 : (bcells (Y2p L k)).length = 28 * 2 := by rw [Y11, Y92 L k (by omega), HLL.out]
   have u0 : wr.cell? ⟨H, k * 2, none⟩ = some ((bcells (Y2p L k))[k * 2]'(by omega)) := by simp [World.cell?, hblk, hl1, show k * 2 < 28 * 2 from by omega]
   have u1 : wr.cell? ⟨H, k * 2 + 1, none⟩ = some ((bcells (Y2p L k))[k * 2 + 1]'(by omega)) := by simp [World.cell?, hblk, hl1, show k * 2 + 1 < 28 * 2 from by omega]
   have f0 : ∀ i, wr.frozen? ⟨H, i, none⟩ = false := by intro i; simp [World.frozen?, hblk]
   have f00 := f0 (k * 2)
   have f01 := f0 (k * 2 + 1)
   obtain ⟨x, hx⟩ : ∃ x, x = exN 4 k := ⟨_, rfl⟩
   have hx2 : x = k / 4 - 1 := hx
   have hmx : max 0 ((k : Int) / 4 - 1) = (x : Int) := by omega
   have hx13 : x ≤ 13 := by omega
   generalize (bcells (Y2p L k))[k * 2]'(by omega) = v0 at u0
   generalize (bcells (Y2p L k))[k * 2 + 1]'(by omega) = v1 at u1
   obtain ⟨fr, hfr⟩ : ∃ fr, frN 3 4 k = fr := ⟨_, rfl⟩
   have hnext : frN 3 4 (k + 1) = fr + 2 ^ x := by rw [← hfr, hx]; rfl
   have hgetL : L[k] = (fr, x) := by simp [HL.out, Ykp, hfr, hx]
   have hfb : fr ≤ 100000 := by rw [← hfr]; exact Yhr k hk
   have hadd : wrap64 ((fr : Int) + wrap64 ((2 : Int) ^ x)) = ((frN 3 4 (k + 1) : Nat) : Int) := Ynw fr x _ hfb hx13 hnext
   have HNX : Hid (Yky w H L (k + 1) ((wr.setCell ⟨H, k * 2, none⟩ (.int .i64 (fr : Int))).setCell ⟨H, k * 2 + 1, none⟩ (.int .i64 (x : Int)))) := Lib.hid ⟨(HB.out.1.setCell (p := ⟨H, k * 2, none⟩) hwl _).setCell (p := ⟨H, k * 2 + 1, none⟩) hwl _, by
    have h2 := Y9e (Y9e hblk (k * 2) (.int .i64 (fr : Int))) (k * 2 + 1) (.int .i64 (x : Int))
    have h3 := Y8f (Y2p L k) k (fr, x)
    simp only at h3
    rw [h3, ← hgetL, Yc1 L k hkL] at h2
    exact h2⟩
   have HADD := Lib.hid hadd
   rw [hfr]
   clear hblk f0 hx2 hx hadd hnext hfr hgetL HB HST hl1
   go_wp2_with fail
   go_roundw
   case rel => exact ⟨k + 1, by omega, by rw [HADD.out], by first | rfl | (push_cast; rfl), HNX⟩
   case measure => simp [intOf]; omega
  ·have hkn : k = 28 := by omega
   subst hkn
   have HB2 := HB.out.2
   have hfin : Y2p L 28 = L := by
    unfold Y2p
    rw [List.take_of_length_le (by rw [HLL.out]; omega), HLL.out]
    simp
   rw [hfin] at HB2
   clear hlt hk
   go_wp2_with fail
   go_ret
   refine ⟨_, rfl, HB.out.1, ?_⟩
   rw [← HL.out, HLL.out]
   exact ⟨by rw [Y11, HLL.out], .inr ⟨H, 28, _, rfl, hwl, HB2, Nat.le_refl _, by unfold maxLen; omega, by simp [Y11, HLL.out], by rw [List.take_of_length_le (by simp [Y11, HLL.out])]⟩⟩
set_option maxHeartbeats 1000000 in
theorem Yo1 (w : World) : Calls Tryz.prog 54 #[.int .i64 1, .int .i64 2, .int .i64 30] w (BasP w (Ykp 1 2 30)) := by
 obtain ⟨i0, hi, hz0, hz1, hz2⟩ := info_parts Tryz.infoBase
 go_enter Tryz.func54, Tryz.ntmps54
 go_wp2_with (at_make; refine wpList_make_full _ rfl _ _ 53 rfl w.heap.size 102 i0 (.agg #[.int .i64 0, .int .i64 0]) 2 Tryz.underlying53 hi hz0 hz1 .i64 .i64 30 30 30 rfl rfl rfl rfl ?c2 ?c3 ?c4 ?_)
 case c2 => rw [hz2]; omega
 case c3 => unfold maxLen; omega
 case c4 => omega
 intro w1 hown hgrow
 have hb1 : Below w.heap.size w w1 := (Below.refl _ _).grown hgrow (Nat.le_refl _) (fun k hk => by cases hk)
 obtain ⟨L, hL⟩ : ∃ L, L = Ykp 1 2 30 := ⟨_, rfl⟩
 have hLl : L.length = 30 := by rw [hL]; simp [Ykp]
 have hrow : w1.heap[w.heap.size]? = some (.cells (bcells (Y2p L 0)).toArray 102 (0, 0)) := by
  have h0 : Y2p L 0 = List.replicate 30 (0, 0) := by unfold Y2p; rw [hLl]; rfl
  rw [h0, ← Yfo 30]
  exact Yo8 hown
 have HST := Lib.hid (show Yky w w.heap.size L 0 w1 from ⟨hb1, hrow⟩)
 have HL := Lib.hid hL
 have HLL := Lib.hid hLl
 have hwl : w.heap.size ≤ w.heap.size := Nat.le_refl _
 generalize hH : w.heap.size = H at hown HST ⊢
 have hwl : w.heap.size ≤ H := by omega
 clear hown hgrow hb1 hrow hL hLl hH
 go_wp2_with fail
 go_loopw [0, 8, 9, 14] (fun f u x i wr => ∃ k : Nat, k ≤ 30 ∧ f = .int .i64 ((frN 1 2 k : Nat) : Int) ∧ i = .int .i64 (k : Int) ∧ Hid (Yky w H L k wr)) (fun f u x i wr => 30 - (intOf i).toNat)
 case atStart => exact ⟨0, by omega, rfl, rfl, HST⟩
 case round =>
  obtain ⟨k, hk, rfl, rfl, HB⟩ := hrel
  by_cases hlt : k < 30
  ·have hkL : k < L.length := by rw [HLL.out]; exact hlt
   have hblk := HB.out.2
   have hl1 : (bcells (Y2p L k)).length = 30 * 2 := by rw [Y11, Y92 L k (by omega), HLL.out]
   have u0 : wr.cell? ⟨H, k * 2, none⟩ = some ((bcells (Y2p L k))[k * 2]'(by omega)) := by simp [World.cell?, hblk, hl1, show k * 2 < 30 * 2 from by omega]
   have u1 : wr.cell? ⟨H, k * 2 + 1, none⟩ = some ((bcells (Y2p L k))[k * 2 + 1]'(by omega)) := by simp [World.cell?, hblk, hl1, show k * 2 + 1 < 30 * 2 from by omega]
   have f0 : ∀ i, wr.frozen? ⟨H, i, none⟩ = false := by intro i; simp [World.frozen?, hblk]
   have f00 := f0 (k * 2)
   have f01 := f0 (k * 2 + 1)
   obtain ⟨x, hx⟩ : ∃ x, x = exN 2 k := ⟨_, rfl⟩
   have hx2 : x = k / 2 - 1 := hx
   have hmx : max 0 ((k : Int) / 2 - 1) = (x : Int) := by omega
   have hx13 : x ≤ 13 := by omega
   generalize (bcells (Y2p L k))[k * 2]'(by omega) = v0 at u0
   generalize (bcells (Y2p L k))[k * 2 + 1]'(by omega) = v1 at u1
   obtain ⟨fr, hfr⟩ : ∃ fr, frN 1 2 k = fr := ⟨_, rfl⟩
   have hnext : frN 1 2 (k + 1) = fr + 2 ^ x := by rw [← hfr, hx]; rfl
   have hgetL : L[k] = (fr, x) := by simp [HL.out, Ykp, hfr, hx]
   have hfb : fr ≤ 100000 := by rw [← hfr]; exact Ylt k hk
   have hadd : wrap64 ((fr : Int) + wrap64 ((2 : Int) ^ x)) = ((frN 1 2 (k + 1) : Nat) : Int) := Ynw fr x _ hfb hx13 hnext
   have HNX : Hid (Yky w H L (k + 1) ((wr.setCell ⟨H, k * 2, none⟩ (.int .i64 (fr : Int))).setCell ⟨H, k * 2 + 1, none⟩ (.int .i64 (x : Int)))) := Lib.hid ⟨(HB.out.1.setCell (p := ⟨H, k * 2, none⟩) hwl _).setCell (p := ⟨H, k * 2 + 1, none⟩) hwl _, by
    have h2 := Y9e (Y9e hblk (k * 2) (.int .i64 (fr : Int))) (k * 2 + 1) (.int .i64 (x : Int))
    have h3 := Y8f (Y2p L k) k (fr, x)
    simp only at h3
    rw [h3, ← hgetL, Yc1 L k hkL] at h2
    exact h2⟩
   have HADD := Lib.hid hadd
   rw [hfr]
   clear hblk f0 hx2 hx hadd hnext hfr hgetL HB HST hl1
   go_wp2_with fail
   go_roundw
   case rel => exact ⟨k + 1, by omega, by rw [HADD.out], by first | rfl | (push_cast; rfl), HNX⟩
   case measure => simp [intOf]; omega
  ·have hkn : k = 30 := by omega
   subst hkn
   have HB2 := HB.out.2
   have hfin : Y2p L 30 = L := by
    unfold Y2p
    rw [List.take_of_length_le (by rw [HLL.out]; omega), HLL.out]
    simp
   rw [hfin] at HB2
   clear hlt hk
   go_wp2_with fail
   go_ret
   refine ⟨_, rfl, HB.out.1, ?_⟩
   rw [← HL.out, HLL.out]
   exact ⟨by rw [Y11, HLL.out], .inr ⟨H, 30, _, rfl, hwl, HB2, Nat.le_refl _, by unfold maxLen; omega, by simp [Y11, HLL.out], by rw [List.take_of_length_le (by simp [Y11, HLL.out])]⟩⟩
def Ycg (far : Bool) : List (Nat × Nat) := (froms far).zip (extras far)
theorem Ym9 : Ykp 3 4 28 ++ [(258, 0)] = Ycg false := by decide +kernel
theorem Yow : Ykp 1 2 30 = Ycg true := by decide +kernel
theorem Yfy : ∀ far : Bool, ∀ i, i < (froms far).length → (Ycg far)[i]? = some ((froms far).getD i 0, (extras far).getD i 0) := by decide +kernel
def TabP (w : World) (far : Bool) (e : Ending) (w' : World) : Prop :=
 ∃ v, e = .returned v ∧ Below w.heap.size w w' ∧ w'.ownsRow w.heap.size 102 2 v (froms far).length (bcells (Ycg far))
theorem Yf2 (w : World) : Calls Tryz.prog 27 #[] w (TabP w true) := by
 go_enter Tryz.func27, Tryz.ntmps27
 go_wp2_with fail
 refine (Yo1 w).mono ?_
 rintro e w1 ⟨v, rfl, hb, ho⟩
 go_wp2_with fail
 go_ret
 rw [Yow] at ho
 exact ⟨v, rfl, hb, ho⟩
set_option maxHeartbeats 1000000 in
theorem Y6i (w : World) : Calls Tryz.prog 26 #[] w (TabP w false) := by
 obtain ⟨i0, hi, hz0, hz1, hz2⟩ := info_parts Tryz.infoBase
 go_enter Tryz.func26, Tryz.ntmps26
 go_wp2_with fail
 refine (Yl0 w).mono ?_
 rintro e w1 ⟨v, rfl, hb, ho⟩
 rw [show (Ykp 3 4 28).length = 28 from by simp [Ykp]] at ho
 have hba : Below w1.heap.size w1 (w1.alloc (.cells #[.int .i64 258, .int .i64 0] 102)) := (Below.refl _ w1).alloc (Nat.le_refl _) _
 have hblk : (w1.alloc (.cells #[.int .i64 258, .int .i64 0] 102)).heap[w1.heap.size]? = some (.cells #[.int .i64 258, .int .i64 0] 102 (0, 0)) := Array.getElem?_push_size
 have hnews := World.news_of_block hblk
 have hoa : (w1.alloc (.cells #[.int .i64 258, .int .i64 0] 102)).ownsRow w.heap.size 102 2 v 28 (bcells (Ykp 3 4 28)) := by
  refine ⟨ho.1, ?_⟩
  rcases ho.2 with hn | ⟨g, cap, cur, rfl, hbs, hh, r⟩
  ·exact .inl hn
  ·have hlt : g < w1.heap.size := by
    rcases Nat.lt_or_ge g w1.heap.size with hlt | hge
    ·exact hlt
    ·rw [Array.getElem?_eq_none hge] at hh; cases hh
   exact .inr ⟨g, cap, cur, rfl, hbs, (hba.block g hlt).trans hh, r⟩
 have HB := Lib.hid (hb.trans (hba.mono hb.size))
 have HO := Lib.hid hoa
 have HNW := Lib.hid hnews
 have HBZ := Lib.hid HB.out.size
 clear hb ho hba hblk hnews hoa
 go_wp2_with (at_builtin; refine wpList_append_lies _ rfl _ _ 53 rfl w.heap.size 102 i0 (.agg #[.int .i64 0, .int .i64 0]) 2 16 Tryz.underlying53 hi hz0 hz1 hz2 rfl (by decide) v 28 (bcells (Ykp 3 4 28)) rfl HO.out ⟨w1.heap.size, 0, none⟩ 1 1 [.int .i64 258, .int .i64 0] rfl rfl HNW.out (by intro u hu; simp at hu; rcases hu with rfl | rfl <;> rfl) (by decide) (by unfold maxLen; omega) (by omega) HBZ.out _ rfl ?_)
 intro g1 cap1 w2 hown2 hgrow2 _ _
 have hb2 := (Below.refl w.heap.size (w1.alloc (.cells #[.int .i64 258, .int .i64 0] 102))).grown hgrow2 HBZ.out (fun k hk => (HO.out.lt k hk).1)
 have HB2 := Lib.hid (HB.out.trans hb2)
 have HO2 := Lib.hid hown2
 clear hown2 hgrow2 hb2
 go_wp2_with fail
 go_ret
 refine ⟨_, rfl, HB2.out, ?_⟩
 rw [← Ym9, Y7d]
 exact HO2.out
end Go.Proofs.YtkkfkmoikcmhoaaGreat.Inf
namespace Go.Proofs.YtkkfkmoikcmhoaaGreat.Hf
open Go.RowKit Oct Bit Inf
set_option maxRecDepth 100000
def Y3f (W : List (List Bool)) : List (List UInt8) := W.map fun m => m.map dig
theorem Y8b (W : List (List Bool)) : (Y3f W).length = W.length := by simp [Y3f]
theorem Yxm {a b : List Bool} (h : a.map dig = b.map dig) : a = b := by
 have hinj : ∀ a b : Bool, dig a = dig b → a = b := by intro a b; cases a <;> cases b <;> simp [dig]
 exact (List.map_inj_right (f := dig) (fun a b => hinj a b)).1 h
section
variable {W : List (List Bool)} {A : List Bool → Option (Nat × Nat)} {E : List Bool → Option Nat}
end
def BoU (w : World) (B C g : Nat) (ws : List (List UInt8)) (ms : List Value) : Prop :=
 (C ≤ w.heap.size ∧ B ≤ g) ∧ ∃ pw cw pm cm A E, St ws ws.length A E ∧ ws.length ≤ cw ∧ ms.length ≤ cm ∧ ∀ w' : World, (∀ k, B ≤ k → k < C → w'.heap[k]? = w.heap[k]?) →
  Tr w' C g (.slice pw ws.length cw) (.slice pm ms.length cm) A E ∧ VRow w' C pw (strs ws) ∧ VRow w' C pm ms
theorem BoU.same {w w' : World} {B C g : Nat} {ws : List (List UInt8)} {ms : List Value} (h : BoU w B C g ws ms) (hz : w.heap.size ≤ w'.heap.size) (hs : ∀ k, B ≤ k → k < C → w'.heap[k]? = w.heap[k]?) : BoU w' B C g ws ms := by
 obtain ⟨h0, pw, cw, pm, cm, A, E, h1, h2, h3, h4⟩ := h
 exact ⟨⟨Nat.le_trans h0.1 hz, h0.2⟩, pw, cw, pm, cm, A, E, h1, h2, h3, fun w2 hk => h4 w2 fun k a b => (hk k a b).trans (hs k a b)⟩
end Go.Proofs.YtkkfkmoikcmhoaaGreat.Hf
namespace Go.Proofs.YtkkfkmoikcmhoaaGreat.Inf
open Go.RowKit Oct Bit Hf
set_option maxRecDepth 100000
theorem Ypm {W : List (List Bool)} {q : List Bool} {i : Nat} (h : W[i]? = some q) (hn : ∀ j, j < i → W[j]? ≠ some q) : W.idxOf q = i := by
 have hm : q ∈ W := List.mem_of_getElem? h
 have hl := List.idxOf_lt_length_of_mem hm
 have hg : W[W.idxOf q]? = some q := by rw [List.getElem?_eq_getElem hl, List.getElem_idxOf]
 rcases Nat.lt_trichotomy (W.idxOf q) i with h1 | h1 | h1
 ·exact absurd hg (hn _ h1)
 ·exact h1
 ·refine absurd h1 (Nat.not_lt.2 ?_)
  obtain ⟨hi, he⟩ := List.getElem?_eq_some_iff.1 h
  exact Nat.le_of_not_lt fun hc => by
   have := List.not_of_lt_findIdx (p := (· == q)) (xs := W) (i := i) hc
   simp [he] at this
theorem Ywx {xs : List UInt8} {a n : Nat} (h : a + n ≤ 8 * xs.length) (hn : n ≤ 32) : Y1k (Y02 true xs) a n = .ok (nextV true xs a n, a + n) := by
 unfold Y1k nextV Y75
 rw [Y03, if_pos h, List.take_append_of_le_length (by rw [List.length_drop, Y03]; omega)]
theorem Yqf {xs : List UInt8} {a n : Nat} (h : ¬ a + n ≤ 8 * xs.length) : Y1k (Y02 true xs) a n = .error 2 := by
 unfold Y1k
 rw [Y03, if_neg h]
def ReadN (w : World) (gr : Nat) (p : Option Addr) (cap : Nat) (xs : List UInt8) (a n : Nat) (e : Ending) (w' : World) : Prop :=
 ((∃ v, Y1k (Y02 true xs) a n = .ok (v, a + n) ∧ v < 2 ^ n ∧ e = .returned (.tuple #[.int .u32 (v : Int), .int .i64 0]) ∧ Rd w' gr p cap xs (a + n) true) ∨
   (Y1k (Y02 true xs) a n = .error 2 ∧ e = .returned (.tuple #[.int .u32 0, .int .i64 2]) ∧ Rd w' gr p cap xs a true)) ∧ Only (· = gr) w w' ∧ w'.heap.size = w.heap.size
theorem Yka (g : Nat) (p : Option Addr) (cap : Nat) (xs : List UInt8) (a n : Nat) (hn : n ≤ 32) (w : World) (hR : Rd w g p cap xs a true) :
  Calls Tryz.prog 55 #[.pointer (some ⟨g, 0, none⟩), .int .i64 (n : Int)] w (ReadN w g p cap xs a n) := by
 refine (Yv9 g p cap xs a true w n hR).mono ?_
 rintro e w' ⟨rfl, hr, ho, hz⟩
 refine ⟨?_, ho, hz⟩
 have hc : Y8j (n : Int) = true := by unfold Y8j; simp; omega
 by_cases h : a + n ≤ 8 * xs.length
 ·have hk : okR (n : Int) (8 * xs.length) a = true := by unfold okR; rw [hc]; simp; omega
  left
  refine ⟨nextV true xs a n, Ywx h hn, Yjw true xs a n hn, ?_, ?_⟩
  ·unfold Ye2 Y5l
   rw [hk]
   rfl
  ·unfold Y5k at hr
   rw [hk] at hr
   simpa using hr
 ·have hk : okR (n : Int) (8 * xs.length) a = false := by unfold okR; rw [hc]; simp; omega
  right
  refine ⟨Yqf h, ?_, ?_⟩
  ·unfold Ye2 Y5l
   rw [hk, hc]
   rfl
  ·unfold Y5k at hr
   rw [hk] at hr
   simpa using hr
end Go.Proofs.YtkkfkmoikcmhoaaGreat.Inf

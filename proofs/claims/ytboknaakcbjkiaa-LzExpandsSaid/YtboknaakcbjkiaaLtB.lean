
/- The contracts of slices.Repeat at a row of one number, and of bits.Len at a small number. -/
import Derived.Test.YtboknaakcbjkiaaLtA
import Derived.Laws.Externs
import Derived.Laws.IdiomCopy
import Derived.Lib.EndianMore
import Derived.Deep.RegionLaw
import Derived.Shelf.Spec.SlicesGrow
import Derived.LoopTactic
namespace Go.Proofs.Ytboknaakcbjkiaa.Lzt
open Go.RowKit Go.Shelf Go.Proofs.Ytboknaakcbjkiaa.Oct
set_option linter.unusedVariables false
set_option linter.unusedSimpArgs false
set_option maxRecDepth 100000

theorem Try.infoInt9 : (Try.prog.info? 3).map (fun i => (i.zero, i.size, i.bytes)) = some (some (.int .i64 0), 1, 8) := by kernel_rfl
theorem and_mask8 (c : Nat) (hc : c ≤ 40000) : bits .and .u64 (c : Int) 4294967295 = (c : Int) := by
  rw [show (4294967295 : Int) = ((4294967295 : Nat) : Int) from rfl, u64_and_nat c 4294967295 (by omega) (by omega)]
  congr 1
  rw [show (4294967295 : Nat) = 2 ^ 32 - 1 from rfl, Nat.and_two_pow_sub_one_eq_mod]
  omega
theorem mul64_one8 (c : Nat) (w : World) (hc : c ≤ 40000) :
    Calls Try.prog 25 #[.int .u64 1, .int .u64 (c : Int)] w fun e w' => e = .returned (.tuple #[.int .u64 0, .int .u64 (c : Int)]) ∧ w = w' := by
  have h1 : bits .and .u64 1 4294967295 = 1 := by decide
  have h0 : bits .and .u64 0 4294967295 = 0 := by decide
  have h2 := and_mask8 c hc
  have h3 : (c : Int) / 4294967296 = 0 := by omega
  go_enter Try.func25, Try.ntmps25
  go_wp2
  go_ret2
  exact ⟨rfl, rfl⟩
theorem mul_one8 (c : Nat) (w : World) (hc : c ≤ 40000) :
    Calls Try.prog 23 #[.int .u64 1, .int .u64 (c : Int)] w fun e w' => e = .returned (.tuple #[.int .u64 0, .int .u64 (c : Int)]) ∧ w = w' := by
  go_enter Try.func23, Try.ntmps23
  go_wp2_with fail
  refine (mul64_one8 _ _ hc).mono ?_
  rintro e w' ⟨rfl, rfl⟩
  go_wp2_with fail
  go_ret2
  exact ⟨rfl, rfl⟩
/-- copy, its run known by an equation, as one step of a region that draws its order -/
theorem step_copy_run8 {P : Program} {ops : Array Oper} {o : Oper} {a : Act} {w : World} {K : Act → World → Prop} {Q : Exit → Act → World → Prop} {E : Prop}
    (hg : o.guard = none) (d x : Operand) (dT sT : TypeId) (hop : o.op = Op.call { callee := Callee.builtin Builtin.copy, args := #[d, x], argTypes := #[dT, sT] })
    (v u : Value) (hd : a.eval d = v) (hx : a.eval x = u) {v' : Value} {w' : World} (hr : (Builtin.copy_ #[dT, sT] o.type #[v, u]).run P w = .ok v' w') (hK : K (a.put o.dst v') w') :
    if Region.wanted o (yielded ops a.tmps) = true then Oper.wp P o a w K Q else E := by
  have hw : Region.wanted o (yielded ops a.tmps) = true := by simp [Region.wanted, hg]
  rw [if_pos hw]
  unfold Oper.wp execOp
  simp only [hop, resolve, invoke, builtin, Sem.run_bind, Sem.run_pure, Result.andThen_ok, List.map_toArray, List.map_cons, List.map_nil, hd, hx, hr]
  exact hK
theorem wpList_copy_run8 {P : Program} {w : World} {ops : Array Oper} {rest : List Oper} {o : Oper} {a : Act} {Q : Exit → Act → World → Prop}
    (hg : o.guard = none) (d x : Operand) (dT sT : TypeId) (hop : o.op = Op.call { callee := Callee.builtin Builtin.copy, args := #[d, x], argTypes := #[dT, sT] })
    (v u : Value) (hd : a.eval d = v) (hx : a.eval x = u) {v' : Value} {w' : World} (hr : (Builtin.copy_ #[dT, sT] o.type #[v, u]).run P w = .ok v' w') (hK : wpList P ops Q rest (a.put o.dst v') w') : wpList P ops Q (o :: rest) a w := by
  refine wpList_plain hg fun K hK' => ?_
  unfold Oper.wp execOp
  simp only [hop, resolve, invoke, builtin, Sem.run_bind, Sem.run_pure, Result.andThen_ok, List.map_toArray, List.map_cons, List.map_nil, hd, hx, hr]
  exact hK' _ _ hK
theorem made_vals8 (z : Value) (n : Nat) : (madeCells #[z] n).toList = List.replicate n z := by
  simp [madeCells]
  apply List.ext_getElem <;> simp [Nat.mod_one]
/-- the row while it is filled with one number -/
def RepSt (w : World) (n : Nat) (z : Int) (k : Nat) (wr : World) : Prop :=
  Below w.heap.size w wr ∧ w.heap.size < wr.heap.size ∧ ∀ j, j < n → wr.cell? ⟨w.heap.size, j, none⟩ = some (.int .i64 (if j < k then z else 0)) ∧ wr.frozen? ⟨w.heap.size, j, none⟩ = false
theorem RepSt.drew {w wr : World} {n : Nat} {z : Int} {k : Nat} (h : RepSt w n z k wr) : RepSt w n z k wr.drew := ⟨h.1.trans ((show Drawn wr wr.drew from ⟨1, rfl⟩).below _), h.2⟩
theorem setCells_size (b : Nat) : ∀ (vs : List Value) (o : Nat) (w : World), (w.setCells b o vs).heap.size = w.heap.size
  | [], _, _ => rfl
  | v :: r, o, w => by rw [World.setCells, setCells_size b r]; simp [World.setCell]
theorem RepSt.copy {w wr : World} {n : Nat} {z : Int} {k m : Nat} (h : RepSt w n z k wr) (hkm : k + m ≤ n) : RepSt w n z (k + m) (wr.setCells w.heap.size k (List.replicate m (.int .i64 z))) := by
  have hin := World.cell?_setCells_in w.heap.size (List.replicate m (Value.int .i64 z)) k wr (fun j hj => by rw [List.length_replicate] at hj; rw [(h.2.2 (k + j) (by omega)).1]; rfl)
  have hout := World.cell?_setCells_out w.heap.size (List.replicate m (Value.int .i64 z)) k wr
  refine ⟨h.1.trans (Lib.below_setCells_w (Nat.le_refl _) _ _ _), by rw [setCells_size]; exact h.2.1, fun j hj => ⟨?_, ?_⟩⟩
  · by_cases h1 : k ≤ j ∧ j < k + m
    · obtain ⟨d, rfl⟩ : ∃ d, j = k + d := ⟨j - k, by omega⟩
      rw [hin d (by rw [List.length_replicate]; omega), if_pos h1.2]
      simp
    · rw [hout ⟨w.heap.size, j, none⟩ (fun _ _ => by rw [List.length_replicate]; show j < _ ∨ _ ≤ j; omega), (h.2.2 j hj).1]
      by_cases h2 : j < k
      · rw [if_pos h2, if_pos (by omega)]
      · rw [if_neg h2, if_neg (by omega)]
  · rw [World.frozen?_setCells]
    exact (h.2.2 j hj).2
theorem sizeInt8 : (Try.prog.info? 3).map (·.size) = some 1 := by kernel_rfl
/-- numbers out of some row of them are copied behind what is filled -/
theorem rep_copy (w wr : World) (n k l1 c1 l2 c2 m ty : Nat) (z : Int) (a : Addr) (h : RepSt w n z k wr) (hm : m = min l2 l1) (hkm : k + m ≤ n) (hs : ∀ j, j < m → wr.cell? (a.add j) = some (.int .i64 z)) :
    (Builtin.copy_ #[45, 45] ty #[.slice (some ⟨w.heap.size, k, none⟩) l1 c1, .slice (some a) l2 c2]).run Try.prog wr = .ok (.int .i64 (m : Int)) (wr.setCells w.heap.size k (List.replicate m (.int .i64 z))) := by
  have hr := run_copy_cells (P := Try.prog) wr 45 45 ty 3 w.heap.size k l1 c1 a l2 c2 (List.replicate m (Value.int .i64 z)) Try.underlying45 sizeInt8 (by rw [List.length_replicate]; exact hm)
    (fun j u hj => by
      rw [List.getElem?_replicate] at hj
      split at hj
      · injection hj with hj
        subst hj
        exact hs j (by assumption)
      · cases hj)
    (fun j hj => by rw [List.length_replicate] at hj; rw [(h.2.2 (k + j) (by omega)).1]; rfl)
    (fun j hj => by rw [List.length_replicate] at hj; exact (h.2.2 (k + j) (by omega)).2)
    (fun u hu => by rw [List.eq_of_mem_replicate hu]; rfl)
  rw [List.length_replicate] at hr
  exact hr
def RepI (w : World) (n : Nat) (z : Int) (e : Ending) (w' : World) : Prop :=
  e = .returned (.slice (some ⟨w.heap.size, 0, none⟩) n n) ∧ RepSt w n z n w'
set_option maxHeartbeats 4000000 in
theorem repeat_any (p : Option Addr) (cap : Nat) (z : Int) (n : Nat) (w : World) (b off : Nat) (hpa : p = some ⟨b, off, none⟩) (hb : b < w.heap.size) (c0 : w.cell? ⟨b, off + 0, none⟩ = some (.int .i64 z)) (h1 : 1 ≤ n) (hn : n ≤ 40000) :
    Calls Try.prog 17 #[.slice p 1 cap, .int .i64 (n : Int)] w (RepI w n z) := by
  obtain ⟨i0, hi, hz0, hz1, hz2⟩ := info_parts Try.infoInt9
  subst hpa
  have HC0 := Lib.hid c0
  have HBL := Lib.hid hb
  clear c0 hb
  have i1 : (0 : Int) ≤ (n : Int) := by omega
  have hw : IntKind.u64.wrap (n : Int) = (n : Int) := by rw [IntKind.wrap_u64]; omega
  go_enter Try.func17, Try.ntmps17
  go_wp2_with fail
  refine (mul_one8 n _ hn).mono ?_
  rintro e w' ⟨rfl, rfl⟩
  have q2 : decide ((n : Int) > 9223372036854775807) = false := by simp; omega
  go_wp2_with (at_make; refine wpList_make_full _ rfl _ _ 45 rfl w.heap.size 3 i0 (.int .i64 0) 1 Try.underlying45 hi hz0 hz1 .i64 .i64 (n : Int) (n : Int) n rfl rfl rfl rfl ?c2 ?c3 ?c4 ?_)
  case c2 => rw [hz2]; omega
  case c3 => unfold maxLen; omega
  case c4 => omega
  intro w1 hown hgrow
  have hb1 : Below w.heap.size w w1 := (Below.refl _ _).grown hgrow (Nat.le_refl _) (fun k hk => by cases hk)
  have hblk := blk_of_own hown
  have hlt : w.heap.size < w1.heap.size := by
    rcases Nat.lt_or_ge w.heap.size w1.heap.size with h | h
    · exact h
    · rw [Array.getElem?_eq_none h] at hblk; cases hblk
  have hst0 : RepSt w n z 0 w1 := ⟨hb1, hlt, fun j hj => ⟨by
    have h0 : (madeCells #[Value.int .i64 0] n).toList[j]? = some (.int .i64 0) := by
      rw [made_vals8, List.getElem?_replicate, if_pos hj]
    have := hown.cells (g := w.heap.size) rfl j _ h0
    rw [add_plain, Nat.zero_add] at this
    rw [if_neg (by omega)]
    exact this, by simp [World.frozen?, hblk]⟩⟩
  have hc1 := (hb1.cell (p := ⟨b, off + 0, none⟩) HBL.out).trans HC0.out
  have hr1 := rep_copy w w1 n 0 n n 1 cap 1 3 z ⟨b, off, none⟩ hst0 (by omega) (by omega) (fun j hj => by
    have : j = 0 := by omega
    subst this
    rw [add_plain]
    exact hc1)
  have hst1 := hst0.copy (m := 1) (by omega)
  have HST := Lib.hid hst1
  clear hown hgrow hb1 hblk hlt hst0 hc1 hst1
  go_wp2_with (at_builtin; refine wpList_copy_run8 rfl _ _ 45 45 rfl _ _ rfl rfl hr1 ?_)
  go_wp2_with fail
  clear hr1
  go_loopw [8] (fun v wr => ∃ k : Nat, 1 ≤ k ∧ k ≤ n ∧ v = .int .i64 (k : Int) ∧ Hid (RepSt w n z k wr)) (fun v _ => n - (intOf v).toNat)
  case atStart => exact ⟨1, by omega, by omega, rfl, HST⟩
  case round =>
    obtain ⟨k, hk1, hkn, rfl, HB⟩ := hrel
    by_cases hlt : k < n
    · have ql : decide ((k : Int) < (n : Int)) = true := by simpa using hlt
      obtain ⟨m, hm⟩ : ∃ m, m = min k (n - k) := ⟨_, rfl⟩
      have hm1 : 1 ≤ m := by omega
      have hm2 : k + m ≤ n := by omega
      have hr2 := rep_copy w wr.drew n k (n - k) (n - k) k n m 3 z ⟨w.heap.size, 0, none⟩ HB.out.drew hm hm2 (fun j hj => by
        rw [add_plain, Nat.zero_add, (HB.out.drew.2.2 j (by omega)).1, if_pos (by omega)])
      have HB2 := Lib.hid (HB.out.drew.copy (m := m) hm2)
      have hck : ¬ n = k := by omega
      have hwp : IntKind.i64.wrap ((k : Int) + (m : Int)) = (k : Int) + (m : Int) := IntWalk.i64_in _ (by omega)
      clear HB hm HST
      go_wp2_with fail
      go_region_law (refine step_copy_run8 rfl _ _ 45 45 rfl (.slice (some ⟨w.heap.size, k, none⟩) (n - k) (n - k)) (.slice (some ⟨w.heap.size, 0, none⟩) k n) (by simp [Act.eval, Act.put]) (by simp [Act.eval, Act.put]) hr2 ?_)
      simp only [Act.put, List.setIfInBounds_toArray, List.set_cons_zero, List.set_cons_succ, List.getElem_toArray, List.getElem_cons_zero, List.getElem_cons_succ]
      go_wp2_with fail
      go_roundw
      case rel => exact ⟨k + m, by omega, hm2, by go_num, HB2⟩
      case measure => simp [intOf]; omega
    · have : k = n := by omega
      subst this
      have ql : decide ((k : Int) < (k : Int)) = false := by simp
      go_wp2_with fail
      go_ret
      exact ⟨rfl, HB.out⟩
/-- what a small number of bits is told by -/
def LenP (w : World) (e : Ending) (w' : World) : Prop := (∃ r : Nat, r ≤ 300 ∧ e = .returned (.int .i64 (r : Int))) ∧ w = w'
theorem len_one (w : World) (y : UInt8) : LenP w (.returned (.int .i64 (wrap64 (wrap64 (y.toNat : Int))))) w := by
  have h := y.toNat_lt
  have h2 : wrap64 (y.toNat : Int) = (y.toNat : Int) := by unfold wrap64; omega
  refine ⟨⟨y.toNat, by omega, ?_⟩, rfl⟩
  rw [h2, h2]
theorem len_two (w : World) (y : UInt8) : LenP w (.returned (.int .i64 (wrap64 (8 + wrap64 (y.toNat : Int))))) w := by
  have h := y.toNat_lt
  have h2 : wrap64 (y.toNat : Int) = (y.toNat : Int) := by unfold wrap64; omega
  have h4 : wrap64 (8 + (y.toNat : Int)) = ((8 + y.toNat : Nat) : Int) := by unfold wrap64; omega
  refine ⟨⟨8 + y.toNat, by omega, ?_⟩, rfl⟩
  rw [h2, h4]
set_option maxHeartbeats 1000000 in
theorem len64_small (n : Nat) (w : World) (hn : n ≤ 5000) : Calls Try.prog 22 #[.int .u64 (n : Int)] w (LenP w) := by
  have q1 : decide (4294967296 ≤ (n : Int)) = false := by simp; omega
  have q2 : decide (65536 ≤ (n : Int)) = false := by simp; omega
  go_enter Try.func22, Try.ntmps22
  go_wp2_with fail
  · go_ret
    exact len_two _ _
  · go_ret
    exact len_one _ _
theorem len_small (n : Nat) (w : World) (hn : n ≤ 5000) : Calls Try.prog 16 #[.int .u64 (n : Int)] w (LenP w) := by
  have HL := Lib.hid (len64_small n w hn)
  go_enter Try.func16, Try.ntmps16
  go_wp2_with fail
  refine HL.out.mono ?_
  rintro e w' ⟨⟨r, hr, rfl⟩, rfl⟩
  have HR := Lib.hid hr
  clear hr
  go_wp2_with fail
  go_ret
  exact ⟨⟨r, HR.out, rfl⟩, rfl⟩
end Go.Proofs.Ytboknaakcbjkiaa.Lzt


/- Rows of packs in memory; pairs. -/
import Derived.Test.YtefniglinligeaaLpB
import Derived.RegionTactic
import Derived.BigRegion
import Derived.OwnWalk
import Derived.Deep.WholeRow
namespace Go.Proofs.Ytefniglinligeaa.Lp
open Go.RowKit Go.Proofs.Ytefniglinligeaa.Oct Go.Proofs.Ytefniglinligeaa.Lm
set_option linter.unusedVariables false
set_option linter.unusedSimpArgs false
set_option maxRecDepth 100000

/-- a row of packs at a block's head -/
def PRow (w : World) (b : Nat) (zs : List Pk) : Prop := ∀ i (h : i < zs.length), PAt w b (i * 3) zs[i]
theorem PRow.keep {w w' : World} {b : Nat} {zs : List Pk} (h : PRow w b zs) (hb : w'.heap[b]? = w.heap[b]?) : PRow w' b zs := fun i hi => (h i hi).keep hb
/-- a block of packs of which so many are filled in -/
def BRow (w : World) (b n k : Nat) (f : Nat → Pk) : Prop :=
  ∃ cs, w.heap[b]? = some (.cells cs 39 (0, 0)) ∧ cs.size = n * 3 ∧ ∀ i, i < k → cs[i * 3]? = some (.int .i64 (f i).wt) ∧ cs[i * 3 + 1]? = some (.int .i64 (f i).sym) ∧ cs[i * 3 + 2]? = some (.slice (f i).ptr (f i).len (f i).cap)
theorem BRow.lt {w : World} {b n k : Nat} {f : Nat → Pk} (h : BRow w b n k f) : b < w.heap.size := by
  obtain ⟨cs, h, _⟩ := h
  rcases Nat.lt_or_ge b w.heap.size with hlt | hge
  · exact hlt
  · rw [Array.getElem?_eq_none hge] at h; cases h
theorem BRow.keep {w w' : World} {b n k : Nat} {f : Nat → Pk} (h : BRow w b n k f) (hb : w'.heap[b]? = w.heap[b]?) : BRow w' b n k f := by
  obtain ⟨cs, h1, h2⟩ := h
  exact ⟨cs, hb.trans h1, h2⟩
theorem BRow.fz {w : World} {b n k : Nat} {f : Nat → Pk} (h : BRow w b n k f) (i : Nat) : w.frozen? ⟨b, i, none⟩ = false := by
  obtain ⟨cs, h, _⟩ := h
  simp [World.frozen?, h]
theorem BRow.cells {w : World} {b n k : Nat} {f : Nat → Pk} (h : BRow w b n k f) (i : Nat) (hi : i < n * 3) : ∃ v, w.cell? ⟨b, i, none⟩ = some v := by
  obtain ⟨cs, h, h2, _⟩ := h
  exact ⟨cs[i], by simp [World.cell?, h, h2, hi]⟩
theorem BRow.put {w : World} {b n k : Nat} {f : Nat → Pk} (h : BRow w b n k f) (hk : k < n) :
    BRow (((w.setCell ⟨b, k * 3, none⟩ (.int .i64 (f k).wt)).setCell ⟨b, k * 3 + 1, none⟩ (.int .i64 (f k).sym)).setCell ⟨b, k * 3 + 2, none⟩ (.slice (f k).ptr (f k).len (f k).cap)) b n (k + 1) f := by
  obtain ⟨cs, h, h2, h3⟩ := h
  have e1 := blk_set h (k * 3) (.int .i64 (f k).wt)
  have e2 := blk_set e1 (k * 3 + 1) (.int .i64 (f k).sym)
  have e3 := blk_set e2 (k * 3 + 2) (.slice (f k).ptr (f k).len (f k).cap)
  refine ⟨_, e3, by simp [h2], fun i hi => ?_⟩
  simp only [Array.getElem?_setIfInBounds, Array.size_setIfInBounds, h2]
  by_cases hik : i = k
  · subst hik
    refine ⟨?_, ?_, ?_⟩
    · rw [if_neg (by omega), if_neg (by omega), if_pos rfl, if_pos (by omega)]
    · rw [if_neg (by omega), if_pos rfl, if_pos (by omega)]
    · rw [if_pos rfl, if_pos (by omega)]
  · obtain ⟨q1, q2, q3⟩ := h3 i (by omega)
    refine ⟨?_, ?_, ?_⟩
    · rw [if_neg (by omega), if_neg (by omega), if_neg (by omega)]; exact q1
    · rw [if_neg (by omega), if_neg (by omega), if_neg (by omega)]; exact q2
    · rw [if_neg (by omega), if_neg (by omega), if_neg (by omega)]; exact q3
theorem BRow.row {w : World} {b n k : Nat} {f : Nat → Pk} (h : BRow w b n k f) : PRow w b ((List.range k).map f) := by
  obtain ⟨cs, h, h2, h3⟩ := h
  intro i hi
  simp only [List.length_map, List.length_range] at hi
  obtain ⟨q1, q2, q3⟩ := h3 i hi
  simp only [List.getElem_map, List.getElem_range]
  exact ⟨by simp [World.cell?, h, q1], by simp [World.cell?, h, q2], by simp [World.cell?, h, q3]⟩
theorem Try.infoPack : (Try.prog.info? 39).map (fun i => (i.zero, i.size, i.bytes)) = some (some (.agg #[.int .i64 0, .int .i64 0, .slice none 0 0]), 3, 40) := by kernel_rfl
/-- a row made anew -/
theorem wpList_make_cells {w : World} {ops : Array Oper} {rest : List Oper} {o : Oper} {a : Act} {Q : Exit → Act → World → Prop} {t e : TypeId} {z : Value} {size bytes : Nat}
    (hg : o.guard = none) (l c : Operand) (hop : o.op = Op.makeSlice t l c) (h1 : Try.prog.underlying t = some (.slice e)) (h2 : (Try.prog.info? e).map (fun i => (i.zero, i.size, i.bytes)) = some (some z, size, bytes))
    (n : Nat) (hl : a.eval l = .int .i64 (n : Int)) (hc : a.eval c = .int .i64 (n : Int)) (b2 : n * bytes ≤ 281474976710656) (b3 : n ≤ 9223372036854775807)
    (hK : wpList Try.prog ops Q rest (a.put o.dst (.slice (some ⟨w.heap.size, 0, none⟩) n n)) (w.alloc (.cells (madeCells z.cells (n * size)) e))) :
    wpList Try.prog ops Q (o :: rest) a w := by
  refine wpList_plain hg fun K hK' => ?_
  obtain ⟨i, q1, q2, q3, q4⟩ := info_parts h2
  subst q3; subst q4
  have hrun := run_make (P := Try.prog) w t e i z h1 q1 q2 .i64 .i64 (n : Int) (n : Int) (by omega) (by omega) (by rw [← Int.natCast_mul, Nat.mul_comm]; omega) (by omega)
  simp only [Int.toNat_natCast] at hrun
  unfold Oper.wp
  simp [execOp, hop, hl, hc, hrun, Result.andThen]
  exact hK' _ _ hK
theorem brow_made (w : World) (n : Nat) (z : Array Value) (f : Nat → Pk) : BRow (w.alloc (.cells (madeCells z (n * 3)) 39)) w.heap.size n 0 f :=
  ⟨_, heap_alloc_last w _, size_madeCells _ _, fun i h => by omega⟩
/-- the pair at a place -/
def pairPk (lb cap : Nat) (zs : List Pk) (i : Nat) : Pk := ⟨(zs.getD (2 * i) default).wt + (zs.getD (2 * i + 1) default).wt, 0, some ⟨lb, 2 * i * 3, none⟩, 2, cap - 2 * i⟩
/-- what pairs does -/
def PairsP (w : World) (lb cap : Nat) (zs : List Pk) (e : Ending) (w' : World) : Prop :=
  e = .returned (.slice (some ⟨w.heap.size, 0, none⟩) (zs.length / 2) (zs.length / 2)) ∧ PRow w' w.heap.size ((List.range (zs.length / 2)).map (pairPk lb cap zs)) ∧ w.heap.size < w'.heap.size ∧ Below w.heap.size w w'
theorem slice_two (W : World) (lb len cap i : Nat) (h : 2 * i + 2 ≤ len) (hc : len ≤ cap) :
    (Instr.slice 36 (.slice (some ⟨lb, 0, none⟩) len cap) (some (.int .i64 (2 * (i : Int)))) (some (.int .i64 (2 * (i : Int) + 2))) none).run Try.prog W = .ok (.slice (some ⟨lb, 2 * i * 3, none⟩) 2 (cap - 2 * i)) W := by
  have ht' : Try.prog.underlying 36 = some (.slice (Try.prog.elem 36)) := by kernel_rfl
  have he : Try.prog.elem 36 = 39 := by kernel_rfl
  rw [run_slice_lh W 36 (some ⟨lb, 0, none⟩) len cap ht' .i64 .i64 _ _ (by omega) (by omega) (by omega), he, Sm.sizeP]
  have e1 : (2 * (i : Int)).toNat = 2 * i := by omega
  have e2 : (2 * (i : Int) + 2).toNat = 2 * i + 2 := by omega
  simp only [Result.andThen_ok, sliced, e1, e2]
  rw [if_neg (by omega), show 2 * i + 2 - 2 * i = 2 by omega]
  simp [add_plain]
set_option maxHeartbeats 4000000 in
theorem pairs_any (p : Option Addr) (lb len cap : Nat) (zs : List Pk) (w : World) (hp : len ≠ 0 → p = some ⟨lb, 0, none⟩) (hlen : len = zs.length) (hr : PRow w lb zs) (hlb : len ≠ 0 → lb < w.heap.size) (hl : len ≤ 100000) (hc : len ≤ cap) (hw : ∀ x ∈ zs, 0 ≤ x.wt ∧ x.wt ≤ 2305843009213693952) :
    Calls Try.prog 22 #[.slice p len cap] w (PairsP w lb cap zs) := by
  have H0 : Hid ((len ≠ 0 → p = some ⟨lb, 0, none⟩) ∧ len = zs.length ∧ PRow w lb zs ∧ (len ≠ 0 → lb < w.heap.size) ∧ ∀ x ∈ zs, 0 ≤ x.wt ∧ x.wt ≤ 2305843009213693952) := ⟨hp, hlen, hr, hlb, hw⟩
  obtain ⟨n, hn⟩ : ∃ n, n = len / 2 := ⟨_, rfl⟩
  have hq : (len : Int).tdiv 2 = (n : Int) := by rw [hn, Int.tdiv_eq_ediv_of_nonneg (by omega)]; omega
  have hwn : IntKind.i64.wrap (n : Int) = (n : Int) := by rw [IntKind.wrap_i64]; omega
  have HN : Hid (n = len / 2) := hn
  have hnl : n ≤ 100000 := by omega
  have HB0 := brow_made w n (Value.agg #[.int .i64 0, .int .i64 0, .slice none 0 0]).cells (pairPk lb cap zs)
  have HM : Hid (BRow _ _ _ _ _) := HB0
  have HBL : Hid (Below w.heap.size w (w.alloc (.cells (madeCells (Value.agg #[.int .i64 0, .int .i64 0, .slice none 0 0]).cells (n * 3)) 39))) := (Below.refl _ w).alloc (Nat.le_refl _) _
  clear hp hlen hr hlb hw hn HB0
  go_enter Try.func22, Try.ntmps22
  go_wp2_with (at_make; refine wpList_make_cells rfl _ _ rfl Try.underlying36 Try.infoPack n rfl rfl (by omega) (by omega) ?_)
  go_loopg [12] n (fun kx s12 wr => ∃ (k : Nat), s12 = .int .i64 (k : Int) ∧ k ≤ n ∧ n - k ≤ kx ∧ Hid (BRow wr w.heap.size n k (pairPk lb cap zs) ∧ Below w.heap.size w wr))
  case atStart => exact ⟨0, rfl, by omega, by omega, ⟨HM.out, HBL.out⟩⟩
  case round =>
    clear HM HBL
    obtain ⟨k, rfl, hkn, hkx, HR⟩ := hrel
    by_cases hlt : k < n
    · have hnn := HN.out
      obtain ⟨e1, e2, e3, e4, e5⟩ := H0.out
      have hp := e1 (by omega)
      subst hp
      have hlbw := e4 (by omega)
      have hz0 : 2 * k < zs.length := by omega
      have hz1 : 2 * k + 1 < zs.length := by omega
      have g0 : zs.getD (2 * k) default = zs[2 * k] := by rw [List.getD_eq_getElem?_getD, List.getElem?_eq_getElem hz0]; rfl
      have g1 : zs.getD (2 * k + 1) default = zs[2 * k + 1] := by rw [List.getD_eq_getElem?_getD, List.getElem?_eq_getElem hz1]; rfl
      have hsame := HR.out.2.block lb hlbw
      have c0 := ((e3 (2 * k) hz0).keep hsame).1
      have c1 := ((e3 (2 * k + 1) hz1).keep hsame).1
      rw [show (2 * k + 1) * 3 = 2 * k * 3 + 3 by omega] at c1
      have b0 := e5 _ (List.getElem_mem hz0)
      have b1 := e5 _ (List.getElem_mem hz1)
      have HPK : Hid (pairPk lb cap zs k = ⟨zs[2 * k].wt + zs[2 * k + 1].wt, 0, some ⟨lb, 2 * k * 3, none⟩, 2, cap - 2 * k⟩) := by show _ = _; unfold pairPk; rw [g0, g1]
      generalize zs[2 * k].wt = x0 at c0 b0 HPK
      generalize zs[2 * k + 1].wt = x1 at c1 b1 HPK
      obtain ⟨v0, f0⟩ := HR.out.1.cells (k * 3) (by omega)
      obtain ⟨v1, f1⟩ := HR.out.1.cells (k * 3 + 1) (by omega)
      obtain ⟨v2, f2⟩ := HR.out.1.cells (k * 3 + 2) (by omega)
      have fz := HR.out.1.fz
      have hsl := fun W => slice_two W lb len cap k (by omega) hc
      have hne : ¬ lb = w.heap.size := by omega
      have w1 : IntKind.i64.wrap (2 * (k : Int)) = 2 * (k : Int) := by rw [IntKind.wrap_i64]; omega
      have w2 : IntKind.i64.wrap (2 * (k : Int) + 2) = 2 * (k : Int) + 2 := by rw [IntKind.wrap_i64]; omega
      have w3 : IntKind.i64.wrap (x0 + x1) = x0 + x1 := by rw [IntKind.wrap_i64]; omega
      have hkz : (k : Int) < (n : Int) := by omega
      have hk0 : (0 : Int) ≤ (k : Int) := by omega
      clear hnn e1 e2 e3 e4 e5 hz0 hz1 g0 g1 hsame hlbw
      go_wp2_with fail
      go_big_region
      have hput := BRow.put HR.out.1 hlt
      rw [HPK.out] at hput
      have hbl : Below w.heap.size w ((((wr.setCell ⟨w.heap.size, k * 3, none⟩ (.int .i64 (x0 + x1))).setCell ⟨w.heap.size, k * 3 + 1, none⟩ (.int .i64 0)).setCell ⟨w.heap.size, k * 3 + 2, none⟩ (.slice (some ⟨lb, 2 * k * 3, none⟩) 2 (cap - 2 * k)))) := ((HR.out.2.setCell (p := ⟨w.heap.size, k * 3, none⟩) (Nat.le_refl _) _).setCell (p := ⟨w.heap.size, k * 3 + 1, none⟩) (Nat.le_refl _) _).setCell (p := ⟨w.heap.size, k * 3 + 2, none⟩) (Nat.le_refl _) _
      have HQ : Hid (BRow ((((wr.setCell ⟨w.heap.size, k * 3, none⟩ (.int .i64 (x0 + x1))).setCell ⟨w.heap.size, k * 3 + 1, none⟩ (.int .i64 0)).setCell ⟨w.heap.size, k * 3 + 2, none⟩ (.slice (some ⟨lb, 2 * k * 3, none⟩) 2 (cap - 2 * k)))).drew w.heap.size n (k + 1) (pairPk lb cap zs) ∧ Below w.heap.size w ((((wr.setCell ⟨w.heap.size, k * 3, none⟩ (.int .i64 (x0 + x1))).setCell ⟨w.heap.size, k * 3 + 1, none⟩ (.int .i64 0)).setCell ⟨w.heap.size, k * 3 + 2, none⟩ (.slice (some ⟨lb, 2 * k * 3, none⟩) 2 (cap - 2 * k)))).drew) := ⟨hput, hbl.drew⟩
      clear hput hbl f0 f1 f2 fz c0 c1
      generalize ((((wr.setCell ⟨w.heap.size, k * 3, none⟩ (.int .i64 (x0 + x1))).setCell ⟨w.heap.size, k * 3 + 1, none⟩ (.int .i64 0)).setCell ⟨w.heap.size, k * 3 + 2, none⟩ (.slice (some ⟨lb, 2 * k * 3, none⟩) 2 (cap - 2 * k)))).drew = w2 at HQ ⊢
      go_wp2
      go_roundg (n - (k + 1))
      case measure => omega
      case rel => exact ⟨k + 1, by go_num, by omega, Nat.le_refl _, HQ⟩
    · have hkz : ¬ (k : Int) < (n : Int) := by omega
      have hk : k = n := by omega
      subst hk
      go_wp2
      go_ret
      have hnn := HN.out
      have hll := H0.out.2.1
      subst hll
      subst hnn
      exact ⟨rfl, HR.out.1.row, HR.out.1.lt, HR.out.2⟩
end Go.Proofs.Ytefniglinligeaa.Lp

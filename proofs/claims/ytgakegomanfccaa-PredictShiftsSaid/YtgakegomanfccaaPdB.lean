
/- Contracts of package predict: copyOf, Diff, Undo. -/
import Derived.Test.YtgakegomanfccaaPdA
namespace Go.Proofs.Ytgakegomanfccaa.Pd
open Go.RowKit Go.Proofs.Ytgakegomanfccaa.Oct Go.Proofs.Ytgakegomanfccaa.Sa Go.Proofs.Ytgakegomanfccaa.Pr
open Go.Proofs.Ytgakegomanfccaa.Lp (VRow vrow_blk vrow_own wpList_append_vals blk_set blk_far blk_frozen)
set_option linter.unusedVariables false
set_option linter.unusedSimpArgs false
set_option maxRecDepth 100000

theorem stays {P : Program} {f : FuncId} {args : Array Value} {w : World} {v : Value}
    (h : Calls P f args w fun e w' => e = .returned v ∧ w = w') : Calls P f args w fun e w'' => e = .returned v ∧ w'' = w :=
  h.mono fun _ _ ⟨he, hm⟩ => ⟨he, hm.symm⟩
theorem Try.sizeU32 : (Try.prog.info? 31).map (fun i => i.size) = some 1 := by kernel_rfl
/-- a row of the call's own -/
def DfS (w : World) (G : Nat) (l : List Nat) (wr : World) : Prop :=
  Below w.heap.size w wr ∧ w.heap.size ≤ G ∧ G < wr.heap.size ∧ wr.heap[G]? = some (.cells (u32s l).toArray 31 (0, 0))
theorem DfS.cell {w wr : World} {G : Nat} {l : List Nat} (h : DfS w G l wr) (k : Nat) (hk : k < l.length) : wr.cell? ⟨G, k, none⟩ = some (.int .u32 (l[k] : Int)) := by
  simp [World.cell?, h.2.2.2, u32s, hk]
theorem DfS.fz {w wr : World} {G : Nat} {l : List Nat} (h : DfS w G l wr) (i : Nat) : wr.frozen? ⟨G, i, none⟩ = false := blk_frozen h.2.2.2 i
theorem DfS.drew {w wr : World} {G : Nat} {l : List Nat} (h : DfS w G l wr) : DfS w G l wr.drew :=
  ⟨h.1.trans ((show Drawn wr wr.drew from ⟨1, rfl⟩).below _), h.2.1, h.2.2.1, h.2.2.2⟩
theorem DfS.set {w wr : World} {G : Nat} {l : List Nat} (h : DfS w G l wr) (k v : Nat) : DfS w G (l.set k v) (wr.setCell ⟨G, k, none⟩ (.int .u32 (v : Int))) := by
  refine ⟨h.1.setCell h.2.1 _, h.2.1, by simpa [World.setCell] using h.2.2.1, ?_⟩
  have := blk_set h.2.2.2 k (.int .u32 (v : Int))
  rw [List.setIfInBounds_toArray] at this
  rw [this]
  simp [u32s, List.map_set]
theorem DfS.row {w wr : World} {G : Nat} {l : List Nat} (h : DfS w G l wr) : VRow wr wr.heap.size (some ⟨G, 0, none⟩) (u32s l) := vrow_blk h.2.2.2 h.2.2.1
/-- what is done, and what is still as it was -/
def mixL (f : Nat → Nat) (ns : List Nat) (k : Nat) : List Nat := (List.range (min k ns.length)).map f ++ ns.drop k
theorem mixL_length (f : Nat → Nat) (ns : List Nat) (k : Nat) : (mixL f ns k).length = ns.length := by simp [mixL]; omega
theorem mix_start {f : Nat → Nat} {ns : List Nat} {p : Nat} (h : ∀ i, i < p → i < ns.length → f i = ns.getD i 0) : mixL f ns p = ns := by
  have e : (List.range (min p ns.length)).map f = ns.take p := by
    apply List.ext_getElem
    · simp
    · intro i h1 h2
      rw [List.length_map, List.length_range] at h1
      rw [List.getElem_map, List.getElem_range, List.getElem_take, h i (by omega) (by omega), List.getD_eq_getElem?_getD, List.getElem?_eq_getElem (by omega)]
      rfl
  rw [mixL, e, List.take_append_drop]
theorem mix_step {f : Nat → Nat} {ns : List Nat} {k : Nat} (h : k < ns.length) : (mixL f ns k).set k (f k) = mixL f ns (k + 1) := by
  unfold mixL
  rw [Nat.min_eq_left (by omega), Nat.min_eq_left (by omega), List.range_succ, List.map_append, List.set_append_right _ _ (by simp)]
  have e : (List.drop k ns).set 0 (f k) = f k :: List.drop (k + 1) ns := by rw [List.drop_eq_getElem_cons h]; rfl
  simp [e]
theorem mix_all {f : Nat → Nat} {ns : List Nat} {k : Nat} (h : ns.length ≤ k) : mixL f ns k = (List.range ns.length).map f := by
  unfold mixL
  rw [Nat.min_eq_right h, List.drop_of_length_le h, List.append_nil]
theorem mix_get {f : Nat → Nat} {ns : List Nat} {k j : Nat} (hj : j < k) (hk : k ≤ ns.length) : (mixL f ns k)[j]'(by rw [mixL_length]; omega) = f j := by
  unfold mixL
  rw [List.getElem_append_left (by simp; omega)]
  simp
set_option maxHeartbeats 1000000 in
theorem copyOf_any (p : Option Addr) (len cap : Nat) (ns : List Nat) (w : World) (hr : VRow w w.heap.size p (u32s ns)) (hx : ns.length = len) (hl : len ≤ 1000000) :
    Calls Try.prog 14 #[.slice p len cap] w fun e w' => e = .returned (.slice (some ⟨w.heap.size, 0, none⟩) len len) ∧ DfS w w.heap.size ns w' := by
  obtain ⟨i0, hi, hz0, hz1, hz2⟩ := info_parts Try.infoU32
  have HX := Lib.hid hx
  have HR := Lib.hid hr
  have HXU : Hid ((u32s ns).length = len) := Lib.hid (by rw [u32s_length]; exact hx)
  clear hx hr
  go_enter Try.func14, Try.ntmps14
  go_wp2_with (at_make; refine wpList_make_full _ rfl _ _ 22 rfl w.heap.size 31 i0 (.int .u32 0) 1 Try.underlying22 hi hz0 hz1 .i64 .i64 (len : Int) (len : Int) len rfl rfl rfl rfl ?c2 ?c3 ?c4 ?_)
  case c2 => rw [hz2]; omega
  case c3 => unfold maxLen; omega
  case c4 => omega
  intro w1 hown hgrow
  have hb1 : Below w.heap.size w w1 := (Below.refl _ _).grown hgrow (Nat.le_refl _) (fun k hk => by cases hk)
  have hg0 := blk_of_own hown
  have HG := Lib.hid hg0
  have HGL := Lib.hid (blk_lt hg0)
  have hlen : (madeCells #[Value.int IntKind.u32 0] len).toList.length = len := by simp [size_madeCells]
  have HL := Lib.hid hlen
  clear hown hgrow hg0 hlen hz0 hz1 hz2 hi
  generalize (madeCells #[Value.int IntKind.u32 0] len).toList = cur at HG HL
  go_wp2_with (with_reducible refine wpList_copy_splice rfl (.tmp 7) (.tmp 8) 22 22 rfl 31 Try.underlying22 Try.sizeU32 _ _ _ _ _ _ rfl rfl w.heap.size 0 cur 31 HG.out (u32s ns) ?d1 ?d2 ?d3 u32s_one w.heap.size w hb1 (Nat.le_refl _) ?_)
  case d1 => rw [HXU.out]; exact (Nat.min_self _).symm
  case d2 =>
    intro h0
    obtain ⟨b, off, hq, hbl, hc⟩ := HR.out h0
    refine ⟨_, hq, fun j v hj => ?_⟩
    obtain ⟨hj', hv⟩ := List.getElem?_eq_some_iff.1 hj
    rw [add_plain, hb1.cell (by exact hbl), ← hv]
    exact hc j hj'
  case d3 => rw [HXU.out, HL.out]; omega
  intro w2 HG2 hB2
  have HN : Hid (DfS w w.heap.size ns w2) := Lib.hid (by
    have := HG2.out
    rw [splice_all _ _ (by rw [HXU.out, HL.out])] at this
    exact ⟨hB2, Nat.le_refl _, blk_lt this, this⟩)
  clear HG2 hB2 hb1
  go_wp2_with fail
  go_ret
  exact ⟨rfl, HN.out⟩
end Go.Proofs.Ytgakegomanfccaa.Pd

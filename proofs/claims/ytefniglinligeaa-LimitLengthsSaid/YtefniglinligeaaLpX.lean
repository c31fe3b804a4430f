
/- Tables of numbers in memory: rows of slices. -/
import Derived.Test.YtefniglinligeaaLpW
namespace Go.Proofs.Ytefniglinligeaa.Lp
open Go.RowKit Go.Proofs.Ytefniglinligeaa.Oct Go.Proofs.Ytefniglinligeaa.Lm
set_option linter.unusedVariables false
set_option linter.unusedSimpArgs false
set_option maxRecDepth 100000

abbrev farI : Int := 1152921504606846976
theorem IOwn.block {w : World} {base : Nat} {v : Value} {zs : List Int} (h : IOwn w base v zs) (hz : 0 < zs.length) : ∃ g cap cur, v = .slice (some ⟨g, 0, none⟩) zs.length cap ∧ base ≤ g ∧ g < w.heap.size ∧ w.heap[g]? = some (.cells cur 3 (0, 0)) ∧ ∀ i, i < zs.length → cur[i]? = some (.int .i64 (zs.getD i 0)) := by
  rcases h.2 with ⟨_, h0⟩ | ⟨g, cap, cur, rfl, hb, hh, h1, h2, h3, h4⟩
  · omega
  · refine ⟨g, cap, cur, rfl, hb, ?_, hh, fun i hi => ?_⟩
    · rcases Nat.lt_or_ge g w.heap.size with hlt | hge
      · exact hlt
      · rw [Array.getElem?_eq_none hge] at hh; cases hh
    · have h5 : (ints zs)[i]? = some (.int .i64 (zs.getD i 0)) := by
        unfold ints
        rw [List.getElem?_map, List.getD_eq_getElem?_getD, List.getElem?_eq_getElem hi]
        rfl
      rw [← h4, List.getElem?_take, if_pos (by omega)] at h5
      rw [← Array.getElem?_toList]
      exact h5
/-- a row of nothing reached -/
def RowF (w : World) (b n : Nat) : Prop := ∃ arr, w.heap[b]? = some (.cells arr 3 (0, 0)) ∧ ∀ o, o < n → arr[o]? = some (.int .i64 farI)
theorem RowF.lt {w : World} {b n : Nat} (h : RowF w b n) : b < w.heap.size := by
  obtain ⟨arr, h, _⟩ := h
  rcases Nat.lt_or_ge b w.heap.size with hlt | hge
  · exact hlt
  · rw [Array.getElem?_eq_none hge] at h; cases h
theorem RowF.keep {w w' : World} {b n : Nat} (h : RowF w b n) (hb : w'.heap[b]? = w.heap[b]?) : RowF w' b n := by
  obtain ⟨arr, h1, h2⟩ := h
  exact ⟨arr, hb.trans h1, h2⟩
def slcs (W2 : Nat) (rb rc : Nat → Nat) (g : Nat) : List Value := (List.range g).map fun j => .slice (some ⟨rb j, 0, none⟩) W2 (rc j)
theorem slcs_length (W2 : Nat) (rb rc : Nat → Nat) (g : Nat) : (slcs W2 rb rc g).length = g := by simp [slcs]
/-- a table while its rows are laid -/
structure Bld (lo W2 g : Nat) (v : Value) (rb rc : Nat → Nat) (w : World) : Prop where
  own : w.ownsRow lo 22 1 v g (slcs W2 rb rc g)
  row : ∀ j, j < g → RowF w (rb j) W2
  low : ∀ j, j < g → lo ≤ rb j
  inj : ∀ i j, i < j → j < g → rb i ≠ rb j
  ap : ∀ j, j < g → v.ownBlock ≠ some (rb j)
theorem Bld.start (w : World) (W2 : Nat) : Bld w.heap.size W2 0 (.slice none 0 0) (fun _ => 0) (fun _ => 0) w := ⟨⟨rfl, .inl ⟨rfl, rfl⟩⟩, fun j h => by omega, fun j h => by omega, fun i j _ h => by omega, fun j h => by omega⟩
theorem Bld.keep {lo W2 g : Nat} {v : Value} {rb rc : Nat → Nat} {w w' : World} (h : Bld lo W2 g v rb rc w) (hb : Below w.heap.size w w') : Bld lo W2 g v rb rc w' :=
  ⟨own_below h.own hb, fun j hj => (h.row j hj).keep (hb.block _ (h.row j hj).lt), h.low, h.inj, h.ap⟩
theorem slcs_cong {W2 g : Nat} {rb rc rb' rc' : Nat → Nat} (h : ∀ j, j < g → rb' j = rb j ∧ rc' j = rc j) : slcs W2 rb' rc' g = slcs W2 rb rc g := by
  unfold slcs
  refine List.map_congr_left (fun j hj => ?_)
  have := h j (by simpa using hj)
  rw [this.1, this.2]
/-- one row more -/
theorem Bld.step {lo W2 g b c : Nat} {v : Value} {rb rc : Nat → Nat} {w w' : World} (h : Bld lo W2 g v rb rc w) (hf : RowF w b W2) (hlo : lo ≤ b) (hnew : ∀ j, j < g → rb j ≠ b) (hvb : v.ownBlock ≠ some b) {g' cap : Nat}
    (ho : w'.ownsRow lo 22 1 (.slice (some ⟨g', 0, none⟩) (g + 1) cap) (g + 1) (slcs W2 rb rc g ++ [.slice (some ⟨b, 0, none⟩) W2 c])) (hg : w.grownBy w' v.ownBlock) (hd : v.ownBlock = some g' ∨ g' = w.heap.size) :
    Bld lo W2 (g + 1) (.slice (some ⟨g', 0, none⟩) (g + 1) cap) (fun j => if j = g then b else rb j) (fun j => if j = g then c else rc j) w' := by
  have hk : ∀ j, j < g → (if j = g then b else rb j) = rb j := fun j hj => if_neg (by omega)
  refine ⟨?_, fun j hj => ?_, fun j hj => ?_, fun i j hij hj => ?_, fun j hj => ?_⟩
  · have e : slcs W2 (fun j => if j = g then b else rb j) (fun j => if j = g then c else rc j) (g + 1) = slcs W2 rb rc g ++ [.slice (some ⟨b, 0, none⟩) W2 c] := by
      have h1 : slcs W2 (fun j => if j = g then b else rb j) (fun j => if j = g then c else rc j) g = slcs W2 rb rc g := slcs_cong (fun j hj => ⟨if_neg (by omega), if_neg (by omega)⟩)
      rw [← h1]
      unfold slcs
      rw [List.range_succ, List.map_append, List.map_cons, List.map_nil]
      simp
    rw [e]
    exact ho
  · by_cases hjg : j = g
    · simp only [hjg, if_pos]
      exact hf.keep (hg.block _ hf.lt (fun e => hvb e.symm))
    · rw [if_neg hjg]
      have := h.row j (by omega)
      exact this.keep (hg.block _ this.lt (fun e => h.ap j (by omega) e.symm))
  · by_cases hjg : j = g
    · rw [if_pos hjg]; exact hlo
    · rw [if_neg hjg]; exact h.low j (by omega)
  · rw [if_neg (show ¬ i = g by omega)]
    by_cases hjg : j = g
    · rw [if_pos hjg]; exact hnew i (by omega)
    · rw [if_neg hjg]; exact h.inj i j hij (by omega)
  · intro e
    have e : g' = if j = g then b else rb j := by injection e
    rcases hd with hd | hd
    · by_cases hjg : j = g
      · rw [if_pos hjg] at e
        exact hvb (by rw [hd, e])
      · rw [if_neg hjg] at e
        exact h.ap j (by omega) (by rw [hd, e])
    · by_cases hjg : j = g
      · rw [if_pos hjg] at e
        have := hf.lt; omega
      · rw [if_neg hjg] at e
        have := (h.row j (by omega)).lt; omega
/-- a table in memory -/
structure TabC (lo hi n tb : Nat) (rb rc : Nat → Nat) (t : Nat → Nat → Nat) (w : World) : Prop where
  c1 : ∀ g, g ≤ n → w.cell? ⟨tb, g, none⟩ = some (.slice (some ⟨rb g, 0, none⟩) (2 * n + 1) (rc g))
  c2 : ∀ g, g ≤ n → ∀ o, o ≤ 2 * n → w.cell? ⟨rb g, o, none⟩ = some (.int .i64 ((t g o : Nat) : Int))
  fz : ∀ g, g ≤ n → ∀ o, w.frozen? ⟨rb g, o, none⟩ = false
  l1 : lo ≤ tb ∧ tb < hi
  l2 : ∀ g, g ≤ n → lo ≤ rb g ∧ rb g < hi
  inj : ∀ i j, i ≤ n → j ≤ n → i ≠ j → rb i ≠ rb j
  ne : ∀ g, g ≤ n → tb ≠ rb g
  sz : hi ≤ w.heap.size
theorem frozen_same {w w' : World} {a : Addr} (h : w'.heap[a.block]? = w.heap[a.block]?) : w'.frozen? a = w.frozen? a := by
  unfold World.frozen?
  rw [h]
theorem TabC.keep {lo hi n tb : Nat} {rb rc : Nat → Nat} {t : Nat → Nat → Nat} {w w' : World} (h : TabC lo hi n tb rb rc t w) (hb : Below hi w w') : TabC lo hi n tb rb rc t w' :=
  ⟨fun g hg => (cell_same (a := ⟨tb, g, none⟩) (hb.block _ h.l1.2)).trans (h.c1 g hg), fun g hg o ho => (cell_same (a := ⟨rb g, o, none⟩) (hb.block _ (h.l2 g hg).2)).trans (h.c2 g hg o ho), fun g hg o => (frozen_same (a := ⟨rb g, o, none⟩) (hb.block _ (h.l2 g hg).2)).trans (h.fz g hg o), h.l1, h.l2, h.inj, h.ne, Nat.le_trans h.sz hb.size⟩
/-- one cell set -/
def upd (t : Nat → Nat → Nat) (a b c : Nat) : Nat → Nat → Nat := fun g o => if g = a ∧ o = b then c else t g o
theorem TabC.set {lo hi n tb : Nat} {rb rc : Nat → Nat} {t : Nat → Nat → Nat} {w : World} (h : TabC lo hi n tb rb rc t w) {a b c : Nat} (ha : a ≤ n) (hb : b ≤ 2 * n) : TabC lo hi n tb rb rc (upd t a b c) (w.setCell ⟨rb a, b, none⟩ (.int .i64 (c : Int))) := by
  have hfar : ∀ k, k ≠ rb a → (w.setCell ⟨rb a, b, none⟩ (.int .i64 (c : Int))).heap[k]? = w.heap[k]? := fun k hk => blk_far rfl (fun e => hk e.symm) b _
  refine ⟨fun g hg => (cell_same (a := ⟨tb, g, none⟩) (hfar tb (h.ne a ha))).trans (h.c1 g hg), fun g hg o ho => ?_, fun g hg o => ?_, h.l1, h.l2, h.inj, h.ne, by simpa [World.setCell] using h.sz⟩
  · by_cases hga : g = a
    · subst hga
      by_cases hob : o = b
      · subst hob
        rw [World.cell?_setCell_same' _ _ _ (by rw [h.c2 g hg o ho]; rfl)]
        unfold upd
        rw [if_pos ⟨rfl, rfl⟩]
      · have hne : (⟨rb g, o, none⟩ : Addr) ≠ ⟨rb g, b, none⟩ := fun e => hob (by injection e)
        have e : upd t g b c g o = t g o := if_neg (fun h => hob h.2)
        rw [e]
        exact (World.cell?_setCell_other _ _ _ _ hne.symm).trans (h.c2 g hg o ho)
    · have e : upd t a b c g o = t g o := if_neg (fun h => hga h.1)
      rw [e]
      exact (cell_same (a := ⟨rb g, o, none⟩) (hfar (rb g) (h.inj g a hg ha hga))).trans (h.c2 g hg o ho)
  · rw [World.frozen?_setCell]
    exact h.fz g hg o
theorem Bld.tab {lo n : Nat} {v : Value} {rb rc : Nat → Nat} {w : World} (h : Bld lo (2 * n + 1) (n + 1) v rb rc w) : ∃ tb cap, v = .slice (some ⟨tb, 0, none⟩) (n + 1) cap ∧ TabC lo w.heap.size n tb rb rc (fun _ _ => far) w := by
  rcases h.own.2 with ⟨_, h0⟩ | ⟨g, cap, cur, rfl, hb, hh, h1, h2, h3, h4⟩
  · omega
  · have hlt : g < w.heap.size := by
      rcases Nat.lt_or_ge g w.heap.size with hlt | hge
      · exact hlt
      · rw [Array.getElem?_eq_none hge] at hh; cases hh
    refine ⟨g, cap, rfl, fun j hj => ?_, fun j hj o ho => ?_, fun j hj o => ?_, ⟨hb, hlt⟩, fun j hj => ⟨h.low j (by omega), (h.row j (by omega)).lt⟩, fun i j hi hj hij => ?_, fun j hj e => h.ap j (by omega) (by rw [← e]; rfl), Nat.le_refl _⟩
    · have h5 : (slcs (2 * n + 1) rb rc (n + 1))[j]? = some (.slice (some ⟨rb j, 0, none⟩) (2 * n + 1) (rc j)) := by
        unfold slcs
        rw [List.getElem?_map, List.getElem?_range (by omega)]
        rfl
      rw [← h4, List.getElem?_take, if_pos (by omega), Array.getElem?_toList] at h5
      unfold World.cell?
      dsimp only
      rw [hh]
      exact h5
    · obtain ⟨arr, r1, r2⟩ := h.row j (by omega)
      unfold World.cell?
      dsimp only
      rw [r1]
      exact (r2 o (by omega)).trans (by rfl)
    · obtain ⟨arr, r1, r2⟩ := h.row j (by omega)
      unfold World.frozen?
      simp [r1]
    · rcases Nat.lt_or_ge i j with h9 | h9
      · exact h.inj i j h9 (by omega)
      · exact fun e => h.inj j i (by omega) (by omega) e.symm
theorem TabC.up {lo hi hi' n tb : Nat} {rb rc : Nat → Nat} {t : Nat → Nat → Nat} {w : World} (h : TabC lo hi n tb rb rc t w) (h1 : hi ≤ hi') (h2 : hi' ≤ w.heap.size) : TabC lo hi' n tb rb rc t w :=
  ⟨h.c1, h.c2, h.fz, ⟨h.l1.1, by have := h.l1.2; omega⟩, fun g hg => ⟨(h.l2 g hg).1, by have := (h.l2 g hg).2; omega⟩, h.inj, h.ne, h2⟩
theorem better_store {nx : Nat → Nat → Nat} {a b c : Nat} (h : c < nx a b) : better nx a b c = upd nx a b c := by
  funext g o
  unfold better upd
  rw [if_pos h]
theorem better_same {nx : Nat → Nat → Nat} {a b c : Nat} (h : ¬ c < nx a b) : better nx a b c = nx := by
  funext g o
  unfold better
  rw [if_neg h]
  split
  · rename_i hh; rw [hh.1, hh.2]
  · rfl
theorem Try.infoInts : (Try.prog.info? 22).map (fun i => (i.zero, i.size, i.bytes)) = some (some (.slice none 0 0), 1, 24) := by kernel_rfl
/-- a row appended to a table -/
theorem wpList_append_row {w w0 : World} {ops : Array Oper} {rest : List Oper} {o : Oper} {a : Act} {Q : Exit → Act → World → Prop}
    (hgd : o.guard = none) (s x : Operand) (ho : o.op = .call { callee := .builtin .append, args := #[s, x], argTypes := #[42, 42] })
    (lo W2 g b c : Nat) (v : Value) (rb rc : Nat → Nat) (hs : a.eval s = v) (h0 : Bld lo W2 g v rb rc w0) (hf : RowF w0 b W2) (hlo : lo ≤ b) (hnew : ∀ j, j < g → rb j ≠ b) (hvb : v.ownBlock ≠ some b)
    (hw : w = w0.alloc (.cells #[.slice (some ⟨b, 0, none⟩) W2 c] 22)) (hx : a.eval x = .slice (some ⟨w0.heap.size, 0, none⟩) 1 1) (hl : g ≤ 1000) (hbase : lo ≤ w0.heap.size)
    (h : ∀ v' w' rb' rc', Bld lo W2 (g + 1) v' rb' rc' w' → Below lo w0 w' → wpList Try.prog ops Q rest (a.put o.dst v') w') :
    wpList Try.prog ops Q (o :: rest) a w := by
  obtain ⟨i0, hi, hz0, hz1, hz2⟩ := info_parts Try.infoInts
  subst hw
  have hb1 : Below w0.heap.size w0 (w0.alloc (.cells #[.slice (some ⟨b, 0, none⟩) W2 c] 22)) := (Below.refl _ w0).alloc (Nat.le_refl _) _
  have hT := h0.keep hb1
  have hf1 := hf.keep (hb1.block _ hf.lt)
  refine wpList_append_lies _ hgd s x 42 ho lo 22 i0 (.slice none 0 0) 1 24 Try.underlying42 hi hz0 hz1 hz2 rfl (by decide) v g (slcs W2 rb rc g) hs hT.own ⟨w0.heap.size, 0, none⟩ 1 1 [.slice (some ⟨b, 0, none⟩) W2 c] hx rfl ?_ (fun u hu => by simp at hu; subst hu; rfl) (by decide) (by unfold maxLen; omega) (by omega) (Nat.le_trans hbase hb1.size) _ rfl ?_
  · intro j q hj
    have hj0 : j = 0 := by
      have := (List.getElem?_eq_some_iff.1 hj).1
      simp at this
      omega
    subst hj0
    have hq : q = .slice (some ⟨b, 0, none⟩) W2 c := by simpa using hj.symm
    subst hq
    have h9 := heap_alloc_last w0 (.cells #[.slice (some ⟨b, 0, none⟩) W2 c] 22)
    rw [add_plain]
    unfold World.cell?
    dsimp only
    rw [h9]
    rfl
  · intro g' cap w' h1 h2 h3 h4
    exact h _ w' _ _ (hT.step hf1 hlo hnew hvb (c := c) h1 h2 h3) ((hb1.mono hbase).trans ((Below.refl _ _).grown h2 (Nat.le_trans hbase hb1.size) (fun k hk => (World.ownsRow.lt hT.own k hk).1)))
end Go.Proofs.Ytefniglinligeaa.Lp


/- Contracts of the document's answer: Same, Cut; and what both its loops keep. -/
import Derived.Test.YtjecakkdongcoaaGrF
namespace Go.Proofs.Ytjecakkdongcoaa.Gr
open Go.RowKit Go.Proofs.Ytjecakkdongcoaa.Oct
open Go.Proofs.Ytjecakkdongcoaa.Lp (VRow Only ints ints_length ints_append ints_one vrow_blk vrow_own blk_set blk_far blk_frozen)
open Go.Proofs.Ytjecakkdongcoaa.Gd (canG cutG cutG_length cutG_cells)
open Go.Proofs.Ytjecakkdongcoaa.Fm (Ow)
set_option linter.unusedVariables false
set_option linter.unusedSimpArgs false
set_option maxRecDepth 100000

theorem vrow_int {w : World} {C : Nat} {p : Option Addr} {zs : List Int} (h : VRow w C p (ints zs)) (i : Nat) (hi : i < zs.length) : ∃ b off, p = some ⟨b, off, none⟩ ∧ b < C ∧ w.cell? ⟨b, off + i, none⟩ = some (.int .i64 zs[i]) := by
  obtain ⟨b, off, e, hlt, hc⟩ := h (by rw [ints_length]; omega)
  exact ⟨b, off, e, hlt, by rw [hc i (by rw [ints_length]; exact hi)]; simp [ints]⟩
theorem same_yes (p1 : Option Addr) (c1 : Nat) (p2 : Option Addr) (c2 n : Nat) (xa : List Int) (w : World) (C : Nat) (h1 : VRow w C p1 (ints xa)) (h2 : VRow w C p2 (ints xa)) (hn : xa.length = n) (hl : n ≤ 10000000) :
    Calls Try.prog 18 #[.slice p1 n c1, .slice p2 n c2] w fun e w' => e = .returned (.bool true) ∧ Drawn w w' := by
  have HN := Lib.hid hn
  have H1 := Lib.hid h1
  have H2 := Lib.hid h2
  clear h1 h2 hn
  go_enter Try.func18, Try.ntmps18
  go_wp2_with fail
  go_loopw [5] (fun i wr => ∃ k : Nat, k ≤ n ∧ i = .int .i64 (k : Int) ∧ Hid (Drawn w wr)) (fun i _ => n - (intOf i).toNat)
  case atStart => exact ⟨0, by omega, rfl, Lib.hid ⟨0, rfl⟩⟩
  case round =>
    obtain ⟨k, hk, rfl, HD⟩ := hrel
    by_cases hlt : k < n
    · have hka : k < xa.length := by rw [HN.out]; exact hlt
      obtain ⟨b1, o1, hq1, _, hc1⟩ := vrow_int H1.out k hka
      obtain ⟨b2, o2, hq2, _, hc2⟩ := vrow_int H2.out k hka
      subst hq1
      subst hq2
      have hd := HD.out
      obtain ⟨j, hj⟩ := hd
      have hcr1 : wr.cell? ⟨b1, o1 + k, none⟩ = some (.int .i64 xa[k]) := by rw [hj]; exact hc1
      have hcr2 : wr.cell? ⟨b2, o2 + k, none⟩ = some (.int .i64 xa[k]) := by rw [hj]; exact hc2
      generalize xa[k] = z at hcr1 hcr2
      have ql : decide ((k : Int) < (n : Int)) = true := by simpa using hlt
      have i1 : (0 : Int) ≤ (k : Int) := by omega
      have i2 : (k : Int) < (n : Int) := by omega
      have qn : (z != z) = false := by simp
      clear hj hc1 hc2 hka
      go_wp2_with fail
      go_quiet (fail)
      go_wp2_with fail
      go_roundw
      case rel => exact ⟨k + 1, by omega, by go_num, Lib.hid (HD.out.more _)⟩
      case measure => simp [intOf]; omega
    · obtain rfl : k = n := by omega
      have ql : decide ((k : Int) < (k : Int)) = false := by simp
      clear H1 H2 HN hlt hk
      go_wp2_with fail
      go_ret
      exact ⟨rfl, HD.out⟩
/-- append of one cell that was just laid, at a step -/
theorem step_app {w : World} {ops : Array Oper} {o : Oper} {a : Act} {K : Act → World → Prop} {Q : Exit → Act → World → Prop} {E : Prop} (hgd : o.guard = none) (s x : Operand)
    (ho : o.op = .call { callee := .builtin .append, args := #[s, x], argTypes := #[22, 22] })
    (base : Nat) (v : Value) (n : Nat) (ys : List Int) (hs : a.eval s = v) (hown : w.ownsRow base 3 1 v n (ints ys)) (g : Nat) (z : Int) (hx : a.eval x = .slice (some ⟨g, 0, none⟩) 1 1)
    (hc : w.cell? ⟨g, 0, none⟩ = some (.int .i64 z)) (hn : n ≤ 5000000) (hbase : base ≤ w.heap.size)
    (h : ∀ v' w', Hid (w'.ownsRow base 3 1 v' (n + 1) (ints (ys ++ [z]))) → Hid (Below base w w') → K (a.put o.dst v') w') :
    if Region.wanted o (yielded ops a.tmps) = true then Oper.wp Try.prog o a w K Q else E := by
  have hw : Region.wanted o (yielded ops a.tmps) = true := by simp [Region.wanted, hgd]
  rw [if_pos hw]
  obtain ⟨i0, hi, hz0, hz1, hz2⟩ := info_parts Lp.Try.infoInt
  refine wp_append_own w s x 22 ho base 3 i0 (.int .i64 0) 1 8 Try.underlying22 hi hz0 hz1 hz2 rfl (by decide) v n (ints ys) hs hown ⟨g, 0, none⟩ 1 1 [.int .i64 z] hx rfl ?_ ?_ (by unfold maxLen; omega) (by omega) hbase ?_
  · intro j u hj
    rcases j with _ | j
    · simp at hj
      subst hj
      simpa [add_plain] using hc
    · simp at hj
  · intro u hu
    simp at hu
    subst hu
    rfl
  · intro v' w' h2 h3 h4
    exact h v' w' (Lib.hid (by rw [ints_append]; exact h2)) (Lib.hid (grown_below hown h3 hbase))
/-- one of two may come up; behind both the same is left -/
theorem jz2 {P : Program} {md : Region.Mode} {ops : Array Oper} {Q : Exit → Act → World → Prop} {S : World → Prop} {fuel fuel2 : Nat} {listed L : Array Bool} {a A : Act} {w W : World} (i j : Nat) {o o2 : Oper}
    (hr : Region.ready md ops listed = [i, j]) (ho : ops[i]? = some o) (ho2 : ops[j]? = some o2)
    (h : wpAnyH P md ops Q S fuel2 L A W → ∀ K' : Act → World → Prop, Shut (∀ a w, S w → (S w → wpAnyH P md ops Q S fuel (listed.setIfInBounds i true) a w) → K' a w) → if Region.wanted o (yielded ops a.tmps) = true then Oper.wp P o a w K' Q else K' (a.put o.dst undef) w)
    (h2 : (∀ L', L' = L → wpAnyH P md ops Q S fuel2 L' A W) → ∀ K' : Act → World → Prop, Shut (∀ a w, S w → (S w → wpAnyH P md ops Q S fuel (listed.setIfInBounds j true) a w) → K' a w) → if Region.wanted o2 (yielded ops a.tmps) = true then Oper.wp P o2 a w K' Q else K' (a.put o2.dst undef) w)
    (hx : wpAnyH P md ops Q S fuel2 L A W) : wpAnyH P md ops Q S (fuel + 1) listed a w :=
  jz i j (h hx) (h2 (fun L' e => by rw [e]; exact hx)) hr ho ho2
/-- what stands in memory while the document's rows grow -/
structure RcS (w : World) (B g6 : Nat) (W H s : Value) (o3 : Obj) (wd ht v : Value) (k : Nat) (L : List Int) (wr : World) : Prop where
  bel : Below w.heap.size w wr
  b2 : Bx 28 wr w.heap.size W H s
  b3 : wr.heap[w.heap.size + 1]? = some o3
  b4 : Bx 28 wr (w.heap.size + 2) (.int .i64 0) (.int .i64 0) (.slice none 0 0)
  b6 : Bx 28 wr g6 wd ht v
  own : wr.ownsRow B 3 1 v k (ints L)
  ne : w.heap.size + 2 < g6 ∧ g6 < B ∧ B ≤ wr.heap.size
theorem RcS.go {w : World} {B g6 : Nat} {W H s : Value} {o3 : Obj} {wd ht v : Value} {k : Nat} {L : List Int} {wr wr' : World} (h : RcS w B g6 W H s o3 wd ht v k L wr) (hb : Below wr.heap.size wr wr') : RcS w B g6 W H s o3 wd ht v k L wr' :=
  ⟨h.bel.trans (hb.mono h.bel.size), h.b2.go hb, (hb.block _ (blk_lt h.b3)).trans h.b3, h.b4.go hb, h.b6.go hb, own_below h.own hb, h.ne.1, h.ne.2.1, Nat.le_trans h.ne.2.2 hb.size⟩
theorem RcS.app {w : World} {B g6 : Nat} {W H s : Value} {o3 : Obj} {wd ht v v' : Value} {k : Nat} {L L' : List Int} {wr wr' : World} (h : RcS w B g6 W H s o3 wd ht v k L wr) (hb : Below B wr wr') (ho : wr'.ownsRow B 3 1 v' (k + 1) (ints L')) :
    RcS w B g6 W H s o3 wd ht v' (k + 1) L' (wr'.setCell ⟨g6, 2, none⟩ v') := by
  obtain ⟨n1, n2, n3⟩ := h.ne
  have hb2 : ∀ i, i < B → wr'.heap[i]? = wr.heap[i]? := fun i hi => hb.block i hi
  have h6 : Bx 28 wr' g6 wd ht v := (hb2 g6 n2).trans h.b6
  refine ⟨(h.bel.trans (hb.mono (by omega))).setCell (by show w.heap.size ≤ g6; omega) _, ?_, ?_, ?_, ?_, ?_, n1, n2, ?_⟩
  · exact Bx.far (show Bx 28 wr' w.heap.size W H s from (hb2 _ (by omega)).trans h.b2) (by omega) _
  · exact blk_far ((hb2 _ (by omega)).trans h.b3) (by omega) _ _
  · exact Bx.far (show Bx 28 wr' (w.heap.size + 2) _ _ _ from (hb2 _ (by omega)).trans h.b4) (by omega) _
  · exact blk_set h6 2 v'
  · refine ownsRow_setCell_other ho (a := ⟨g6, 2, none⟩) (fun e => ?_) _
    have := (World.ownsRow.lt ho g6 e).1
    omega
  · have := hb.size
    simp [World.setCell]
    omega
theorem RcS.cell {w : World} {B g6 : Nat} {W H s : Value} {o3 : Obj} {wd ht v : Value} {k : Nat} {L : List Int} {wr : World} (h : RcS w B g6 W H s o3 wd ht v k L wr) : wr.cell? ⟨g6, 2, none⟩ = some v ∧ wr.frozen? ⟨g6, 2, none⟩ = false := ⟨h.b6.cells.2.2, h.b6.fz 2⟩
end Go.Proofs.Ytjecakkdongcoaa.Gr

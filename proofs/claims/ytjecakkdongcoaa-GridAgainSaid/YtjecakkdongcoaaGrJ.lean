
/- Contracts of the laws of grids: of. -/
import Derived.Test.YtjecakkdongcoaaGrI
namespace Go.Proofs.Ytjecakkdongcoaa.Gr
open Go.RowKit Go.Proofs.Ytjecakkdongcoaa.Oct
open Go.Proofs.Ytjecakkdongcoaa.Lp (VRow Only ints ints_length ints_append ints_one vrow_blk vrow_own blk_set blk_far blk_frozen)
open Go.Proofs.Ytjecakkdongcoaa.Fm (Ow)
set_option linter.unusedVariables false
set_option linter.unusedSimpArgs false
set_option maxRecDepth 100000

theorem row_new (w : World) (vs : List Value) (T : TypeId) : VRow (w.alloc (.cells vs.toArray T)) (w.alloc (.cells vs.toArray T)).heap.size (some ⟨w.heap.size, 0, none⟩) vs :=
  vrow_blk (T := T) (fr := (0, 0)) (by
    show (w.heap.push _)[w.heap.size]? = _
    simp) (by simp)
/-- three cells stored -/
def put3 (w : World) (g : Nat) (a b c : Value) : World := ((w.setCell ⟨g, 0, none⟩ a).setCell ⟨g, 1, none⟩ b).setCell ⟨g, 2, none⟩ c
theorem bx4_put3 {T : TypeId} {w : World} {k g : Nat} {x0 x1 x2 x3 : Value} (h : Bx4 T w k x0 x1 x2 x3) (hg : g ≠ k) (a b c : Value) : Bx4 T (put3 w g a b c) k x0 x1 x2 x3 := blk_far (blk_far (blk_far h hg 0 a) hg 1 b) hg 2 c
theorem bx_put3 {T : TypeId} {w : World} {k g : Nat} {x0 x1 x2 : Value} (h : Bx T w k x0 x1 x2) (hg : g ≠ k) (a b c : Value) : Bx T (put3 w g a b c) k x0 x1 x2 := blk_far (blk_far (blk_far h hg 0 a) hg 1 b) hg 2 c
theorem below_put3 {w0 w : World} {B g : Nat} (h : Below B w0 w) (hg : B ≤ g) (a b c : Value) : Below B w0 (put3 w g a b c) := ((h.setCell hg a).setCell hg b).setCell hg c
theorem vrow_one {w : World} {C : Nat} {q : Option Addr} {vs : List Value} {g i : Nat} (h : VRow w C q vs) (hg : ∀ a, q = some a → g ≠ a.block) (v : Value) : VRow (w.setCell ⟨g, i, none⟩ v) C q vs := by
  intro hp
  obtain ⟨b, off, e, hb, hc⟩ := h hp
  have hne := hg _ e
  refine ⟨b, off, e, hb, fun j hj => ?_⟩
  rw [World.cell?_setCell_other _ _ _ _ (by intro h; injection h with h1; exact hne h1)]
  exact hc j hj
theorem vrow_put3 {w : World} {C : Nat} {q : Option Addr} {vs : List Value} {g : Nat} (h : VRow w C q vs) (hg : ∀ a, q = some a → g ≠ a.block) (a b c : Value) : VRow (put3 w g a b c) C q vs := vrow_one (vrow_one (vrow_one h hg a) hg b) hg c
theorem put3_size (w : World) (g : Nat) (a b c : Value) : (put3 w g a b c).heap.size = w.heap.size := by simp [put3, World.setCell]
theorem res_three {P : Program} {T U : TypeId} {fs us : Array Field} (hs : P.underlying T = some (.struct fs)) (h3 : (P.info? T).map (·.size) = some 3) (hs2 : P.underlying U = some (.struct us)) (h4 : (P.info? U).map (·.size) = some 3) {fn : Func} {p r u : Tmp} (h : fn.results = #[.cell p T, .cell r U, .tmp u]) (tmps : Array Value) (w : World) (g k : Nat) (c0 c1 c2 d0 d1 d2 : Value)
    (hp : tmps.getD p undef = .pointer (some ⟨g, 0, none⟩)) (hr : tmps.getD r undef = .pointer (some ⟨k, 0, none⟩)) (hg : Bx T w g c0 c1 c2) (hk : Bx U w k d0 d1 d2) :
    (results fn tmps).run P w = .ok (.tuple #[.agg #[c0, c1, c2], .agg #[d0, d1, d2], tmps.getD u undef]) w := by
  have hp' : tmps[p]?.getD undef = .pointer (some ⟨g, 0, none⟩) := by simpa using hp
  have hr' : tmps[r]?.getD undef = .pointer (some ⟨k, 0, none⟩) := by simpa using hr
  simp [results, h, hp', hr', asAddr, run_loadVar_row w g T T #[c0, c1, c2] (0, 0) _ hg hs rfl h3, run_loadVar_row w k U U #[d0, d1, d2] (0, 0) _ hk hs2 rfl h4]
/-- append of whatever row to one of the call's own, at a step -/
theorem step_append_ints {w : World} {ops : Array Oper} {o : Oper} {a : Act} {K : Act → World → Prop} {Q : Exit → Act → World → Prop} {E : Prop} (hgd : o.guard = none) (s x : Operand)
    (ho : o.op = .call { callee := .builtin .append, args := #[s, x], argTypes := #[22, 22] })
    (base : Nat) (v : Value) (n : Nat) (ys : List Value) (hs : a.eval s = v) (hown : w.ownsRow base 3 1 v n ys)
    (p : Option Addr) (m c : Nat) (xs : List Value) (hx : a.eval x = .slice p m c) (hr : VRow w w.heap.size p xs) (hxm : xs.length = m) (hc0 : p = none → c = 0) (h1 : ∀ u ∈ xs, u.oneCell' = true)
    (h47 : (n + m) * 8 ≤ 140737488355328) (hbase : base ≤ w.heap.size)
    (h : ∀ v' w', Hid (w'.ownsRow base 3 1 v' (n + m) (ys ++ xs)) → Hid (Below base w w') → K (a.put o.dst v') w') :
    if Region.wanted o (yielded ops a.tmps) = true then Oper.wp Try.prog o a w K Q else E := by
  have hw : Region.wanted o (yielded ops a.tmps) = true := by simp [Region.wanted, hgd]
  rw [if_pos hw]
  obtain ⟨i0, hi, hz0, hz1, hz2⟩ := info_parts Lp.Try.infoInt
  rcases p with _ | ad
  · have hxs : xs = [] := by
      rcases xs with _ | ⟨x, xs⟩
      · rfl
      · obtain ⟨b, off, he, _⟩ := hr (by simp)
        cases he
    subst hxs
    simp at hxm
    subst hxm
    have := hc0 rfl
    subst this
    have hrun := run_append_owned_none (P := Try.prog) (w := w) base 22 o.type 3 i0 1 Try.underlying22 hi v n ys hown
    unfold Oper.wp
    simp [execOp, ho, resolve, invoke, builtin, hs, hx, hrun, Result.andThen]
    exact h v w (Lib.hid (by simpa using hown)) (Lib.hid (Below.refl _ _))
  · refine wp_append_own w s x 22 ho base 3 i0 (.int .i64 0) 1 8 Try.underlying22 hi hz0 hz1 hz2 rfl (by decide) v n ys hs hown ad m c xs hx (by rw [hxm]; omega) ?_ h1 (by unfold maxLen; omega) h47 hbase ?_
    · intro j u hj
      obtain ⟨hj', hju⟩ := List.getElem?_eq_some_iff.1 hj
      obtain ⟨b, off, he, _, hc⟩ := hr (by omega)
      injection he with he
      subst he
      rw [add_plain, ← hju]
      exact hc j hj'
    · intro v' w' h2 h3 h4
      exact h v' w' (Lib.hid h2) (Lib.hid (grown_below hown h3 hbase))
/-- what stands in memory: the argument's box, two boxes of results, a row of the call's own -/
structure OfS (w : World) (B : Nat) (W H s f : Value) (v : Value) (k : Nat) (L : List Int) (wr : World) : Prop where
  bel : Below w.heap.size w wr
  b1 : Bx4 24 wr w.heap.size W H s f
  b2 : Bx 26 wr (w.heap.size + 1) (.int .i64 0) (.int .i64 0) (.slice none 0 0)
  b3 : Bx 28 wr (w.heap.size + 2) (.int .i64 0) (.int .i64 0) (.slice none 0 0)
  own : wr.ownsRow B 3 1 v k (ints L)
  ne : w.heap.size + 2 < B ∧ B ≤ wr.heap.size
theorem OfS.go {w : World} {B : Nat} {W H s f v : Value} {k : Nat} {L : List Int} {wr wr' : World} (h : OfS w B W H s f v k L wr) (hb : Below wr.heap.size wr wr') : OfS w B W H s f v k L wr' :=
  ⟨h.bel.trans (hb.mono h.bel.size), h.b1.go hb, h.b2.go hb, h.b3.go hb, own_below h.own hb, h.ne.1, Nat.le_trans h.ne.2 hb.size⟩
theorem OfS.app {w : World} {B : Nat} {W H s f v v' : Value} {k k' : Nat} {L L' : List Int} {wr wr' : World} (h : OfS w B W H s f v k L wr) (hb : Below B wr wr') (ho : wr'.ownsRow B 3 1 v' k' (ints L')) : OfS w B W H s f v' k' L' wr' := by
  obtain ⟨n1, n2⟩ := h.ne
  have hb2 : ∀ i, i < B → wr'.heap[i]? = wr.heap[i]? := fun i hi => hb.block i hi
  exact ⟨h.bel.trans (hb.mono (by omega)), (hb2 _ (by omega)).trans h.b1, (hb2 _ (by omega)).trans h.b2, (hb2 _ (by omega)).trans h.b3, ho, n1, by have := hb.size; omega⟩
theorem of_start (w : World) (W H : Int) (p : Option Addr) (n c : Nat) (f : Bool) : ∃ w3, w3 = ((w.alloc (.cells #[.int .i64 W, .int .i64 H, .slice p n c, .bool f] 24)).alloc (.cells #[.int .i64 0, .int .i64 0, .slice none 0 0] 26)).alloc (.cells #[.int .i64 0, .int .i64 0, .slice none 0 0] 28) ∧
    Hid (Below w.heap.size w w3) ∧ Hid (OfS w (w.heap.size + 1 + 1 + 1) (.int .i64 W) (.int .i64 H) (.slice p n c) (.bool f) (.slice none 0 0) 0 [] w3) ∧ w3.heap.size = w.heap.size + 1 + 1 + 1 := by
  obtain ⟨w1, hw1, HB1, HX1, hz1⟩ := box4 24 w (.int .i64 W) (.int .i64 H) (.slice p n c) (.bool f)
  obtain ⟨w2, hw2, HB2, HX2, HY2, hz2⟩ := box2 26 28 w1 (.int .i64 0) (.int .i64 0) (.slice none 0 0) (.int .i64 0) (.int .i64 0) (.slice none 0 0)
  rw [hz1] at HX2 HY2
  have hb := HB1.out.trans (HB2.out.mono HB1.out.size)
  exact ⟨w2, by rw [hw2, hw1], Lib.hid hb, Lib.hid ⟨hb, HX1.out.go HB2.out, HX2.out, HY2.out, World.ownsRow_nil w2 (w.heap.size + 1 + 1 + 1) 3 1, by omega, by omega⟩, by omega⟩
set_option maxHeartbeats 2000000 in
theorem of_plain (W H : Int) (p : Option Addr) (n c : Nat) (zs : List Int) (w : World) (hr : VRow w w.heap.size p (ints zs)) (hx : zs.length = n) (hnil : p = none → c = 0) (h47 : n * 8 ≤ 140737488355328) :
    Calls Try.prog 9 #[.agg #[.int .i64 W, .int .i64 H, .slice p n c, .bool false]] w (OfP w) := by
  obtain ⟨w3, hw3, HB3, HS3, hz3⟩ := of_start w W H p n c false
  have HZ := Lib.hid hz3
  have HW3 := Lib.hid hw3
  have hown := World.ownsRow_made (base := w3.heap.size) (e := 3) (size := 1) w3 #[] 0 (Nat.le_refl _) (by simp [maxLen]) rfl
  have hba : Below w3.heap.size w3 (w3.alloc (.cells #[] 3)) := (Below.refl _ w3).alloc (Nat.le_refl _) _
  have HS4 := Lib.hid (HS3.out.go hba)
  have HR4 := Lib.hid ((hr.below HS4.out.bel (Nat.le_refl _)).mono HS4.out.bel.size)
  have HXL : Hid ((ints zs).length = n) := Lib.hid (by rw [ints_length]; exact hx)
  have HX := Lib.hid hx
  have k1 := HS4.out.b1.cells
  rw [hz3] at hown
  have HOW0 := Lib.hid hown
  rw [hw3] at hown
  rw [hw3] at k1
  have HOW := Lib.hid hown
  have HS4' := HS4
  have HR4' := HR4
  rw [hw3] at HR4'
  obtain ⟨a0, a1, a2, a3⟩ := k1
  have hbl : w.heap.size + 1 + 1 + 1 ≤ (w3.alloc (.cells #[] 3)).heap.size := by simp; omega
  rw [hw3] at hbl
  clear hr hx hba hw3 hz3 hown
  go_enter Try.func9, Try.ntmps9
  go_wp2_with (at_builtin; (refine append_ints rfl (.tmp 6) (.tmp 8) rfl _ _ 0 [] rfl HOW.out p n c (ints zs) rfl HR4'.out HXL.out hnil ints_one (by omega) hbl ?_))
  intro v5 w5 hown5 hg5 hb5
  rw [← HW3.out] at hb5
  obtain ⟨q1, c1, hv5, hq1, hnc1, _, hrow5, hbl5⟩ := vrow_own hown5 HXL.out
  subst hv5
  have HS5 := Lib.hid (HS4.out.app hb5 hown5)
  have HQ1 := Lib.hid (And.intro hq1 hnc1)
  have HL1 := Lib.hid hbl5
  have HR5 := Lib.hid hrow5
  obtain ⟨a0, a1, a2, a3⟩ := HS5.out.b1.cells
  clear hown5 hg5 hb5 hq1 hnc1 hrow5 hbl5 HOW HR4' HS4' hbl
  go_wp2_with fail
  have hdr := (show Drawn w5 w5.drew from ⟨1, rfl⟩).below w5.heap.size
  have HS6 := Lib.hid (HS5.out.go hdr)
  have HR6 := Lib.hid ((HR5.out.below hdr (Nat.le_refl _)).mono hdr.size)
  have hba : Below w5.drew.heap.size w5.drew (w5.drew.alloc (.cells #[] 3)) := (Below.refl _ _).alloc (Nat.le_refl _) _
  have HS7 : Hid (OfS w (w.heap.size + 1 + 1 + 1) (.int .i64 W) (.int .i64 H) (.slice p n c) (.bool false) (.slice q1 n c1) n zs (w5.alloc (.cells #[] 3)).drew) := Lib.hid (HS6.out.go hba)
  have HR7 : Hid (VRow (w5.alloc (.cells #[] 3)).drew (w5.alloc (.cells #[] 3)).drew.heap.size q1 (ints zs)) := Lib.hid ((HR6.out.below hba (Nat.le_refl _)).mono hba.size)
  have HOW7 : Hid ((w5.alloc (.cells #[] 3)).drew.ownsRow w5.heap.size 3 1 (.slice (some ⟨w5.heap.size, 0, none⟩) 0 0) 0 []) := Lib.hid (World.ownsRow_made (base := w5.heap.size) (e := 3) (size := 1) w5 #[] 0 (Nat.le_refl _) (by simp [maxLen]) rfl)
  have HSB7 : Hid (Below w5.heap.size w5 (w5.alloc (.cells #[] 3)).drew) := Lib.hid (hdr.trans hba)
  have HSZ7 : Hid (w5.heap.size ≤ (w5.alloc (.cells #[] 3)).drew.heap.size) := Lib.hid hba.size
  clear hdr hba
  refine wp_region_held_drew (S := fun V => V.cell? ⟨w.heap.size, 0, none⟩ = some (.int .i64 W) ∧ V.cell? ⟨w.heap.size, 1, none⟩ = some (.int .i64 H)) (by kernel_rfl) ⟨HS6.out.b1.cells.1, HS6.out.b1.cells.2.1⟩ (fun hHeld => ?_)
  refine jt 0 ?_
  refine jt 1 ?_
  refine jt 2 ?_
  refine jt 3 ?_
  refine jt 4 ?_
  refine jt 5 ?_
  refine jt 6 ?_
  refine jt 7 ?_
  refine jt 8 ?_
  refine jt 9 ?_
  refine jt 11 ?_
  refine jt 14 ?_
  refine jt 15 ?_
  refine jt 16 ?_
  refine js 10 (fun K hK => ?_)
  go_simp
  refine hK.out _ _ ⟨HS7.out.b1.cells.1, HS7.out.b1.cells.2.1⟩ (fun hH1 => ?_)
  clear hK K hHeld
  try simp only [Act.put, jA, jB, jC, jD, jE, jF]
  generalize (w5.alloc (.cells #[] 3)).drew = w7 at *
  refine js 12 (fun K hK => ?_)
  refine step_append_ints rfl (.tmp 64) (.tmp 65) rfl _ _ 0 [] rfl HOW7.out q1 n c1 (ints zs) rfl HR7.out HXL.out HQ1.out.1 ints_one (by omega) HSZ7.out ?_
  intro v8 w8 HO8 HB8
  have ho8 := HO8.out
  rw [List.nil_append, Nat.zero_add] at ho8
  obtain ⟨q2, c2, hv8, hq2, hnc2, _, hrow8, hbl8⟩ := vrow_own ho8 HXL.out
  subst hv8
  have hB8 : ∀ i, i < w5.heap.size → w8.heap[i]? = w7.heap[i]? := fun i hi => HB8.out.block i hi
  have hne5 := HS5.out.ne
  have hlt7 := HSZ7.out
  have X1 : Bx4 24 w8 w.heap.size (.int .i64 W) (.int .i64 H) (.slice p n c) (.bool false) := (hB8 _ (by omega)).trans HS7.out.b1
  have X2 : Bx 26 w8 (w.heap.size + 1) (.int .i64 0) (.int .i64 0) (.slice none 0 0) := (hB8 _ (by omega)).trans HS7.out.b2
  have X3 : Bx 28 w8 (w.heap.size + 2) (.int .i64 0) (.int .i64 0) (.slice none 0 0) := (hB8 _ (by omega)).trans HS7.out.b3
  have HX3 := Lib.hid X3
  have HBW8 := Lib.hid (HS7.out.bel.trans (HB8.out.mono (by omega)))
  have HR81 := Lib.hid ((HR5.out.below (B := w5.heap.size) (w' := w8) (Below.trans (HSB7.out) HB8.out) (Nat.le_refl _)))
  have HV8 := Lib.hid hrow8
  have HL2 : Hid (∀ a, q2 = some a → w.heap.size + 2 < a.block) := Lib.hid (fun a h => by have := hbl8 a h; omega)
  have HL3 : Hid (∀ a, q1 = some a → w.heap.size + 2 < a.block) := Lib.hid (fun a h => by have := HL1.out a h; omega)
  have HQ2 := Lib.hid (And.intro hq2 hnc2)
  have HSW : Hid (w5.heap.size ≤ w8.heap.size) := Lib.hid (Nat.le_trans hlt7 HB8.out.size)
  refine hK.out _ _ ⟨X1.cells.1, X1.cells.2.1⟩ (fun hH2 => ?_)
  clear hK K hH1 hB8 hne5 hlt7 hbl8 HO8 HB8 ho8
  try simp only [Act.put, jA, jB, jC, jD, jE, jF]
  refine jt 13 ?_
  refine js 17 (fun K hK => ?_)
  obtain ⟨j0, j1, j2⟩ := X2.cells
  have f := X2.fz
  have f0 := f 0
  have f1 := f 1
  have f2 := f 2
  have Y1 := bx4_put3 (g := w.heap.size + 1) X1 (Nat.ne_of_gt (Nat.lt_succ_self _)) (.int .i64 W) (.int .i64 H) (.slice q1 n c1)
  have Y2 := X2.put (.int .i64 W) (.int .i64 H) (.slice q1 n c1)
  have Y3 := bx_put3 (g := w.heap.size + 1) X3 (by omega) (.int .i64 W) (.int .i64 H) (.slice q1 n c1)
  go_simp
  refine hK.out _ _ ⟨Y1.cells.1, Y1.cells.2.1⟩ (fun hH3 => ?_)
  clear hK K hH2 f0 f1 f2 f j0 j1 j2
  try simp only [Act.put, jA, jB, jC, jD, jE, jF]
  refine js 18 (fun K hK => ?_)
  have HBW9 := Lib.hid (below_put3 (g := w.heap.size + 1) HBW8.out (Nat.le_succ _) (.int .i64 W) (.int .i64 H) (.slice q1 n c1))
  have HV9 := Lib.hid (vrow_put3 (g := w.heap.size + 1) HR81.out (fun a h => by have := HL3.out a h; omega) (.int .i64 W) (.int .i64 H) (.slice q1 n c1))
  have HV9b := Lib.hid (vrow_put3 (g := w.heap.size + 1) HV8.out (fun a h => by have := HL2.out a h; omega) (.int .i64 W) (.int .i64 H) (.slice q1 n c1))
  have Z1 := bx4_put3 (g := w.heap.size + 2) Y1 (by omega) (.int .i64 W) (.int .i64 H) (.slice q2 n c2)
  have HZ2 := Lib.hid (bx_put3 (g := w.heap.size + 2) Y2 (by omega) (.int .i64 W) (.int .i64 H) (.slice q2 n c2))
  have HZ3 := Lib.hid (Y3.put (.int .i64 W) (.int .i64 H) (.slice q2 n c2))
  have HBWA := Lib.hid (below_put3 (g := w.heap.size + 2) HBW9.out (Nat.le_add_right _ 2) (.int .i64 W) (.int .i64 H) (.slice q2 n c2))
  have HVA := Lib.hid (vrow_put3 (g := w.heap.size + 2) HV9.out (fun a h => by have := HL3.out a h; omega) (.int .i64 W) (.int .i64 H) (.slice q2 n c2))
  have HVB := Lib.hid (vrow_put3 (g := w.heap.size + 2) HV9b.out (fun a h => by have := HL2.out a h; omega) (.int .i64 W) (.int .i64 H) (.slice q2 n c2))
  have HSA := Lib.hid (show (put3 (put3 w8 (w.heap.size + 1) (.int .i64 W) (.int .i64 H) (.slice q1 n c1)) (w.heap.size + 2) (.int .i64 W) (.int .i64 H) (.slice q2 n c2)).heap.size = w8.heap.size from by rw [put3_size, put3_size])
  obtain ⟨j0, j1, j2⟩ := Y3.cells
  have f := Y3.fz
  have f0 := f 0
  have f1 := f 1
  have f2 := f 2
  unfold put3 at j0 j1 j2 f0 f1 f2
  clear f HV9 HV9b Y2 X3 HX3 X2 X1
  go_simp
  refine hK.out _ _ ⟨Z1.cells.1, Z1.cells.2.1⟩ (fun hH4 => ?_)
  clear hK K hH3 f0 f1 f2 j0 j1 j2 Z1 Y1 Y3
  try simp only [Act.put, jA, jB, jC, jD, jE, jF]
  refine jt 19 ?_
  refine wpAnyH_done (by kernel_rfl) ?_ _
  clear hH4
  go_wp2_with fail
  refine bodyPost_ret (res_three Try.underlying26 size_gi Try.underlying28 size_gr rfl _ _ (w.heap.size + 1) (w.heap.size + 2) _ _ _ _ _ _ rfl rfl HZ2.out HZ3.out) rfl ?_
  refine ⟨HBWA.out, W, H, n, zs, q1, q2, c1, c2, _, rfl, HX.out, ?_, ?_, HQ1.out.2, HQ2.out.2, HQ1.out.1, HQ2.out.1, fun h => ?_⟩
  · have := HVA.out.mono (D := (put3 (put3 w8 (w.heap.size + 1) (.int .i64 W) (.int .i64 H) (.slice q1 n c1)) (w.heap.size + 2) (.int .i64 W) (.int .i64 H) (.slice q2 n c2)).heap.size) (by rw [HSA.out]; exact HSW.out)
    exact this
  · have := HVB.out.mono (D := (put3 (put3 w8 (w.heap.size + 1) (.int .i64 W) (.int .i64 H) (.slice q1 n c1)) (w.heap.size + 2) (.int .i64 W) (.int .i64 H) (.slice q2 n c2)).heap.size) (by rw [HSA.out]; exact Nat.le_refl _)
    exact this
  · have := of_decide_eq_true h
    omega
end Go.Proofs.Ytjecakkdongcoaa.Gr

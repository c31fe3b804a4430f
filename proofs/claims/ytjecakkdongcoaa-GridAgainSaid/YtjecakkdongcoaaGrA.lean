
/- Grids of numbers in memory: rows, parts of rows, boxes of three cells, a struct that came in; of no function of the program. -/
import Derived.Test.YtjecakkdongcoaaLpR
import Derived.Test.YtjecakkdongcoaaFm
import Derived.Test.YtjecakkdongcoaaGdM
import Derived.SizedLaws
import Derived.Lib.SmallJoins
import Derived.OpenShut
import Derived.Laws.Rows
namespace Go.Proofs.Ytjecakkdongcoaa.Gr
open Go.RowKit Go.Proofs.Ytjecakkdongcoaa.Oct
open Go.Proofs.Ytjecakkdongcoaa.Lp (VRow ints ints_length ints_append ints_one vrow_blk vrow_own blk_set blk_far blk_frozen)
set_option linter.unusedVariables false
set_option linter.unusedSimpArgs false
set_option maxRecDepth 100000

/-- 'l[a:]' -/
theorem tail_int (W : World) (p : Option Addr) (len cap a : Nat) (h : a ≤ len) :
    (Instr.slice 22 (.slice p len cap) (some (.int .i64 (a : Int))) none none).run Try.prog W = .ok (.slice (tailA p cap a) (len - a) (cap - a)) W := by
  have ht' : Try.prog.underlying 22 = some (.slice (Try.prog.elem 22)) := by kernel_rfl
  have he : Try.prog.elem 22 = 3 := by kernel_rfl
  have hz : (Go.sizeOf 3).run Try.prog W = .ok 1 W := by kernel_rfl
  rw [run_slice_l W 22 p len cap ht' .i64 _ (by omega) (by omega), he, hz]
  unfold tailA
  simp [Result.andThen, sliced]
/-- 'l[:k]' -/
theorem head_int (W : World) (p : Option Addr) (len cap k : Nat) (h : k ≤ cap) (hp : p = none → cap = 0) :
    (Instr.slice 22 (.slice p len cap) none (some (.int .i64 (k : Int))) none).run Try.prog W = .ok (.slice p k cap) W := by
  have ht' : Try.prog.underlying 22 = some (.slice (Try.prog.elem 22)) := by kernel_rfl
  have he : Try.prog.elem 22 = 3 := by kernel_rfl
  have hz : (Go.sizeOf 3).run Try.prog W = .ok 1 W := by kernel_rfl
  rw [run_slice_h W 22 p len cap ht' .i64 _ (by omega) (by omega), he, hz]
  rcases p with _ | a
  · have := hp rfl
    subst this
    simp [Result.andThen, sliced]
  · simp only [Result.andThen_ok, sliced, Int.toNat_natCast]
    obtain ⟨b, o, s⟩ := a
    by_cases h0 : cap = 0
    · simp [h0]
    · rw [if_neg h0]
      simp [Addr.add]
/-- 'l[a:c]' -/
theorem mid_int (W : World) (p : Option Addr) (len cap a c : Nat) (h : a ≤ c) (h2 : c ≤ cap) :
    (Instr.slice 22 (.slice p len cap) (some (.int .i64 (a : Int))) (some (.int .i64 (c : Int))) none).run Try.prog W = .ok (.slice (tailA p cap a) (c - a) (cap - a)) W := by
  have ht' : Try.prog.underlying 22 = some (.slice (Try.prog.elem 22)) := by kernel_rfl
  have he : Try.prog.elem 22 = 3 := by kernel_rfl
  have hz : (Go.sizeOf 3).run Try.prog W = .ok 1 W := by kernel_rfl
  rw [run_slice_lh W 22 p len cap ht' .i64 .i64 _ _ (by omega) (by omega) (by omega), he, hz]
  unfold tailA
  simp [Result.andThen, sliced]
theorem tail_v {w : World} {C : Nat} {p : Option Addr} {zs : List Int} (cap a : Nat) (h : VRow w C p (ints zs)) (hx : zs.length ≤ cap) : VRow w C (tailA p cap a) (ints (zs.drop a)) := by
  intro hp
  rw [ints_length, List.length_drop] at hp
  obtain ⟨b, off, rfl, hb, hc⟩ := h (by rw [ints_length]; omega)
  have hne : ¬ cap = a := by omega
  refine ⟨b, off + a, by simp [tailA, hne, add_plain], hb, fun i hi => ?_⟩
  rw [ints_length, List.length_drop] at hi
  rw [Nat.add_assoc, hc (a + i) (by rw [ints_length]; omega)]
  simp [ints]
theorem head_v {w : World} {C : Nat} {p : Option Addr} {zs : List Int} (k : Nat) (h : VRow w C p (ints zs)) : VRow w C p (ints (zs.take k)) := by
  intro hp
  rw [ints_length, List.length_take] at hp
  obtain ⟨b, off, rfl, hb, hc⟩ := h (by rw [ints_length]; omega)
  refine ⟨b, off, rfl, hb, fun i hi => ?_⟩
  rw [ints_length, List.length_take] at hi
  rw [hc i (by rw [ints_length]; omega)]
  simp [ints]
theorem mid_v {w : World} {C : Nat} {p : Option Addr} {zs : List Int} (cap a n : Nat) (h : VRow w C p (ints zs)) (hx : zs.length ≤ cap) : VRow w C (tailA p cap a) (ints ((zs.drop a).take n)) := head_v n (tail_v cap a h hx)
/-- append of whatever row to one of the call's own, up to the memory's bound -/
theorem append_ints {w : World} {ops : Array Oper} {rest : List Oper} {o : Oper} {a : Act} {Q : Exit → Act → World → Prop} (hgd : o.guard = none) (s x : Operand)
    (ho : o.op = .call { callee := .builtin .append, args := #[s, x], argTypes := #[22, 22] })
    (base : Nat) (v : Value) (n : Nat) (ys : List Value) (hs : a.eval s = v) (hown : w.ownsRow base 3 1 v n ys)
    (p : Option Addr) (m c : Nat) (xs : List Value) (hx : a.eval x = .slice p m c) (hr : VRow w w.heap.size p xs) (hxm : xs.length = m) (hc0 : p = none → c = 0) (h1 : ∀ u ∈ xs, u.oneCell' = true)
    (h47 : (n + m) * 8 ≤ 140737488355328) (hbase : base ≤ w.heap.size)
    (h : ∀ v' w', w'.ownsRow base 3 1 v' (n + m) (ys ++ xs) → w.grownBy w' v.ownBlock → Below base w w' → wpList Try.prog ops Q rest (a.put o.dst v') w') :
    wpList Try.prog ops Q (o :: rest) a w := by
  obtain ⟨i0, hi, hz0, hz1, hz2⟩ := info_parts Lp.Try.infoInt
  rcases p with _ | ad
  · have hxs : xs = [] := by
      rcases xs with _ | ⟨x, xs⟩
      · rfl
      · obtain ⟨b, off, he, _⟩ := hr (by simp)
        cases he
    subst hxs
    simp at hxm
    subst hxm
    have := hc0 rfl
    subst this
    refine wpList_append_own_none hgd s x 22 ho base 3 i0 1 Try.underlying22 hi v n ys hs hown hx ?_
    exact h v w (by simpa using hown) (World.grownBy.refl w _) (Below.refl _ _)
  · refine wpList_append_own w hgd s x 22 ho base 3 i0 (.int .i64 0) 1 8 Try.underlying22 hi hz0 hz1 hz2 rfl (by decide) v n ys hs hown ad m c xs hx (by rw [hxm]; omega) ?_ h1 (by unfold maxLen; omega) h47 hbase ?_
    · intro j u hj
      obtain ⟨hj', hju⟩ := List.getElem?_eq_some_iff.1 hj
      obtain ⟨b, off, he, _, hc⟩ := hr (by omega)
      injection he with he
      subst he
      rw [add_plain, ← hju]
      exact hc j hj'
    · intro v' w' h2 h3 h4
      exact h v' w' h2 h3 (grown_below hown h3 hbase)
/-- a box of three cells -/
def Bx (T : TypeId) (W : World) (g : Nat) (a b c : Value) : Prop := W.heap[g]? = some (.cells #[a, b, c] T (0, 0))
theorem Bx.cells {T : TypeId} {W : World} {g : Nat} {a b c : Value} (h : Bx T W g a b c) : W.cell? ⟨g, 0, none⟩ = some a ∧ W.cell? ⟨g, 1, none⟩ = some b ∧ W.cell? ⟨g, 2, none⟩ = some c := by
  unfold Bx at h
  simp [World.cell?, h]
theorem Bx.fz {T : TypeId} {W : World} {g : Nat} {a b c : Value} (h : Bx T W g a b c) (i : Nat) : W.frozen? ⟨g, i, none⟩ = false := blk_frozen h i
theorem Bx.lt {T : TypeId} {W : World} {g : Nat} {a b c : Value} (h : Bx T W g a b c) : g < W.heap.size := by
  rcases Nat.lt_or_ge g W.heap.size with h' | h'
  · exact h'
  · rw [Bx, Array.getElem?_eq_none h'] at h; cases h
theorem Bx.go {T : TypeId} {W W' : World} {g : Nat} {a b c : Value} (h : Bx T W g a b c) (hb : Below W.heap.size W W') : Bx T W' g a b c := (hb.block g h.lt).trans h
theorem Bx.new (T : TypeId) (W : World) (a b c : Value) : Bx T (W.alloc (.cells #[a, b, c] T)) W.heap.size a b c := Array.getElem?_push_size
theorem Bx.put {T : TypeId} {W : World} {g : Nat} {a b c : Value} (h : Bx T W g a b c) (x y z : Value) : Bx T (((W.setCell ⟨g, 0, none⟩ x).setCell ⟨g, 1, none⟩ y).setCell ⟨g, 2, none⟩ z) g x y z := by
  have h1 := blk_set h 0 x
  have h2 := blk_set h1 1 y
  exact blk_set h2 2 z
theorem Bx.far {T : TypeId} {W : World} {g k i : Nat} {a b c : Value} (h : Bx T W g a b c) (hk : k ≠ g) (v : Value) : Bx T (W.setCell ⟨k, i, none⟩ v) g a b c := blk_far h hk i v
instance {T : TypeId} {g : Nat} {a b c : Value} : Fm.Sta (fun w => Bx T w g a b c) := ⟨fun h hb => h.go hb⟩
/-- a box of four cells -/
def Bx4 (T : TypeId) (W : World) (g : Nat) (a b c d : Value) : Prop := W.heap[g]? = some (.cells #[a, b, c, d] T (0, 0))
theorem Bx4.cells {T : TypeId} {W : World} {g : Nat} {a b c d : Value} (h : Bx4 T W g a b c d) : W.cell? ⟨g, 0, none⟩ = some a ∧ W.cell? ⟨g, 1, none⟩ = some b ∧ W.cell? ⟨g, 2, none⟩ = some c ∧ W.cell? ⟨g, 3, none⟩ = some d := by
  unfold Bx4 at h
  simp [World.cell?, h]
theorem Bx4.lt {T : TypeId} {W : World} {g : Nat} {a b c d : Value} (h : Bx4 T W g a b c d) : g < W.heap.size := by
  rcases Nat.lt_or_ge g W.heap.size with h' | h'
  · exact h'
  · rw [Bx4, Array.getElem?_eq_none h'] at h; cases h
theorem Bx4.go {T : TypeId} {W W' : World} {g : Nat} {a b c d : Value} (h : Bx4 T W g a b c d) (hb : Below W.heap.size W W') : Bx4 T W' g a b c d := (hb.block g h.lt).trans h
theorem Bx4.new (T : TypeId) (W : World) (a b c d : Value) : Bx4 T (W.alloc (.cells #[a, b, c, d] T)) W.heap.size a b c d := Array.getElem?_push_size
theorem Bx4.only {T : TypeId} {W W' : World} {G g : Nat} {a b c d : Value} (h : Bx4 T W g a b c d) (ho : Lp.Only (· = G) W W') (hg : g ≠ G) : Bx4 T W' g a b c d := (ho.2.2.2.2 g h.lt hg).trans h
theorem Bx.only {T : TypeId} {W W' : World} {G g : Nat} {a b c : Value} (h : Bx T W g a b c) (ho : Lp.Only (· = G) W W') (hg : g ≠ G) : Bx T W' g a b c := (ho.2.2.2.2 g h.lt hg).trans h
theorem box4 (T : TypeId) (w : World) (a b c d : Value) : ∃ w1, w1 = w.alloc (.cells #[a, b, c, d] T) ∧ Hid (Below w.heap.size w w1) ∧ Hid (Bx4 T w1 w.heap.size a b c d) ∧ w1.heap.size = w.heap.size + 1 :=
  ⟨_, rfl, Lib.hid ((Below.refl w.heap.size w).alloc (Nat.le_refl _) _), Lib.hid (Bx4.new T w a b c d), by simp⟩
theorem box1 (T : TypeId) (w : World) (a b c : Value) : ∃ w1, w1 = w.alloc (.cells #[a, b, c] T) ∧ Hid (Below w.heap.size w w1) ∧ Hid (Bx T w1 w.heap.size a b c) ∧ w1.heap.size = w.heap.size + 1 :=
  ⟨_, rfl, Lib.hid ((Below.refl w.heap.size w).alloc (Nat.le_refl _) _), Lib.hid (Bx.new T w a b c), by simp⟩
theorem box2 (T U : TypeId) (w : World) (a b c x y z : Value) : ∃ w2, w2 = (w.alloc (.cells #[a, b, c] T)).alloc (.cells #[x, y, z] U) ∧ Hid (Below w.heap.size w w2) ∧ Hid (Bx T w2 w.heap.size a b c) ∧ Hid (Bx U w2 (w.heap.size + 1) x y z) ∧ w2.heap.size = w.heap.size + 2 := by
  obtain ⟨w1, hw, hb, hx, hz⟩ := box1 T w a b c
  obtain ⟨w2, hw2, hb2, hx2, hz2⟩ := box1 U w1 x y z
  refine ⟨w2, by rw [hw2, hw], Lib.hid (hb.out.trans (hb2.out.mono hb.out.size)), Lib.hid (hx.out.go hb2.out), ?_, by omega⟩
  rw [hz] at hx2
  exact hx2
theorem box_put (T : TypeId) (w : World) (a b c : Value) : ∃ w1, w1 = (((w.alloc (.cells #[.int .i64 0, .int .i64 0, .slice none 0 0] T)).setCell ⟨w.heap.size, 0, none⟩ a).setCell ⟨w.heap.size, 1, none⟩ b).setCell ⟨w.heap.size, 2, none⟩ c ∧
    Hid (Below w.heap.size w w1) ∧ Hid (Bx T w1 w.heap.size a b c) ∧ w1.heap.size = w.heap.size + 1 := by
  obtain ⟨w1, hw, hb, hx, hz⟩ := box1 T w (.int .i64 0) (.int .i64 0) (.slice none 0 0)
  rw [← hw]
  exact ⟨_, rfl, Lib.hid (((hb.out.setCell (Nat.le_refl _) _).setCell (Nat.le_refl _) _).setCell (Nat.le_refl _) _), Lib.hid (hx.out.put a b c), by simpa [World.setCell] using hz⟩
theorem tail_at {b off c m : Nat} (h : c ≠ m) : tailA (some ⟨b, off, none⟩) c m = some ⟨b, off + m, none⟩ := by
  unfold tailA
  rw [if_neg h]
  simp [add_plain]
theorem size_gi : (Try.prog.info? 26).map (·.size) = some 3 := by kernel_rfl
theorem size_gr : (Try.prog.info? 28).map (·.size) = some 3 := by kernel_rfl
theorem res_one {P : Program} {T : TypeId} {fs : Array Field} (hs : P.underlying T = some (.struct fs)) (h3 : (P.info? T).map (·.size) = some 3) {fn : Func} {p : Tmp} (h : fn.results = #[.cell p T]) (tmps : Array Value) (w : World) (g : Nat) (c0 c1 c2 : Value)
    (hp : tmps.getD p undef = .pointer (some ⟨g, 0, none⟩)) (hg : Bx T w g c0 c1 c2) :
    (results fn tmps).run P w = .ok (.agg #[c0, c1, c2]) w := by
  have hp' : tmps[p]?.getD undef = .pointer (some ⟨g, 0, none⟩) := by simpa using hp
  simp [results, h, hp', asAddr, run_loadVar_row w g T T #[c0, c1, c2] (0, 0) _ hg hs rfl h3]
theorem res_two {P : Program} {T : TypeId} {fs : Array Field} (hs : P.underlying T = some (.struct fs)) (h3 : (P.info? T).map (·.size) = some 3) {fn : Func} {p u : Tmp} (h : fn.results = #[.cell p T, .tmp u]) (tmps : Array Value) (w : World) (g : Nat) (c0 c1 c2 : Value)
    (hp : tmps.getD p undef = .pointer (some ⟨g, 0, none⟩)) (hg : Bx T w g c0 c1 c2) :
    (results fn tmps).run P w = .ok (.tuple #[.agg #[c0, c1, c2], tmps.getD u undef]) w := by
  have hp' : tmps[p]?.getD undef = .pointer (some ⟨g, 0, none⟩) := by simpa using hp
  simp [results, h, hp', asAddr, run_loadVar_row w g T T #[c0, c1, c2] (0, 0) _ hg hs rfl h3]
/-- is a grid right? -/
def rightI (W H : Int) (n : Nat) : Bool := Gd.canG W H && decide ((n : Int) = W * H)
/-- has it a cell? -/
def hasI (W H : Int) (n : Nat) (x y : Int) : Bool := rightI W H n && decide (0 ≤ x ∧ x < W ∧ 0 ≤ y ∧ y < H)
theorem right_nat {W H : Int} {n : Nat} (h : rightI W H n = true) : ∃ a b : Nat, W = (a : Int) ∧ H = (b : Int) ∧ a * b = n ∧ n ≤ 4194304 ∧ a ≤ 4194304 ∧ b ≤ 4194304 := by
  simp [rightI, Gd.canG] at h
  obtain ⟨⟨h1, h2, h3, h4, h5⟩, h6⟩ := h
  obtain ⟨a, rfl⟩ : ∃ a : Nat, W = (a : Int) := ⟨W.toNat, by omega⟩
  obtain ⟨b, rfl⟩ : ∃ b : Nat, H = (b : Int) := ⟨H.toNat, by omega⟩
  have h7 : ((a * b : Nat) : Int) = (n : Int) := by push_cast; exact h6.symm
  exact ⟨a, b, rfl, rfl, by omega, by omega, by omega, by omega⟩
theorem has_nat {W H x y : Int} {n : Nat} (h : hasI W H n x y = true) : ∃ a b i j : Nat, W = (a : Int) ∧ H = (b : Int) ∧ x = (i : Int) ∧ y = (j : Int) ∧ a * b = n ∧ n ≤ 4194304 ∧ a ≤ 4194304 ∧ b ≤ 4194304 ∧ i < a ∧ j < b := by
  unfold hasI at h
  rw [Bool.and_eq_true] at h
  obtain ⟨a, b, rfl, rfl, h1, h2, h3, h4⟩ := right_nat h.1
  have h5 := of_decide_eq_true h.2
  exact ⟨a, b, x.toNat, y.toNat, rfl, rfl, by omega, by omega, h1, h2, h3, h4, by omega, by omega⟩
end Go.Proofs.Ytjecakkdongcoaa.Gr

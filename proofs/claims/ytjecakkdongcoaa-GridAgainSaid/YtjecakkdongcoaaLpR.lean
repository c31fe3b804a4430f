
/- Rows of numbers in memory (after earlier texts of mine), of no function of the program. -/
import Derived.Test.YtjecakkdongcoaaTail
import Derived.Lib.SliceRun
import Derived.ChangeSlices
namespace Go.Proofs.Ytjecakkdongcoaa.Lp
open Go.RowKit Go.Proofs.Ytjecakkdongcoaa.Oct
set_option maxRecDepth 100000
set_option linter.unusedVariables false
set_option linter.unusedSimpArgs false

/-- but for the blocks S nothing that was there has turned -/
def Only (S : Nat → Prop) (w w' : World) : Prop :=
  w'.os = w.os ∧ w'.tape = w.tape ∧ w'.output = w.output ∧ w.heap.size ≤ w'.heap.size ∧ ∀ k, k < w.heap.size → ¬ S k → w'.heap[k]? = w.heap[k]?
theorem Only.refl (S : Nat → Prop) (w : World) : Only S w w := ⟨rfl, rfl, rfl, Nat.le_refl _, fun _ _ _ => rfl⟩
theorem Only.trans {S : Nat → Prop} {a b c : World} (h : Only S a b) (k : Only S b c) : Only S a c :=
  ⟨k.1.trans h.1, k.2.1.trans h.2.1, k.2.2.1.trans h.2.2.1, Nat.le_trans h.2.2.2.1 k.2.2.2.1, fun i hi hs => (k.2.2.2.2 i (by have := h.2.2.2.1; omega) hs).trans (h.2.2.2.2 i hi hs)⟩
theorem Only.below {S : Nat → Prop} {B : Nat} {w w' : World} (h : Only S w w') (hB : B ≤ w.heap.size) (hS : ∀ k, k < B → ¬ S k) : Below B w w' :=
  ⟨h.1, h.2.1, h.2.2.1, h.2.2.2.1, fun k hk => h.2.2.2.2 k (by omega) (hS k hk)⟩
theorem Only.of_below {S : Nat → Prop} {w w' : World} (h : Below w.heap.size w w') : Only S w w' := ⟨h.os, h.tape, h.output, h.size, fun k hk _ => h.block k hk⟩
theorem Only.drawn (S : Nat → Prop) {w w' : World} (h : Drawn w w') : Only S w w' := by
  obtain ⟨n, rfl⟩ := h
  exact ⟨rfl, rfl, rfl, Nat.le_refl _, fun _ _ _ => rfl⟩
theorem Only.setCell {S : Nat → Prop} {w : World} {p : Addr} (hp : S p.block) (u : Value) : Only S w (w.setCell p u) :=
  ⟨rfl, rfl, rfl, by simp [World.setCell], fun k hk hs => Below.heap_setCell _ _ _ _ (fun e => hs (e ▸ hp))⟩
theorem Only.mono {S S' : Nat → Prop} {w w' : World} (h : Only S w w') (hs : ∀ k, k < w.heap.size → S k → S' k) : Only S' w w' :=
  ⟨h.1, h.2.1, h.2.2.1, h.2.2.2.1, fun k hk hn => h.2.2.2.2 k hk (fun e => hn (hs k hk e))⟩
/-- a slice's value reads as these, which lie below C -/
def VRow (w : World) (C : Nat) (p : Option Addr) (vs : List Value) : Prop :=
  0 < vs.length → ∃ b off, p = some ⟨b, off, none⟩ ∧ b < C ∧ ∀ i (h : i < vs.length), w.cell? ⟨b, off + i, none⟩ = some vs[i]
theorem VRow.below {w w' : World} {C B : Nat} {p : Option Addr} {vs : List Value} (h : VRow w C p vs) (hb : Below B w w') (hC : C ≤ B) : VRow w' C p vs := by
  intro hp
  obtain ⟨b, off, rfl, hlt, hc⟩ := h hp
  exact ⟨b, off, rfl, hlt, fun i hi => (hb.cell (p := ⟨b, off + i, none⟩) (by show b < B; omega)).trans (hc i hi)⟩
theorem VRow.mono {w : World} {C D : Nat} {p : Option Addr} {vs : List Value} (h : VRow w C p vs) (hC : C ≤ D) : VRow w D p vs := by
  intro hp
  obtain ⟨b, off, rfl, hlt, hc⟩ := h hp
  exact ⟨b, off, rfl, by omega, hc⟩
def ints (zs : List Int) : List Value := zs.map fun z => .int .i64 z
theorem ints_length (zs : List Int) : (ints zs).length = zs.length := by simp [ints]
theorem ints_append (L M : List Int) : ints (L ++ M) = ints L ++ ints M := by simp [ints]
theorem ints_one {zs : List Int} : ∀ v ∈ ints zs, v.oneCell' = true := by
  intro v hv
  simp [ints] at hv
  obtain ⟨x, _, rfl⟩ := hv
  rfl
theorem VRow.int {w : World} {C : Nat} {b off : Nat} {zs : List Int} (h : VRow w C (some ⟨b, off, none⟩) (ints zs)) (i : Nat) (hi : i < zs.length) : w.cell? ⟨b, off + i, none⟩ = some (.int .i64 zs[i]) := by
  obtain ⟨b', off', e, hlt, hc⟩ := h (by rw [ints_length]; omega)
  injection e with e
  injection e with e1 e2
  subst e1; subst e2
  have := hc i (by rw [ints_length]; exact hi)
  rw [this]
  simp [ints]
theorem VRow.addr {w : World} {C : Nat} {p : Option Addr} {vs : List Value} (h : VRow w C p vs) (hp : 0 < vs.length) : ∃ b off, p = some ⟨b, off, none⟩ ∧ b < C := by
  obtain ⟨b, off, e, hlt, _⟩ := h hp
  exact ⟨b, off, e, hlt⟩
theorem vrow_blk {w : World} {g C : Nat} {vs : List Value} {T : TypeId} {fr : Nat × Nat} (h : w.heap[g]? = some (.cells vs.toArray T fr)) (hC : g < C) : VRow w C (some ⟨g, 0, none⟩) vs := by
  intro hp
  refine ⟨g, 0, rfl, hC, fun i hi => ?_⟩
  simp [World.cell?, h, hi]
theorem vrow_own {w : World} {base n e : Nat} {v : Value} {vs : List Value} (h : w.ownsRow base e 1 v n vs) (hn : vs.length = n) :
    ∃ q c, v = .slice q n c ∧ (q = none → c = 0) ∧ n ≤ c ∧ c ≤ maxLen ∧ VRow w w.heap.size q vs ∧ ∀ a, q = some a → base ≤ a.block := by
  have hl := fun k hk => h.lt k hk
  have hc := fun g hg => h.cells (g := g) hg
  rcases h.2 with ⟨rfl, h0⟩ | ⟨g, cap, cur, rfl, hb, hh, h1, h2, _, _⟩
  · subst h0
    have : vs = [] := List.eq_nil_of_length_eq_zero hn
    subst this
    exact ⟨none, 0, rfl, fun _ => rfl, Nat.le_refl _, by simp [maxLen], fun h => absurd h (by simp), fun a h => by cases h⟩
  · refine ⟨some ⟨g, 0, none⟩, cap, rfl, fun h => (by cases h), h1, h2, fun hp => ⟨g, 0, rfl, (hl g rfl).2, fun i hi => ?_⟩, fun a h => by injection h with h; subst h; exact hb⟩
    have := hc g rfl i vs[i] (by simp [hi])
    rw [add_plain] at this
    exact this
theorem Try.infoInt : (Try.prog.info? 3).map (fun i => (i.zero, i.size, i.bytes)) = some (some (.int .i64 0), 1, 8) := by kernel_rfl
theorem wpList_append_vals {w : World} {ops : Array Oper} {rest : List Oper} {o : Oper} {a : Act} {Q : Exit → Act → World → Prop} {T e : TypeId} {i0 : TypeInfo} {z : Value} {by_ : Nat}
    (hT : Try.prog.underlying T = some (.slice e)) (hi : Try.prog.info? e = some i0) (hz0 : i0.zero = some z) (hz1 : i0.size = 1) (hz2 : i0.bytes = by_) (hzc : z.cells = #[z]) (hby2 : by_ ≤ 16)
    (hgd : o.guard = none) (s x : Operand)
    (ho : o.op = .call { callee := .builtin .append, args := #[s, x], argTypes := #[T, T] })
    (base : Nat) (v : Value) (n : Nat) (ys : List Value) (hs : a.eval s = v) (hown : w.ownsRow base e 1 v n ys)
    (p : Option Addr) (m c : Nat) (xs : List Value) (hx : a.eval x = .slice p m c) (hr : VRow w w.heap.size p xs) (hxm : xs.length = m) (hc0 : p = none → c = 0) (h1 : ∀ u ∈ xs, u.oneCell' = true)
    (h47 : n + m ≤ 100000000) (hbase : base ≤ w.heap.size)
    (h : ∀ v' w', w'.ownsRow base e 1 v' (n + m) (ys ++ xs) → w.grownBy w' v.ownBlock → Below base w w' → wpList Try.prog ops Q rest (a.put o.dst v') w') :
    wpList Try.prog ops Q (o :: rest) a w := by
  rcases p with _ | ad
  · have hxs : xs = [] := by
      rcases xs with _ | ⟨x, xs⟩
      · rfl
      · obtain ⟨b, off, he, _⟩ := hr (by simp)
        cases he
    subst hxs
    simp at hxm
    subst hxm
    have := hc0 rfl
    subst this
    refine wpList_append_own_none hgd s x T ho base e i0 1 hT hi v n ys hs hown hx ?_
    exact h v w (by simpa using hown) (World.grownBy.refl w _) (Below.refl _ _)
  · refine wpList_append_own w hgd s x T ho base e i0 z 1 by_ hT hi hz0 hz1 hz2 (by rw [hzc]; rfl) (by decide) v n ys hs hown ad m c xs hx (by rw [hxm]; omega) ?_ h1 (by unfold maxLen; omega) ?_ hbase ?_
    · intro j u hj
      obtain ⟨hj', hju⟩ := List.getElem?_eq_some_iff.1 hj
      obtain ⟨b, off, he, _, hc⟩ := hr (by omega)
      injection he with he
      subst he
      rw [add_plain, ← hju]
      exact hc j hj'
    · have := Nat.mul_le_mul_left (n + m) hby2
      first | omega | (have := Nat.mul_le_mul_left ((n + m) * 1) hby2; omega)
    · intro v' w' h2 h3 h4
      exact h v' w' h2 h3 (grown_below hown h3 hbase)
theorem blk_set {W : World} {d : Nat} {cs : Array Value} {T : TypeId} (h : W.heap[d]? = some (.cells cs T (0, 0))) (i : Nat) (v : Value) : (W.setCell ⟨d, i, none⟩ v).heap[d]? = some (.cells (cs.setIfInBounds i v) T (0, 0)) := by
  simp [World.setCell, Array.getElem?_modify, h]
theorem blk_far {W : World} {d e : Nat} {x : Option Obj} (h : W.heap[d]? = x) (hne : e ≠ d) (i : Nat) (v : Value) : (W.setCell ⟨e, i, none⟩ v).heap[d]? = x := by
  rw [← h]
  exact Below.heap_setCell _ _ _ _ (fun e' => hne e'.symm)
theorem blk_frozen {W : World} {d : Nat} {cs : Array Value} {T : TypeId} (h : W.heap[d]? = some (.cells cs T (0, 0))) (i : Nat) : W.frozen? ⟨d, i, none⟩ = false := by
  simp [World.frozen?, h]
/-- a row while it is filled -/
def fillV (vs : List Value) (z : Value) (k : Nat) : List Value := vs.take k ++ List.replicate (vs.length - k) z
theorem fillV_length (vs : List Value) (z : Value) (k : Nat) (h : k ≤ vs.length) : (fillV vs z k).length = vs.length := by simp [fillV]; omega
theorem fillV_zero (vs : List Value) (z : Value) : fillV vs z 0 = List.replicate vs.length z := by simp [fillV]
theorem fillV_all (vs : List Value) (z : Value) : fillV vs z vs.length = vs := by simp [fillV]
theorem fillV_step (vs : List Value) (z : Value) (k : Nat) (h : k < vs.length) : (fillV vs z k).set k vs[k] = fillV vs z (k + 1) := by
  unfold fillV
  rw [List.set_append, if_neg (by simp; omega), List.take_succ_eq_append_getElem h, List.append_assoc]
  congr 1
  rw [List.length_take, Nat.min_eq_left (by omega), Nat.sub_self, show vs.length - k = (vs.length - (k + 1)) + 1 by omega, List.replicate_succ]
  simp
theorem fillV_same (vs : List Value) (z : Value) (k : Nat) (h : k < vs.length) (hz : vs[k] = z) : fillV vs z k = fillV vs z (k + 1) := by
  unfold fillV
  rw [List.take_succ_eq_append_getElem h, List.append_assoc, show vs.length - k = (vs.length - (k + 1)) + 1 by omega, List.replicate_succ, hz]
  rfl
def IsInts (w : World) (a : Option Addr) (len cap : Nat) : Prop :=
  ∃ zs : List Int, zs.length = len ∧ VRow w w.heap.size a (ints zs) ∧ len ≤ cap ∧ cap ≤ maxLen ∧ (a = none → cap = 0)
section
variable {H : Type} {enc : TypeId × Value → H} {w : World} {spare : Nat → Bool} {held : Bool}
theorem open_introw {fuel : Nat} {a : Option Addr} {len cap : Nat} {x : DataW H × List MemPlace} (h : DataW.trod enc Try.prog w 0 spare held fuel 22 [.slice a len cap] = some x) : IsInts w a len cap := by
  rcases ChangeShapes.open_ints Try.underlying22 Try.underlying3 (by kernel_rfl) h with ⟨hcs, _⟩ | ⟨ad, l, c, zs, hcs, _, hl, hm, hz, _, hcell, hwz⟩
  · simp at hcs
    obtain ⟨rfl, rfl, rfl⟩ := hcs
    exact ⟨[], rfl, fun h => absurd h (by simp [ints]), Nat.le_refl _, by simp [maxLen], fun _ => rfl⟩
  · simp at hcs
    obtain ⟨rfl, rfl, rfl⟩ := hcs
    have hzl : len ≤ zs.length := by rw [hz]; split <;> omega
    refine ⟨zs.take len, by rw [List.length_take]; omega, fun hp => ?_, hl, hm, fun h => by cases h⟩
    rw [ints_length, List.length_take] at hp
    obtain ⟨b, off, spot⟩ := ad
    have h0 := hcell 0 (by omega)
    have hs : spot = none := by simpa [Addr.add] using World.cell?_spot h0
    subst hs
    refine ⟨b, off, rfl, lt_of_cell h0, fun i hi => ?_⟩
    rw [ints_length, List.length_take] at hi
    have h1 := hcell i (by omega)
    rw [add_plain] at h1
    rw [h1]
    have hg : zs.getD i 0 = zs[i]'(by omega) := by simp [List.getD, List.getElem?_eq_getElem (show i < zs.length by omega)]
    rw [hg]
    simp [ints]
end
end Go.Proofs.Ytjecakkdongcoaa.Lp

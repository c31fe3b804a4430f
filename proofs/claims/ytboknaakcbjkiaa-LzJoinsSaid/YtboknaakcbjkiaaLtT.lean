
/- Rows of tokens in memory: those that came in, and the call's own. -/
import Derived.Test.YtboknaakcbjkiaaLtM
import Derived.Deep.Slices
import Derived.Deep.Fields
import Derived.ChangeSame
import Derived.RegionTactic
import Derived.BigRegion
import Derived.OwnWalk
namespace Go.Proofs.Ytboknaakcbjkiaa.Lzt
open Go.RowKit Go.Proofs.Ytboknaakcbjkiaa.Oct Go.ChangeShapes Go.WideShapes Go.Deep
set_option linter.unusedVariables false
set_option linter.unusedSimpArgs false
set_option maxRecDepth 100000

theorem Try.infoToken : (Try.prog.info? 31).map (fun i => (i.zero, i.size, i.bytes)) = some (some (.agg #[.int .u8 0, .int .i64 0, .int .i64 0]), 3, 24) := by kernel_rfl
/-- a token at a place -/
def TokAt (w : World) (b off i : Nat) (t : Tok) : Prop :=
  w.cell? ⟨b, off + i * 3, none⟩ = some (.int .u8 (t.lit.toNat : Int)) ∧ w.cell? ⟨b, off + i * 3 + 1, none⟩ = some (.int .i64 t.len) ∧ w.cell? ⟨b, off + i * 3 + 2, none⟩ = some (.int .i64 t.dist)
def TokOk (t : Tok) : Prop := -9223372036854775808 ≤ t.len ∧ t.len ≤ 9223372036854775807 ∧ -9223372036854775808 ≤ t.dist ∧ t.dist ≤ 9223372036854775807
/-- these tokens -/
def Toks (w : World) (C : Nat) (a : Option Addr) (l : List Tok) : Prop :=
  (∀ t ∈ l, TokOk t) ∧ (0 < l.length → ∃ b off, a = some ⟨b, off, none⟩ ∧ b < C ∧ ∀ i (h : i < l.length), TokAt w b off i l[i])
def IsToks (w : World) (a : Option Addr) (len cap : Nat) : Prop := len ≤ cap ∧ cap ≤ maxLen ∧ (a = none → cap = 0) ∧ ∃ l : List Tok, l.length = len ∧ Toks w w.heap.size a l
theorem TokAt.below {w w' : World} {b off i B : Nat} {t : Tok} (h : TokAt w b off i t) (hb : Below B w w') (hlt : b < B) : TokAt w' b off i t :=
  ⟨(hb.cell (by exact hlt)).trans h.1, (hb.cell (by exact hlt)).trans h.2.1, (hb.cell (by exact hlt)).trans h.2.2⟩
theorem Toks.below {w w' : World} {C B : Nat} {a : Option Addr} {l : List Tok} (h : Toks w C a l) (hb : Below B w w') (hC : C ≤ B) : Toks w' C a l :=
  ⟨h.1, fun hp => by
    obtain ⟨b, off, e, hlt, hc⟩ := h.2 hp
    exact ⟨b, off, e, hlt, fun i hi => (hc i hi).below hb (by omega)⟩⟩
section
variable {H : Type} {enc : TypeId × Value → H} {w : World} {spare : Nat → Bool} {held : Bool}
theorem three9 {α : Type} {l : List α} (h : l.length = 3) : ∃ a b c, l = [a, b, c] := by
  match l, h with
  | [a, b, c], _ => exact ⟨a, b, c, rfl⟩
theorem tok_fields {fuel : Nat} {cs : List Value} {x : DataW H × List MemPlace} (h : DataW.trod enc Try.prog w 0 spare held fuel 31 cs = some x) :
    ∃ t : Tok, cs = [.int .u8 (t.lit.toNat : Int), .int .i64 t.len, .int .i64 t.dist] ∧ TokOk t := by
  have hC : Try.prog.cellsOf 31 = 3 := by kernel_rfl
  have k3 : Try.prog.cellsOf 5 = 1 := by kernel_rfl
  have k4 : Try.prog.cellsOf 3 = 1 := by kernel_rfl
  obtain ⟨ys, n', _, _, hlen, hyl, hf⟩ := DataW.trod_struct Try.underlying31 h
  rw [hC] at hlen
  obtain ⟨c0, c1, c2, rfl⟩ := three9 hlen
  obtain ⟨y0, y1, y2, rfl⟩ := three9 hyl
  have h0 := hf 0 _ rfl
  have h1 := hf 1 _ rfl
  have h2 := hf 2 _ rfl
  simp [k3] at h0
  simp [k4] at h1 h2
  obtain ⟨k, e0, _, w0⟩ := DataW.trod_int Try.underlying5 h0
  obtain ⟨n, e1, _, w1⟩ := DataW.trod_int Try.underlying3 h1
  obtain ⟨v, e2, _, w2⟩ := DataW.trod_int Try.underlying3 h2
  simp at e0 e1 e2
  subst e0 e1 e2
  have b0 := bounds_u8 w0
  have b1 := bounds_i64 w1
  have b2 := bounds_i64 w2
  refine ⟨⟨UInt8.ofNat k.toNat, n, v⟩, ?_, b1.1, b1.2, b2.1, b2.2⟩
  have : (((UInt8.ofNat k.toNat).toNat : Nat) : Int) = k := by rw [UInt8.toNat_ofNat']; omega
  simp only [this]
theorem open_toks {fuel : Nat} {a : Option Addr} {len cap : Nat} {x : DataW H × List MemPlace} (h : DataW.trod enc Try.prog w 0 spare held fuel 22 [.slice a len cap] = some x) : IsToks w a len cap := by
  have hC : Try.prog.cellsOf 31 = 3 := by kernel_rfl
  rcases open_slice Try.underlying22 h with ⟨hcs, _⟩ | ⟨ad, l, c, m, n, D, Pl, hcs, hb, hl, hm, hmm, _, hi⟩
  · simp at hcs
    obtain ⟨rfl, rfl, rfl⟩ := hcs
    exact ⟨Nat.le_refl _, by simp [maxLen], fun _ => rfl, [], rfl, (fun t ht => by cases ht), fun h => absurd h (by simp)⟩
  · simp at hcs
    obtain ⟨rfl, rfl, rfl⟩ := hcs
    refine ⟨hl, hm, (fun h => (by cases h)), ?_⟩
    rcases Nat.eq_zero_or_pos len with h0 | hp
    · exact ⟨[], h0.symm, (fun t ht => by cases ht), fun h => absurd h (by simp)⟩
    have hlm : len ≤ m := by rw [hmm]; split <;> omega
    obtain ⟨b, off, spot⟩ := ad
    have hs : spot = none := by
      obtain ⟨cs', hc, ht⟩ := hi 0 (by omega)
      rw [hC] at hc
      obtain ⟨_, hcl, hat⟩ := World.cells?_some hc
      have h0 := hat 0 (by omega)
      rw [List.getElem?_eq_getElem (by omega)] at h0
      simpa [Addr.add] using World.cell?_spot h0
    subst hs
    have key : ∀ i, ∃ t : Tok, i < len → TokAt w b off i t ∧ TokOk t := by
      intro i
      by_cases hil : i < len
      · obtain ⟨cs', hc, ht⟩ := hi i (by omega)
        rw [hC] at hc
        obtain ⟨_, hcl, hat⟩ := World.cells?_some hc
        obtain ⟨t, rfl, hok⟩ := tok_fields ht
        have h0 := hat 0 (by omega)
        have h1 := hat 1 (by omega)
        have h2 := hat 2 (by omega)
        simp only [Oct.add_plain] at h0 h1 h2
        exact ⟨t, fun _ => ⟨⟨h0, h1, h2⟩, hok⟩⟩
      · exact ⟨⟨0, 0, 0⟩, fun h => absurd h hil⟩
    obtain ⟨f, hf⟩ := Classical.axiomOfChoice key
    refine ⟨(List.range len).map f, by simp, fun t ht => ?_, fun _ => ⟨b, off, rfl, ?_, fun i hi2 => ?_⟩⟩
    · obtain ⟨i, hi2, rfl⟩ := List.mem_map.1 ht
      exact (hf i (List.mem_range.1 hi2)).2
    · exact lt_of_cell (hf 0 hp).1.1
    · have h1 : i < len := by simpa using hi2
      have h2 : ((List.range len).map f)[i] = f i := by simp
      rw [h2]
      exact (hf i h1).1
end
/-- a token's cells -/
def encT (t : Tok) : List Value := [.int .u8 (t.lit.toNat : Int), .int .i64 t.len, .int .i64 t.dist]
def tcells (l : List Tok) : List Value := l.flatMap encT
theorem tcells_length (l : List Tok) : (tcells l).length = l.length * 3 := by
  induction l with
  | nil => rfl
  | cons z l ih =>
    unfold tcells at ih ⊢
    rw [List.flatMap_cons, List.length_append, ih, List.length_cons]
    show 3 + _ = _
    omega
theorem tcells_append (a b : List Tok) : tcells (a ++ b) = tcells a ++ tcells b := by simp [tcells]
theorem tcells_get : ∀ (l : List Tok) (i : Nat) (h : i < l.length), (tcells l)[i * 3]? = some (.int .u8 (l[i].lit.toNat : Int)) ∧ (tcells l)[i * 3 + 1]? = some (.int .i64 l[i].len) ∧ (tcells l)[i * 3 + 2]? = some (.int .i64 l[i].dist)
  | [], i, h => by simp at h
  | z :: l, 0, h => ⟨rfl, rfl, rfl⟩
  | z :: l, i + 1, h => by
    obtain ⟨q1, q2, q3⟩ := tcells_get l i (by simpa using h)
    have e : ∀ j, (tcells (z :: l))[j + 3]? = (tcells l)[j]? := fun j => rfl
    rw [show (i + 1) * 3 = i * 3 + 3 by omega, show i * 3 + 3 + 1 = i * 3 + 1 + 3 by omega, show i * 3 + 3 + 2 = i * 3 + 2 + 3 by omega, e, e, e]
    exact ⟨q1, q2, q3⟩
theorem tcells_one (l : List Tok) : ∀ u ∈ tcells l, u.oneCell' = true := fun u hu => by
  obtain ⟨z, _, hz⟩ := List.mem_flatMap.1 hu
  simp [encT] at hz
  rcases hz with rfl | rfl | rfl <;> rfl
/-- the cells of tokens at a place -/
theorem toks_cells {w : World} {b off : Nat} {l : List Tok} (h : ∀ i (h : i < l.length), TokAt w b off i l[i]) (j : Nat) (u : Value) (hj : (tcells l)[j]? = some u) : w.cell? ⟨b, off + j, none⟩ = some u := by
  have hlt : j < l.length * 3 := by
    rw [← tcells_length]
    exact (List.getElem?_eq_some_iff.1 hj).1
  have hi : j / 3 < l.length := by omega
  obtain ⟨q1, q2, q3⟩ := tcells_get l (j / 3) hi
  obtain ⟨c1, c2, c3⟩ := h (j / 3) hi
  rcases (show j = j / 3 * 3 ∨ j = j / 3 * 3 + 1 ∨ j = j / 3 * 3 + 2 by omega) with e | e | e
  · rw [← e] at q1 c1
    rw [q1] at hj
    rw [c1, hj]
  · rw [← e] at q2
    rw [show off + j / 3 * 3 + 1 = off + j from by omega] at c2
    rw [q2] at hj
    rw [c2, hj]
  · rw [← e] at q3
    rw [show off + j / 3 * 3 + 2 = off + j from by omega] at c3
    rw [q3] at hj
    rw [c3, hj]
theorem toks_of {w : World} {b off : Nat} {l : List Tok} (h : ∀ j u, (tcells l)[j]? = some u → w.cell? ⟨b, off + j, none⟩ = some u) : ∀ i (h : i < l.length), TokAt w b off i l[i] := fun i hi =>
  have ⟨q1, q2, q3⟩ := tcells_get l i hi
  ⟨h _ _ q1, h _ _ q2, h _ _ q3⟩
/-- an own row of tokens -/
def TOwn (w : World) (base : Nat) (v : Value) (l : List Tok) : Prop := w.ownsRow base 31 3 v l.length (tcells l)
theorem TOwn.below {w w' : World} {base : Nat} {v : Value} {l : List Tok} (h : TOwn w base v l) (hb : Below w.heap.size w w') : TOwn w' base v l := by
  refine ⟨h.1, ?_⟩
  rcases h.2 with hn | ⟨g, cap, cur, rfl, hbs, hh, r⟩
  · exact .inl hn
  · refine .inr ⟨g, cap, cur, rfl, hbs, ?_, r⟩
    have hlt : g < w.heap.size := by
      rcases Nat.lt_or_ge g w.heap.size with hlt | hge
      · exact hlt
      · rw [Array.getElem?_eq_none hge] at hh; cases hh
    rw [hb.block g hlt]
    exact hh
theorem TOwn.shape {w : World} {base : Nat} {v : Value} {l : List Tok} (h : TOwn w base v l) (hok : ∀ t ∈ l, TokOk t) :
    ∃ q c, v = .slice q l.length c ∧ (q = none → c = 0) ∧ l.length ≤ c ∧ c ≤ maxLen ∧ Toks w w.heap.size q l ∧ ∀ a, q = some a → base ≤ a.block := by
  have hl := fun k hk => h.lt k hk
  have hc := fun g hg => World.ownsRow.cells h (g := g) hg
  rcases h.2 with ⟨rfl, h0⟩ | ⟨g, cap, cur, rfl, hb, hh, h1, h2, _, _⟩
  · exact ⟨none, 0, by rw [h0], fun _ => rfl, by omega, by simp [maxLen], ⟨hok, fun hp => by omega⟩, fun a h => by cases h⟩
  · refine ⟨some ⟨g, 0, none⟩, cap, rfl, fun h => (by cases h), h1, h2, ⟨hok, fun hp => ⟨g, 0, rfl, (hl g rfl).2, toks_of fun j u hj => ?_⟩⟩, fun a h => by injection h with h; subst h; exact hb⟩
    have := hc g rfl j u hj
    rw [Oct.add_plain] at this
    exact this
/-- tokens put behind an own row of tokens -/
theorem wpList_append_toks {w : World} {ops : Array Oper} {rest : List Oper} {o : Oper} {a : Act} {Q : Exit → Act → World → Prop}
    (hgd : o.guard = none) (s x : Operand) (ho : o.op = .call { callee := .builtin .append, args := #[s, x], argTypes := #[22, 22] })
    (base : Nat) (v : Value) (ys : List Tok) (hs : a.eval s = v) (hown : TOwn w base v ys)
    (p : Option Addr) (m c : Nat) (xs : List Tok) (hx : a.eval x = .slice p m c) (hr : Toks w w.heap.size p xs) (hxm : xs.length = m) (hc0 : p = none → c = 0)
    (h47 : ys.length + m ≤ 1000000) (hbase : base ≤ w.heap.size)
    (h : ∀ v' w', TOwn w' base v' (ys ++ xs) → w.grownBy w' v.ownBlock → Below base w w' → wpList Try.prog ops Q rest (a.put o.dst v') w') :
    wpList Try.prog ops Q (o :: rest) a w := by
  obtain ⟨i0, hi, hz0, hz1, hz2⟩ := info_parts Try.infoToken
  have hT := Try.underlying22
  rcases p with _ | ad
  · have hxs : xs = [] := by
      rcases xs with _ | ⟨x, xs⟩
      · rfl
      · obtain ⟨b, off, he, _⟩ := hr.2 (by simp)
        cases he
    subst hxs
    simp at hxm
    subst hxm
    have := hc0 rfl
    subst this
    refine wpList_append_own_none hgd s x 22 ho base 31 i0 3 hT hi v ys.length (tcells ys) hs hown hx ?_
    exact h v w (by simpa using hown) (World.grownBy.refl _ _) (Below.refl _ _)
  · refine wpList_append_own w hgd s x 22 ho base 31 i0 _ 3 24 hT hi hz0 hz1 hz2 (by decide) (by decide) v ys.length (tcells ys) hs hown ad m c (tcells xs) hx (by rw [tcells_length, hxm]) ?_ (tcells_one xs) (by unfold maxLen; omega) (by omega) hbase ?_
    · intro j u hj
      have hlt := (List.getElem?_eq_some_iff.1 hj).1
      rw [tcells_length] at hlt
      obtain ⟨b, off, he, _, hc⟩ := hr.2 (by omega)
      injection he with he
      subst he
      rw [Oct.add_plain]
      exact toks_cells hc j u hj
    · intro v' w' h2 h3 h4
      refine h v' w' ?_ h3 ((Below.refl _ w).grown h3 hbase (fun k hk => (World.ownsRow.lt hown k hk).1))
      unfold TOwn
      rw [List.length_append, hxm, tcells_append]
      exact h2
/-- the block of a token just made: its cells -/
theorem one_tok (w : World) (t : Tok) (h : TokOk t) : Toks (w.alloc (.cells #[.int .u8 (t.lit.toNat : Int), .int .i64 t.len, .int .i64 t.dist] 31)) (w.alloc (.cells #[.int .u8 (t.lit.toNat : Int), .int .i64 t.len, .int .i64 t.dist] 31)).heap.size (some ⟨w.heap.size, 0, none⟩) [t] := by
  refine ⟨fun t' ht => by rw [List.mem_singleton.1 ht]; exact h, fun _ => ⟨w.heap.size, 0, rfl, by simp, fun i hi => ?_⟩⟩
  have hi0 : i = 0 := by simpa using hi
  subst hi0
  have hb : (w.alloc (.cells #[.int .u8 (t.lit.toNat : Int), .int .i64 t.len, .int .i64 t.dist] 31)).heap[w.heap.size]? = some (.cells #[.int .u8 (t.lit.toNat : Int), .int .i64 t.len, .int .i64 t.dist] 31 (0, 0)) := Array.getElem?_push_size
  have hc : ∀ i u, (#[Value.int .u8 (t.lit.toNat : Int), .int .i64 t.len, .int .i64 t.dist] : Array Value)[i]? = some u → (w.alloc (.cells #[.int .u8 (t.lit.toNat : Int), .int .i64 t.len, .int .i64 t.dist] 31)).cell? ⟨w.heap.size, i, none⟩ = some u := fun i u hu => by
    rw [cell_of_row _ w.heap.size i _ _ _ hb]
    exact hu
  exact ⟨hc 0 _ rfl, hc 1 _ rfl, hc 2 _ rfl⟩
end Go.Proofs.Ytboknaakcbjkiaa.Lzt

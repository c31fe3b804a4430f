/- Words for byte slices in memory: appended to a row of the call's own, turned into a string, one byte stored. -/
import Derived.Test.YtmobdanpkojbbaaOctF
import Derived.Test.YtmobdanpkojbbaaOctG
import Derived.Test.YtmobdanpkojbbaaOctC
import Derived.Laws.AppendOwnNone
import Derived.Laws.BytesArg
import Derived.OpenShut
namespace Go.Proofs.Ytmobdanpkojbbaa.Oct
open Go.RowKit
set_option linter.unusedVariables false

/-- what a law is told of a slice of integers that came in -/
def IsRow (k : IntKind) (w : World) (a : Option Addr) (len cap : Nat) (zs : List Int) : Prop :=
  (a = none ∧ len = 0 ∧ cap = 0 ∧ zs = []) ∨
  ∃ x, a = some x ∧ len ≤ cap ∧ cap ≤ maxLen ∧ zs.length = cap ∧ (∀ i, i < zs.length → w.cell? (x.add i) = some (.int k (zs.getD i 0))) ∧ ∀ n ∈ zs, (Lit.int k n).wf = true

theorem lt_of_cell {w : World} {p : Addr} {v : Value} (h : w.cell? p = some v) : p.block < w.heap.size := by
  rcases Nat.lt_or_ge p.block w.heap.size with hlt | hge
  · exact hlt
  · unfold World.cell? at h
    rw [Array.getElem?_eq_none hge] at h
    simp at h

theorem IsRow.row {w : World} {a : Option Addr} {len cap : Nat} {zs : List Int} (h : IsRow .u8 w a len cap zs) :
    ∃ xs : List UInt8, xs.length = len ∧ Row w a xs ∧ len ≤ cap ∧ cap ≤ maxLen ∧ (a = none → cap = 0) := by
  rcases h with ⟨rfl, rfl, rfl, rfl⟩ | ⟨x, rfl, hl, hm, hz, hc, hw⟩
  · exact ⟨[], rfl, fun h => absurd h (by simp), Nat.le_refl _, by simp [maxLen], fun _ => rfl⟩
  · refine ⟨(zs.take len).map fun n => UInt8.ofNat n.toNat, by simp; omega, fun hp => ?_, hl, hm, fun h => by cases h⟩
    have hp' : 0 < len := by simp at hp; omega
    obtain ⟨b, off, spot⟩ := x
    have h0 := hc 0 (by omega)
    have hs : spot = none := by simpa [Addr.add] using World.cell?_spot h0
    subst hs
    refine ⟨b, off, rfl, lt_of_cell h0, fun i hi => ?_⟩
    have hi' : i < zs.length := by simp at hi; omega
    have h1 := hc i hi'
    rw [add_plain] at h1
    rw [h1]
    have hg : zs.getD i 0 = zs[i] := by simp [List.getD, List.getElem?_eq_getElem hi']
    have hb := bounds_u8 (hw zs[i] (List.getElem_mem hi'))
    rw [hg]
    simp
    omega

theorem conv_row {w : World} {p : Option Addr} {xs : List UInt8} (len cap : Nat) (h : Row w p xs) (hx : xs.length = len) :
    (convert 30 9 (.slice p len cap)).run Try.prog w = .ok (.string (bs xs)) w := by
  rcases p with _ | ad
  · have : xs = [] := by
      rcases xs with _ | ⟨x, xs⟩
      · rfl
      · obtain ⟨b, off, he, _⟩ := h (by simp)
        cases he
    subst this
    exact run_convert_bytes_nil w 30 5 Try.underlying30 Try.underlying5 len cap 9 Try.underlying9
  · by_cases h0 : 0 < xs.length
    · obtain ⟨b, off, he, _, hc⟩ := h h0
      injection he with he
      subst he
      have := run_convert_bytes_arg (P := Try.prog) w 30 5 Try.underlying30 Try.underlying5 b off len cap (xs.map fun x => (x.toNat : Int)) (by simpa using hx) (fun i hi => by
        have hi' : i < xs.length := by omega
        rw [hc i hi']
        simp [hi']) 9 Try.underlying9
      rw [this]
      congr 2
      simp only [strOfNums, bs, List.map_map]
      have e : ((fun n : Int => UInt8.ofNat n.toNat) ∘ fun x : UInt8 => (x.toNat : Int)) = id := by funext x; simp
      rw [e, List.map_id]
    · have : xs = [] := List.eq_nil_of_length_eq_zero (by omega)
      subst this
      simp at hx
      subst hx
      rw [run_convert_bytes_string w 30 9 5 _ 0 cap Try.underlying30 Try.underlying5 Try.underlying9]
      rw [run_bytesToString w ad 0 cap [] (by simpa using run_loadCells_list (P := Try.prog) w ad [] (fun j v h => by simp at h))]
      rfl

theorem Blk.frozen {w : World} {g : Nat} {xs : List UInt8} (h : Blk w g xs) (i : Nat) : w.frozen? ⟨g, i, none⟩ = false := by
  unfold Blk at h
  simp [World.frozen?, h]
theorem Blk.cell {w : World} {g : Nat} {xs : List UInt8} (h : Blk w g xs) (i : Nat) (hi : i < xs.length) : w.cell? ⟨g, i, none⟩ = some (.int .u8 (xs[i].toNat : Int)) := by
  unfold Blk at h
  simp [World.cell?, h, cellsOf, hi]
theorem Blk.set_ {w : World} {g : Nat} {xs : List UInt8} (h : Blk w g xs) (i : Nat) (x : UInt8) : Blk (w.setCell ⟨g, i, none⟩ (.int .u8 (x.toNat : Int))) g (xs.set i x) := by
  unfold Blk at h ⊢
  simp [World.setCell, Array.getElem?_modify, h, cellsOf, List.map_set]

theorem own_form {w : World} {base n : Nat} {v : Value} {xs : List UInt8} (h : w.ownsRow base 5 1 v n (cellsOf xs)) (hv : v ≠ .slice none 0 0) :
    ∃ g cap, v = .slice (some ⟨g, 0, none⟩) n cap ∧ n ≤ cap ∧ cap ≤ maxLen ∧ base ≤ g ∧ g < w.heap.size ∧ Row w (some ⟨g, 0, none⟩) xs := by
  have hc := fun g hg => h.cells (g := g) hg
  have hl := fun k hk => h.lt k hk
  rcases h.2 with ⟨e, _⟩ | ⟨g, cap, cur, rfl, hb, hh, h1, h2, _, _⟩
  · exact absurd e hv
  · refine ⟨g, cap, rfl, h1, h2, hb, (hl g rfl).2, fun hp => ⟨g, 0, rfl, (hl g rfl).2, fun i hi => ?_⟩⟩
    have := hc g rfl i (.int .u8 (xs[i].toNat : Int)) (by simp [cellsOf, hi])
    rw [add_plain] at this
    exact this
theorem cellsOf_append (xs ys : List UInt8) : cellsOf (xs ++ ys) = cellsOf xs ++ cellsOf ys := by simp [cellsOf]
theorem wpList_append_bytes {w : World} {ops : Array Oper} {rest : List Oper} {o : Oper} {a : Act} {Q : Exit → Act → World → Prop} (hgd : o.guard = none) (s x : Operand)
    (ho : o.op = .call { callee := .builtin .append, args := #[s, x], argTypes := #[30, 30] })
    (base : Nat) (v : Value) (n : Nat) (ys : List UInt8) (hs : a.eval s = v) (hown : w.ownsRow base 5 1 v n (cellsOf ys))
    (p : Option Addr) (m c : Nat) (xs : List UInt8) (hx : a.eval x = .slice p m c) (hr : Row w p xs) (hxm : xs.length = m) (hc0 : p = none → c = 0)
    (h47 : n + m ≤ 140737488355328) (hbase : base ≤ w.heap.size)
    (h : ∀ v' w', w'.ownsRow base 5 1 v' (n + m) (cellsOf (ys ++ xs)) → w.grownBy w' v.ownBlock → (v ≠ .slice none 0 0 → v' ≠ .slice none 0 0) → wpList Try.prog ops Q rest (a.put o.dst v') w') :
    wpList Try.prog ops Q (o :: rest) a w := by
  obtain ⟨i0, hi, hz0, hz1, hz2⟩ := info_parts Try.infoByte
  rcases p with _ | ad
  · have hxs : xs = [] := by
      rcases xs with _ | ⟨x, xs⟩
      · rfl
      · obtain ⟨b, off, he, _⟩ := hr (by simp)
        cases he
    subst hxs
    simp at hxm
    subst hxm
    have := hc0 rfl
    subst this
    refine wpList_append_own_none hgd s x 30 ho base 5 i0 1 Try.underlying30 hi v n (cellsOf ys) hs hown hx ?_
    exact h v w (by simpa using hown) (World.grownBy.refl w _) (fun h => h)
  · refine wpList_append_own w hgd s x 30 ho base 5 i0 (.int .u8 0) 1 1 Try.underlying30 hi hz0 hz1 hz2 rfl (by decide) v n (cellsOf ys) hs hown ad m c (cellsOf xs) hx (by simp [cellsOf_length, hxm]) ?_ cellsOf_one (by unfold maxLen; omega) (by omega) hbase ?_
    · intro j u hj
      obtain ⟨hj', rfl⟩ := cellsOf_get hj
      obtain ⟨b, off, he, _, hc⟩ := hr (by omega)
      injection he with he
      subst he
      rw [add_plain]
      exact hc j hj'
    · intro v' w' h2 h3 h4
      exact h v' w' (by rw [cellsOf_append]; exact h2) h3 (fun hv hv' => hv (h4.1 hv').1)
end Go.Proofs.Ytmobdanpkojbbaa.Oct

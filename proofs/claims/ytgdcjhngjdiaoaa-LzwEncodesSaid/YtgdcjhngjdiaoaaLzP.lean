
/- Maps of the call's own, keyed by uint32: what they hold, as a function; made, looked up, written, counted, cleared. -/
import Derived.Test.YtgdcjhngjdiaoaaBitA
import Derived.Maps.OwnSet
namespace Go.Proofs.Ytgdcjhngjdiaoaa.Lz
open Go.RowKit Go.Proofs.Ytgdcjhngjdiaoaa.Oct Go.Proofs.Ytgdcjhngjdiaoaa.Bit Go.Maps
set_option linter.unusedVariables false

/-- block b is a map of n entries that holds f -/
def MapF {β : Type} (R : Value → Option (DataW Unit × List MemPlace)) (ed : β → DataW Unit) (w : World) (b n : Nat) (f : Nat → Option β) : Prop :=
  ∃ D, w.ownsMap Try.prog 37 R b n D ∧ Maps.size D = n ∧ ∀ k : Nat, k < 4294967296 → Maps.has D (.int .u32 (k : Int)) = (f k).isSome ∧ ∀ x, f k = some x → ∀ z, D.atKey (.int .u32 (k : Int)) z = ed x
theorem keyedU : Keyed Try.prog 37 := int_keyed Try.underlying37
theorem wfU {k : Nat} (h : k < 4294967296) : (Lit.int .u32 (k : Int)).wf = true := WalkArith.wf_u32 (by omega)
theorem keyU {k : Nat} (h : k < 4294967296) : keyOf Try.prog 37 (.int .u32 (k : Int)) = some (.int .u32 (k : Int)) := keyOf_int_mk Try.underlying37 (wfU h)
section
variable {β : Type} {R : Value → Option (DataW Unit × List MemPlace)} {ed : β → DataW Unit} {w w' : World} {b n : Nat} {f : Nat → Option β}
theorem MapF.lt (h : MapF R ed w b n f) : b < w.heap.size := by obtain ⟨D, h1, _⟩ := h; exact h1.lt
theorem MapF.only {S : Nat → Prop} (h : MapF R ed w b n f) (ho : Only S w w') (hs : ¬ S b) : MapF R ed w' b n f := by
  have hlt := h.lt
  obtain ⟨D, ⟨es, clock, hb, r⟩, h2⟩ := h
  exact ⟨D, ⟨es, clock, (ho.2.2.2.2 b hlt hs).trans hb, r⟩, h2⟩
theorem MapF.made (R : Value → Option (DataW Unit × List MemPlace)) (ed : β → DataW Unit) (w : World) : MapF R ed (w.alloc (.map #[] 0)) w.heap.size 0 (fun _ => none) :=
  ⟨.map [], World.ownsMap_made w Try.prog 37 R, rfl, fun k _ => ⟨rfl, fun x h => by cases h⟩⟩
theorem tight {D : DataW Unit} (h : w.ownsMap Try.prog 37 R b n D) : w.ownsMap Try.prog 37 R b (Maps.size D) D := by
  obtain ⟨es, clock, hb, F, hs, rfl⟩ := h
  exact ⟨es, clock, hb, F, by simp [Maps.size, length_sorted], rfl⟩
theorem MapF.store {t e : TypeId} (h : MapF R ed w b n f) (ht : Try.prog.underlying t = some (.map 37 e)) (hn : n < maxLen) {k : Nat} (hk : k < 4294967296) {val : Value} {x : β} (hv : R val = some (ed x, [])) :
    ∃ w', (Instr.mapUpdate t (.map (some b)) (.int .u32 (k : Int)) val).run Try.prog w = .ok () w' ∧ MapF R ed w' b (if (f k).isSome then n else n + 1) (fun j => if j = k then some x else f j) ∧ Only (· = b) w w' ∧ w'.heap.size = w.heap.size := by
  obtain ⟨D, h1, h2, h3⟩ := h
  obtain ⟨w', hrun, hown, es, clock, es', clock', hb, rfl⟩ := h1.store keyedU ht hn (keyU hk) hv
  have hkl : WideAt.IsKeyLit (.int .u32 (k : Int)) := by simp [WideAt.IsKeyLit]
  have hsz : Maps.size (D.put (.int .u32 (k : Int)) (ed x)) = if (f k).isSome then n else n + 1 := by
    rw [size_put (h1.tidy keyedU), (h3 k hk).1, h2]
  refine ⟨_, hrun, ⟨D.put (.int .u32 (k : Int)) (ed x), hsz ▸ tight hown, hsz, fun j hj => ?_⟩, ⟨rfl, rfl, rfl, by simp [ChangeMaps.setBlock], fun i hi hs => ?_⟩, by simp [ChangeMaps.setBlock]⟩
  · dsimp only
    by_cases hjk : j = k
    · subst hjk
      rw [if_pos rfl]
      refine ⟨has_put_same h1.isMap hkl _, fun y hy z => ?_⟩
      injection hy with hy
      subst hy
      exact atKey_put_same h1.isMap hkl _ _
    · rw [if_neg hjk]
      have hne : (Lit.int .u32 (j : Int)) ≠ .int .u32 (k : Int) := by
        intro e
        injection e with _ e
        omega
      refine ⟨by rw [has_put_other hne]; exact (h3 j hj).1, fun y hy z => ?_⟩
      rw [atKey_put_other hne]
      exact (h3 j hj).2 y hy z
  · exact ChangeMaps.heap_setBlock_other hb _ hs
theorem MapF.look {t e : TypeId} (h : MapF R ed w b n f) (ht : Try.prog.underlying t = some (.map 37 e)) {z : Value} (hz : (zeroValue e).run Try.prog w = .ok z w) {zd : DataW Unit} (hzd : R z = some (zd, []))
    (ev : β → Value) (hev : ∀ v x ps, R v = some (ed x, ps) → v = ev x) (hz0 : ∀ v ps, R v = some (zd, ps) → v = z) {k : Nat} (hk : k < 4294967296) :
    (Instr.lookup t (.map (some b)) (.int .u32 (k : Int)) true).run Try.prog w = .ok (.tuple #[((f k).map ev).getD z, .bool (f k).isSome]) w := by
  obtain ⟨D, h1, h2, h3⟩ := h
  obtain ⟨v, ps, hrun, hv⟩ := h1.look_ok keyedU ht hz hzd (keyU hk)
  rw [hrun, (h3 k hk).1]
  congr 4
  cases hf : f k with
  | none =>
    have : Maps.has D (.int .u32 (k : Int)) = false := by rw [(h3 k hk).1, hf]; rfl
    rw [atKey_of_not_has this] at hv
    exact hz0 v ps hv
  | some x =>
    rw [(h3 k hk).2 x hf] at hv
    exact hev v x ps hv
theorem MapF.len {t e : TypeId} (h : MapF R ed w b n f) (ht : Try.prog.underlying t = some (.map 37 e)) (ty : TypeId) : (Builtin.len_ #[t] ty #[.map (some b)]).run Try.prog w = .ok (.int .i64 (n : Int)) w := by
  obtain ⟨D, h1, h2, h3⟩ := h
  rw [h1.len ht ty, h2]
theorem MapF.clear_ {t e : TypeId} (h : MapF R ed w b n f) (ht : Try.prog.underlying t = some (.map 37 e)) (ty : TypeId) :
    ∃ w', (Builtin.clear_ #[t] ty #[.map (some b)]).run Try.prog w = .ok (.tuple #[]) w' ∧ MapF R ed w' b 0 (fun _ => none) ∧ Only (· = b) w w' ∧ w'.heap.size = w.heap.size := by
  obtain ⟨D, ⟨es, clock, hb, F, hs, hD⟩, h2, h3⟩ := h
  refine ⟨ChangeMaps.setBlock w b (.map #[] clock), ?_, ⟨.map [], ⟨#[], clock, ChangeMaps.heap_setBlock_same hb _, ⟨by simp, MapKept.stamped_empty clock, by simp⟩, Nat.le_refl _, rfl⟩, rfl, fun k _ => ⟨rfl, fun x h => by cases h⟩⟩, ⟨rfl, rfl, rfl, by simp [ChangeMaps.setBlock], fun i hi hs => ChangeMaps.heap_setBlock_other hb _ hs⟩, by simp [ChangeMaps.setBlock]⟩
  simp [Builtin.clear_, run_underlying ht, MapKept.run_getObj_map hb, MapKept.run_setObj_map _ hb, Result.andThen]
  rfl
end
/-! ### spans -/
def spanR : Value → Option (DataW Unit × List MemPlace)
  | .agg cs => match cs.toList with
    | [.int .i64 a, .int .i64 b] => some (.agg [.lit (.int .i64 a), .lit (.int .i64 b)], [])
    | _ => none
  | _ => none
def spanD (p : Nat × Nat) : DataW Unit := .agg [.lit (.int .i64 (p.1 : Int)), .lit (.int .i64 (p.2 : Int))]
def spanV (p : Nat × Nat) : Value := .agg #[.int .i64 (p.1 : Int), .int .i64 (p.2 : Int)]
theorem spanR_mk (p : Nat × Nat) : spanR (spanV p) = some (spanD p, []) := rfl
theorem spanR_inv {v : Value} {a b : Int} {ps : List MemPlace} (h : spanR v = some (.agg [.lit (.int .i64 a), .lit (.int .i64 b)], ps)) : v = .agg #[.int .i64 a, .int .i64 b] := by
  unfold spanR at h
  split at h
  · rename_i cs
    split at h
    · rename_i x y e
      simp at h
      obtain ⟨⟨rfl, rfl⟩, _⟩ := h
      have : cs = #[.int .i64 x, .int .i64 y] := by
        apply Array.toList_inj.1
        rw [e]
      rw [this]
    · cases h
  · cases h
def spF (sp : List (Nat × Nat)) (k : Nat) : Option (Nat × Nat) := if 258 ≤ k then sp[k - 258]? else none
/-- a decoder's table -/
def MapS (w : World) (b : Nat) (sp : List (Nat × Nat)) : Prop := MapF spanR spanD w b sp.length (spF sp)
theorem spF_nil : spF [] = fun _ => none := by funext k; unfold spF; split <;> simp
theorem spF_snoc (sp : List (Nat × Nat)) (p : Nat × Nat) : spF (sp ++ [p]) = fun j => if j = 258 + sp.length then some p else spF sp j := by
  funext j
  unfold spF
  by_cases h : j = 258 + sp.length
  · subst h
    simp
  · rw [if_neg h]
    by_cases h2 : 258 ≤ j
    · rw [if_pos h2, if_pos h2]
      rcases Nat.lt_or_ge (j - 258) sp.length with hlt | hge
      · rw [List.getElem?_append_left hlt]
      · rw [List.getElem?_eq_none (by simp; omega), List.getElem?_eq_none hge]
    · rw [if_neg h2, if_neg h2]
theorem MapS.made (w : World) : MapS (w.alloc (.map #[] 0)) w.heap.size [] := by
  unfold MapS
  rw [spF_nil]
  exact MapF.made spanR spanD w
theorem MapS.len {w : World} {b : Nat} {sp : List (Nat × Nat)} (h : MapS w b sp) (ty : TypeId) : (Builtin.len_ #[64] ty #[.map (some b)]).run Try.prog w = .ok (.int .i64 (sp.length : Int)) w :=
  MapF.len h Try.underlying64 ty
theorem MapS.clear_ {w : World} {b : Nat} {sp : List (Nat × Nat)} (h : MapS w b sp) (ty : TypeId) :
    ∃ w', (Builtin.clear_ #[64] ty #[.map (some b)]).run Try.prog w = .ok (.tuple #[]) w' ∧ MapS w' b [] ∧ Only (· = b) w w' ∧ w'.heap.size = w.heap.size := by
  obtain ⟨w', h1, h2, h3⟩ := MapF.clear_ h Try.underlying64 ty
  exact ⟨w', h1, by unfold MapS; rw [spF_nil]; exact h2, h3⟩
theorem zeroSpan (w : World) : (zeroValue 66).run Try.prog w = .ok (spanV (0, 0)) w := by kernel_rfl
theorem MapS.look {w : World} {b : Nat} {sp : List (Nat × Nat)} (h : MapS w b sp) {k : Nat} (hk : k < 4294967296) :
    (Instr.lookup 64 (.map (some b)) (.int .u32 (k : Int)) true).run Try.prog w = .ok (.tuple #[((spF sp k).map spanV).getD (spanV (0, 0)), .bool (spF sp k).isSome]) w :=
  MapF.look h Try.underlying64 (zeroSpan w) (spanR_mk (0, 0)) spanV (fun v x ps h => spanR_inv h) (fun v ps h => spanR_inv h) hk
theorem MapS.store {w : World} {b : Nat} {sp : List (Nat × Nat)} (h : MapS w b sp) (hn : sp.length ≤ 10000) (p : Nat × Nat) :
    ∃ w', (Instr.mapUpdate 64 (.map (some b)) (.int .u32 ((258 + sp.length : Nat) : Int)) (spanV p)).run Try.prog w = .ok () w' ∧ MapS w' b (sp ++ [p]) ∧ Only (· = b) w w' ∧ w'.heap.size = w.heap.size := by
  obtain ⟨w', h1, h2, h3⟩ := MapF.store h Try.underlying64 (by unfold maxLen; omega) (k := 258 + sp.length) (by omega) (spanR_mk p)
  refine ⟨w', h1, ?_, h3⟩
  have e : (spF sp (258 + sp.length)).isSome = false := by simp [spF]
  unfold MapS
  rw [spF_snoc]
  rw [e] at h2
  simpa using h2
theorem MapS.only {S : Nat → Prop} {w w' : World} {b : Nat} {sp : List (Nat × Nat)} (h : MapS w b sp) (ho : Only S w w') (hs : ¬ S b) : MapS w' b sp := MapF.only h ho hs
/-! ### numbers -/
def numR : Value → Option (DataW Unit × List MemPlace)
  | .int .u32 a => some (.lit (.int .u32 a), [])
  | _ => none
def numD (p : Nat) : DataW Unit := .lit (.int .u32 (p : Int))
def numV (p : Nat) : Value := .int .u32 (p : Int)
theorem numR_inv {v : Value} {a : Int} {ps : List MemPlace} (h : numR v = some (.lit (.int .u32 a), ps)) : v = .int .u32 a := by
  unfold numR at h
  split at h
  · simp at h
    rw [h.1]
  · cases h
/-- an encoder's table, of at most n entries -/
def MapC (w : World) (b : Nat) (n : Nat) (f : Nat → Option Nat) : Prop := ∃ m, m ≤ n ∧ MapF numR numD w b m f
theorem MapC.made (w : World) : MapC (w.alloc (.map #[] 0)) w.heap.size 0 (fun _ => none) := ⟨0, Nat.le_refl _, MapF.made numR numD w⟩
theorem MapC.clear_ {w : World} {b n : Nat} {f : Nat → Option Nat} (h : MapC w b n f) (ty : TypeId) :
    ∃ w', (Builtin.clear_ #[55] ty #[.map (some b)]).run Try.prog w = .ok (.tuple #[]) w' ∧ MapC w' b 0 (fun _ => none) ∧ Only (· = b) w w' ∧ w'.heap.size = w.heap.size := by
  obtain ⟨m, _, h⟩ := h
  obtain ⟨w', h1, h2, h3⟩ := MapF.clear_ h Try.underlying55 ty
  exact ⟨w', h1, ⟨0, Nat.le_refl _, h2⟩, h3⟩
theorem zeroU32 (w : World) : (zeroValue 37).run Try.prog w = .ok (numV 0) w := by kernel_rfl
theorem MapC.look {w : World} {b n : Nat} {f : Nat → Option Nat} (h : MapC w b n f) {k : Nat} (hk : k < 4294967296) :
    (Instr.lookup 55 (.map (some b)) (.int .u32 (k : Int)) true).run Try.prog w = .ok (.tuple #[.int .u32 (((f k).getD 0 : Nat) : Int), .bool (f k).isSome]) w := by
  obtain ⟨m, _, h⟩ := h
  rw [MapF.look h Try.underlying55 (zeroU32 w) (z := numV 0) (zd := numD 0) rfl numV (fun v x ps h => numR_inv h) (fun v ps h => numR_inv h) hk]
  cases f k <;> rfl
theorem MapC.store {w : World} {b n : Nat} {f : Nat → Option Nat} (h : MapC w b n f) (hn : n ≤ 1000000000) (k : Nat) (hk : k < 4294967296) (x : Nat) :
    ∃ w', (Instr.mapUpdate 55 (.map (some b)) (.int .u32 (k : Int)) (.int .u32 (x : Int))).run Try.prog w = .ok () w' ∧ MapC w' b (n + 1) (fun j => if j = k then some x else f j) ∧ Only (· = b) w w' ∧ w'.heap.size = w.heap.size := by
  obtain ⟨m, hm, h⟩ := h
  obtain ⟨w', h1, h2, h3⟩ := MapF.store h Try.underlying55 (by unfold maxLen; omega) hk (val := .int .u32 (x : Int)) (x := x) rfl
  refine ⟨w', h1, ⟨_, ?_, h2⟩, h3⟩
  split <;> omega
theorem MapC.only {S : Nat → Prop} {w w' : World} {b n : Nat} {f : Nat → Option Nat} (h : MapC w b n f) (ho : Only S w w') (hs : ¬ S b) : MapC w' b n f := by
  obtain ⟨m, hm, h⟩ := h
  exact ⟨m, hm, MapF.only h ho hs⟩
theorem MapC.lt {w : World} {b n : Nat} {f : Nat → Option Nat} (h : MapC w b n f) : b < w.heap.size := by obtain ⟨m, _, h⟩ := h; exact h.lt
end Go.Proofs.Ytgdcjhngjdiaoaa.Lz

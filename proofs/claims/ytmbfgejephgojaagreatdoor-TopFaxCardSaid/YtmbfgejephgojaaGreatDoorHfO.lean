
/- The nodes of a book in memory; the contracts of successor and add. -/
import Derived.Test.YtmbfgejephgojaaGreatDoorHfB
import Derived.ChangeKeysEq
import Derived.Laws.Pointers
namespace Go.Proofs.YtmbfgejephgojaaGreatDoor.Hf
open Go.RowKit Go.Proofs.YtmbfgejephgojaaGreatDoor.Oct Go.Proofs.YtmbfgejephgojaaGreatDoor.Bit
set_option linter.unusedVariables false
set_option linter.unusedSimpArgs false
set_option maxRecDepth 100000

theorem snoc_inj {p q : List Bool} {x y : Bool} (h : p ++ [x] = q ++ [y]) : p = q ∧ x = y := by
  obtain ⟨h1, h2⟩ := List.append_inj' h rfl
  injection h2 with h2
  exact ⟨h1, h2⟩
theorem snoc_ne (p : List Bool) (x y : Bool) : p ++ [x] ++ [y] ≠ p ++ [x] := fun h => by
  have := congrArg List.length h
  simp at this
/-- where the node lies to which some bits lead -/
def ptrV : Option (Nat × Nat) → Value
  | none => .pointer none
  | some (b, o) => .pointer (some ⟨b, o, none⟩)
/-- a book's nodes in memory: A tells where each lies, E which words end -/
structure Tr (w : World) (C g : Nat) (v0 v1 : Value) (A : List Bool → Option (Nat × Nat)) (E : List Bool → Option Nat) : Prop where
  root : A [] = some (g, 2)
  lo : ∀ p b o, A p = some (b, o) → g ≤ b ∧ b < C
  n0 : ∀ p b o, A p = some (b, o) → w.cell? ⟨b, o, none⟩ = some (ptrV (A (p ++ [false])))
  n1 : ∀ p b o, A p = some (b, o) → w.cell? ⟨b, o + 1, none⟩ = some (ptrV (A (p ++ [true])))
  ne : ∀ p b o, A p = some (b, o) → w.cell? ⟨b, o + 2, none⟩ = some (.bool (E p).isSome)
  ni : ∀ p b o, A p = some (b, o) → w.cell? ⟨b, o + 3, none⟩ = some (.int .i64 (((E p).getD 0 : Nat) : Int))
  fz : ∀ p b o, A p = some (b, o) → ∀ i, w.frozen? ⟨b, i, none⟩ = false
  o2 : ∀ p o, A p = some (g, o) → o = 2
  inj : ∀ p q b o o', A p = some (b, o) → A q = some (b, o') → p = q
  up : ∀ p x, A (p ++ [x]) ≠ none → A p ≠ none
  en : ∀ p, E p ≠ none → A p ≠ none
  h0 : w.cell? ⟨g, 0, none⟩ = some v0
  h1 : w.cell? ⟨g, 1, none⟩ = some v1
section
variable {w w' : World} {C g : Nat} {v0 v1 : Value} {A : List Bool → Option (Nat × Nat)} {E : List Bool → Option Nat}
theorem Tr.below (h : Tr w C g v0 v1 A E) (hb : Below C w w') : Tr w' C g v0 v1 A E := by
  have hg : g < C := (h.lo _ _ _ h.root).2
  have key : ∀ b i, b < C → w'.cell? ⟨b, i, none⟩ = w.cell? ⟨b, i, none⟩ := fun b i hb' => hb.cell (p := ⟨b, i, none⟩) hb'
  refine ⟨h.root, h.lo, fun p b o e => ?_, fun p b o e => ?_, fun p b o e => ?_, fun p b o e => ?_, fun p b o e i => ?_, h.o2, h.inj, h.up, h.en, ?_, ?_⟩
  · rw [key _ _ (h.lo p b o e).2]; exact h.n0 p b o e
  · rw [key _ _ (h.lo p b o e).2]; exact h.n1 p b o e
  · rw [key _ _ (h.lo p b o e).2]; exact h.ne p b o e
  · rw [key _ _ (h.lo p b o e).2]; exact h.ni p b o e
  · have := hb.block b (h.lo p b o e).2
    rw [← h.fz p b o e i]
    simp [World.frozen?, this]
  · rw [key _ _ hg]; exact h.h0
  · rw [key _ _ hg]; exact h.h1
theorem Tr.mono {D : Nat} (h : Tr w C g v0 v1 A E) (hD : C ≤ D) : Tr w D g v0 v1 A E :=
  ⟨h.root, fun p b o e => ⟨(h.lo p b o e).1, by have := (h.lo p b o e).2; omega⟩, h.n0, h.n1, h.ne, h.ni, h.fz, h.o2, h.inj, h.up, h.en, h.h0, h.h1⟩
/-- one node more -/
def updA (A : List Bool → Option (Nat × Nat)) (p : List Bool) (v : Nat × Nat) : List Bool → Option (Nat × Nat) := fun q => if q = p then some v else A q
def updE (E : List Bool → Option Nat) (p : List Bool) (i : Nat) : List Bool → Option Nat := fun q => if q = p then some i else E q
def nodeC : Array Value := #[.pointer none, .pointer none, .bool false, .int .i64 0]
theorem Tr.grow (h : Tr w w.heap.size g v0 v1 A E) {p : List Bool} {b o : Nat} (hp : A p = some (b, o)) (x : Bool) (hx : A (p ++ [x]) = none) :
    Tr ((w.alloc (.cells nodeC 106)).setCell ⟨b, o + x.toNat, none⟩ (.pointer (some ⟨w.heap.size, 0, none⟩))) (w.heap.size + 1) g v0 v1 (updA A (p ++ [x]) (w.heap.size, 0)) E := by
  have hbl := h.lo p b o hp
  have hg : g < w.heap.size := (h.lo _ _ _ h.root).2
  -- a cell of an elder block that is not the one that is set
  have far : ∀ c i, c < w.heap.size → (c = b → i ≠ o + x.toNat) → ((w.alloc (.cells nodeC 106)).setCell ⟨b, o + x.toNat, none⟩ (.pointer (some ⟨w.heap.size, 0, none⟩))).cell? ⟨c, i, none⟩ = w.cell? ⟨c, i, none⟩ := by
    intro c i hc hne
    rw [World.cell?_setCell_other _ _ _ _ (by
      intro e
      injection e with e1 e2
      exact hne e1.symm e2.symm)]
    exact World.cell?_alloc_lt _ _ _ hc
  have new : ∀ i, ((w.alloc (.cells nodeC 106)).setCell ⟨b, o + x.toNat, none⟩ (.pointer (some ⟨w.heap.size, 0, none⟩))).cell? ⟨w.heap.size, i, none⟩ = nodeC[i]? := by
    intro i
    rw [World.cell?_setCell_other _ _ _ _ (by
      intro e
      injection e with e1 e2
      omega)]
    simp
  have same : ((w.alloc (.cells nodeC 106)).setCell ⟨b, o + x.toNat, none⟩ (.pointer (some ⟨w.heap.size, 0, none⟩))).cell? ⟨b, o + x.toNat, none⟩ = some (.pointer (some ⟨w.heap.size, 0, none⟩)) := by
    have hold : ∃ u, (w.alloc (.cells nodeC 106)).cell? ⟨b, o + x.toNat, none⟩ = some u := by
      cases x
      · exact ⟨_, (World.cell?_alloc_lt _ _ _ hbl.2).trans (h.n0 p b o hp)⟩
      · exact ⟨_, (World.cell?_alloc_lt _ _ _ hbl.2).trans (h.n1 p b o hp)⟩
    obtain ⟨u, hu⟩ := hold
    exact World.cell?_setCell_same _ _ _ hu
  have kid : ∀ y, updA A (p ++ [x]) (w.heap.size, 0) (p ++ [x] ++ [y]) = none := by
    intro y
    unfold updA
    rw [if_neg (snoc_ne p x y)]
    rcases hc : A (p ++ [x] ++ [y]) with _ | v
    · rfl
    · exact absurd hx (h.up _ y (by rw [hc]; simp))
  have hE : E (p ++ [x]) = none := by
    rcases hc : E (p ++ [x]) with _ | v
    · rfl
    · exact absurd hx (h.en _ (by rw [hc]; simp))
  have other : ∀ q y, q ≠ p → updA A (p ++ [x]) (w.heap.size, 0) (q ++ [y]) = A (q ++ [y]) := by
    intro q y hq
    unfold updA
    rw [if_neg (fun e => hq (snoc_inj e).1)]
  have sib : ∀ y, y ≠ x → updA A (p ++ [x]) (w.heap.size, 0) (p ++ [y]) = A (p ++ [y]) := by
    intro y hy
    unfold updA
    rw [if_neg (fun e => hy (snoc_inj e).2)]
  have mine : updA A (p ++ [x]) (w.heap.size, 0) (p ++ [x]) = some (w.heap.size, 0) := by unfold updA; rw [if_pos rfl]
  have cases_ : ∀ q c d, updA A (p ++ [x]) (w.heap.size, 0) q = some (c, d) → (q = p ++ [x] ∧ c = w.heap.size ∧ d = 0) ∨ (q ≠ p ++ [x] ∧ A q = some (c, d)) := by
    intro q c d e
    unfold updA at e
    by_cases hq : q = p ++ [x]
    · rw [if_pos hq] at e
      injection e with e
      injection e with e1 e2
      exact .inl ⟨hq, e1.symm, e2.symm⟩
    · rw [if_neg hq] at e
      exact .inr ⟨hq, e⟩
  refine ⟨?_, ?_, ?_, ?_, ?_, ?_, ?_, ?_, ?_, ?_, ?_, ?_, ?_⟩
  · unfold updA
    rw [if_neg (by intro e; have := congrArg List.length e; simp at this)]
    exact h.root
  · intro q c d e
    rcases cases_ q c d e with ⟨_, rfl, rfl⟩ | ⟨_, e⟩
    · exact ⟨by omega, by omega⟩
    · have := h.lo q c d e; exact ⟨this.1, by omega⟩
  · intro q c d e
    rcases cases_ q c d e with ⟨rfl, rfl, rfl⟩ | ⟨hq, e'⟩
    · rw [new, kid]; rfl
    · clear e
      have e := e'
      clear e'
      have hl := (h.lo q c d e).2
      by_cases hqp : q = p
      · subst hqp
        rw [hp] at e
        injection e with e
        injection e with e1 e2
        subst e1; subst e2
        cases x
        · rw [mine]; exact same
        · rw [sib _ (by simp), far b o hl (by intro _; simp)]; exact h.n0 q b o hp
      · rw [other q _ hqp, far c d hl (by intro hcb; subst hcb; exact absurd (h.inj q p c d o e hp) hqp)]
        exact h.n0 q c d e
  · intro q c d e
    rcases cases_ q c d e with ⟨rfl, rfl, rfl⟩ | ⟨hq, e'⟩
    · rw [new, kid]; rfl
    · clear e
      have e := e'
      clear e'
      have hl := (h.lo q c d e).2
      by_cases hqp : q = p
      · subst hqp
        rw [hp] at e
        injection e with e
        injection e with e1 e2
        subst e1; subst e2
        cases x
        · rw [sib _ (by simp), far b (o + 1) hl (by intro _; simp)]; exact h.n1 q b o hp
        · rw [mine]; exact same
      · rw [other q _ hqp, far c (d + 1) hl (by intro hcb; subst hcb; exact absurd (h.inj q p c d o e hp) hqp)]
        exact h.n1 q c d e
  · intro q c d e
    rcases cases_ q c d e with ⟨rfl, rfl, rfl⟩ | ⟨hq, e'⟩
    · rw [new, hE]; rfl
    · clear e
      have e := e'
      clear e'
      have hl := (h.lo q c d e).2
      rw [far c (d + 2) hl (by
        intro hcb; subst hcb
        have hqp := h.inj q p c d o e hp
        subst hqp
        rw [hp] at e
        injection e with e
        injection e with _ e2
        cases x <;> simp <;> omega)]
      exact h.ne q c d e
  · intro q c d e
    rcases cases_ q c d e with ⟨rfl, rfl, rfl⟩ | ⟨hq, e'⟩
    · rw [new, hE]; rfl
    · clear e
      have e := e'
      clear e'
      have hl := (h.lo q c d e).2
      rw [far c (d + 3) hl (by
        intro hcb; subst hcb
        have hqp := h.inj q p c d o e hp
        subst hqp
        rw [hp] at e
        injection e with e
        injection e with _ e2
        cases x <;> simp <;> omega)]
      exact h.ni q c d e
  · intro q c d e i
    rw [World.frozen?_setCell]
    rcases cases_ q c d e with ⟨rfl, rfl, rfl⟩ | ⟨hq, e'⟩
    · simp
    · clear e
      have e := e'
      clear e'
      have hl := (h.lo q c d e).2
      rw [World.frozen?_alloc_past _ _ _ hl]
      exact h.fz q c d e i
  · intro q d e
    rcases cases_ q _ d e with ⟨_, hgs, _⟩ | ⟨_, e⟩
    · omega
    · exact h.o2 q d e
  · intro q r c d d' e1 e2
    rcases cases_ q c d e1 with ⟨rfl, rfl, rfl⟩ | ⟨hq, e1⟩
    · rcases cases_ r _ d' e2 with ⟨rfl, _, _⟩ | ⟨hr, e2⟩
      · rfl
      · have := (h.lo r _ d' e2).2; omega
    · rcases cases_ r _ d' e2 with ⟨rfl, rfl, _⟩ | ⟨hr, e2⟩
      · have := (h.lo q _ d e1).2; omega
      · exact h.inj q r c d d' e1 e2
  · intro q y hqy
    by_cases hq : q = p
    · subst hq
      unfold updA
      split
      · simp
      · rw [hp]; simp
    · by_cases hq2 : q = p ++ [x]
      · subst hq2; exact absurd (kid y) hqy
      · rw [other q y hq] at hqy
        unfold updA
        rw [if_neg hq2]
        exact h.up q y hqy
  · intro q hq
    unfold updA
    split
    · simp
    · exact h.en q hq
  · rw [far g 0 hg (by
      intro e; subst e
      have := h.o2 p o hp
      omega)]
    exact h.h0
  · rw [far g 1 hg (by
      intro e; subst e
      have := h.o2 p o hp
      omega)]
    exact h.h1
/-- a word ends -/
theorem Tr.ends (h : Tr w C g v0 v1 A E) {p : List Bool} {b o : Nat} (hp : A p = some (b, o)) (i : Nat) :
    Tr ((w.setCell ⟨b, o + 2, none⟩ (.bool true)).setCell ⟨b, o + 3, none⟩ (.int .i64 (i : Int))) C g v0 v1 A (updE E p i) := by
  have hg : g < C := (h.lo _ _ _ h.root).2
  have far : ∀ c j, (c = b → j ≠ o + 2 ∧ j ≠ o + 3) → ((w.setCell ⟨b, o + 2, none⟩ (.bool true)).setCell ⟨b, o + 3, none⟩ (.int .i64 (i : Int))).cell? ⟨c, j, none⟩ = w.cell? ⟨c, j, none⟩ := by
    intro c j hne
    rw [World.cell?_setCell_other _ _ _ _ (by
      intro e
      injection e with e1 e2
      exact (hne e1.symm).2 e2.symm), World.cell?_setCell_other _ _ _ _ (by
      intro e
      injection e with e1 e2
      exact (hne e1.symm).1 e2.symm)]
  have s2 : ((w.setCell ⟨b, o + 2, none⟩ (.bool true)).setCell ⟨b, o + 3, none⟩ (.int .i64 (i : Int))).cell? ⟨b, o + 2, none⟩ = some (.bool true) := by
    rw [World.cell?_setCell_other _ _ _ _ (by
      intro e
      injection e with e1 e2
      omega)]
    exact World.cell?_setCell_same _ _ _ (h.ne p b o hp)
  have s3 : ((w.setCell ⟨b, o + 2, none⟩ (.bool true)).setCell ⟨b, o + 3, none⟩ (.int .i64 (i : Int))).cell? ⟨b, o + 3, none⟩ = some (.int .i64 (i : Int)) := by
    have : (w.setCell ⟨b, o + 2, none⟩ (.bool true)).cell? ⟨b, o + 3, none⟩ = some (.int .i64 (((E p).getD 0 : Nat) : Int)) := by
      rw [World.cell?_setCell_other _ _ _ _ (by
        intro e
        injection e with e1 e2
        omega)]
      exact h.ni p b o hp
    exact World.cell?_setCell_same _ _ _ this
  have off : ∀ q c d, A q = some (c, d) → ∀ k, k < 4 → k ≠ 2 → k ≠ 3 → c = b → d + k ≠ o + 2 ∧ d + k ≠ o + 3 := by
    intro q c d e k h1 h2 h3 hcb
    subst hcb
    have hqp := h.inj q p c d o e hp
    subst hqp
    rw [hp] at e
    injection e with e
    injection e with _ e2
    omega
  have off2 : ∀ q c d, A q = some (c, d) → q ≠ p → c ≠ b := by
    intro q c d e hq hcb
    subst hcb
    exact hq (h.inj q p c d o e hp)
  refine ⟨h.root, h.lo, fun q c d e => ?_, fun q c d e => ?_, fun q c d e => ?_, fun q c d e => ?_, fun q c d e j => ?_, h.o2, h.inj, h.up, fun q hq => ?_, ?_, ?_⟩
  · rw [far c d (off q c d e 0 (by omega) (by omega) (by omega))]; exact h.n0 q c d e
  · rw [far c (d + 1) (off q c d e 1 (by omega) (by omega) (by omega))]; exact h.n1 q c d e
  · unfold updE
    by_cases hq : q = p
    · subst hq
      rw [hp] at e
      injection e with e
      injection e with e1 e2
      subst e1; subst e2
      rw [if_pos rfl]
      exact s2
    · rw [if_neg hq, far c (d + 2) (fun hcb => absurd hcb (off2 q c d e hq))]; exact h.ne q c d e
  · unfold updE
    by_cases hq : q = p
    · subst hq
      rw [hp] at e
      injection e with e
      injection e with e1 e2
      subst e1; subst e2
      rw [if_pos rfl]
      exact s3
    · rw [if_neg hq, far c (d + 3) (fun hcb => absurd hcb (off2 q c d e hq))]; exact h.ni q c d e
  · rw [World.frozen?_setCell, World.frozen?_setCell]; exact h.fz q c d e j
  · unfold updE at hq
    by_cases hqp : q = p
    · subst hqp; rw [hp]; simp
    · rw [if_neg hqp] at hq; exact h.en q hq
  · rw [far g 0 (by intro e; subst e; have := h.o2 p o hp; omega)]; exact h.h0
  · rw [far g 1 (by intro e; subst e; have := h.o2 p o hp; omega)]; exact h.h1
end
end Go.Proofs.YtmbfgejephgojaaGreatDoor.Hf
/- The contracts of a node's successor and add. -/
namespace Go.Proofs.YtmbfgejephgojaaGreatDoor.Hf
open Go.RowKit Go.Proofs.YtmbfgejephgojaaGreatDoor.Oct Go.Proofs.YtmbfgejephgojaaGreatDoor.Bit
set_option linter.unusedVariables false
set_option linter.unusedSimpArgs false
set_option maxRecDepth 100000

theorem Tryz.infoPNode : (Tryz.prog.info? 103).map (fun i => i.size) = some 1 := by kernel_rfl
theorem Tryz.cellsPNode : Tryz.prog.cellsOf 103 = 1 := by kernel_rfl
theorem arr2_eq (W : World) (c0 c1 : Option (Nat × Nat)) : (Op.equalIn 10000 104 (.agg #[ptrV c0, ptrV c1]) (.agg #[.pointer none, .pointer none])).run Tryz.prog W = .ok (c0.isNone && c1.isNone) W := by
  obtain ⟨i, hi, hs⟩ := Option.map_eq_some_iff.1 Tryz.infoPNode
  have hp : ∀ c : Option (Nat × Nat), ∃ p : Option Addr, ptrV c = .pointer p ∧ p.isNone = c.isNone := by
    intro c
    rcases c with _ | ⟨b, o⟩
    · exact ⟨none, rfl, rfl⟩
    · exact ⟨_, rfl, rfl⟩
  obtain ⟨p0, e0, f0⟩ := hp c0
  obtain ⟨p1, e1, f1⟩ := hp c1
  rw [e0, e1, ← f0, ← f1, run_equalIn_array W 9999 (t := 104) (e := 103) (n := 2) _ _ Tryz.underlying104 hi, Tryz.cellsPNode]
  have hpt : ∀ v u : Value, ∀ k, k < 2 → (part 103 #[v, u] (k * 1)).run Tryz.prog W = .ok (if k = 0 then v else u) W := by
    intro v u k hk
    have hag : (isAgg 103).run Tryz.prog W = .ok false W := by
      unfold isAgg
      rw [Sem.run_bind, run_underlying Tryz.underlying103 W]
      rfl
    rcases k with _ | _ | k
    · simp [part, Sem.run_bind, hag]
    · simp [part, Sem.run_bind, hag]
    · omega
  have hq : ∀ p : Option Addr, (Op.equalIn 9999 103 (.pointer p) (.pointer none)).run Tryz.prog W = .ok p.isNone W := fun p => run_equalIn_pointer_nil W 9998 103 p Tryz.underlying103
  show (Op.eqItems 9999 103 1 _ _ [0, 1]).run Tryz.prog W = _
  simp only [Op.eqItems, Sem.run_bind, hpt _ _ 0 (by omega), hpt _ _ 1 (by omega), if_pos, Result.andThen_ok, hq]
  have h0 : ∀ v u : Value, (part 103 #[v, u] 0).run Tryz.prog W = .ok v W := fun v u => by simpa using hpt v u 0 (by omega)
  have h1 : ∀ v u : Value, (part 103 #[v, u] 1).run Tryz.prog W = .ok u W := fun v u => by simpa using hpt v u 1 (by omega)
  cases p0 <;> cases p1 <;> simp [h0, h1, hq, Result.andThen]
def SuccP (w : World) (g : Nat) (v0 v1 : Value) (A : List Bool → Option (Nat × Nat)) (E : List Bool → Option Nat) (p : List Bool) (x : Bool) (e : Ending) (w' : World) : Prop :=
  ∃ A' b' o', e = .returned (.pointer (some ⟨b', o', none⟩)) ∧ A' (p ++ [x]) = some (b', o') ∧ Tr w' w'.heap.size g v0 v1 A' E ∧ (∀ q, A' q ≠ none ↔ A q ≠ none ∨ q = p ++ [x]) ∧ Below g w w'
set_option maxHeartbeats 1000000 in
theorem succ_any (w : World) (g : Nat) (v0 v1 : Value) (A : List Bool → Option (Nat × Nat)) (E : List Bool → Option Nat) (p : List Bool) (b o : Nat) (x : Bool) (h : Tr w w.heap.size g v0 v1 A E) (hp : A p = some (b, o)) :
    Calls Tryz.prog 77 #[.pointer (some ⟨b, o, none⟩), .int .u8 (x.toNat : Int)] w (SuccP w g v0 v1 A E p x) := by
  have hlo := h.lo p b o hp
  have hc : w.cell? ⟨b, o + x.toNat, none⟩ = some (ptrV (A (p ++ [x]))) := by
    cases x
    · exact h.n0 p b o hp
    · exact h.n1 p b o hp
  have hf := h.fz p b o hp (o + x.toNat)
  have H := Lib.hid h
  have HP := Lib.hid hp
  have hgb : g ≤ b := hlo.1
  have hbw : b < w.heap.size := hlo.2
  clear h hp hlo
  rcases hx : A (p ++ [x]) with _ | ⟨b', o'⟩
  · rw [hx] at hc
    have hc : w.cell? ⟨b, o + x.toNat, none⟩ = some (.pointer none) := hc
    have HX := Lib.hid hx
    have hT := H.out.grow HP.out x hx
    have hcell2 : ((w.alloc (.cells nodeC 106)).setCell ⟨b, o + x.toNat, none⟩ (.pointer (some ⟨w.heap.size, 0, none⟩))).cell? ⟨b, o + x.toNat, none⟩ = some (.pointer (some ⟨w.heap.size, 0, none⟩)) := by
      refine World.cell?_setCell_same _ _ _ (u := ptrV none) ?_
      rw [World.cell?_alloc_lt _ _ _ hbw]
      exact hc
    have hB : Below g w ((w.alloc (.cells nodeC 106)).setCell ⟨b, o + x.toNat, none⟩ (.pointer (some ⟨w.heap.size, 0, none⟩))) := ((Below.refl _ w).alloc (by omega) _).setCell (p := ⟨b, o + x.toNat, none⟩) hgb _
    have HT := Lib.hid hT
    have HB := Lib.hid hB
    clear hx hT hB
    unfold nodeC at HT HB hcell2
    have fin : ∀ W', W' = ((w.alloc (.cells nodeC 106)).setCell ⟨b, o + x.toNat, none⟩ (.pointer (some ⟨w.heap.size, 0, none⟩))) → SuccP w g v0 v1 A E p x (.returned (.pointer (some ⟨w.heap.size, 0, none⟩))) W' := by
      intro W' hW
      subst hW
      refine ⟨updA A (p ++ [x]) (w.heap.size, 0), w.heap.size, 0, rfl, by unfold updA; rw [if_pos rfl], ?_, fun q => ?_, HB.out⟩
      · refine HT.out.mono ?_
        simp [World.setCell]
      · unfold updA
        by_cases hq : q = p ++ [x]
        · rw [if_pos hq]; simp [hq]
        · rw [if_neg hq]; simp [hq]
    have FIN := Lib.hid fin
    clear fin
    cases x
    · simp only [Bool.toNat_false, Nat.add_zero] at hc hf hcell2 HT HB FIN
      go_enter Tryz.func77, Tryz.ntmps77
      go_wp2_with fail
      go_ret
      exact FIN.out _ (World.setCell_alloc_past _ _ _ _ hbw).symm
    · simp only [Bool.toNat_true] at hc hf hcell2 HT HB FIN
      go_enter Tryz.func77, Tryz.ntmps77
      go_wp2_with fail
      go_ret
      exact FIN.out _ (World.setCell_alloc_past _ _ _ _ hbw).symm
  · rw [hx] at hc
    have fin : SuccP w g v0 v1 A E p x (.returned (.pointer (some ⟨b', o', none⟩))) w := ⟨A, b', o', rfl, hx, H.out, fun q => ⟨fun hq => .inl hq, fun hq => by
      rcases hq with hq | rfl
      · exact hq
      · rw [hx]; simp⟩, Below.refl _ _⟩
    have FIN := Lib.hid fin
    unfold ptrV at hc
    clear fin hx
    cases x
    · simp only [Bool.toNat_false, Nat.add_zero] at hc hf FIN
      go_enter Tryz.func77, Tryz.ntmps77
      go_wp2_with fail
      go_ret
      exact FIN.out
    · simp only [Bool.toNat_true] at hc hf FIN
      go_enter Tryz.func77, Tryz.ntmps77
      go_wp2_with fail
      go_ret
      exact FIN.out
def Bad (A : List Bool → Option (Nat × Nat)) (E : List Bool → Option Nat) (xs : List UInt8) : Prop :=
  wordB xs = false ∨ ∃ m, xs = m.map dig ∧ ((∃ q, q <+: m ∧ E q ≠ none) ∨ ∃ x, A (m ++ [x]) ≠ none)
def AddP (w : World) (g : Nat) (v0 v1 : Value) (A : List Bool → Option (Nat × Nat)) (E : List Bool → Option Nat) (xs : List UInt8) (i : Nat) (e : Ending) (w' : World) : Prop :=
  Below g w w' ∧ ((∃ m, xs = m.map dig ∧ e = .returned (.int .i64 0) ∧ (∀ q, q <+: m → E q = none) ∧ (∀ x, A (m ++ [x]) = none) ∧ ∃ A', Tr w' w'.heap.size g v0 v1 A' (updE E m i) ∧ ∀ q, A' q ≠ none ↔ A q ≠ none ∨ q <+: m) ∨
    (∃ c : Int, c ≠ 0 ∧ e = .returned (.int .i64 c) ∧ Bad A E xs))
/-- a word half laid -/
structure Add (w : World) (g : Nat) (v0 v1 : Value) (A : List Bool → Option (Nat × Nat)) (E : List Bool → Option Nat) (xs : List UInt8) (k : Nat) (m : List Bool) (A' : List Bool → Option (Nat × Nat)) (b o : Nat) (W : World) : Prop where
  tk : xs.take k = m.map dig
  at_ : A' m = some (b, o)
  tr : Tr W W.heap.size g v0 v1 A' E
  dom : ∀ q, A' q ≠ none ↔ A q ≠ none ∨ q <+: m
  none_ : ∀ q, q <+: m → q ≠ m → E q = none
  bel : Below g w W
theorem prefix_snoc {q m : List Bool} {x : Bool} : q <+: m ++ [x] ↔ q <+: m ∨ q = m ++ [x] := by
  constructor
  · intro h
    obtain ⟨t, ht⟩ := h
    rcases List.eq_nil_or_concat t with rfl | ⟨t', y, rfl⟩
    · right; simpa using ht
    · left
      rw [List.concat_eq_append, ← List.append_assoc] at ht
      obtain ⟨h1, _⟩ := snoc_inj ht
      exact ⟨t', h1⟩
  · rintro (⟨t, ht⟩ | rfl)
    · exact ⟨t ++ [x], by rw [← List.append_assoc, ht]⟩
    · exact List.prefix_refl _
theorem Add.bad {w W : World} {g : Nat} {v0 v1 : Value} {A A' : List Bool → Option (Nat × Nat)} {E : List Bool → Option Nat} {xs : List UInt8} {k b o : Nat} {m : List Bool} (h : Add w g v0 v1 A E xs k m A' b o W) (hE : E m ≠ none) : Bad A E xs := by
  by_cases hw : wordB xs = true
  · obtain ⟨l, hl⟩ := wordB_digits hw
    refine .inr ⟨l, hl, .inl ⟨m, ?_, hE⟩⟩
    have ht := h.tk
    rw [hl, ← List.map_take] at ht
    have hinj : ∀ a b : Bool, dig a = dig b → a = b := by intro a b; cases a <;> cases b <;> simp [dig]
    have : l.take k = m := (List.map_inj_right (f := dig) (fun a b => hinj a b)).1 ht
    rw [← this]
    exact List.take_prefix _ _
  · exact .inl (by simpa using hw)
theorem Add.step {w W W2 : World} {g : Nat} {v0 v1 : Value} {A A' A2 : List Bool → Option (Nat × Nat)} {E : List Bool → Option Nat} {xs : List UInt8} {k b o b2 o2 : Nat} {m : List Bool} {y : Bool} (h : Add w g v0 v1 A E xs k m A' b o W)
    (hk : k < xs.length) (ht : xs.take (k + 1) = xs.take k ++ [dig y]) (hE : E m = none) (hat : A2 (m ++ [y]) = some (b2, o2)) (htr : Tr W2 W2.heap.size g v0 v1 A2 E) (hdom : ∀ q, A2 q ≠ none ↔ A' q ≠ none ∨ q = m ++ [y]) (hb : Below g W W2) :
    Add w g v0 v1 A E xs (k + 1) (m ++ [y]) A2 b2 o2 W2 := by
  refine ⟨by rw [ht, h.tk]; simp, hat, htr, fun q => ?_, fun q hq hne => ?_, h.bel.trans hb⟩
  · rw [hdom, h.dom, prefix_snoc, or_assoc]
  · rcases prefix_snoc.1 hq with hq | hq
    · by_cases hqm : q = m
      · rw [hqm]; exact hE
      · exact h.none_ q hq hqm
    · exact absurd hq hne
theorem dig_val (b : Bool) : (((dig b).toNat : Int) - 48) % 256 = (b.toNat : Int) := by cases b <;> rfl
set_option maxHeartbeats 2000000 in
theorem add_node (w : World) (g : Nat) (v0 v1 : Value) (A : List Bool → Option (Nat × Nat)) (E : List Bool → Option Nat) (xs : List UInt8) (i : Nat) (h : Tr w w.heap.size g v0 v1 A E) (hl : xs.length ≤ 1000000) (hE0 : True) :
    Calls Tryz.prog 57 #[.pointer (some ⟨g, 2, none⟩), .string (bs xs), .int .i64 (i : Int)] w (AddP w g v0 v1 A E xs i) := by
  have hsz := bs_size xs
  have HS0 := Lib.hid (show Add w g v0 v1 A E xs 0 [] A g 2 w from ⟨by simp, h.root, h, fun q => ⟨fun hq => .inl hq, fun hq => by
    rcases hq with hq | hq
    · exact hq
    · have : q = [] := by simpa using hq
      rw [this, h.root]; simp⟩, fun q hq hne => absurd (by simpa using hq) hne, Below.refl _ _⟩)
  clear h
  go_enter Tryz.func57, Tryz.ntmps57
  go_wp2_with fail
  go_loopw [0, 7, 8, 11] (fun n u c i wr => ∃ (k : Nat) (m : List Bool) (A' : List Bool → Option (Nat × Nat)) (b o : Nat), k ≤ xs.length ∧ i = .int .i64 (k : Int) ∧ n = .pointer (some ⟨b, o, none⟩) ∧ Hid (Add w g v0 v1 A E xs k m A' b o wr)) (fun _ _ _ i _ => xs.length - (intOf i).toNat)
  case atStart => exact ⟨0, [], A, g, 2, by omega, rfl, rfl, HS0⟩
  case round =>
    obtain ⟨k, m, A', b, o, hk, rfl, rfl, HA⟩ := hrel
    have hne := HA.out.tr.ne m b o HA.out.at_
    by_cases hlt : k < xs.length
    · obtain ⟨x, hx⟩ : ∃ x, x = xs[k] := ⟨_, rfl⟩
      have hg : ∀ h, (bs xs)[k]'h = x := fun h => (bs_get xs k h hlt).trans hx.symm
      have HB := Lib.hid (wordB_bad xs k hlt)
      have HTK := Lib.hid (take_succ' xs k hlt)
      rw [← hx] at HB HTK
      have hd : decide ((k : Int) < (xs.length : Int)) = true := by simp; omega
      clear hx
      by_cases hbit : x = 48 ∨ x = 49
      · obtain ⟨y, rfl⟩ : ∃ y, x = dig y := by
          rcases hbit with rfl | rfl
          · exact ⟨false, rfl⟩
          · exact ⟨true, rfl⟩
        clear HB hbit
        have hval := dig_val y
        rcases hEm : E m with _ | j
        · rw [hEm] at hne
          have hne : wr.cell? ⟨b, o + 2, none⟩ = some (.bool false) := hne
          have HSU := Lib.hid (succ_any wr g v0 v1 A' E m b o y HA.out.tr HA.out.at_)
          have HEM := Lib.hid hEm
          have HV := Lib.hid hval
          clear hEm hval
          cases y
          · have ht1 : (((dig false).toNat : Int) != 48) = false := rfl
            go_wp2_with fail
            rw [HV.out]
            refine HSU.out.mono ?_
            rintro e w' ⟨A2, b2, o2, rfl, hat, htr, hdom, hbel⟩
            have HN := Lib.hid (HA.out.step hlt HTK.out HEM.out hat htr hdom hbel)
            clear hat htr hdom hbel hne
            go_wp2_with fail
            go_roundw
            case rel => exact ⟨k + 1, m ++ [false], A2, b2, o2, by omega, by go_num, rfl, HN⟩
            case measure => simp [intOf]; omega
          · have ht1 : (((dig true).toNat : Int) != 48) = true := rfl
            have ht2 : (((dig true).toNat : Int) != 49) = false := rfl
            go_wp2_with fail
            rw [HV.out]
            refine HSU.out.mono ?_
            rintro e w' ⟨A2, b2, o2, rfl, hat, htr, hdom, hbel⟩
            have HN := Lib.hid (HA.out.step hlt HTK.out HEM.out hat htr hdom hbel)
            clear hat htr hdom hbel hne
            go_wp2_with fail
            go_roundw
            case rel => exact ⟨k + 1, m ++ [true], A2, b2, o2, by omega, by go_num, rfl, HN⟩
            case measure => simp [intOf]; omega
        · rw [hEm] at hne
          have hne : wr.cell? ⟨b, o + 2, none⟩ = some (.bool true) := hne
          have HBAD := Lib.hid (HA.out.bad (by rw [hEm]; simp))
          clear hEm hval
          cases y
          · have ht1 : (((dig false).toNat : Int) != 48) = false := rfl
            go_wp2_with fail
            go_ret
            exact ⟨HA.out.bel, .inr ⟨14, by decide, rfl, HBAD.out⟩⟩
          · have ht1 : (((dig true).toNat : Int) != 48) = true := rfl
            have ht2 : (((dig true).toNat : Int) != 49) = false := rfl
            go_wp2_with fail
            go_ret
            exact ⟨HA.out.bel, .inr ⟨14, by decide, rfl, HBAD.out⟩⟩
      · have h48 : x ≠ 48 := fun e => hbit (.inl e)
        have h49 : x ≠ 49 := fun e => hbit (.inr e)
        have hb1 := u8_ne x 48 (by omega) h48
        have hb2 := u8_ne x 49 (by omega) h49
        simp only [Int.cast_ofNat_Int] at hb1 hb2
        have HBAD := Lib.hid (show Bad A E xs from .inl (HB.out h48 h49))
        clear hbit h48 h49 HB
        go_wp2_with fail
        go_ret
        exact ⟨HA.out.bel, .inr ⟨3, by decide, rfl, HBAD.out⟩⟩
    · have hke : k = xs.length := by omega
      subst hke
      have hd : decide ((xs.length : Int) < (xs.length : Int)) = false := by simp
      have htk := HA.out.tk
      rw [List.take_length] at htk
      have HTK := Lib.hid htk
      clear htk
      rcases hEm : E m with _ | j
      · rw [hEm] at hne
        have hne : wr.cell? ⟨b, o + 2, none⟩ = some (.bool false) := hne
        have hn0 := HA.out.tr.n0 m b o HA.out.at_
        have hn1 := HA.out.tr.n1 m b o HA.out.at_
        have HEM := Lib.hid hEm
        clear hEm
        have heq : ∀ W, (Op.equalIn 10000 104 (.agg #[ptrV (A' (m ++ [false])), ptrV (A' (m ++ [true]))]) (.agg #[.pointer none, .pointer none])).run Tryz.prog W = .ok ((A' (m ++ [false])).isNone && (A' (m ++ [true])).isNone) W := fun W => arr2_eq W _ _
        by_cases hno : A' (m ++ [false]) = none ∧ A' (m ++ [true]) = none
        · rw [show ((A' (m ++ [false])).isNone && (A' (m ++ [true])).isNone) = true by rw [hno.1, hno.2]; rfl] at heq
          have HNO := Lib.hid hno
          have HT := Lib.hid (HA.out.tr.ends HA.out.at_ i)
          have HB := Lib.hid (((HA.out.bel).setCell (p := ⟨b, o + 2, none⟩) (HA.out.tr.lo m b o HA.out.at_).1 (.bool true)).setCell (p := ⟨b, o + 3, none⟩) (HA.out.tr.lo m b o HA.out.at_).1 (.int .i64 (i : Int)))
          have hni := HA.out.tr.ni m b o HA.out.at_
          have hf2 := HA.out.tr.fz m b o HA.out.at_ (o + 2)
          have hf3 := HA.out.tr.fz m b o HA.out.at_ (o + 3)
          generalize (((E m).getD 0 : Nat) : Int) = old at hni
          generalize ptrV (A' (m ++ [false])) = p0 at hn0 heq
          generalize ptrV (A' (m ++ [true])) = p1 at hn1 heq
          clear hno
          go_wp2_with fail
          go_ret
          refine ⟨HB.out, .inl ⟨m, HTK.out, rfl, fun q hq => ?_, fun x => ?_, A', ?_, HA.out.dom⟩⟩
          · by_cases hqm : q = m
            · rw [hqm]; exact HEM.out
            · exact HA.out.none_ q hq hqm
          · rcases hax : A (m ++ [x]) with _ | v
            · rfl
            · have : A' (m ++ [x]) ≠ none := (HA.out.dom _).2 (.inl (by rw [hax]; simp))
              cases x
              · exact absurd HNO.out.1 this
              · exact absurd HNO.out.2 this
          · refine HT.out.mono ?_
            simp [World.setCell]
        · have hbad : Bad A E xs := by
            refine .inr ⟨m, HTK.out, .inr ?_⟩
            have : ∃ x, A' (m ++ [x]) ≠ none := by
              by_cases h0 : A' (m ++ [false]) = none
              · exact ⟨true, fun h1 => hno ⟨h0, h1⟩⟩
              · exact ⟨false, h0⟩
            obtain ⟨x, hx⟩ := this
            refine ⟨x, ?_⟩
            rcases (HA.out.dom _).1 hx with h | h
            · exact h
            · have := h.length_le
              simp at this
              omega
          have HBAD := Lib.hid hbad
          rw [show ((A' (m ++ [false])).isNone && (A' (m ++ [true])).isNone) = false by
            rcases h0 : A' (m ++ [false]) with _ | v
            · rcases h1 : A' (m ++ [true]) with _ | u
              · exact absurd ⟨h0, h1⟩ hno
              · rfl
            · rfl] at heq
          generalize ptrV (A' (m ++ [false])) = p0 at hn0 heq
          generalize ptrV (A' (m ++ [true])) = p1 at hn1 heq
          clear hno hbad
          go_wp2_with fail
          go_ret
          exact ⟨HA.out.bel, .inr ⟨14, by decide, rfl, HBAD.out⟩⟩
      · rw [hEm] at hne
        have hne : wr.cell? ⟨b, o + 2, none⟩ = some (.bool true) := hne
        have HBAD := Lib.hid (HA.out.bad (by rw [hEm]; simp))
        clear hEm
        go_wp2_with fail
        go_ret
        exact ⟨HA.out.bel, .inr ⟨14, by decide, rfl, HBAD.out⟩⟩
end Go.Proofs.YtmbfgejephgojaaGreatDoor.Hf

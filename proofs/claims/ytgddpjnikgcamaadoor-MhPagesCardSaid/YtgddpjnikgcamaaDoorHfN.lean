
/- The nodes of a book in memory; the contracts of successor and add. -/
import Derived.Test.YtgddpjnikgcamaaDoorHfB
namespace Go.Proofs.YtgddpjnikgcamaaDoor.Hf
open Go.RowKit Go.Proofs.YtgddpjnikgcamaaDoor.Oct Go.Proofs.YtgddpjnikgcamaaDoor.Bit
set_option linter.unusedVariables false
set_option linter.unusedSimpArgs false
set_option maxRecDepth 100000

theorem snoc_inj {p q : List Bool} {x y : Bool} (h : p ++ [x] = q ++ [y]) : p = q ∧ x = y := by
  obtain ⟨h1, h2⟩ := List.append_inj' h rfl
  injection h2 with h2
  exact ⟨h1, h2⟩
theorem snoc_ne (p : List Bool) (x y : Bool) : p ++ [x] ++ [y] ≠ p ++ [x] := fun h => by
  have := congrArg List.length h
  simp at this
/-- where the node lies to which some bits lead -/
def ptrV : Option (Nat × Nat) → Value
  | none => .pointer none
  | some (b, o) => .pointer (some ⟨b, o, none⟩)
/-- a book's nodes in memory: A tells where each lies, E which words end -/
structure Tr (w : World) (C g : Nat) (v0 v1 : Value) (A : List Bool → Option (Nat × Nat)) (E : List Bool → Option Nat) : Prop where
  root : A [] = some (g, 2)
  lo : ∀ p b o, A p = some (b, o) → g ≤ b ∧ b < C
  n0 : ∀ p b o, A p = some (b, o) → w.cell? ⟨b, o, none⟩ = some (ptrV (A (p ++ [false])))
  n1 : ∀ p b o, A p = some (b, o) → w.cell? ⟨b, o + 1, none⟩ = some (ptrV (A (p ++ [true])))
  ne : ∀ p b o, A p = some (b, o) → w.cell? ⟨b, o + 2, none⟩ = some (.bool (E p).isSome)
  ni : ∀ p b o, A p = some (b, o) → w.cell? ⟨b, o + 3, none⟩ = some (.int .i64 (((E p).getD 0 : Nat) : Int))
  fz : ∀ p b o, A p = some (b, o) → ∀ i, w.frozen? ⟨b, i, none⟩ = false
  o2 : ∀ p o, A p = some (g, o) → o = 2
  inj : ∀ p q b o o', A p = some (b, o) → A q = some (b, o') → p = q
  up : ∀ p x, A (p ++ [x]) ≠ none → A p ≠ none
  en : ∀ p, E p ≠ none → A p ≠ none
  h0 : w.cell? ⟨g, 0, none⟩ = some v0
  h1 : w.cell? ⟨g, 1, none⟩ = some v1
section
variable {w w' : World} {C g : Nat} {v0 v1 : Value} {A : List Bool → Option (Nat × Nat)} {E : List Bool → Option Nat}
theorem Tr.below (h : Tr w C g v0 v1 A E) (hb : Below C w w') : Tr w' C g v0 v1 A E := by
  have hg : g < C := (h.lo _ _ _ h.root).2
  have key : ∀ b i, b < C → w'.cell? ⟨b, i, none⟩ = w.cell? ⟨b, i, none⟩ := fun b i hb' => hb.cell (p := ⟨b, i, none⟩) hb'
  refine ⟨h.root, h.lo, fun p b o e => ?_, fun p b o e => ?_, fun p b o e => ?_, fun p b o e => ?_, fun p b o e i => ?_, h.o2, h.inj, h.up, h.en, ?_, ?_⟩
  · rw [key _ _ (h.lo p b o e).2]; exact h.n0 p b o e
  · rw [key _ _ (h.lo p b o e).2]; exact h.n1 p b o e
  · rw [key _ _ (h.lo p b o e).2]; exact h.ne p b o e
  · rw [key _ _ (h.lo p b o e).2]; exact h.ni p b o e
  · have := hb.block b (h.lo p b o e).2
    rw [← h.fz p b o e i]
    simp [World.frozen?, this]
  · rw [key _ _ hg]; exact h.h0
  · rw [key _ _ hg]; exact h.h1
theorem Tr.mono {D : Nat} (h : Tr w C g v0 v1 A E) (hD : C ≤ D) : Tr w D g v0 v1 A E :=
  ⟨h.root, fun p b o e => ⟨(h.lo p b o e).1, by have := (h.lo p b o e).2; omega⟩, h.n0, h.n1, h.ne, h.ni, h.fz, h.o2, h.inj, h.up, h.en, h.h0, h.h1⟩
/-- one node more -/
def updA (A : List Bool → Option (Nat × Nat)) (p : List Bool) (v : Nat × Nat) : List Bool → Option (Nat × Nat) := fun q => if q = p then some v else A q
def updE (E : List Bool → Option Nat) (p : List Bool) (i : Nat) : List Bool → Option Nat := fun q => if q = p then some i else E q
def nodeC : Array Value := #[.pointer none, .pointer none, .bool false, .int .i64 0]
theorem Tr.grow (h : Tr w w.heap.size g v0 v1 A E) {p : List Bool} {b o : Nat} (hp : A p = some (b, o)) (x : Bool) (hx : A (p ++ [x]) = none) :
    Tr ((w.alloc (.cells nodeC 116)).setCell ⟨b, o + x.toNat, none⟩ (.pointer (some ⟨w.heap.size, 0, none⟩))) (w.heap.size + 1) g v0 v1 (updA A (p ++ [x]) (w.heap.size, 0)) E := by
  have hbl := h.lo p b o hp
  have hg : g < w.heap.size := (h.lo _ _ _ h.root).2
  -- a cell of an elder block that is not the one that is set
  have far : ∀ c i, c < w.heap.size → (c = b → i ≠ o + x.toNat) → ((w.alloc (.cells nodeC 116)).setCell ⟨b, o + x.toNat, none⟩ (.pointer (some ⟨w.heap.size, 0, none⟩))).cell? ⟨c, i, none⟩ = w.cell? ⟨c, i, none⟩ := by
    intro c i hc hne
    rw [World.cell?_setCell_other _ _ _ _ (by
      intro e
      injection e with e1 e2
      exact hne e1.symm e2.symm)]
    exact World.cell?_alloc_lt _ _ _ hc
  have new : ∀ i, ((w.alloc (.cells nodeC 116)).setCell ⟨b, o + x.toNat, none⟩ (.pointer (some ⟨w.heap.size, 0, none⟩))).cell? ⟨w.heap.size, i, none⟩ = nodeC[i]? := by
    intro i
    rw [World.cell?_setCell_other _ _ _ _ (by
      intro e
      injection e with e1 e2
      omega)]
    simp
  have same : ((w.alloc (.cells nodeC 116)).setCell ⟨b, o + x.toNat, none⟩ (.pointer (some ⟨w.heap.size, 0, none⟩))).cell? ⟨b, o + x.toNat, none⟩ = some (.pointer (some ⟨w.heap.size, 0, none⟩)) := by
    have hold : ∃ u, (w.alloc (.cells nodeC 116)).cell? ⟨b, o + x.toNat, none⟩ = some u := by
      cases x
      · exact ⟨_, (World.cell?_alloc_lt _ _ _ hbl.2).trans (h.n0 p b o hp)⟩
      · exact ⟨_, (World.cell?_alloc_lt _ _ _ hbl.2).trans (h.n1 p b o hp)⟩
    obtain ⟨u, hu⟩ := hold
    exact World.cell?_setCell_same _ _ _ hu
  have kid : ∀ y, updA A (p ++ [x]) (w.heap.size, 0) (p ++ [x] ++ [y]) = none := by
    intro y
    unfold updA
    rw [if_neg (snoc_ne p x y)]
    rcases hc : A (p ++ [x] ++ [y]) with _ | v
    · rfl
    · exact absurd hx (h.up _ y (by rw [hc]; simp))
  have hE : E (p ++ [x]) = none := by
    rcases hc : E (p ++ [x]) with _ | v
    · rfl
    · exact absurd hx (h.en _ (by rw [hc]; simp))
  have other : ∀ q y, q ≠ p → updA A (p ++ [x]) (w.heap.size, 0) (q ++ [y]) = A (q ++ [y]) := by
    intro q y hq
    unfold updA
    rw [if_neg (fun e => hq (snoc_inj e).1)]
  have sib : ∀ y, y ≠ x → updA A (p ++ [x]) (w.heap.size, 0) (p ++ [y]) = A (p ++ [y]) := by
    intro y hy
    unfold updA
    rw [if_neg (fun e => hy (snoc_inj e).2)]
  have mine : updA A (p ++ [x]) (w.heap.size, 0) (p ++ [x]) = some (w.heap.size, 0) := by unfold updA; rw [if_pos rfl]
  have cases_ : ∀ q c d, updA A (p ++ [x]) (w.heap.size, 0) q = some (c, d) → (q = p ++ [x] ∧ c = w.heap.size ∧ d = 0) ∨ (q ≠ p ++ [x] ∧ A q = some (c, d)) := by
    intro q c d e
    unfold updA at e
    by_cases hq : q = p ++ [x]
    · rw [if_pos hq] at e
      injection e with e
      injection e with e1 e2
      exact .inl ⟨hq, e1.symm, e2.symm⟩
    · rw [if_neg hq] at e
      exact .inr ⟨hq, e⟩
  refine ⟨?_, ?_, ?_, ?_, ?_, ?_, ?_, ?_, ?_, ?_, ?_, ?_, ?_⟩
  · unfold updA
    rw [if_neg (by intro e; have := congrArg List.length e; simp at this)]
    exact h.root
  · intro q c d e
    rcases cases_ q c d e with ⟨_, rfl, rfl⟩ | ⟨_, e⟩
    · exact ⟨by omega, by omega⟩
    · have := h.lo q c d e; exact ⟨this.1, by omega⟩
  · intro q c d e
    rcases cases_ q c d e with ⟨rfl, rfl, rfl⟩ | ⟨hq, e'⟩
    · rw [new, kid]; rfl
    · clear e
      have e := e'
      clear e'
      have hl := (h.lo q c d e).2
      by_cases hqp : q = p
      · subst hqp
        rw [hp] at e
        injection e with e
        injection e with e1 e2
        subst e1; subst e2
        cases x
        · rw [mine]; exact same
        · rw [sib _ (by simp), far b o hl (by intro _; simp)]; exact h.n0 q b o hp
      · rw [other q _ hqp, far c d hl (by intro hcb; subst hcb; exact absurd (h.inj q p c d o e hp) hqp)]
        exact h.n0 q c d e
  · intro q c d e
    rcases cases_ q c d e with ⟨rfl, rfl, rfl⟩ | ⟨hq, e'⟩
    · rw [new, kid]; rfl
    · clear e
      have e := e'
      clear e'
      have hl := (h.lo q c d e).2
      by_cases hqp : q = p
      · subst hqp
        rw [hp] at e
        injection e with e
        injection e with e1 e2
        subst e1; subst e2
        cases x
        · rw [sib _ (by simp), far b (o + 1) hl (by intro _; simp)]; exact h.n1 q b o hp
        · rw [mine]; exact same
      · rw [other q _ hqp, far c (d + 1) hl (by intro hcb; subst hcb; exact absurd (h.inj q p c d o e hp) hqp)]
        exact h.n1 q c d e
  · intro q c d e
    rcases cases_ q c d e with ⟨rfl, rfl, rfl⟩ | ⟨hq, e'⟩
    · rw [new, hE]; rfl
    · clear e
      have e := e'
      clear e'
      have hl := (h.lo q c d e).2
      rw [far c (d + 2) hl (by
        intro hcb; subst hcb
        have hqp := h.inj q p c d o e hp
        subst hqp
        rw [hp] at e
        injection e with e
        injection e with _ e2
        cases x <;> simp <;> omega)]
      exact h.ne q c d e
  · intro q c d e
    rcases cases_ q c d e with ⟨rfl, rfl, rfl⟩ | ⟨hq, e'⟩
    · rw [new, hE]; rfl
    · clear e
      have e := e'
      clear e'
      have hl := (h.lo q c d e).2
      rw [far c (d + 3) hl (by
        intro hcb; subst hcb
        have hqp := h.inj q p c d o e hp
        subst hqp
        rw [hp] at e
        injection e with e
        injection e with _ e2
        cases x <;> simp <;> omega)]
      exact h.ni q c d e
  · intro q c d e i
    rw [World.frozen?_setCell]
    rcases cases_ q c d e with ⟨rfl, rfl, rfl⟩ | ⟨hq, e'⟩
    · simp
    · clear e
      have e := e'
      clear e'
      have hl := (h.lo q c d e).2
      rw [World.frozen?_alloc_past _ _ _ hl]
      exact h.fz q c d e i
  · intro q d e
    rcases cases_ q _ d e with ⟨_, hgs, _⟩ | ⟨_, e⟩
    · omega
    · exact h.o2 q d e
  · intro q r c d d' e1 e2
    rcases cases_ q c d e1 with ⟨rfl, rfl, rfl⟩ | ⟨hq, e1⟩
    · rcases cases_ r _ d' e2 with ⟨rfl, _, _⟩ | ⟨hr, e2⟩
      · rfl
      · have := (h.lo r _ d' e2).2; omega
    · rcases cases_ r _ d' e2 with ⟨rfl, rfl, _⟩ | ⟨hr, e2⟩
      · have := (h.lo q _ d e1).2; omega
      · exact h.inj q r c d d' e1 e2
  · intro q y hqy
    by_cases hq : q = p
    · subst hq
      unfold updA
      split
      · simp
      · rw [hp]; simp
    · by_cases hq2 : q = p ++ [x]
      · subst hq2; exact absurd (kid y) hqy
      · rw [other q y hq] at hqy
        unfold updA
        rw [if_neg hq2]
        exact h.up q y hqy
  · intro q hq
    unfold updA
    split
    · simp
    · exact h.en q hq
  · rw [far g 0 hg (by
      intro e; subst e
      have := h.o2 p o hp
      omega)]
    exact h.h0
  · rw [far g 1 hg (by
      intro e; subst e
      have := h.o2 p o hp
      omega)]
    exact h.h1
/-- a word ends -/
theorem Tr.ends (h : Tr w C g v0 v1 A E) {p : List Bool} {b o : Nat} (hp : A p = some (b, o)) (i : Nat) :
    Tr ((w.setCell ⟨b, o + 2, none⟩ (.bool true)).setCell ⟨b, o + 3, none⟩ (.int .i64 (i : Int))) C g v0 v1 A (updE E p i) := by
  have hg : g < C := (h.lo _ _ _ h.root).2
  have far : ∀ c j, (c = b → j ≠ o + 2 ∧ j ≠ o + 3) → ((w.setCell ⟨b, o + 2, none⟩ (.bool true)).setCell ⟨b, o + 3, none⟩ (.int .i64 (i : Int))).cell? ⟨c, j, none⟩ = w.cell? ⟨c, j, none⟩ := by
    intro c j hne
    rw [World.cell?_setCell_other _ _ _ _ (by
      intro e
      injection e with e1 e2
      exact (hne e1.symm).2 e2.symm), World.cell?_setCell_other _ _ _ _ (by
      intro e
      injection e with e1 e2
      exact (hne e1.symm).1 e2.symm)]
  have s2 : ((w.setCell ⟨b, o + 2, none⟩ (.bool true)).setCell ⟨b, o + 3, none⟩ (.int .i64 (i : Int))).cell? ⟨b, o + 2, none⟩ = some (.bool true) := by
    rw [World.cell?_setCell_other _ _ _ _ (by
      intro e
      injection e with e1 e2
      omega)]
    exact World.cell?_setCell_same _ _ _ (h.ne p b o hp)
  have s3 : ((w.setCell ⟨b, o + 2, none⟩ (.bool true)).setCell ⟨b, o + 3, none⟩ (.int .i64 (i : Int))).cell? ⟨b, o + 3, none⟩ = some (.int .i64 (i : Int)) := by
    have : (w.setCell ⟨b, o + 2, none⟩ (.bool true)).cell? ⟨b, o + 3, none⟩ = some (.int .i64 (((E p).getD 0 : Nat) : Int)) := by
      rw [World.cell?_setCell_other _ _ _ _ (by
        intro e
        injection e with e1 e2
        omega)]
      exact h.ni p b o hp
    exact World.cell?_setCell_same _ _ _ this
  have off : ∀ q c d, A q = some (c, d) → ∀ k, k < 4 → k ≠ 2 → k ≠ 3 → c = b → d + k ≠ o + 2 ∧ d + k ≠ o + 3 := by
    intro q c d e k h1 h2 h3 hcb
    subst hcb
    have hqp := h.inj q p c d o e hp
    subst hqp
    rw [hp] at e
    injection e with e
    injection e with _ e2
    omega
  have off2 : ∀ q c d, A q = some (c, d) → q ≠ p → c ≠ b := by
    intro q c d e hq hcb
    subst hcb
    exact hq (h.inj q p c d o e hp)
  refine ⟨h.root, h.lo, fun q c d e => ?_, fun q c d e => ?_, fun q c d e => ?_, fun q c d e => ?_, fun q c d e j => ?_, h.o2, h.inj, h.up, fun q hq => ?_, ?_, ?_⟩
  · rw [far c d (off q c d e 0 (by omega) (by omega) (by omega))]; exact h.n0 q c d e
  · rw [far c (d + 1) (off q c d e 1 (by omega) (by omega) (by omega))]; exact h.n1 q c d e
  · unfold updE
    by_cases hq : q = p
    · subst hq
      rw [hp] at e
      injection e with e
      injection e with e1 e2
      subst e1; subst e2
      rw [if_pos rfl]
      exact s2
    · rw [if_neg hq, far c (d + 2) (fun hcb => absurd hcb (off2 q c d e hq))]; exact h.ne q c d e
  · unfold updE
    by_cases hq : q = p
    · subst hq
      rw [hp] at e
      injection e with e
      injection e with e1 e2
      subst e1; subst e2
      rw [if_pos rfl]
      exact s3
    · rw [if_neg hq, far c (d + 3) (fun hcb => absurd hcb (off2 q c d e hq))]; exact h.ni q c d e
  · rw [World.frozen?_setCell, World.frozen?_setCell]; exact h.fz q c d e j
  · unfold updE at hq
    by_cases hqp : q = p
    · subst hqp; rw [hp]; simp
    · rw [if_neg hqp] at hq; exact h.en q hq
  · rw [far g 0 (by intro e; subst e; have := h.o2 p o hp; omega)]; exact h.h0
  · rw [far g 1 (by intro e; subst e; have := h.o2 p o hp; omega)]; exact h.h1
end
end Go.Proofs.YtgddpjnikgcamaaDoor.Hf

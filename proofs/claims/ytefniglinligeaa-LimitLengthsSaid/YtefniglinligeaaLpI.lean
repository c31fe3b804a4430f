
/- The packs of the things that come, their places, and the lengths that trees add up to; no program in sight. -/
import Derived.Test.YtefniglinligeaaLpH
namespace Go.Proofs.Ytefniglinligeaa.Lp
open Go.RowKit Go.Proofs.Ytefniglinligeaa.Oct Go.Proofs.Ytefniglinligeaa.Lm
set_option linter.unusedVariables false
set_option linter.unusedSimpArgs false

def symsC : List Int → Nat → List Pk
  | [], _ => []
  | z :: zs, s => if 0 < z then ⟨z, (s : Int), none, 0, 0⟩ :: symsC zs (s + 1) else symsC zs (s + 1)
theorem symsC_append (a b : List Int) (s : Nat) : symsC (a ++ b) s = symsC a s ++ symsC b (s + a.length) := by
  induction a generalizing s with
  | nil => rfl
  | cons x a ih =>
    rw [List.cons_append]
    simp only [symsC]
    rw [ih (s + 1), show s + 1 + a.length = s + (x :: a).length by simp; omega]
    split <;> rfl
theorem syms_take (zs : List Int) (k : Nat) (h : k ≤ zs.length) : syms zs k = symsC (zs.take k) 0 := by
  induction k with
  | zero => simp [syms, symsC]
  | succ k ih =>
    have hk : k < zs.length := by omega
    simp only [syms]
    rw [ih (by omega), List.take_succ_eq_append_getElem hk, symsC_append, List.length_take, Nat.min_eq_left (by omega), Nat.zero_add]
    have hg : zs.getD k 0 = zs[k] := by rw [List.getD_eq_getElem?_getD, List.getElem?_eq_getElem hk]; rfl
    rw [hg]
    simp only [symsC]
theorem syms_all (zs : List Int) : syms zs zs.length = symsC zs 0 := by rw [syms_take zs _ (Nat.le_refl _), List.take_length]
/-- how often things come, as plain numbers -/
def natsOf (zs : List Int) : List Nat := zs.map Int.toNat
theorem come_syms (zs : List Int) (s : Nat) : come (natsOf zs) = (symsC zs s).map fun p => p.wt.toNat := by
  induction zs generalizing s with
  | nil => rfl
  | cons z zs ih =>
    have ih := ih (s + 1)
    unfold come natsOf at ih ⊢
    rw [List.map_cons]
    simp only [symsC]
    by_cases h : 0 < z
    · rw [if_pos h, List.filter_cons_of_pos (by simp; omega), List.map_cons, ih]
    · rw [if_neg h, List.filter_cons_of_neg (by simp; omega), ih]
theorem syms_mem (zs : List Int) (s : Nat) : ∀ p ∈ symsC zs s, ∃ i, i < zs.length ∧ p = ⟨zs.getD i 0, ((s + i : Nat) : Int), none, 0, 0⟩ ∧ 0 < zs.getD i 0 := by
  induction zs generalizing s with
  | nil => intro p hp; cases hp
  | cons z zs ih =>
    intro p hp
    have key : p ∈ symsC zs (s + 1) → ∃ i, i < (z :: zs).length ∧ p = ⟨(z :: zs).getD i 0, ((s + i : Nat) : Int), none, 0, 0⟩ ∧ 0 < (z :: zs).getD i 0 := fun h => by
      obtain ⟨i, h1, h2, h3⟩ := ih (s + 1) p h
      exact ⟨i + 1, by simp; omega, by rw [h2, show s + 1 + i = s + (i + 1) by omega]; rfl, h3⟩
    simp only [symsC] at hp
    by_cases h : 0 < z
    · rw [if_pos h] at hp
      rcases List.mem_cons.1 hp with rfl | hp
      · exact ⟨0, by simp, rfl, h⟩
      · exact key hp
    · rw [if_neg h] at hp
      exact key hp
theorem syms_rise (zs : List Int) (s : Nat) : (symsC zs s).Pairwise fun p q => p.sym < q.sym := by
  induction zs generalizing s with
  | nil => exact List.Pairwise.nil
  | cons z zs ih =>
    simp only [symsC]
    split
    · refine List.Pairwise.cons (fun q hq => ?_) (ih _)
      obtain ⟨i, _, rfl, _⟩ := syms_mem zs (s + 1) q hq
      show (s : Int) < ((s + 1 + i : Nat) : Int)
      omega
    · exact ih _
/-- where the things that come lie -/
def ixOf (zs : List Int) (r : Nat) : Nat := ((symsC zs 0).getD r default).sym.toNat
theorem syms_get (zs : List Int) (r : Nat) (h : r < (symsC zs 0).length) : (symsC zs 0).getD r default = (symsC zs 0)[r] := by rw [List.getD_eq_getElem?_getD, List.getElem?_eq_getElem h]; rfl
theorem sgl (zs : List Int) : Sgl (symsC zs 0) (come (natsOf zs)) (ixOf zs) := by
  have e := come_syms zs 0
  have hlen : (symsC zs 0).length = (come (natsOf zs)).length := by rw [e, List.length_map]
  refine ⟨hlen, fun r hr => ?_⟩
  have hr' : r < (symsC zs 0).length := by omega
  obtain ⟨i, h1, h2, h3⟩ := syms_mem zs 0 _ (List.getElem_mem hr')
  have hix : ixOf zs r = i := by unfold ixOf; rw [syms_get zs r hr', h2]; simp
  have hf : (come (natsOf zs)).getD r 0 = (symsC zs 0)[r].wt.toNat := by
    rw [List.getD_eq_getElem?_getD, e, List.getElem?_map, List.getElem?_eq_getElem hr']; rfl
  rw [syms_get zs r hr', hf]
  show (symsC zs 0)[r].wt = _ ∧ (symsC zs 0)[r].sym = _ ∧ (symsC zs 0)[r].ptr = none ∧ (symsC zs 0)[r].len = 0 ∧ (symsC zs 0)[r].cap = 0
  have q1 : (symsC zs 0)[r].wt = zs.getD i 0 := by rw [h2]
  have q2 : (symsC zs 0)[r].sym = ((0 + i : Nat) : Int) := by rw [h2]
  refine ⟨?_, ?_, by rw [h2], by rw [h2], by rw [h2]⟩
  · omega
  · rw [hix, q2]; omega
theorem ix_lt (zs : List Int) (r : Nat) (h : r < (come (natsOf zs)).length) : ixOf zs r < zs.length := by
  have hr' : r < (symsC zs 0).length := by rw [come_syms zs 0, List.length_map] at h; exact h
  obtain ⟨i, h1, h2, h3⟩ := syms_mem zs 0 _ (List.getElem_mem hr')
  unfold ixOf
  rw [syms_get zs r hr', h2]
  simpa using h1
theorem ix_pos (zs : List Int) (r : Nat) (h : r < (come (natsOf zs)).length) : 0 < zs.getD (ixOf zs r) 0 := by
  have hr' : r < (symsC zs 0).length := by rw [come_syms zs 0, List.length_map] at h; exact h
  obtain ⟨i, h1, h2, h3⟩ := syms_mem zs 0 _ (List.getElem_mem hr')
  have e : ixOf zs r = i := by unfold ixOf; rw [syms_get zs r hr', h2]; simp
  rw [e]
  exact h3
theorem ix_inj (zs : List Int) {r s : Nat} (hr : r < (come (natsOf zs)).length) (hs : s < (come (natsOf zs)).length) (h : ixOf zs r = ixOf zs s) : r = s := by
  have hl : (symsC zs 0).length = (come (natsOf zs)).length := (sgl zs).len
  have key : ∀ a b, a < b → b < (symsC zs 0).length → ixOf zs a ≠ ixOf zs b := by
    intro a b hab hb
    have h1 := (List.pairwise_iff_getElem.1 (syms_rise zs 0)) a b (by omega) hb hab
    obtain ⟨i, _, h2, _⟩ := syms_mem zs 0 _ (List.getElem_mem (show a < (symsC zs 0).length by omega))
    obtain ⟨j, _, h3, _⟩ := syms_mem zs 0 _ (List.getElem_mem hb)
    unfold ixOf
    rw [syms_get zs a (by omega), syms_get zs b hb]
    rw [h2, h3] at h1 ⊢
    simp at h1 ⊢
    omega
  rcases Nat.lt_trichotomy r s with h1 | h1 | h1
  · exact absurd h (key r s h1 (by omega))
  · exact h1
  · exact absurd h.symm (key s r h1 (by omega))
theorem comeL_syms (ls : List Nat) (zs : List Int) (s : Nat) (h : ls.length = s + zs.length) : comeL (natsOf zs) (ls.drop s) = (symsC zs s).map fun p => ls.getD p.sym.toNat 0 := by
  induction zs generalizing s with
  | nil => simp [natsOf, comeL, symsC]
  | cons z zs ih =>
    have hs : s < ls.length := by simp at h; omega
    have ih := ih (s + 1) (by simp at h; omega)
    rw [List.drop_eq_getElem_cons hs]
    unfold natsOf at ih ⊢
    rw [List.map_cons]
    simp only [comeL, symsC]
    by_cases hz : 0 < z
    · rw [if_pos (by omega), if_pos hz, List.map_cons, ih]
      congr 1
      rw [List.getD_eq_getElem?_getD]
      simp [hs]
    · rw [if_neg (by omega), if_neg hz, ih]
theorem comeL_ix (ls : List Nat) (zs : List Int) (h : ls.length = zs.length) : comeL (natsOf zs) ls = (List.range (come (natsOf zs)).length).map fun r => ls.getD (ixOf zs r) 0 := by
  have h1 := comeL_syms ls zs 0 (by omega)
  rw [List.drop_zero] at h1
  rw [h1]
  have hl := (sgl zs).len
  refine List.ext_getElem (by simp [hl]) (fun i h1 h2 => ?_)
  have hi : i < (symsC zs 0).length := by simpa using h1
  simp only [List.getElem_map, List.getElem_range]
  unfold ixOf
  rw [syms_get zs i hi]
/-- all trees, one behind the other -/
def addA (ix : Nat → Nat) : List Tree → List Nat → List Nat
  | [], ls => ls
  | t :: Q, ls => addA ix Q (addL ix t ls)
theorem addA_length (ix : Nat → Nat) (Q : List Tree) (ls : List Nat) : (addA ix Q ls).length = ls.length := by
  induction Q generalizing ls with
  | nil => rfl
  | cons t Q ih => simp only [addA]; rw [ih, addL_length]
theorem addA_append (ix : Nat → Nat) (A B : List Tree) (ls : List Nat) : addA ix (A ++ B) ls = addA ix B (addA ix A ls) := by
  induction A generalizing ls with
  | nil => rfl
  | cons t A ih => simp only [List.cons_append, addA]; rw [ih]
theorem addA_le (ix : Nat → Nat) {B M : Nat} : ∀ (Q : List Tree) (ls : List Nat), (∀ t ∈ Q, sizeT t ≤ M) → (∀ x ∈ ls, x ≤ B) → ∀ x ∈ addA ix Q ls, x ≤ B + Q.length * M
  | [], ls, _, h, x, hx => by have := h x hx; simp; omega
  | t :: Q, ls, hM, h, x, hx => by
    have h1 := addL_le ix t ls h
    have h2 := hM t (by simp)
    have := addA_le ix (B := B + M) Q (addL ix t ls) (fun t ht => hM t (by simp [ht])) (fun y hy => by have := h1 y hy; omega) x hx
    rw [List.length_cons, Nat.succ_mul]
    omega
theorem addL_at {ix : Nat → Nat} {n : Nat} (hix : ∀ a b, a < n → b < n → ix a = ix b → a = b) {r : Nat} (hr : r < n) : ∀ (t : Tree) (ls : List Nat), InT (fun s => s) n t → ix r < ls.length → (addL ix t ls).getD (ix r) 0 = ls.getD (ix r) 0 + t.cnt r
  | .leaf _ s, ls, hs, hl => by
    simp only [addL, Tree.cnt]
    have hs : s < n := hs
    rw [List.getD_eq_getElem?_getD, List.getElem?_set]
    by_cases h : s = r
    · subst h
      rw [if_pos rfl, if_pos hl, if_pos rfl]
      rfl
    · rw [if_neg (fun e => h (hix s r hs hr e)), if_neg h, ← List.getD_eq_getElem?_getD]
      omega
  | .node a b, ls, ⟨ha, hb⟩, hl => by
    simp only [addL, Tree.cnt]
    rw [addL_at hix hr b _ hb (by rw [addL_length]; exact hl), addL_at hix hr a ls ha hl]
    omega
theorem addL_off {ix : Nat → Nat} {n j : Nat} (hj : ∀ s, s < n → ix s ≠ j) : ∀ (t : Tree) (ls : List Nat), InT (fun s => s) n t → (addL ix t ls).getD j 0 = ls.getD j 0
  | .leaf _ s, ls, hs => by
    have hs : s < n := hs
    simp only [addL]
    rw [List.getD_eq_getElem?_getD, List.getElem?_set, if_neg (hj s hs), ← List.getD_eq_getElem?_getD]
  | .node a b, ls, ⟨ha, hb⟩ => by
    simp only [addL]
    rw [addL_off hj b _ hb, addL_off hj a ls ha]
theorem addA_at {ix : Nat → Nat} {n : Nat} (hix : ∀ a b, a < n → b < n → ix a = ix b → a = b) {r : Nat} (hr : r < n) : ∀ (Q : List Tree) (ls : List Nat), (∀ t ∈ Q, InT (fun s => s) n t) → ix r < ls.length → (addA ix Q ls).getD (ix r) 0 = ls.getD (ix r) 0 + cntL r Q
  | [], ls, _, _ => by simp [addA, cntL]
  | t :: Q, ls, h, hl => by
    simp only [addA]
    rw [addA_at hix hr Q _ (fun t ht => h t (by simp [ht])) (by rw [addL_length]; exact hl), addL_at hix hr t ls (h t (by simp)) hl]
    simp only [cntL, List.map_cons, List.sum_cons]
    omega
theorem addA_off {ix : Nat → Nat} {n j : Nat} (hj : ∀ s, s < n → ix s ≠ j) : ∀ (Q : List Tree) (ls : List Nat), (∀ t ∈ Q, InT (fun s => s) n t) → (addA ix Q ls).getD j 0 = ls.getD j 0
  | [], ls, _ => rfl
  | t :: Q, ls, h => by
    simp only [addA]
    rw [addA_off hj Q _ (fun t ht => h t (by simp [ht])), addL_off hj t ls (h t (by simp))]
/-- lengths that serve, of the least cost -/
structure Fine (zs : List Int) (most : Nat) (ls : List Nat) : Prop where
  len : ls.length = zs.length
  zero : ∀ i, i < zs.length → zs.getD i 0 = 0 → ls.getD i 0 = 0
  least : Least (come (natsOf zs)) most (comeL (natsOf zs) ls)
theorem fine_trees {zs : List Int} {most : Nat} {T : List Tree} (hz : ∀ z ∈ zs, 0 ≤ z) (h2 : 2 ≤ (come (natsOf zs)).length) (hm1 : 1 ≤ most) (hm : most ≤ 30) (hT : LevelR (come (natsOf zs)) most T) (hn : 2 * ((come (natsOf zs)).length - 1) ≤ T.length) :
    Fine zs most (addA (ixOf zs) (T.take (2 * ((come (natsOf zs)).length - 1))) (List.replicate zs.length 0)) := by
  have hin : ∀ t ∈ T.take (2 * ((come (natsOf zs)).length - 1)), InT (fun s => s) (come (natsOf zs)).length t := fun t ht => level_in (ix := fun s => s) (fun r hr => hr) hT t (List.mem_of_mem_take ht)
  have hinj : ∀ a b, a < (come (natsOf zs)).length → b < (come (natsOf zs)).length → ixOf zs a = ixOf zs b → a = b := fun a b ha hb h => ix_inj zs ha hb h
  refine ⟨by rw [addA_length, List.length_replicate], fun i hi h0 => ?_, ?_⟩
  · rw [addA_off (n := (come (natsOf zs)).length) (fun s hs e => ?_) _ _ hin]
    · rw [List.getD_eq_getElem?_getD]; simp [hi]
    · have := ix_pos zs s hs
      rw [e, h0] at this
      omega
  · rw [comeL_ix _ zs (by rw [addA_length, List.length_replicate])]
    have e : ((List.range (come (natsOf zs)).length).map fun r => (addA (ixOf zs) (T.take (2 * ((come (natsOf zs)).length - 1))) (List.replicate zs.length 0)).getD (ixOf zs r) 0) = (List.range (come (natsOf zs)).length).map fun r => cntL r (T.take (2 * ((come (natsOf zs)).length - 1))) := by
      refine List.map_congr_left (fun r hr => ?_)
      have hr : r < (come (natsOf zs)).length := by simpa using hr
      have hl := ix_lt zs r hr
      rw [addA_at hinj hr _ _ hin (by rw [List.length_replicate]; exact hl)]
      have : (List.replicate zs.length 0).getD (ixOf zs r) 0 = 0 := by rw [List.getD_eq_getElem?_getD]; simp [hl]
      rw [this, Nat.zero_add]
    rw [e]
    exact top_least h2 (come_pos _) hm1 hm hT hn
theorem fine_one {zs : List Int} {most : Nat} (hm1 : 1 ≤ most) (h1 : (come (natsOf zs)).length = 1) : Fine zs most ((List.replicate zs.length 0).set (ixOf zs 0) 1) := by
  have hl := ix_lt zs 0 (by omega)
  refine ⟨by simp, fun i hi h0 => ?_, ?_⟩
  · have := ix_pos zs 0 (by omega)
    rw [List.getD_eq_getElem?_getD, List.getElem?_set, if_neg (fun e => by rw [e, h0] at this; omega)]
    simp [hi]
  · rw [comeL_ix _ zs (by simp), h1]
    have e : ((List.range 1).map fun r => ((List.replicate zs.length 0).set (ixOf zs 0) 1).getD (ixOf zs r) 0) = [1] := by
      simp [List.range_succ, List.getD_eq_getElem?_getD, hl]
    rw [e]
    obtain ⟨x, hx⟩ : ∃ x, come (natsOf zs) = [x] := by
      rcases hc : come (natsOf zs) with _ | ⟨x, _ | ⟨y, t⟩⟩
      · rw [hc] at h1; cases h1
      · exact ⟨x, rfl⟩
      · rw [hc] at h1; simp at h1
    rw [hx]
    exact least_one x most hm1
theorem fine_none {zs : List Int} {most : Nat} (h0 : (come (natsOf zs)).length = 0) : Fine zs most (List.replicate zs.length 0) := by
  refine ⟨by simp, fun i hi _ => by rw [List.getD_eq_getElem?_getD]; simp [hi], ?_⟩
  rw [comeL_ix _ zs (by simp), h0, List.eq_nil_of_length_eq_zero h0]
  exact least_none most
end Go.Proofs.Ytefniglinligeaa.Lp

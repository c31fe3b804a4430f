
/- lightest: one level's packs off the level's ahead. -/
import Derived.Test.YtefniglinligeaaLpF
namespace Go.Proofs.Ytefniglinligeaa.Lp
open Go.RowKit Go.Sort Go.Proofs.Ytefniglinligeaa.Oct Go.Proofs.Ytefniglinligeaa.Lm
set_option linter.unusedVariables false
set_option linter.unusedSimpArgs false
set_option maxRecDepth 100000

/-- a level's packs in memory -/
def Lst (w : World) (lo : Nat) (ix : Nat → Nat) (f : List Nat) (l : Nat) (v : Value) (z : List (Tree × Pk)) : Prop :=
  ∃ p lb cap, v = .slice p z.length cap ∧ (z.length ≠ 0 → p = some ⟨lb, 0, none⟩ ∧ lo ≤ lb ∧ lb < w.heap.size) ∧ (p = none → cap = 0) ∧ z.length ≤ cap ∧ PRow w lb (z.map Prod.snd) ∧ (∀ x ∈ z, Mn w lo lb ix x.1 x.2) ∧ LevelR f l (z.map Prod.fst)
/-- single packs of the things -/
structure Sgl (S : List Pk) (f : List Nat) (ix : Nat → Nat) : Prop where
  len : S.length = f.length
  leaf : ∀ r, r < f.length → Mn default 0 0 ix (.leaf (f.getD r 0) r) (S.getD r default)
def zL (f : List Nat) (S : List Pk) : List (Tree × Pk) := (List.range f.length).map fun r => (.leaf (f.getD r 0) r, S.getD r default)
theorem zL_fst (f : List Nat) (S : List Pk) : (zL f S).map Prod.fst = leavesT f := by unfold zL leavesT; rw [List.map_map]; rfl
theorem zL_snd {f : List Nat} {S : List Pk} {ix : Nat → Nat} (h : Sgl S f ix) : (zL f S).map Prod.snd = S := by
  unfold zL
  rw [List.map_map]
  refine List.ext_getElem (by simp [h.len]) (fun i h1 h2 => ?_)
  simp only [List.getElem_map, List.getElem_range, Function.comp]
  rw [List.getD_eq_getElem?_getD, List.getElem?_eq_getElem h2]
  rfl
def zP (lb cap : Nat) (z : List (Tree × Pk)) : List (Tree × Pk) :=
  (List.range (z.length / 2)).map fun i => (.node ((z.map Prod.fst).getD (2 * i) (.leaf 0 0)) ((z.map Prod.fst).getD (2 * i + 1) (.leaf 0 0)), pairPk lb cap (z.map Prod.snd) i)
theorem zP_snd (lb cap : Nat) (z : List (Tree × Pk)) : (zP lb cap z).map Prod.snd = (List.range ((z.map Prod.snd).length / 2)).map (pairPk lb cap (z.map Prod.snd)) := by
  unfold zP; rw [List.map_map, List.length_map]; rfl
theorem zP_fst (lb cap : Nat) (z : List (Tree × Pk)) : (zP lb cap z).map Prod.fst = pairT (z.map Prod.fst) := by
  have key : (zP lb cap z).map Prod.fst = (List.range (z.length / 2)).map fun i => .node ((z.map Prod.fst).getD (2 * i) (.leaf 0 0)) ((z.map Prod.fst).getD (2 * i + 1) (.leaf 0 0)) := by unfold zP; rw [List.map_map]; rfl
  rw [key]
  refine List.ext_getElem (by simp [pairT_length]) (fun i h1 h2 => ?_)
  rw [pairT_length, List.length_map] at h2
  have h3 : 2 * i + 1 < (z.map Prod.fst).length := by rw [List.length_map]; omega
  have h4 := pairT_get (z.map Prod.fst) i h3
  obtain ⟨_, h5⟩ := List.getElem?_eq_some_iff.1 h4
  rw [h5]
  simp only [List.getElem_map, List.getElem_range]
  rw [List.getD_eq_getElem?_getD, List.getElem?_eq_getElem (show 2 * i < (z.map Prod.fst).length by omega), List.getD_eq_getElem?_getD, List.getElem?_eq_getElem h3]
  simp
theorem leaf_any {w : World} {lo hi : Nat} {ix : Nat → Nat} {a b : Nat} {p : Pk} (h : Mn default 0 0 ix (.leaf a b) p) : Mn w lo hi ix (.leaf a b) p := h
theorem zP_mean {w : World} {lo lb cap hi : Nat} {ix : Nat → Nat} {z : List (Tree × Pk)} (hr : PRow w lb (z.map Prod.snd)) (hm : ∀ x ∈ z, Mn w lo lb ix x.1 x.2) (hlo : z.length ≠ 0 → lo ≤ lb ∧ lb < hi) (hcap : z.length ≤ cap) : ∀ x ∈ zP lb cap z, Mn w lo hi ix x.1 x.2 := by
  intro x hx
  unfold zP at hx
  obtain ⟨i, hi', rfl⟩ := List.mem_map.1 hx
  have hi' : i < z.length / 2 := by simpa using hi'
  have h0 : 2 * i < z.length := by omega
  have h1 : 2 * i + 1 < z.length := by omega
  obtain ⟨l1, l2⟩ := hlo (by omega)
  have g0 : (z.map Prod.fst).getD (2 * i) (.leaf 0 0) = z[2 * i].1 := by rw [List.getD_eq_getElem?_getD, List.getElem?_map, List.getElem?_eq_getElem h0]; rfl
  have g1 : (z.map Prod.fst).getD (2 * i + 1) (.leaf 0 0) = z[2 * i + 1].1 := by rw [List.getD_eq_getElem?_getD, List.getElem?_map, List.getElem?_eq_getElem h1]; rfl
  have k0 : (z.map Prod.snd).getD (2 * i) default = z[2 * i].2 := by rw [List.getD_eq_getElem?_getD, List.getElem?_map, List.getElem?_eq_getElem h0]; rfl
  have k1 : (z.map Prod.snd).getD (2 * i + 1) default = z[2 * i + 1].2 := by rw [List.getD_eq_getElem?_getD, List.getElem?_map, List.getElem?_eq_getElem h1]; rfl
  have m0 := hm _ (List.getElem_mem h0)
  have m1 := hm _ (List.getElem_mem h1)
  have q0 := hr (2 * i) (by rw [List.length_map]; exact h0)
  have q1 := hr (2 * i + 1) (by rw [List.length_map]; exact h1)
  rw [List.getElem_map] at q0 q1
  rw [show (2 * i + 1) * 3 = 2 * i * 3 + 3 by omega] at q1
  show Mn w lo hi ix (.node _ _) (pairPk lb cap (z.map Prod.snd) i)
  rw [g0, g1]
  refine ⟨?_, rfl, by show 2 ≤ cap - 2 * i; omega, lb, 2 * i * 3, z[2 * i].2, z[2 * i + 1].2, rfl, l1, l2, q0, q1, m0.keep (Nat.le_of_lt l2) (fun k _ _ => rfl), m1.keep (Nat.le_of_lt l2) (fun k _ _ => rfl)⟩
  show ((z.map Prod.snd).getD (2 * i) default).wt + ((z.map Prod.snd).getD (2 * i + 1) default).wt = _
  rw [k0, k1, m0.wt, m1.wt]
  omega
theorem rising_of : ∀ (M : List Nat), (∀ i j (hj : j < M.length) (hij : i < j), M[i]'(Nat.lt_trans hij hj) ≤ M[j]) → Rising M
  | [], _ => trivial
  | x :: M, h => by
    refine Rising.cons (rising_of M (fun i j hj hij => ?_)) (fun y hy => ?_)
    · have := h (i + 1) (j + 1) (by simp; omega) (by omega)
      simpa using this
    · obtain ⟨j, hj, rfl⟩ := List.getElem_of_mem hy
      have := h 0 (j + 1) (by simp; omega) (by omega)
      simpa using this
theorem POwn.fz {w : World} {base g n c : Nat} {zs : List Pk} (h : POwn w base (.slice (some ⟨g, 0, none⟩) n c) zs) (i : Nat) : w.frozen? ⟨g, i, none⟩ = false := by
  rcases h.2 with ⟨h0, _⟩ | ⟨g', cap, cur, he, _, hh, _⟩
  · cases h0
  · injection he with e1 e2 e3
    injection e1 with e1
    injection e1 with e1
    subst e1
    simp [World.frozen?, hh]
/-- the next level, once it is sorted -/
theorem next_level {w w' : World} {lo g l : Nat} {ix : Nat → Nat} {f : List Nat} {z zc : List (Tree × Pk)} {d : Array Pk} (hz : LevelR f l (z.map Prod.fst)) (hc : zc.map Prod.fst = leavesT f ++ pairT (z.map Prod.fst)) (hd : zc.map Prod.snd = d.toList) (hm : ∀ x ∈ zc, Mn w lo g ix x.1 x.2)
    {d' : Array Pk} (hS : SWK encP 3 w g 0 d' w') (hH : HoldsK encP 3 w g 0 d) (hg : g < w.heap.size) (hp : PermIn 0 d.size d d') (hs : SortedIn (ltOf cmpP) 0 d.size d') :
    ∃ z' : List (Tree × Pk), z'.length = zc.length ∧ PRow w' g (z'.map Prod.snd) ∧ (∀ x ∈ z', Mn w' lo g ix x.1 x.2) ∧ LevelR f (l + 1) (z'.map Prod.fst) := by
  have hsz : d'.size = d.size := hp.1
  have hpl : d'.toList.Perm d.toList := by
    have h := hp.2.2
    have e1 : d.extract 0 d.size = d := by simp
    have e2 : d'.extract 0 d.size = d' := by rw [← hsz]; simp
    rw [e1, e2] at h
    exact h
  obtain ⟨z', pz, ez⟩ := zip_perm hpl zc hd
  have hold := hS.holds hg hH hsz
  obtain ⟨_, hkeep, _⟩ := swk_keep hS
  have hmz : ∀ x ∈ z', Mn w' lo g ix x.1 x.2 := fun x hx => (hm x (pz.mem_iff.1 hx)).keep (Nat.le_refl _) (fun k _ hk => hkeep k (by omega) (by omega))
  refine ⟨z', pz.length_eq, by rw [ez]; exact prow_holds hold, hmz, ?_, z.map Prod.fst, hz, by rw [← hc]; exact pz.map _⟩
  refine rising_of _ (fun i j hj hij => ?_)
  have hzl : z'.length = d'.size := by rw [← Array.length_toList, ← ez, List.length_map]
  have hjz : j < z'.length := by simpa using hj
  have hiz : i < z'.length := by omega
  simp only [List.getElem_map]
  have w1 := (hmz _ (List.getElem_mem hiz)).wt
  have w2 := (hmz _ (List.getElem_mem hjz)).wt
  have e1 : d'[i]! = z'[i].2 := by
    rw [getElem!_pos d' i (by omega), ← Array.getElem_toList]
    simp only [← ez, List.getElem_map]
  have e2 : d'[j]! = z'[j].2 := by
    rw [getElem!_pos d' j (by omega), ← Array.getElem_toList]
    simp only [← ez, List.getElem_map]
  have hlt := hs i j (by omega) hij (by omega)
  rw [ltP, e1, e2, w1, w2] at hlt
  have := of_decide_eq_false hlt
  omega
end Go.Proofs.Ytefniglinligeaa.Lp

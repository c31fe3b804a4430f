
/- Packs as trees: what so many packs of a level stand for, as coins; no program in sight. -/
import Derived.Test.YtefniglinligeaaLmC
namespace Go.Proofs.Ytefniglinligeaa.Lm
open Go.Proofs.Ytefniglinligeaa.Bit Go.Proofs.Ytefniglinligeaa.Hf
set_option linter.unusedVariables false
set_option linter.unusedSimpArgs false

/-- a thing of such a weight, or two packs -/
inductive Tree where
  | leaf (w s : Nat)
  | node (a b : Tree)
  deriving DecidableEq
def Tree.wt : Tree → Nat
  | .leaf w _ => w
  | .node a b => a.wt + b.wt
/-- how often a thing is in it -/
def Tree.cnt (r : Nat) : Tree → Nat
  | .leaf _ s => if s = r then 1 else 0
  | .node a b => a.cnt r + b.cnt r
def Tree.isLeaf : Tree → Bool
  | .leaf _ _ => true
  | .node _ _ => false
def pairT : List Tree → List Tree
  | a :: b :: P => .node a b :: pairT P
  | _ => []
theorem pairT_wt : ∀ (P : List Tree), (pairT P).map Tree.wt = pairs (P.map Tree.wt)
  | [] => rfl
  | [_] => rfl
  | a :: b :: P => by simp only [pairT, List.map_cons, pairs, Tree.wt]; rw [pairT_wt P]
theorem pairT_length : ∀ (P : List Tree), (pairT P).length = P.length / 2
  | [] => rfl
  | [_] => by simp [pairT]
  | a :: b :: P => by simp only [pairT, List.length_cons]; rw [pairT_length P]; omega
theorem pairT_get : ∀ (P : List Tree) (i : Nat) (h : 2 * i + 1 < P.length), (pairT P)[i]? = some (.node P[2 * i] P[2 * i + 1])
  | [], i, h => by simp at h
  | [_], i, h => by simp at h
  | a :: b :: P, 0, h => rfl
  | a :: b :: P, i + 1, h => by
    have := pairT_get P i (by simp only [List.length_cons] at h; omega)
    simp only [pairT, List.getElem?_cons_succ]
    rw [this]
    congr 1
theorem pairT_nodes : ∀ (P : List Tree), ∀ t ∈ pairT P, t.isLeaf = false
  | [], t, h => by simp [pairT] at h
  | [_], t, h => by simp [pairT] at h
  | a :: b :: P, t, h => by
    simp only [pairT, List.mem_cons] at h
    rcases h with rfl | h
    · rfl
    · exact pairT_nodes P t h
/-- its two parts -/
def Tree.kids : Tree → List Tree
  | .leaf _ _ => []
  | .node a b => [a, b]
theorem pairT_kids : ∀ (P : List Tree), ∃ R, (pairT P).flatMap Tree.kids ++ R = P
  | [] => ⟨[], rfl⟩
  | [x] => ⟨[x], rfl⟩
  | a :: b :: P => by
    obtain ⟨R, h⟩ := pairT_kids P
    exact ⟨R, by simp only [pairT, List.flatMap_cons, Tree.kids, List.cons_append, List.nil_append]; rw [h]⟩
/-- the things, as packs of their own -/
def leavesT (f : List Nat) : List Tree := (List.range f.length).map fun r => .leaf (f.getD r 0) r
/-- a level's packs, in whatever order -/
def Level (f : List Nat) : Nat → List Tree → Prop
  | 0, T => T = []
  | l + 1, T => ∃ T', Level f l T' ∧ T.Perm (leavesT f ++ pairT T')
/-- .. rising at each level -/
def LevelR (f : List Nat) : Nat → List Tree → Prop
  | 0, T => T = []
  | l + 1, T => Rising (T.map Tree.wt) ∧ ∃ T', LevelR f l T' ∧ T.Perm (leavesT f ++ pairT T')
theorem LevelR.level {f : List Nat} : ∀ {l : Nat} {T : List Tree}, LevelR f l T → Level f l T
  | 0, _, h => h
  | l + 1, _, ⟨_, T', h, hp⟩ => ⟨T', h.level, hp⟩
theorem leavesT_wt (f : List Nat) : (leavesT f).map Tree.wt = f := by
  unfold leavesT
  rw [List.map_map]
  refine List.ext_getElem (by simp) (fun i h1 h2 => ?_)
  simp only [List.getElem_map, List.getElem_range, Function.comp, Tree.wt]
  rw [List.getD_eq_getElem?_getD, List.getElem?_eq_getElem h2]
  rfl
theorem LevelR.parcels {f : List Nat} : ∀ {l : Nat} {T : List Tree}, LevelR f l T → T.map Tree.wt = parcels f l
  | 0, _, h => by subst h; rfl
  | l + 1, T, ⟨hr, T', h, hp⟩ => by
    have h2 := hp.map Tree.wt
    rw [List.map_append, leavesT_wt, pairT_wt, h.parcels] at h2
    exact rising_perm hr (h2.trans (List.Perm.append_right _ (isort_perm f).symm))
theorem flatMap_perm {A B : List Tree} (g : Tree → List Tree) (h : A.Perm B) : (A.flatMap g).Perm (B.flatMap g) := by
  induction h with
  | nil => exact List.Perm.refl _
  | cons x _ ih => simp only [List.flatMap_cons]; exact List.Perm.append_left _ ih
  | swap x y l =>
    simp only [List.flatMap_cons, ← List.append_assoc]
    exact List.Perm.append_right _ List.perm_append_comm
  | trans _ _ h1 h2 => exact h1.trans h2
theorem leavesT_nodup (f : List Nat) : (leavesT f).Nodup := by
  unfold leavesT
  rw [List.Nodup, List.pairwise_map]
  exact List.nodup_range.imp (fun h e => h (by injection e))
/-- how often a thing is in so many packs -/
def cntL (r : Nat) (Q : List Tree) : Nat := (Q.map (Tree.cnt r)).sum
def wtL (Q : List Tree) : Nat := (Q.map Tree.wt).sum
theorem cntL_perm {A B : List Tree} (r : Nat) (h : A.Perm B) : cntL r A = cntL r B := (h.map _).sum_nat
theorem wtL_perm {A B : List Tree} (h : A.Perm B) : wtL A = wtL B := (h.map _).sum_nat
theorem cntL_append (r : Nat) (A B : List Tree) : cntL r (A ++ B) = cntL r A + cntL r B := by simp [cntL]
theorem wtL_append (A B : List Tree) : wtL (A ++ B) = wtL A + wtL B := by simp [wtL]
theorem cntL_kids (r : Nat) : ∀ (Q : List Tree), (∀ t ∈ Q, t.isLeaf = false) → cntL r (Q.flatMap Tree.kids) = cntL r Q ∧ wtL (Q.flatMap Tree.kids) = wtL Q ∧ (Q.flatMap Tree.kids).length = 2 * Q.length
  | [], _ => ⟨rfl, rfl, rfl⟩
  | .leaf w s :: Q, h => by have := h _ (List.mem_cons_self ..); cases this
  | .node a b :: Q, h => by
    obtain ⟨h1, h2, h3⟩ := cntL_kids r Q (fun t ht => h t (List.mem_cons_of_mem _ ht))
    simp only [List.flatMap_cons, Tree.kids]
    rw [cntL_append, wtL_append, List.length_append, h1, h2, h3]
    refine ⟨?_, ?_, ?_⟩
    · simp [cntL, Tree.cnt]
    · simp [wtL, Tree.wt]
    · simp; omega
/-- single things taken: each at most once -/
theorem leaves_taken {f : List Nat} {Q R : List Tree} (h : (Q ++ R).Perm (leavesT f)) : ∃ p : Nat → Bool, cntP f.length p = Q.length ∧ (∀ r, r < f.length → cntL r Q = (p r).toNat) ∧ selP f p = wtL Q := by
  have hnd : (Q ++ R).Nodup := h.nodup_iff.2 (leavesT_nodup f)
  let q : Tree → Bool := fun t => decide (t ∈ Q)
  have hq1 : Q.filter q = Q := List.filter_eq_self.2 (fun t ht => decide_eq_true ht)
  have hq2 : R.filter q = [] := List.filter_eq_nil_iff.2 (fun t ht hc => by
    have hc := of_decide_eq_true hc
    exact (List.nodup_append.1 hnd).2.2 t hc t ht rfl)
  have hp : Q.Perm ((leavesT f).filter q) := by
    have := h.filter q
    rw [List.filter_append, hq1, hq2, List.append_nil] at this
    exact this
  have hg : ∀ (g : Tree → Nat), (Q.map g).sum = sumK (fun r => (q (.leaf (f.getD r 0) r)).toNat * g (.leaf (f.getD r 0) r)) f.length := by
    intro g
    rw [(hp.map g).sum_nat, ← sum_range]
    unfold leavesT
    generalize f.length = n
    generalize List.range n = rs
    induction rs with
    | nil => rfl
    | cons r rs ih =>
      simp only [List.map_cons, List.filter_cons, List.sum_cons]
      rw [← ih]
      cases q (.leaf (f.getD r 0) r) <;> simp
  refine ⟨fun r => q (.leaf (f.getD r 0) r), ?_, ?_, ?_⟩
  · have := hg (fun _ => 1)
    unfold cntP
    have e : (Q.map fun _ => 1).sum = Q.length := by
      clear hg hp hq1 hq2 hnd h this
      induction Q with
      | nil => rfl
      | cons x Q ih => rw [List.map_cons, List.sum_cons, ih, List.length_cons, Nat.add_comm]
    rw [← e, this]
    exact sumK_congr _ (fun r _ => (Nat.mul_one _).symm)
  · intro r hr
    unfold cntL
    rw [hg]
    rw [show sumK (fun k => (q (.leaf (f.getD k 0) k)).toNat * Tree.cnt r (.leaf (f.getD k 0) k)) f.length = sumK (fun k => if k = r then (q (.leaf (f.getD r 0) r)).toNat else 0) f.length from sumK_congr _ (fun k _ => by
      simp only [Tree.cnt]
      by_cases hk : k = r
      · subst hk; rw [if_pos rfl, if_pos rfl, Nat.mul_one]
      · rw [if_neg hk, if_neg hk, Nat.mul_zero])]
    generalize (q (.leaf (f.getD r 0) r)).toNat = x
    revert hr
    generalize f.length = n
    intro hr
    have key : ∀ n, sumK (fun k => if k = r then x else 0) n = if r < n then x else 0 := by
      intro n
      induction n with
      | zero => rfl
      | succ n ih =>
        simp only [sumK, ih]
        by_cases h1 : r < n
        · rw [if_pos h1, if_neg (by omega), if_pos (by omega)]; omega
        · by_cases h2 : n = r
          · rw [if_neg h1, if_pos h2, if_pos (by omega)]; omega
          · rw [if_neg h1, if_neg h2, if_neg (by omega)]
    rw [key, if_pos hr]
  · unfold selP wtL
    rw [hg]
    exact sumK_congr _ (fun r _ => by rw [Nat.mul_comm]; rfl)
/-- so many packs of a level, as coins -/
theorem coins_of {f : List Nat} : ∀ {l : Nat} {T : List Tree}, Level f l T → ∀ Q R : List Tree, (Q ++ R).Perm T → ∃ ps : List (Nat → Bool), ps.length = l ∧ Tot (ps.map (cntP f.length)) Q.length ∧ (∀ r, r < f.length → cntL r Q = lenP ps r) ∧ (ps.map (selP f)).sum = wtL Q
  | 0, T, h, Q, R, hq => by
    subst h
    have := List.Perm.eq_nil hq
    have hQ : Q = [] := (List.append_eq_nil_iff.1 this).1
    subst hQ
    exact ⟨[], rfl, rfl, fun r _ => rfl, rfl⟩
  | l + 1, T, ⟨T', h, hp⟩, Q, R, hq => by
    have hqq := hq.trans hp
    have hl : ∀ t ∈ leavesT f, t.isLeaf = true := fun t ht => by
      unfold leavesT at ht
      obtain ⟨r, _, rfl⟩ := List.mem_map.1 ht
      rfl
    have e1 : (leavesT f ++ pairT T').filter Tree.isLeaf = leavesT f := by
      rw [List.filter_append, List.filter_eq_self.2 hl, List.filter_eq_nil_iff.2 (fun t ht hc => by rw [pairT_nodes T' t ht] at hc; cases hc), List.append_nil]
    have e2 : (leavesT f ++ pairT T').filter (fun t => !t.isLeaf) = pairT T' := by
      rw [List.filter_append, List.filter_eq_nil_iff.2 (fun t ht hc => by rw [hl t ht] at hc; cases hc), List.filter_eq_self.2 (fun t ht => by rw [pairT_nodes T' t ht]; rfl), List.nil_append]
    have p1 := hqq.filter Tree.isLeaf
    have p2 := hqq.filter (fun t => !t.isLeaf)
    rw [e1, List.filter_append] at p1
    rw [e2, List.filter_append] at p2
    obtain ⟨p, hp1, hp2, hp3⟩ := leaves_taken p1
    obtain ⟨RR, hRR⟩ := pairT_kids T'
    have p3 := flatMap_perm Tree.kids p2
    rw [List.flatMap_append] at p3
    have p4 : ((Q.filter (fun t => !t.isLeaf)).flatMap Tree.kids ++ ((R.filter (fun t => !t.isLeaf)).flatMap Tree.kids ++ RR)).Perm T' := by
      rw [← List.append_assoc]
      refine (List.Perm.append_right RR p3).trans ?_
      rw [hRR]
    obtain ⟨ps, a1, a2, a3, a4⟩ := coins_of h _ _ p4
    have hsplit : (Q.filter Tree.isLeaf ++ Q.filter (fun t => !t.isLeaf)).Perm Q := List.filter_append_perm _ _
    have hnl : ∀ t ∈ Q.filter (fun t => !t.isLeaf), t.isLeaf = false := fun t ht => by
      have := (List.mem_filter.1 ht).2
      cases ht' : t.isLeaf with
      | false => rfl
      | true => rw [ht'] at this; cases this
    refine ⟨p :: ps, by simp [a1], ?_, fun r hr => ?_, ?_⟩
    · refine ⟨(Q.filter (fun t => !t.isLeaf)).length, ?_, ?_⟩
      · rw [hp1, ← List.length_append, hsplit.length_eq]
      · rw [← (cntL_kids 0 _ hnl).2.2]
        exact a2
    · rw [← cntL_perm r hsplit, cntL_append, hp2 r hr, ← (cntL_kids r _ hnl).1, a3 r hr]
      rfl
    · rw [← wtL_perm hsplit, wtL_append, List.map_cons, List.sum_cons, hp3, a4, (cntL_kids 0 _ hnl).2.1]
/-- the least packs of the top level are least lengths -/
theorem top_least {f : List Nat} {L : Nat} {T : List Tree} (h2 : 2 ≤ f.length) (hf : ∀ x ∈ f, 1 ≤ x) (hL1 : 1 ≤ L) (hL : L ≤ 30) (hT : LevelR f L T) (hn : 2 * (f.length - 1) ≤ T.length) :
    Least f L ((List.range f.length).map fun r => cntL r (T.take (2 * (f.length - 1)))) := by
  obtain ⟨ps, a1, a2, a3, a4⟩ := coins_of hT.level (T.take (2 * (f.length - 1))) (T.drop (2 * (f.length - 1))) (by rw [List.take_append_drop])
  rw [List.length_take, Nat.min_eq_left hn] at a2
  have hw : (ps.map (selP f)).sum ≤ sumH (parcels f L) (2 * (f.length - 1)) := by
    rw [a4, ← hT.parcels]
    unfold wtL sumH
    rw [List.map_take]
    exact Nat.le_refl _
  have := coins_least h2 hf hL1 hL a1 a2 hw
  have e : lensP f.length ps = (List.range f.length).map fun r => cntL r (T.take (2 * (f.length - 1))) := by
    unfold lensP
    exact List.map_congr_left (fun r hr => (a3 r (by simpa using hr)).symm)
  rw [← e]
  exact this
end Go.Proofs.Ytefniglinligeaa.Lm

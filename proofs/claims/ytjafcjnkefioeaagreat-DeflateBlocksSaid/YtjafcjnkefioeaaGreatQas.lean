/- LmP, LpA, LpR, LpB, LpC: merged. -/
import Derived.Laws.BitsAllLaws
import Derived.Laws.Strings
import Derived.Laws.BytesArg
import Derived.Sort.LotA
import Derived.Test.YtjafcjnkefioeaaGreatRows
import Derived.WalkKit
import Derived.ProofKit
import Derived.WalkLawsBesides
import Derived.Lib.Hide
import Derived.Deep.QuietTactic
import Derived.BigQuiet
import Derived.Outline
import Derived.Laws.NewBlocks
import Derived.Laws.CopyOwn
import Derived.Laws.Concat
import Derived.Laws.Strings2
import Derived.WalkSpells
import Derived.Laws.AppendOwnNone
import Derived.OpenShut
import Derived.Shelf.SlSortCmp.PdqK
import Derived.Deep.DeepCutAuto
import Derived.Lib.SliceRun
import Derived.ChangeSlices
import Derived.Lib.BufferMore
import Derived.RegionTactic
import Derived.BigRegion
import Derived.OwnWalk
import Derived.Deep.WholeRow
import Derived.Test.YtjafcjnkefioeaaGreatQaa
import Derived.Test.YtjafcjnkefioeaaGreatQaq
import Derived.Test.YtjafcjnkefioeaaGreatQar
set_option linter.unusedVariables false
set_option linter.unusedSimpArgs false
/- Packs as trees: what so many packs of a level stand for, as coins; no program in sight. -/
namespace Go.Proofs.YtjafcjnkefioeaaGreat.Lm
open Go.Proofs.YtjafcjnkefioeaaGreat.Bit Go.Proofs.YtjafcjnkefioeaaGreat.Hf
inductive Tree where
  | leaf (w s : Nat)
  | node (a b : Tree)
  deriving DecidableEq
def Tree.wt : Tree → Nat
  | .leaf w _ => w
  | .node a b => a.wt + b.wt
def Tree.cnt (r : Nat) : Tree → Nat
  | .leaf _ s => if s = r then 1 else 0
  | .node a b => a.cnt r + b.cnt r
def Tree.isLeaf : Tree → Bool
  | .leaf _ _ => true
  | .node _ _ => false
def pairT : List Tree → List Tree
  | a :: b :: P => .node a b :: pairT P
  | _ => []
theorem pairT_wt : ∀ (P : List Tree), (pairT P).map Tree.wt = pairs (P.map Tree.wt)
  | [] => rfl
  | [_] => rfl
  | a :: b :: P => by simp only [pairT, List.map_cons, pairs, Tree.wt]; rw [pairT_wt P]
theorem pairT_length : ∀ (P : List Tree), (pairT P).length = P.length / 2
  | [] => rfl
  | [_] => by simp [pairT]
  | a :: b :: P => by simp only [pairT, List.length_cons]; rw [pairT_length P]; omega
theorem pairT_get : ∀ (P : List Tree) (i : Nat) (h : 2 * i + 1 < P.length), (pairT P)[i]? = some (.node P[2 * i] P[2 * i + 1])
  | [], i, h => by simp at h
  | [_], i, h => by simp at h
  | a :: b :: P, 0, h => rfl
  | a :: b :: P, i + 1, h => by
    have := pairT_get P i (by simp only [List.length_cons] at h; omega)
    simp only [pairT, List.getElem?_cons_succ]
    rw [this]
    congr 1
theorem pairT_nodes : ∀ (P : List Tree), ∀ t ∈ pairT P, t.isLeaf = false
  | [], t, h => by simp [pairT] at h
  | [_], t, h => by simp [pairT] at h
  | a :: b :: P, t, h => by
    simp only [pairT, List.mem_cons] at h
    rcases h with rfl | h
    · rfl
    · exact pairT_nodes P t h
def Tree.kids : Tree → List Tree
  | .leaf _ _ => []
  | .node a b => [a, b]
theorem pairT_kids : ∀ (P : List Tree), ∃ R, (pairT P).flatMap Tree.kids ++ R = P
  | [] => ⟨[], rfl⟩
  | [x] => ⟨[x], rfl⟩
  | a :: b :: P => by
    obtain ⟨R, h⟩ := pairT_kids P
    exact ⟨R, by simp only [pairT, List.flatMap_cons, Tree.kids, List.cons_append, List.nil_append]; rw [h]⟩
def leavesT (f : List Nat) : List Tree := (List.range f.length).map fun r => .leaf (f.getD r 0) r
def Level (f : List Nat) : Nat → List Tree → Prop
  | 0, T => T = []
  | l + 1, T => ∃ T', Level f l T' ∧ T.Perm (leavesT f ++ pairT T')
def LevelR (f : List Nat) : Nat → List Tree → Prop
  | 0, T => T = []
  | l + 1, T => Rising (T.map Tree.wt) ∧ ∃ T', LevelR f l T' ∧ T.Perm (leavesT f ++ pairT T')
theorem LevelR.level {f : List Nat} : ∀ {l : Nat} {T : List Tree}, LevelR f l T → Level f l T
  | 0, _, h => h
  | l + 1, _, ⟨_, T', h, hp⟩ => ⟨T', h.level, hp⟩
theorem leavesT_wt (f : List Nat) : (leavesT f).map Tree.wt = f := by
  unfold leavesT
  rw [List.map_map]
  refine List.ext_getElem (by simp) (fun i h1 h2 => ?_)
  simp only [List.getElem_map, List.getElem_range, Function.comp, Tree.wt]
  rw [List.getD_eq_getElem?_getD, List.getElem?_eq_getElem h2]
  rfl
theorem LevelR.parcels {f : List Nat} : ∀ {l : Nat} {T : List Tree}, LevelR f l T → T.map Tree.wt = parcels f l
  | 0, _, h => by subst h; rfl
  | l + 1, T, ⟨hr, T', h, hp⟩ => by
    have h2 := hp.map Tree.wt
    rw [List.map_append, leavesT_wt, pairT_wt, h.parcels] at h2
    exact rising_perm hr (h2.trans (List.Perm.append_right _ (isort_perm f).symm))
theorem flatMap_perm {A B : List Tree} (g : Tree → List Tree) (h : A.Perm B) : (A.flatMap g).Perm (B.flatMap g) := by
  induction h with
  | nil => exact List.Perm.refl _
  | cons x _ ih => simp only [List.flatMap_cons]; exact List.Perm.append_left _ ih
  | swap x y l =>
    simp only [List.flatMap_cons, ← List.append_assoc]
    exact List.Perm.append_right _ List.perm_append_comm
  | trans _ _ h1 h2 => exact h1.trans h2
theorem leavesT_nodup (f : List Nat) : (leavesT f).Nodup := by
  unfold leavesT
  rw [List.Nodup, List.pairwise_map]
  exact List.nodup_range.imp (fun h e => h (by injection e))
def cntL (r : Nat) (Q : List Tree) : Nat := (Q.map (Tree.cnt r)).sum
def wtL (Q : List Tree) : Nat := (Q.map Tree.wt).sum
theorem cntL_perm {A B : List Tree} (r : Nat) (h : A.Perm B) : cntL r A = cntL r B := (h.map _).sum_nat
theorem wtL_perm {A B : List Tree} (h : A.Perm B) : wtL A = wtL B := (h.map _).sum_nat
theorem cntL_append (r : Nat) (A B : List Tree) : cntL r (A ++ B) = cntL r A + cntL r B := by simp [cntL]
theorem wtL_append (A B : List Tree) : wtL (A ++ B) = wtL A + wtL B := by simp [wtL]
theorem cntL_kids (r : Nat) : ∀ (Q : List Tree), (∀ t ∈ Q, t.isLeaf = false) → cntL r (Q.flatMap Tree.kids) = cntL r Q ∧ wtL (Q.flatMap Tree.kids) = wtL Q ∧ (Q.flatMap Tree.kids).length = 2 * Q.length
  | [], _ => ⟨rfl, rfl, rfl⟩
  | .leaf w s :: Q, h => by have := h _ (List.mem_cons_self ..); cases this
  | .node a b :: Q, h => by
    obtain ⟨h1, h2, h3⟩ := cntL_kids r Q (fun t ht => h t (List.mem_cons_of_mem _ ht))
    simp only [List.flatMap_cons, Tree.kids]
    rw [cntL_append, wtL_append, List.length_append, h1, h2, h3]
    refine ⟨?_, ?_, ?_⟩
    · simp [cntL, Tree.cnt]
    · simp [wtL, Tree.wt]
    · simp; omega
theorem leaves_taken {f : List Nat} {Q R : List Tree} (h : (Q ++ R).Perm (leavesT f)) : ∃ p : Nat → Bool, cntP f.length p = Q.length ∧ (∀ r, r < f.length → cntL r Q = (p r).toNat) ∧ selP f p = wtL Q := by
  have hnd : (Q ++ R).Nodup := h.nodup_iff.2 (leavesT_nodup f)
  let q : Tree → Bool := fun t => decide (t ∈ Q)
  have hq1 : Q.filter q = Q := List.filter_eq_self.2 (fun t ht => decide_eq_true ht)
  have hq2 : R.filter q = [] := List.filter_eq_nil_iff.2 (fun t ht hc => by
    have hc := of_decide_eq_true hc
    exact (List.nodup_append.1 hnd).2.2 t hc t ht rfl)
  have hp : Q.Perm ((leavesT f).filter q) := by
    have := h.filter q
    rw [List.filter_append, hq1, hq2, List.append_nil] at this
    exact this
  have hg : ∀ (g : Tree → Nat), (Q.map g).sum = sumK (fun r => (q (.leaf (f.getD r 0) r)).toNat * g (.leaf (f.getD r 0) r)) f.length := by
    intro g
    rw [(hp.map g).sum_nat, ← sum_range]
    unfold leavesT
    generalize f.length = n
    generalize List.range n = rs
    induction rs with
    | nil => rfl
    | cons r rs ih =>
      simp only [List.map_cons, List.filter_cons, List.sum_cons]
      rw [← ih]
      cases q (.leaf (f.getD r 0) r) <;> simp
  refine ⟨fun r => q (.leaf (f.getD r 0) r), ?_, ?_, ?_⟩
  · have := hg (fun _ => 1)
    unfold cntP
    have e : (Q.map fun _ => 1).sum = Q.length := by
      clear hg hp hq1 hq2 hnd h this
      induction Q with
      | nil => rfl
      | cons x Q ih => rw [List.map_cons, List.sum_cons, ih, List.length_cons, Nat.add_comm]
    rw [← e, this]
    exact sumK_congr _ (fun r _ => (Nat.mul_one _).symm)
  · intro r hr
    unfold cntL
    rw [hg]
    rw [show sumK (fun k => (q (.leaf (f.getD k 0) k)).toNat * Tree.cnt r (.leaf (f.getD k 0) k)) f.length = sumK (fun k => if k = r then (q (.leaf (f.getD r 0) r)).toNat else 0) f.length from sumK_congr _ (fun k _ => by
      simp only [Tree.cnt]
      by_cases hk : k = r
      · subst hk; rw [if_pos rfl, if_pos rfl, Nat.mul_one]
      · rw [if_neg hk, if_neg hk, Nat.mul_zero])]
    generalize (q (.leaf (f.getD r 0) r)).toNat = x
    revert hr
    generalize f.length = n
    intro hr
    have key : ∀ n, sumK (fun k => if k = r then x else 0) n = if r < n then x else 0 := by
      intro n
      induction n with
      | zero => rfl
      | succ n ih =>
        simp only [sumK, ih]
        by_cases h1 : r < n
        · rw [if_pos h1, if_neg (by omega), if_pos (by omega)]; omega
        · by_cases h2 : n = r
          · rw [if_neg h1, if_pos h2, if_pos (by omega)]; omega
          · rw [if_neg h1, if_neg h2, if_neg (by omega)]
    rw [key, if_pos hr]
  · unfold selP wtL
    rw [hg]
    exact sumK_congr _ (fun r _ => by rw [Nat.mul_comm]; rfl)
theorem coins_of {f : List Nat} : ∀ {l : Nat} {T : List Tree}, Level f l T → ∀ Q R : List Tree, (Q ++ R).Perm T → ∃ ps : List (Nat → Bool), ps.length = l ∧ Tot (ps.map (cntP f.length)) Q.length ∧ (∀ r, r < f.length → cntL r Q = lenP ps r) ∧ (ps.map (selP f)).sum = wtL Q
  | 0, T, h, Q, R, hq => by
    subst h
    have := List.Perm.eq_nil hq
    have hQ : Q = [] := (List.append_eq_nil_iff.1 this).1
    subst hQ
    exact ⟨[], rfl, rfl, fun r _ => rfl, rfl⟩
  | l + 1, T, ⟨T', h, hp⟩, Q, R, hq => by
    have hqq := hq.trans hp
    have hl : ∀ t ∈ leavesT f, t.isLeaf = true := fun t ht => by
      unfold leavesT at ht
      obtain ⟨r, _, rfl⟩ := List.mem_map.1 ht
      rfl
    have e1 : (leavesT f ++ pairT T').filter Tree.isLeaf = leavesT f := by
      rw [List.filter_append, List.filter_eq_self.2 hl, List.filter_eq_nil_iff.2 (fun t ht hc => by rw [pairT_nodes T' t ht] at hc; cases hc), List.append_nil]
    have e2 : (leavesT f ++ pairT T').filter (fun t => !t.isLeaf) = pairT T' := by
      rw [List.filter_append, List.filter_eq_nil_iff.2 (fun t ht hc => by rw [hl t ht] at hc; cases hc), List.filter_eq_self.2 (fun t ht => by rw [pairT_nodes T' t ht]; rfl), List.nil_append]
    have p1 := hqq.filter Tree.isLeaf
    have p2 := hqq.filter (fun t => !t.isLeaf)
    rw [e1, List.filter_append] at p1
    rw [e2, List.filter_append] at p2
    obtain ⟨p, hp1, hp2, hp3⟩ := leaves_taken p1
    obtain ⟨RR, hRR⟩ := pairT_kids T'
    have p3 := flatMap_perm Tree.kids p2
    rw [List.flatMap_append] at p3
    have p4 : ((Q.filter (fun t => !t.isLeaf)).flatMap Tree.kids ++ ((R.filter (fun t => !t.isLeaf)).flatMap Tree.kids ++ RR)).Perm T' := by
      rw [← List.append_assoc]
      refine (List.Perm.append_right RR p3).trans ?_
      rw [hRR]
    obtain ⟨ps, a1, a2, a3, a4⟩ := coins_of h _ _ p4
    have hsplit : (Q.filter Tree.isLeaf ++ Q.filter (fun t => !t.isLeaf)).Perm Q := List.filter_append_perm _ _
    have hnl : ∀ t ∈ Q.filter (fun t => !t.isLeaf), t.isLeaf = false := fun t ht => by
      have := (List.mem_filter.1 ht).2
      cases ht' : t.isLeaf with
      | false => rfl
      | true => rw [ht'] at this; cases this
    refine ⟨p :: ps, by simp [a1], ?_, fun r hr => ?_, ?_⟩
    · refine ⟨(Q.filter (fun t => !t.isLeaf)).length, ?_, ?_⟩
      · rw [hp1, ← List.length_append, hsplit.length_eq]
      · rw [← (cntL_kids 0 _ hnl).2.2]
        exact a2
    · rw [← cntL_perm r hsplit, cntL_append, hp2 r hr, ← (cntL_kids r _ hnl).1, a3 r hr]
      rfl
    · rw [← wtL_perm hsplit, wtL_append, List.map_cons, List.sum_cons, hp3, a4, (cntL_kids 0 _ hnl).2.1]
theorem top_least {f : List Nat} {L : Nat} {T : List Tree} (h2 : 2 ≤ f.length) (hf : ∀ x ∈ f, 1 ≤ x) (hL1 : 1 ≤ L) (hL : L ≤ 30) (hT : LevelR f L T) (hn : 2 * (f.length - 1) ≤ T.length) :
    Least f L ((List.range f.length).map fun r => cntL r (T.take (2 * (f.length - 1)))) := by
  obtain ⟨ps, a1, a2, a3, a4⟩ := coins_of hT.level (T.take (2 * (f.length - 1))) (T.drop (2 * (f.length - 1))) (by rw [List.take_append_drop])
  rw [List.length_take, Nat.min_eq_left hn] at a2
  have hw : (ps.map (selP f)).sum ≤ sumH (parcels f L) (2 * (f.length - 1)) := by
    rw [a4, ← hT.parcels]
    unfold wtL sumH
    rw [List.map_take]
    exact Nat.le_refl _
  have := coins_least h2 hf hL1 hL a1 a2 hw
  have e : lensP f.length ps = (List.range f.length).map fun r => cntL r (T.take (2 * (f.length - 1))) := by
    unfold lensP
    exact List.map_congr_left (fun r hr => (a3 r (by simpa using hr)).symm)
  rw [← e]
  exact this
end Go.Proofs.YtjafcjnkefioeaaGreat.Lm
/- A pack in memory; packs compared by weight. -/
namespace Go.Proofs.YtjafcjnkefioeaaGreat.Lp
open Go.Shelf Go.RowKit Go.Lib Go.Sort Go.Proofs.YtjafcjnkefioeaaGreat.Sm Go.Proofs.YtjafcjnkefioeaaGreat.Lm
set_option maxRecDepth 100000
structure Pk where
  wt : Int
  sym : Int
  ptr : Option Addr
  len : Nat
  cap : Nat
instance : Inhabited Pk := ⟨⟨0, 0, none, 0, 0⟩⟩
def encP (x : Pk) : List Value := [.int .i64 x.wt, .int .i64 x.sym, .slice x.ptr x.len x.cap]
theorem encP_len (x : Pk) : (encP x).length = 3 := rfl
theorem encP_one (x : Pk) : ∀ v ∈ encP x, v.oneCell' = true := fun v hv => by
  simp only [encP, List.mem_cons, List.not_mem_nil, or_false] at hv
  rcases hv with rfl | rfl | rfl <;> rfl
def cmpW (x y : Int) : Int := if x < y then -1 else if y < x then 1 else 0
def cmpP (x y : Pk) : Int := cmpW x.wt y.wt
theorem ltP (x y : Pk) : ltOf cmpP x y = decide (x.wt < y.wt) := by
  unfold ltOf cmpP cmpW
  by_cases h1 : x.wt < y.wt
  · simp [h1]
  · by_cases h2 : y.wt < x.wt <;> simp [h1, h2]
theorem swoP : SWO (ltOf cmpP) where
  irrefl x := by rw [ltP]; simp
  trans x y z h1 h2 := by rw [ltP] at *; simp at *; omega
  ntrans x y z h1 h2 := by rw [ltP] at *; simp at *; omega
theorem is_nan (x : Int) (W : World) : Calls Tryz.prog 147 #[.int .i64 x] W fun e w' => e = .returned (.bool false) ∧ w' = W := by
  go_enter Tryz.func147, Tryz.ntmps147
  go_wp2
  go_ret
  exact ⟨by simp, rfl⟩
theorem compare (x y : Int) (W : World) : Calls Tryz.prog 137 #[.int .i64 x, .int .i64 y] W fun e w' => e = .returned (.int .i64 (cmpW x y)) ∧ w' = W := by
  have h1 := is_nan x
  have h2 := is_nan y
  by_cases hlt : x < y
  · have hr : cmpW x y = -1 := by unfold cmpW; rw [if_pos hlt]
    rw [hr]
    go_enter Tryz.func137, Tryz.ntmps137
    go_wp2_with (go_at_call 147; first | (refine (h1 _).mono ?_; rintro e w' ⟨rfl, rfl⟩) | (refine (h2 _).mono ?_; rintro e w' ⟨rfl, rfl⟩))
    all_goals (go_ret; exact ⟨rfl, rfl⟩)
  · by_cases hgt : y < x
    · have hr : cmpW x y = 1 := by unfold cmpW; rw [if_neg hlt, if_pos hgt]
      rw [hr]
      go_enter Tryz.func137, Tryz.ntmps137
      go_wp2_with (go_at_call 147; first | (refine (h1 _).mono ?_; rintro e w' ⟨rfl, rfl⟩) | (refine (h2 _).mono ?_; rintro e w' ⟨rfl, rfl⟩))
      all_goals (go_ret; exact ⟨rfl, rfl⟩)
    · have hr : cmpW x y = 0 := by unfold cmpW; rw [if_neg hlt, if_neg hgt]
      rw [hr]
      go_enter Tryz.func137, Tryz.ntmps137
      go_wp2_with (go_at_call 147; first | (refine (h1 _).mono ?_; rintro e w' ⟨rfl, rfl⟩) | (refine (h2 _).mono ?_; rintro e w' ⟨rfl, rfl⟩))
      all_goals (go_ret; exact ⟨rfl, rfl⟩)
set_option maxHeartbeats 1000000 in
theorem closure (x y : Pk) (W : World) : Calls Tryz.prog 136 #[.agg #[.int .i64 x.wt, .int .i64 x.sym, .slice x.ptr x.len x.cap], .agg #[.int .i64 y.wt, .int .i64 y.sym, .slice y.ptr y.len y.cap]] W fun e w' => e = .returned (.int .i64 (cmpP x y)) ∧ ∃ q os', w' = grow (W.drewN q) os' := by
  have hcon := fun W' => compare x.wt y.wt W'
  have hr : cmpW x.wt y.wt = cmpP x y := rfl
  rw [hr] at hcon
  generalize cmpP x y = r at hcon ⊢
  clear hr
  go_enter Tryz.func136, Tryz.ntmps136
  go_wp2_with (go_at_call 137; refine (hcon _).mono ?_; rintro e w' ⟨rfl, rfl⟩)
  go_ret
  exact ⟨rfl, 0, _, by rw [alloc_eq_grow, alloc_eq_grow, grow_grow]; rfl⟩
theorem cmp_lays (blk off size : Nat) (w : World) : CmpLays Tryz.prog 136 #[] encP 3 cmpP blk off size w := fun _ _ _ _ x y => closure x y _
theorem closure_enters (args : Array Value) (w : World) : (callFunc 136 args).run Tryz.prog w = .ok (.enter 136 args) w := enters_of Tryz.func136 (by kernel_rfl) rfl args w
theorem sort_packs (blk off cap : Nat) (d : Array Pk) (w : World) (hH : HoldsK encP 3 w blk off d) (hblk : blk < w.heap.size) (hsz : d.size < 1000000000) :
    Calls Tryz.prog 135 #[.slice (some ⟨blk, off, none⟩) d.size cap, .func (.func 136) #[] #[]] w fun e w' => e = .returned (.tuple #[]) ∧ ∃ d', SWK encP 3 w blk off d' w' ∧ PermIn 0 d.size d d' ∧ SortedIn (ltOf cmpP) 0 d.size d' :=
  sort_stable encP cmpP swoP 136 #[] blk off cap d w closure_enters (cmp_lays _ _ _ _) ⟨encP_len, encP_one, hH, hblk⟩ hsz
end Go.Proofs.YtjafcjnkefioeaaGreat.Lp
/- Rows of numbers in memory (after earlier texts of mine), of no function of the program. -/
namespace Go.Proofs.YtjafcjnkefioeaaGreat.Lp
open Go.RowKit Go.Proofs.YtjafcjnkefioeaaGreat.Oct
set_option maxRecDepth 100000
def Only (S : Nat → Prop) (w w' : World) : Prop :=
  w'.os = w.os ∧ w'.tape = w.tape ∧ w'.output = w.output ∧ w.heap.size ≤ w'.heap.size ∧ ∀ k, k < w.heap.size → ¬ S k → w'.heap[k]? = w.heap[k]?
theorem Only.refl (S : Nat → Prop) (w : World) : Only S w w := ⟨rfl, rfl, rfl, Nat.le_refl _, fun _ _ _ => rfl⟩
theorem Only.trans {S : Nat → Prop} {a b c : World} (h : Only S a b) (k : Only S b c) : Only S a c :=
  ⟨k.1.trans h.1, k.2.1.trans h.2.1, k.2.2.1.trans h.2.2.1, Nat.le_trans h.2.2.2.1 k.2.2.2.1, fun i hi hs => (k.2.2.2.2 i (by have := h.2.2.2.1; omega) hs).trans (h.2.2.2.2 i hi hs)⟩
theorem Only.below {S : Nat → Prop} {B : Nat} {w w' : World} (h : Only S w w') (hB : B ≤ w.heap.size) (hS : ∀ k, k < B → ¬ S k) : Below B w w' :=
  ⟨h.1, h.2.1, h.2.2.1, h.2.2.2.1, fun k hk => h.2.2.2.2 k (by omega) (hS k hk)⟩
theorem Only.of_below {S : Nat → Prop} {w w' : World} (h : Below w.heap.size w w') : Only S w w' := ⟨h.os, h.tape, h.output, h.size, fun k hk _ => h.block k hk⟩
theorem Only.setCell {S : Nat → Prop} {w : World} {p : Addr} (hp : S p.block) (u : Value) : Only S w (w.setCell p u) :=
  ⟨rfl, rfl, rfl, by simp [World.setCell], fun k hk hs => Below.heap_setCell _ _ _ _ (fun e => hs (e ▸ hp))⟩
def VRow (w : World) (C : Nat) (p : Option Addr) (vs : List Value) : Prop :=
  0 < vs.length → ∃ b off, p = some ⟨b, off, none⟩ ∧ b < C ∧ ∀ i (h : i < vs.length), w.cell? ⟨b, off + i, none⟩ = some vs[i]
def ints (zs : List Int) : List Value := zs.map fun z => .int .i64 z
theorem ints_length (zs : List Int) : (ints zs).length = zs.length := by simp [ints]
theorem VRow.int {w : World} {C : Nat} {b off : Nat} {zs : List Int} (h : VRow w C (some ⟨b, off, none⟩) (ints zs)) (i : Nat) (hi : i < zs.length) : w.cell? ⟨b, off + i, none⟩ = some (.int .i64 zs[i]) := by
  obtain ⟨b', off', e, hlt, hc⟩ := h (by rw [ints_length]; omega)
  injection e with e
  injection e with e1 e2
  subst e1; subst e2
  have := hc i (by rw [ints_length]; exact hi)
  rw [this]
  simp [ints]
theorem VRow.addr {w : World} {C : Nat} {p : Option Addr} {vs : List Value} (h : VRow w C p vs) (hp : 0 < vs.length) : ∃ b off, p = some ⟨b, off, none⟩ ∧ b < C := by
  obtain ⟨b, off, e, hlt, _⟩ := h hp
  exact ⟨b, off, e, hlt⟩
theorem blk_set {W : World} {d : Nat} {cs : Array Value} {T : TypeId} (h : W.heap[d]? = some (.cells cs T (0, 0))) (i : Nat) (v : Value) : (W.setCell ⟨d, i, none⟩ v).heap[d]? = some (.cells (cs.setIfInBounds i v) T (0, 0)) := by
  simp [World.setCell, Array.getElem?_modify, h]
theorem blk_frozen {W : World} {d : Nat} {cs : Array Value} {T : TypeId} (h : W.heap[d]? = some (.cells cs T (0, 0))) (i : Nat) : W.frozen? ⟨d, i, none⟩ = false := by
  simp [World.frozen?, h]
section
variable {H : Type} {enc : TypeId × Value → H} {w : World} {spare : Nat → Bool} {held : Bool}
end
end Go.Proofs.YtjafcjnkefioeaaGreat.Lp
/- What a pack in memory stands for; lengthen. -/
namespace Go.Proofs.YtjafcjnkefioeaaGreat.Lp
open Go.RowKit Go.Proofs.YtjafcjnkefioeaaGreat.Oct Go.Proofs.YtjafcjnkefioeaaGreat.Lm
set_option maxRecDepth 100000
def PAt (w : World) (b o : Nat) (p : Pk) : Prop :=
  w.cell? ⟨b, o, none⟩ = some (.int .i64 p.wt) ∧ w.cell? ⟨b, o + 1, none⟩ = some (.int .i64 p.sym) ∧ w.cell? ⟨b, o + 2, none⟩ = some (.slice p.ptr p.len p.cap)
theorem cell_same {w w' : World} {a : Addr} (h : w'.heap[a.block]? = w.heap[a.block]?) : w'.cell? a = w.cell? a := by
  unfold World.cell?
  rw [h]
theorem PAt.keep {w w' : World} {b o : Nat} {p : Pk} (h : PAt w b o p) (hb : w'.heap[b]? = w.heap[b]?) : PAt w' b o p :=
  ⟨(cell_same hb).trans h.1, (cell_same hb).trans h.2.1, (cell_same hb).trans h.2.2⟩
def Mn (w : World) (lo hi : Nat) (ix : Nat → Nat) : Tree → Pk → Prop
  | .leaf wt s, p => p.wt = (wt : Int) ∧ p.sym = (ix s : Int) ∧ p.ptr = none ∧ p.len = 0 ∧ p.cap = 0
  | .node a b, p => p.wt = ((a.wt + b.wt : Nat) : Int) ∧ p.len = 2 ∧ 2 ≤ p.cap ∧ ∃ blk off pa pb, p.ptr = some ⟨blk, off, none⟩ ∧ lo ≤ blk ∧ blk < hi ∧ PAt w blk off pa ∧ PAt w blk (off + 3) pb ∧ Mn w lo hi ix a pa ∧ Mn w lo hi ix b pb
theorem Mn.wt {w : World} {lo hi : Nat} {ix : Nat → Nat} {t : Tree} {p : Pk} (h : Mn w lo hi ix t p) : p.wt = (t.wt : Int) := by
  cases t with
  | leaf wt s => exact h.1
  | node a b => exact h.1
theorem Mn.keep {w w' : World} {lo hi hi' : Nat} {ix : Nat → Nat} : ∀ {t : Tree} {p : Pk}, Mn w lo hi ix t p → hi ≤ hi' → (∀ k, lo ≤ k → k < hi → w'.heap[k]? = w.heap[k]?) → Mn w' lo hi' ix t p
  | .leaf _ _, _, h, _, _ => h
  | .node a b, p, ⟨h1, h2, h3, blk, off, pa, pb, e, l1, l2, q1, q2, m1, m2⟩, hh, hk =>
    ⟨h1, h2, h3, blk, off, pa, pb, e, l1, by omega, q1.keep (hk blk l1 l2), q2.keep (hk blk l1 l2), m1.keep hh hk, m2.keep hh hk⟩
def nats (ls : List Nat) : List Value := ls.map fun n : Nat => .int .i64 (n : Int)
def LRow (w : World) (bl : Nat) (ls : List Nat) : Prop := w.heap[bl]? = some (.cells (nats ls).toArray 3 (0, 0))
def addL (ix : Nat → Nat) : Tree → List Nat → List Nat
  | .leaf _ s, ls => ls.set (ix s) (ls.getD (ix s) 0 + 1)
  | .node a b, ls => addL ix b (addL ix a ls)
def sizeT : Tree → Nat
  | .leaf _ _ => 1
  | .node a b => sizeT a + sizeT b
def InT (ix : Nat → Nat) (n : Nat) : Tree → Prop
  | .leaf _ s => ix s < n
  | .node a b => InT ix n a ∧ InT ix n b
theorem addL_length (ix : Nat → Nat) : ∀ (t : Tree) (ls : List Nat), (addL ix t ls).length = ls.length
  | .leaf _ _, ls => by simp [addL]
  | .node a b, ls => by simp only [addL]; rw [addL_length ix b, addL_length ix a]
theorem addL_le (ix : Nat → Nat) {B : Nat} : ∀ (t : Tree) (ls : List Nat), (∀ x ∈ ls, x ≤ B) → ∀ x ∈ addL ix t ls, x ≤ B + sizeT t
  | .leaf _ s, ls, h, x, hx => by
    simp only [addL] at hx
    rcases List.mem_or_eq_of_mem_set hx with hx | rfl
    · have := h x hx; simp only [sizeT]; omega
    · simp only [sizeT]
      rw [List.getD_eq_getElem?_getD]
      rcases hg : ls[ix s]? with _ | y
      · simp
      · have := h y (List.mem_of_getElem? hg)
        simp; omega
  | .node a b, ls, h, x, hx => by
    have := addL_le ix (B := B + sizeT a) b (addL ix a ls) (addL_le ix a ls h) x hx
    simp only [sizeT]; omega
theorem lrow_cell {w : World} {bl : Nat} {ls : List Nat} (h : LRow w bl ls) (i : Nat) (hi : i < ls.length) : w.cell? ⟨bl, i, none⟩ = some (.int .i64 ((ls.getD i 0 : Nat) : Int)) := by
  unfold LRow at h
  rw [List.getD_eq_getElem?_getD, List.getElem?_eq_getElem hi]
  simp [World.cell?, h, nats, hi]
theorem lrow_set {w : World} {bl : Nat} {ls : List Nat} (h : LRow w bl ls) (i n : Nat) : LRow (w.setCell ⟨bl, i, none⟩ (.int .i64 (n : Int))) bl (ls.set i n) := by
  have := blk_set h i (.int .i64 (n : Int))
  unfold LRow
  rw [this]
  simp [nats, List.map_set]
theorem LRow.lt {w : World} {bl : Nat} {ls : List Nat} (h : LRow w bl ls) : bl < w.heap.size := by
  rcases Nat.lt_or_ge bl w.heap.size with hlt | hge
  · exact hlt
  · unfold LRow at h; rw [Array.getElem?_eq_none hge] at h; cases h
theorem LRow.only {w w' : World} {bl : Nat} {ls : List Nat} {S : Nat → Prop} (h : LRow w bl ls) (ho : Only S w w') (hS : ¬ S bl) : LRow w' bl ls := (ho.2.2.2.2 bl h.lt hS).trans h
theorem only_alloc (S : Nat → Prop) (w : World) (o : Obj) : Only S w (w.alloc o) := Only.of_below ((Below.refl _ w).alloc (Nat.le_refl _) o)
theorem nil_nil (W : World) : (binOp .eql 181 (.slice none 0 0) (.slice none 0 0)).run Tryz.prog W = .ok (.bool true) W := Lib.run_eql_slice_nil_nil W 0 0 Tryz.underlying181
theorem some_nil (W : World) (a : Addr) (n c : Nat) : (binOp .eql 181 (.slice (some a) n c) (.slice none 0 0)).run Tryz.prog W = .ok (.bool false) W := Lib.run_eql_slice_some_nil W a n c Tryz.underlying181
def Long (w : World) (bl : Nat) (ls : List Nat) (e : Ending) (w' : World) : Prop := e = .returned (.tuple #[]) ∧ LRow w' bl ls ∧ Only (· = bl) w w'
set_option maxHeartbeats 4000000 in
theorem lengthen_leaf (wt s : Nat) (p : Pk) (ls : List Nat) (w : World) (lo hi bl cap n : Nat) (ix : Nat → Nat) (hn : n = ls.length) (h : Mn w lo hi ix (.leaf wt s) p) (hl : LRow w bl ls) (hi' : InT ix ls.length (.leaf wt s)) (hb : ∀ x ∈ ls, x + 1 ≤ 4611686018427387904) :
    Calls Tryz.prog 108 #[.agg #[.int .i64 p.wt, .int .i64 p.sym, .slice p.ptr p.len p.cap], .slice (some ⟨bl, 0, none⟩) n cap] w (Long w bl (addL ix (.leaf wt s) ls)) := by
  obtain ⟨h1, h2, h3, h4, h5⟩ := h
  rw [h1, h2, h3, h4, h5]
  have hi2 : ix s < ls.length := hi'
  have hcell := lrow_cell hl (ix s) hi2
  have hfr := blk_frozen hl (ix s)
  have hx : ls.getD (ix s) 0 + 1 ≤ 4611686018427387904 := by
    rw [List.getD_eq_getElem?_getD, List.getElem?_eq_getElem hi2]
    exact hb _ (List.getElem_mem hi2)
  have hblt := hl.lt
  have HL := Lib.hid hl
  have HF : Hid (addL ix (.leaf wt s) ls = ls.set (ix s) (ls.getD (ix s) 0 + 1)) := rfl
  generalize addL ix (.leaf wt s) ls = res at HF ⊢
  generalize ls.getD (ix s) 0 = c at hcell hx HF
  generalize ix s = k at hcell hfr hi2 HF
  have hk1 : (0 : Int) ≤ (k : Int) := by omega
  have hk2 : (k : Int) < (n : Int) := by omega
  have HC : Hid (((c + 1 : Nat) : Int) = (c : Int) + 1) := by show _ = _; omega
  have hwr : IntKind.i64.wrap ((c : Int) + 1) = (c : Int) + 1 := by rw [IntKind.wrap_i64]; omega
  have hne : ¬ w.heap.size = bl := by omega
  have hne2 : ¬ bl = w.heap.size := by omega
  clear h1 h2 h3 h4 h5 hi' hb hl hn
  have hnil := nil_nil
  have hsome := some_nil
  go_enter Tryz.func108, Tryz.ntmps108
  go_wp2
  (try simp only [Exit.inBlock, Exit.then]); refine bodyPost_ret (results_none rfl _ _ _) rfl ?_
  have hl3 := (lrow_set HL.out k (c + 1)).only (S := fun _ => False) (only_alloc _ _ (.cells #[.int .i64 wt, .int .i64 k, .slice none 0 0] 184)) (fun h => h)
  rw [HC.out] at hl3
  rw [HF.out]
  exact ⟨rfl, hl3, (Only.setCell (S := (· = bl)) rfl _).trans (only_alloc _ _ _)⟩
def LenOk (lo hi bl cap n : Nat) (ix : Nat → Nat) (t : Tree) : Prop :=
  ∀ (p : Pk) (ls : List Nat) (w : World), n = ls.length → Mn w lo hi ix t p → LRow w bl ls → hi ≤ w.heap.size → InT ix n t → (∀ x ∈ ls, x + sizeT t ≤ 4611686018427387904) →
    Calls Tryz.prog 108 #[.agg #[.int .i64 p.wt, .int .i64 p.sym, .slice p.ptr p.len p.cap], .slice (some ⟨bl, 0, none⟩) n cap] w (Long w bl (addL ix t ls))
def Stage (ix : Nat → Nat) (a b : Tree) (ls : List Nat) (k : Nat) (lk : List Nat) : Prop := (k = 0 ∧ lk = ls) ∨ (k = 1 ∧ lk = addL ix a ls) ∨ (k = 2 ∧ lk = addL ix b (addL ix a ls))
theorem stage_step {lo hi bl cap n : Nat} {ix : Nat → Nat} {a b : Tree} {ls lk : List Nat} {k blk off : Nat} {w : World} {pa pb : Pk} (h : Stage ix a b ls k lk) (hk : k < 2) (q1 : PAt w blk off pa) (q2 : PAt w blk (off + 3) pb) (m1 : Mn w lo hi ix a pa) (m2 : Mn w lo hi ix b pb)
    (ha : LenOk lo hi bl cap n ix a) (hb : LenOk lo hi bl cap n ix b) (hi1 : InT ix n (.node a b)) (hbd : ∀ x ∈ ls, x + sizeT (.node a b) ≤ 4611686018427387904) (hn : n = ls.length) :
    ∃ t p, PAt w blk (off + k * 3) p ∧ Mn w lo hi ix t p ∧ LenOk lo hi bl cap n ix t ∧ InT ix n t ∧ (∀ x ∈ lk, x + sizeT t ≤ 4611686018427387904) ∧ Stage ix a b ls (k + 1) (addL ix t lk) ∧ n = lk.length := by
  rcases h with ⟨rfl, rfl⟩ | ⟨rfl, rfl⟩ | ⟨rfl, rfl⟩
  · exact ⟨a, pa, by simpa using q1, m1, ha, hi1.1, fun x hx => by have := hbd x hx; simp only [sizeT] at this; omega, .inr (.inl ⟨rfl, rfl⟩), hn⟩
  · refine ⟨b, pb, by simpa using q2, m2, hb, hi1.2, fun x hx => ?_, .inr (.inr ⟨rfl, rfl⟩), by rw [addL_length]; exact hn⟩
    have := addL_le ix (B := 4611686018427387904 - sizeT (.node a b)) a ls (fun y hy => by have := hbd y hy; omega) x hx
    have h9 : sizeT (.node a b) = sizeT a + sizeT b := rfl
    rcases ls with _ | ⟨y, ls⟩
    · have := List.length_pos_of_mem hx
      rw [addL_length] at this
      simp at this
    · have := hbd y (List.mem_cons_self ..)
      omega
  · omega
set_option maxHeartbeats 4000000 in
theorem lengthen_node (a b : Tree) (lo hi bl cap n : Nat) (ix : Nat → Nat) (hbl : bl < lo) (ha : LenOk lo hi bl cap n ix a) (hb : LenOk lo hi bl cap n ix b) : LenOk lo hi bl cap n ix (.node a b) := by
  intro p ls w hn h hl hhi hin hbd
  obtain ⟨h1, h2, h2c, blk, off, pa, pb, h3, h4, h5, q1, q2, m1, m2⟩ := h
  rw [h2, h3]
  generalize p.cap = pc at h2c ⊢
  generalize p.wt = pw
  generalize p.sym = py
  have H0 : Hid (n = ls.length ∧ LRow w bl ls ∧ hi ≤ w.heap.size ∧ PAt w blk off pa ∧ PAt w blk (off + 3) pb ∧ Mn w lo hi ix a pa ∧ Mn w lo hi ix b pb) := ⟨hn, hl, hhi, q1, q2, m1, m2⟩
  have HI : Hid (LenOk lo hi bl cap n ix a ∧ LenOk lo hi bl cap n ix b ∧ InT ix n (.node a b) ∧ ∀ x ∈ ls, x + sizeT (.node a b) ≤ 4611686018427387904) := ⟨ha, hb, hin, hbd⟩
  have hb2 : blk < w.heap.size := by omega
  clear h1 h2 h3 hn hl q1 q2 m1 m2 hin hbd ha hb
  have hnil := nil_nil
  have hsome := some_nil
  go_enter Tryz.func108, Tryz.ntmps108
  go_wp2
  go_loopg [19] 2 (fun kx s19 wr => ∃ (k : Nat) (lk : List Nat), s19 = .int .i64 (k : Int) ∧ k ≤ 2 ∧ 2 - k ≤ kx ∧ Hid (Stage ix a b ls k lk ∧ LRow wr bl lk ∧ Only (· = bl) w wr))
  case atStart => exact ⟨0, ls, rfl, by omega, by omega, ⟨.inl ⟨rfl, rfl⟩, H0.out.2.1.only (only_alloc (· = w.heap.size) _ _) (by have := H0.out.2.1.lt; omega), only_alloc _ _ _⟩⟩
  case round =>
    obtain ⟨k, lk, rfl, hk2, hkx, HR⟩ := hrel
    by_cases hlt : k < 2
    · obtain ⟨e1, e2, e3, e4, e5, e6, e7⟩ := H0.out
      obtain ⟨i1, i2, i3, i4⟩ := HI.out
      obtain ⟨t, pk, s1, s2, s3, s4, s5, s6, s7⟩ := stage_step HR.out.1 hlt e4 e5 e6 e7 i1 i2 i3 i4 e1
      have hsz := HR.out.2.2.2.2.2.1
      have same : ∀ j, lo ≤ j → j < hi → wr.heap[j]? = w.heap[j]? := fun j h1 h2 => HR.out.2.2.2.2.2.2 j (by omega) (by omega)
      have s1' := s1.keep (same blk h4 h5)
      obtain ⟨c1, c2, c3⟩ := s1'
      have HS : Hid (Mn wr lo hi ix t pk ∧ LenOk lo hi bl cap n ix t ∧ InT ix n t ∧ (∀ x ∈ lk, x + sizeT t ≤ 4611686018427387904) ∧ Stage ix a b ls (k + 1) (addL ix t lk) ∧ n = lk.length) := ⟨s2.keep (Nat.le_refl _) same, s3, s4, s5, s6, s7⟩
      have hkz : (k : Int) < 2 := by omega
      have hk0 : (0 : Int) ≤ (k : Int) := by omega
      have hblr : bl < wr.heap.size := HR.out.2.1.lt
      have HSZ : Hid (w.heap.size ≤ wr.heap.size ∧ hi ≤ w.heap.size) := ⟨hsz, e3⟩
      clear e1 e2 e3 e4 e5 e6 e7 i1 i2 i3 i4 s1 s2 s3 s4 s5 s6 s7 same hhi
      go_wp2_with fail
      have hsame : ∀ j, lo ≤ j → j < hi → (wr.alloc (.cells #[.int .i64 pk.wt, .int .i64 pk.sym, .slice pk.ptr pk.len pk.cap] 184)).heap[j]? = wr.heap[j]? := fun j h1 h2 => (only_alloc (fun _ => False) wr _).2.2.2.2 j (by have := HSZ.out; omega) (fun h => h)
      have hl1 := HR.out.2.1.only (S := fun _ => False) (only_alloc _ wr (.cells #[.int .i64 pk.wt, .int .i64 pk.sym, .slice pk.ptr pk.len pk.cap] 184)) (fun h => h)
      have hc := HS.out.2.1 pk lk _ HS.out.2.2.2.2.2 (HS.out.1.keep (Nat.le_refl _) hsame) hl1 (by have := HSZ.out; simp; omega) HS.out.2.2.1 HS.out.2.2.2.1
      refine hc.mono ?_
      rintro e w' ⟨rfl, l1, o1⟩
      have HN : Hid (LRow w' bl (addL ix t lk) ∧ Only (· = bl) w w') := ⟨l1, HR.out.2.2.trans ((only_alloc _ _ _).trans o1)⟩
      clear hc l1 o1 hl1 hsame
      go_wp2
      go_roundg (2 - (k + 1))
      case measure => omega
      case rel => exact ⟨k + 1, addL ix t lk, by go_num, by omega, Nat.le_refl _, ⟨HS.out.2.2.2.2.1, HN.out⟩⟩
    · have hkz : ¬ (k : Int) < 2 := by omega
      have hk : k = 2 := by omega
      go_wp2
      go_end0
      obtain ⟨e1, e2, e3⟩ := HR.out
      rcases e1 with ⟨h, _⟩ | ⟨h, _⟩ | ⟨_, rfl⟩
      · omega
      · omega
      · exact ⟨rfl, e2, e3⟩
theorem lengthen_ok (lo hi bl cap n : Nat) (ix : Nat → Nat) (hbl : bl < lo) : ∀ t : Tree, LenOk lo hi bl cap n ix t
  | .leaf wt s => fun p ls w hn h hl hhi hin hbd => lengthen_leaf wt s p ls w lo hi bl cap n ix hn h hl (by rw [← hn]; exact hin) hbd
  | .node a b => lengthen_node a b lo hi bl cap n ix hbl (lengthen_ok lo hi bl cap n ix hbl a) (lengthen_ok lo hi bl cap n ix hbl b)
end Go.Proofs.YtjafcjnkefioeaaGreat.Lp
/- Rows of packs in memory; pairs. -/
namespace Go.Proofs.YtjafcjnkefioeaaGreat.Lp
open Go.RowKit Go.Proofs.YtjafcjnkefioeaaGreat.Oct Go.Proofs.YtjafcjnkefioeaaGreat.Lm
set_option maxRecDepth 100000
def PRow (w : World) (b : Nat) (zs : List Pk) : Prop := ∀ i (h : i < zs.length), PAt w b (i * 3) zs[i]
theorem PRow.keep {w w' : World} {b : Nat} {zs : List Pk} (h : PRow w b zs) (hb : w'.heap[b]? = w.heap[b]?) : PRow w' b zs := fun i hi => (h i hi).keep hb
def BRow (w : World) (b n k : Nat) (f : Nat → Pk) : Prop :=
  ∃ cs, w.heap[b]? = some (.cells cs 184 (0, 0)) ∧ cs.size = n * 3 ∧ ∀ i, i < k → cs[i * 3]? = some (.int .i64 (f i).wt) ∧ cs[i * 3 + 1]? = some (.int .i64 (f i).sym) ∧ cs[i * 3 + 2]? = some (.slice (f i).ptr (f i).len (f i).cap)
theorem BRow.lt {w : World} {b n k : Nat} {f : Nat → Pk} (h : BRow w b n k f) : b < w.heap.size := by
  obtain ⟨cs, h, _⟩ := h
  rcases Nat.lt_or_ge b w.heap.size with hlt | hge
  · exact hlt
  · rw [Array.getElem?_eq_none hge] at h; cases h
theorem BRow.fz {w : World} {b n k : Nat} {f : Nat → Pk} (h : BRow w b n k f) (i : Nat) : w.frozen? ⟨b, i, none⟩ = false := by
  obtain ⟨cs, h, _⟩ := h
  simp [World.frozen?, h]
theorem BRow.cells {w : World} {b n k : Nat} {f : Nat → Pk} (h : BRow w b n k f) (i : Nat) (hi : i < n * 3) : ∃ v, w.cell? ⟨b, i, none⟩ = some v := by
  obtain ⟨cs, h, h2, _⟩ := h
  exact ⟨cs[i], by simp [World.cell?, h, h2, hi]⟩
theorem BRow.put {w : World} {b n k : Nat} {f : Nat → Pk} (h : BRow w b n k f) (hk : k < n) :
    BRow (((w.setCell ⟨b, k * 3, none⟩ (.int .i64 (f k).wt)).setCell ⟨b, k * 3 + 1, none⟩ (.int .i64 (f k).sym)).setCell ⟨b, k * 3 + 2, none⟩ (.slice (f k).ptr (f k).len (f k).cap)) b n (k + 1) f := by
  obtain ⟨cs, h, h2, h3⟩ := h
  have e1 := blk_set h (k * 3) (.int .i64 (f k).wt)
  have e2 := blk_set e1 (k * 3 + 1) (.int .i64 (f k).sym)
  have e3 := blk_set e2 (k * 3 + 2) (.slice (f k).ptr (f k).len (f k).cap)
  refine ⟨_, e3, by simp [h2], fun i hi => ?_⟩
  simp only [Array.getElem?_setIfInBounds, Array.size_setIfInBounds, h2]
  by_cases hik : i = k
  · subst hik
    refine ⟨?_, ?_, ?_⟩
    · rw [if_neg (by omega), if_neg (by omega), if_pos rfl, if_pos (by omega)]
    · rw [if_neg (by omega), if_pos rfl, if_pos (by omega)]
    · rw [if_pos rfl, if_pos (by omega)]
  · obtain ⟨q1, q2, q3⟩ := h3 i (by omega)
    refine ⟨?_, ?_, ?_⟩
    · rw [if_neg (by omega), if_neg (by omega), if_neg (by omega)]; exact q1
    · rw [if_neg (by omega), if_neg (by omega), if_neg (by omega)]; exact q2
    · rw [if_neg (by omega), if_neg (by omega), if_neg (by omega)]; exact q3
theorem BRow.row {w : World} {b n k : Nat} {f : Nat → Pk} (h : BRow w b n k f) : PRow w b ((List.range k).map f) := by
  obtain ⟨cs, h, h2, h3⟩ := h
  intro i hi
  simp only [List.length_map, List.length_range] at hi
  obtain ⟨q1, q2, q3⟩ := h3 i hi
  simp only [List.getElem_map, List.getElem_range]
  exact ⟨by simp [World.cell?, h, q1], by simp [World.cell?, h, q2], by simp [World.cell?, h, q3]⟩
theorem Tryz.infoPack : (Tryz.prog.info? 184).map (fun i => (i.zero, i.size, i.bytes)) = some (some (.agg #[.int .i64 0, .int .i64 0, .slice none 0 0]), 3, 40) := by kernel_rfl
theorem wpList_make_cells {w : World} {ops : Array Oper} {rest : List Oper} {o : Oper} {a : Act} {Q : Exit → Act → World → Prop} {t e : TypeId} {z : Value} {size bytes : Nat}
    (hg : o.guard = none) (l c : Operand) (hop : o.op = Op.makeSlice t l c) (h1 : Tryz.prog.underlying t = some (.slice e)) (h2 : (Tryz.prog.info? e).map (fun i => (i.zero, i.size, i.bytes)) = some (some z, size, bytes))
    (n : Nat) (hl : a.eval l = .int .i64 (n : Int)) (hc : a.eval c = .int .i64 (n : Int)) (b2 : n * bytes ≤ 281474976710656) (b3 : n ≤ 9223372036854775807)
    (hK : wpList Tryz.prog ops Q rest (a.put o.dst (.slice (some ⟨w.heap.size, 0, none⟩) n n)) (w.alloc (.cells (madeCells z.cells (n * size)) e))) :
    wpList Tryz.prog ops Q (o :: rest) a w := by
  refine wpList_plain hg fun K hK' => ?_
  obtain ⟨i, q1, q2, q3, q4⟩ := info_parts h2
  subst q3; subst q4
  have hrun := run_make (P := Tryz.prog) w t e i z h1 q1 q2 .i64 .i64 (n : Int) (n : Int) (by omega) (by omega) (by rw [← Int.natCast_mul, Nat.mul_comm]; omega) (by omega)
  simp only [Int.toNat_natCast] at hrun
  unfold Oper.wp
  simp [execOp, hop, hl, hc, hrun, Result.andThen]
  exact hK' _ _ hK
theorem brow_made (w : World) (n : Nat) (z : Array Value) (f : Nat → Pk) : BRow (w.alloc (.cells (madeCells z (n * 3)) 184)) w.heap.size n 0 f :=
  ⟨_, heap_alloc_last w _, size_madeCells _ _, fun i h => by omega⟩
def pairPk (lb cap : Nat) (zs : List Pk) (i : Nat) : Pk := ⟨(zs.getD (2 * i) default).wt + (zs.getD (2 * i + 1) default).wt, 0, some ⟨lb, 2 * i * 3, none⟩, 2, cap - 2 * i⟩
def PairsP (w : World) (lb cap : Nat) (zs : List Pk) (e : Ending) (w' : World) : Prop :=
  e = .returned (.slice (some ⟨w.heap.size, 0, none⟩) (zs.length / 2) (zs.length / 2)) ∧ PRow w' w.heap.size ((List.range (zs.length / 2)).map (pairPk lb cap zs)) ∧ w.heap.size < w'.heap.size ∧ Below w.heap.size w w'
theorem slice_two (W : World) (lb len cap i : Nat) (h : 2 * i + 2 ≤ len) (hc : len ≤ cap) :
    (Instr.slice 181 (.slice (some ⟨lb, 0, none⟩) len cap) (some (.int .i64 (2 * (i : Int)))) (some (.int .i64 (2 * (i : Int) + 2))) none).run Tryz.prog W = .ok (.slice (some ⟨lb, 2 * i * 3, none⟩) 2 (cap - 2 * i)) W := by
  have ht' : Tryz.prog.underlying 181 = some (.slice (Tryz.prog.elem 181)) := by kernel_rfl
  have he : Tryz.prog.elem 181 = 184 := by kernel_rfl
  rw [run_slice_lh W 181 (some ⟨lb, 0, none⟩) len cap ht' .i64 .i64 _ _ (by omega) (by omega) (by omega), he, Sm.sizeP]
  have e1 : (2 * (i : Int)).toNat = 2 * i := by omega
  have e2 : (2 * (i : Int) + 2).toNat = 2 * i + 2 := by omega
  simp only [Result.andThen_ok, sliced, e1, e2]
  rw [if_neg (by omega), show 2 * i + 2 - 2 * i = 2 by omega]
  simp [add_plain]
set_option maxHeartbeats 4000000 in
theorem pairs_any (p : Option Addr) (lb len cap : Nat) (zs : List Pk) (w : World) (hp : len ≠ 0 → p = some ⟨lb, 0, none⟩) (hlen : len = zs.length) (hr : PRow w lb zs) (hlb : len ≠ 0 → lb < w.heap.size) (hl : len ≤ 100000) (hc : len ≤ cap) (hw : ∀ x ∈ zs, 0 ≤ x.wt ∧ x.wt ≤ 2305843009213693952) :
    Calls Tryz.prog 134 #[.slice p len cap] w (PairsP w lb cap zs) := by
  have H0 : Hid ((len ≠ 0 → p = some ⟨lb, 0, none⟩) ∧ len = zs.length ∧ PRow w lb zs ∧ (len ≠ 0 → lb < w.heap.size) ∧ ∀ x ∈ zs, 0 ≤ x.wt ∧ x.wt ≤ 2305843009213693952) := ⟨hp, hlen, hr, hlb, hw⟩
  obtain ⟨n, hn⟩ : ∃ n, n = len / 2 := ⟨_, rfl⟩
  have hq : (len : Int).tdiv 2 = (n : Int) := by rw [hn, Int.tdiv_eq_ediv_of_nonneg (by omega)]; omega
  have hwn : IntKind.i64.wrap (n : Int) = (n : Int) := by rw [IntKind.wrap_i64]; omega
  have HN : Hid (n = len / 2) := hn
  have hnl : n ≤ 100000 := by omega
  have HB0 := brow_made w n (Value.agg #[.int .i64 0, .int .i64 0, .slice none 0 0]).cells (pairPk lb cap zs)
  have HM : Hid (BRow _ _ _ _ _) := HB0
  have HBL : Hid (Below w.heap.size w (w.alloc (.cells (madeCells (Value.agg #[.int .i64 0, .int .i64 0, .slice none 0 0]).cells (n * 3)) 184))) := (Below.refl _ w).alloc (Nat.le_refl _) _
  clear hp hlen hr hlb hw hn HB0
  go_enter Tryz.func134, Tryz.ntmps134
  go_wp2_with (at_make; refine wpList_make_cells rfl _ _ rfl Tryz.underlying181 Tryz.infoPack n rfl rfl (by omega) (by omega) ?_)
  go_loopg [12] n (fun kx s12 wr => ∃ (k : Nat), s12 = .int .i64 (k : Int) ∧ k ≤ n ∧ n - k ≤ kx ∧ Hid (BRow wr w.heap.size n k (pairPk lb cap zs) ∧ Below w.heap.size w wr))
  case atStart => exact ⟨0, rfl, by omega, by omega, ⟨HM.out, HBL.out⟩⟩
  case round =>
    clear HM HBL
    obtain ⟨k, rfl, hkn, hkx, HR⟩ := hrel
    by_cases hlt : k < n
    · have hnn := HN.out
      obtain ⟨e1, e2, e3, e4, e5⟩ := H0.out
      have hp := e1 (by omega)
      subst hp
      have hlbw := e4 (by omega)
      have hz0 : 2 * k < zs.length := by omega
      have hz1 : 2 * k + 1 < zs.length := by omega
      have g0 : zs.getD (2 * k) default = zs[2 * k] := by rw [List.getD_eq_getElem?_getD, List.getElem?_eq_getElem hz0]; rfl
      have g1 : zs.getD (2 * k + 1) default = zs[2 * k + 1] := by rw [List.getD_eq_getElem?_getD, List.getElem?_eq_getElem hz1]; rfl
      have hsame := HR.out.2.block lb hlbw
      have c0 := ((e3 (2 * k) hz0).keep hsame).1
      have c1 := ((e3 (2 * k + 1) hz1).keep hsame).1
      rw [show (2 * k + 1) * 3 = 2 * k * 3 + 3 by omega] at c1
      have b0 := e5 _ (List.getElem_mem hz0)
      have b1 := e5 _ (List.getElem_mem hz1)
      have HPK : Hid (pairPk lb cap zs k = ⟨zs[2 * k].wt + zs[2 * k + 1].wt, 0, some ⟨lb, 2 * k * 3, none⟩, 2, cap - 2 * k⟩) := by show _ = _; unfold pairPk; rw [g0, g1]
      generalize zs[2 * k].wt = x0 at c0 b0 HPK
      generalize zs[2 * k + 1].wt = x1 at c1 b1 HPK
      obtain ⟨v0, f0⟩ := HR.out.1.cells (k * 3) (by omega)
      obtain ⟨v1, f1⟩ := HR.out.1.cells (k * 3 + 1) (by omega)
      obtain ⟨v2, f2⟩ := HR.out.1.cells (k * 3 + 2) (by omega)
      have fz := HR.out.1.fz
      have hsl := fun W => slice_two W lb len cap k (by omega) hc
      have hne : ¬ lb = w.heap.size := by omega
      have w1 : IntKind.i64.wrap (2 * (k : Int)) = 2 * (k : Int) := by rw [IntKind.wrap_i64]; omega
      have w2 : IntKind.i64.wrap (2 * (k : Int) + 2) = 2 * (k : Int) + 2 := by rw [IntKind.wrap_i64]; omega
      have w3 : IntKind.i64.wrap (x0 + x1) = x0 + x1 := by rw [IntKind.wrap_i64]; omega
      have hkz : (k : Int) < (n : Int) := by omega
      have hk0 : (0 : Int) ≤ (k : Int) := by omega
      clear hnn e1 e2 e3 e4 e5 hz0 hz1 g0 g1 hsame hlbw
      go_wp2_with fail
      go_big_region
      have hput := BRow.put HR.out.1 hlt
      rw [HPK.out] at hput
      have hbl : Below w.heap.size w ((((wr.setCell ⟨w.heap.size, k * 3, none⟩ (.int .i64 (x0 + x1))).setCell ⟨w.heap.size, k * 3 + 1, none⟩ (.int .i64 0)).setCell ⟨w.heap.size, k * 3 + 2, none⟩ (.slice (some ⟨lb, 2 * k * 3, none⟩) 2 (cap - 2 * k)))) := ((HR.out.2.setCell (p := ⟨w.heap.size, k * 3, none⟩) (Nat.le_refl _) _).setCell (p := ⟨w.heap.size, k * 3 + 1, none⟩) (Nat.le_refl _) _).setCell (p := ⟨w.heap.size, k * 3 + 2, none⟩) (Nat.le_refl _) _
      have HQ : Hid (BRow ((((wr.setCell ⟨w.heap.size, k * 3, none⟩ (.int .i64 (x0 + x1))).setCell ⟨w.heap.size, k * 3 + 1, none⟩ (.int .i64 0)).setCell ⟨w.heap.size, k * 3 + 2, none⟩ (.slice (some ⟨lb, 2 * k * 3, none⟩) 2 (cap - 2 * k)))).drew w.heap.size n (k + 1) (pairPk lb cap zs) ∧ Below w.heap.size w ((((wr.setCell ⟨w.heap.size, k * 3, none⟩ (.int .i64 (x0 + x1))).setCell ⟨w.heap.size, k * 3 + 1, none⟩ (.int .i64 0)).setCell ⟨w.heap.size, k * 3 + 2, none⟩ (.slice (some ⟨lb, 2 * k * 3, none⟩) 2 (cap - 2 * k)))).drew) := ⟨hput, hbl.drew⟩
      clear hput hbl f0 f1 f2 fz c0 c1
      generalize ((((wr.setCell ⟨w.heap.size, k * 3, none⟩ (.int .i64 (x0 + x1))).setCell ⟨w.heap.size, k * 3 + 1, none⟩ (.int .i64 0)).setCell ⟨w.heap.size, k * 3 + 2, none⟩ (.slice (some ⟨lb, 2 * k * 3, none⟩) 2 (cap - 2 * k)))).drew = w2 at HQ ⊢
      go_wp2
      go_roundg (n - (k + 1))
      case measure => omega
      case rel => exact ⟨k + 1, by go_num, by omega, Nat.le_refl _, HQ⟩
    · have hkz : ¬ (k : Int) < (n : Int) := by omega
      have hk : k = n := by omega
      subst hk
      go_wp2
      go_ret
      have hnn := HN.out
      have hll := H0.out.2.1
      subst hll
      subst hnn
      exact ⟨rfl, HR.out.1.row, HR.out.1.lt, HR.out.2⟩
end Go.Proofs.YtjafcjnkefioeaaGreat.Lp

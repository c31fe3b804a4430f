/- DfP, HfC, DfC: merged. -/
import Derived.Laws.BitsAllLaws
import Derived.Laws.Strings
import Derived.Laws.BytesArg
import Derived.Test.YtjafcjnkefioeaaGreatRows
import Derived.WalkKit
import Derived.ProofKit
import Derived.WalkLawsBesides
import Derived.Lib.Hide
import Derived.Deep.QuietTactic
import Derived.BigQuiet
import Derived.Outline
import Derived.Laws.NewBlocks
import Derived.Laws.CopyOwn
import Derived.Laws.Concat
import Derived.Laws.Strings2
import Derived.WalkSpells
import Derived.Laws.AppendOwnNone
import Derived.OpenShut
import Derived.Lib.SliceRun
import Derived.Deep.MidRow
import Derived.Deep.WholeRow
import Derived.Laws.ResultCell
import Derived.ChangeKeysEq
import Derived.Laws.Pointers
import Derived.Deep.AppendLies
import Derived.Deep.RegionHeld3
import Derived.Laws.Externs
import Derived.Laws.IdiomCopy
import Derived.Lib.EndianMore
import Derived.Deep.RegionLaw
import Derived.Shelf.Spec.SlicesGrow
import Derived.LoopTactic
import Derived.Deep.LoopGhost
import Derived.Deep.DeepCutAuto
import Derived.BigRegion
import Derived.Test.YtjafcjnkefioeaaGreatQaf
import Derived.Test.YtjafcjnkefioeaaGreatQag
import Derived.Test.YtjafcjnkefioeaaGreatQak
import Derived.Test.YtjafcjnkefioeaaGreatQal
set_option linter.unusedVariables false
set_option linter.unusedSimpArgs false
/- Lengths of words told by symbols, as a row of marks, in plain words; no program in sight. -/
namespace Go.Proofs.YtjafcjnkefioeaaGreat.Df
open Go.Proofs.YtjafcjnkefioeaaGreat.Bit Go.Proofs.YtjafcjnkefioeaaGreat.Hf Go.Proofs.YtjafcjnkefioeaaGreat.Oct Go.Proofs.YtjafcjnkefioeaaGreat.Inf
def runF (l : List Nat) (n : Nat) : Nat := if n < l.length ∧ l.getD n 0 = l.getD 0 0 then runF l (n + 1) else n
termination_by l.length - n
theorem runF_go {l : List Nat} {n : Nat} (h : n < l.length) (h2 : l.getD n 0 = l.getD 0 0) : runF l n = runF l (n + 1) := by
  rw [runF, if_pos ⟨h, h2⟩]
theorem runF_end {l : List Nat} {n : Nat} (h : ¬ (n < l.length ∧ l.getD n 0 = l.getD 0 0)) : runF l n = n := by
  rw [runF, if_neg h]
def runN (l : List Nat) : Nat := runF l 1
theorem runF_is (l : List Nat) : ∀ (k n : Nat), l.length - n ≤ k → n ≤ l.length → (∀ i, i < n → l.getD i 0 = l.getD 0 0) →
    n ≤ runF l n ∧ runF l n ≤ l.length ∧ (∀ i, i < runF l n → l.getD i 0 = l.getD 0 0) ∧ (runF l n < l.length → l.getD (runF l n) 0 ≠ l.getD 0 0)
  | 0, n, hk, hn, h => by
    rw [runF_end (by omega)]
    exact ⟨Nat.le_refl _, hn, h, fun e => by omega⟩
  | k + 1, n, hk, hn, h => by
    by_cases hc : n < l.length ∧ l.getD n 0 = l.getD 0 0
    · rw [runF_go hc.1 hc.2]
      have ih := runF_is l k (n + 1) (by omega) (by omega) (fun i hi => by
        by_cases e : i = n
        · rw [e]; exact hc.2
        · exact h i (by omega))
      exact ⟨by omega, ih.2.1, ih.2.2.1, ih.2.2.2⟩
    · rw [runF_end hc]
      exact ⟨Nat.le_refl _, hn, h, fun e e2 => hc ⟨e, e2⟩⟩
theorem runN_is (l : List Nat) (h : 0 < l.length) : 1 ≤ runN l ∧ runN l ≤ l.length ∧ (∀ i, i < runN l → l.getD i 0 = l.getD 0 0) ∧ (runN l < l.length → l.getD (runN l) 0 ≠ l.getD 0 0) :=
  runF_is l _ 1 (Nat.le_refl _) h fun i hi => by rw [show i = 0 from by omega]
theorem drop_getD (l : List Nat) (a i : Nat) : (l.drop a).getD i 0 = l.getD (a + i) 0 := by
  rw [List.getD_eq_getElem?_getD, List.getD_eq_getElem?_getD, List.getElem?_drop]
def markN (l : List Nat) (a : Nat) : (Nat × Nat) × Nat :=
  if l.getD a 0 = 0 ∧ 11 ≤ runN (l.drop a) then ((18, min (runN (l.drop a)) 138 - 11), min (runN (l.drop a)) 138)
  else if l.getD a 0 = 0 ∧ 3 ≤ runN (l.drop a) then ((17, runN (l.drop a) - 3), runN (l.drop a))
  else if 0 < a ∧ l.getD a 0 = l.getD (a - 1) 0 ∧ 3 ≤ runN (l.drop a) then ((16, min (runN (l.drop a)) 6 - 3), min (runN (l.drop a)) 6)
  else ((l.getD a 0, 0), 1)
theorem run_at {l : List Nat} {a : Nat} (h : a < l.length) : 1 ≤ runN (l.drop a) ∧ a + runN (l.drop a) ≤ l.length ∧ (∀ i, i < runN (l.drop a) → l.getD (a + i) 0 = l.getD a 0) ∧ (a + runN (l.drop a) < l.length → l.getD (a + runN (l.drop a)) 0 ≠ l.getD a 0) := by
  have hl : (l.drop a).length = l.length - a := List.length_drop
  obtain ⟨h1, h2, h3, h4⟩ := runN_is (l.drop a) (by omega)
  rw [hl] at h2 h4
  refine ⟨h1, by omega, fun i hi => ?_, fun hi => ?_⟩
  · have := h3 i hi
    rw [drop_getD, drop_getD] at this
    exact this
  · have := h4 (by omega)
    rw [drop_getD, drop_getD] at this
    exact this
theorem markN_pos {l : List Nat} {a : Nat} (h : a < l.length) : 1 ≤ (markN l a).2 ∧ a + (markN l a).2 ≤ l.length := by
  obtain ⟨h1, h2, _⟩ := run_at h
  unfold markN
  split
  · dsimp only; omega
  · split
    · dsimp only; omega
    · split
      · dsimp only; omega
      · dsimp only; omega
def marksN (l : List Nat) (a : Nat) : List (Nat × Nat) := if h : a < l.length then (markN l a).1 :: marksN l (a + (markN l a).2) else []
termination_by l.length - a
decreasing_by have := markN_pos h; omega
theorem marksN_go {l : List Nat} {a : Nat} (h : a < l.length) : marksN l a = (markN l a).1 :: marksN l (a + (markN l a).2) := by rw [marksN, dif_pos h]
theorem marksN_end {l : List Nat} {a : Nat} (h : ¬ a < l.length) : marksN l a = [] := by rw [marksN, dif_neg h]
theorem take_rep (l : List Nat) (v a : Nat) : ∀ k, a + k ≤ l.length → (∀ i, i < k → l.getD (a + i) 0 = v) → l.take a ++ List.replicate k v = l.take (a + k)
  | 0, h, hv => by simp
  | k + 1, h, hv => by
    have ih := take_rep l v a k (by omega) fun i hi => hv i (by omega)
    have h1 := hv k (by omega)
    have hlt : a + k < l.length := by omega
    rw [List.replicate_succ', ← List.append_assoc, ih, ← Nat.add_assoc, List.take_succ_eq_append_getElem hlt]
    rw [List.getD_eq_getElem?_getD, List.getElem?_eq_getElem hlt] at h1
    have h1 : l[a + k] = v := h1
    rw [h1]
theorem last_take (l : List Nat) (a : Nat) (h0 : 0 < a) (h : a ≤ l.length) : (l.take a).getLastD 0 = l.getD (a - 1) 0 := by
  rw [List.getLastD_eq_getLast?, List.getLast?_take, if_neg (by omega), List.getD_eq_getElem?_getD]
  have hlt : a - 1 < l.length := by omega
  rw [List.getElem?_eq_getElem hlt]
  rfl
theorem mark_is {l : List Nat} {a : Nat} (h : a < l.length) (h15 : l.getD a 0 ≤ 15) :
    symS (l.take a) (markN l a).1 = l.take (a + (markN l a).2) ∧ (markN l a).1.1 < 19 ∧ (markN l a).1.2 < 2 ^ wideV (markN l a).1.1 ∧ ((markN l a).1.1 = 16 → 0 < a) := by
  obtain ⟨h1, h2, h3, h4⟩ := run_at h
  unfold markN
  split
  · rename_i hc
    refine ⟨?_, by dsimp only; omega, by show _ < 2 ^ 7; dsimp only; omega, fun e => absurd (show (18 : Nat) = 16 from e) (by decide)⟩
    show l.take a ++ List.replicate (11 + (min (runN (l.drop a)) 138 - 11)) 0 = _
    rw [show 11 + (min (runN (l.drop a)) 138 - 11) = min (runN (l.drop a)) 138 from by omega]
    exact take_rep l 0 a _ (by omega) fun i hi => by rw [h3 i (by omega)]; exact hc.1
  · split
    · rename_i hn hc
      have : runN (l.drop a) < 11 := by
        rcases Nat.lt_or_ge (runN (l.drop a)) 11 with hlt | hge
        · exact hlt
        · exact absurd ⟨hc.1, hge⟩ hn
      refine ⟨?_, by dsimp only; omega, by show _ < 2 ^ 3; dsimp only; omega, fun e => absurd (show (17 : Nat) = 16 from e) (by decide)⟩
      show l.take a ++ List.replicate (3 + (runN (l.drop a) - 3)) 0 = _
      rw [show 3 + (runN (l.drop a) - 3) = runN (l.drop a) from by omega]
      exact take_rep l 0 a _ (by omega) fun i hi => by rw [h3 i (by omega)]; exact hc.1
    · split
      · rename_i hn1 hn2 hc
        refine ⟨?_, by dsimp only; omega, by show _ < 2 ^ 2; dsimp only; omega, fun e => hc.1⟩
        show l.take a ++ List.replicate (3 + (min (runN (l.drop a)) 6 - 3)) ((l.take a).getLastD 0) = _
        rw [show 3 + (min (runN (l.drop a)) 6 - 3) = min (runN (l.drop a)) 6 from by omega, last_take l a hc.1 (by omega), ← hc.2.1]
        exact take_rep l _ a _ (by omega) fun i hi => by rw [h3 i (by omega)]
      · have e16 : l.getD a 0 ≠ 16 := by omega
        have e17 : l.getD a 0 ≠ 17 := by omega
        have e18 : l.getD a 0 ≠ 18 := by omega
        have w0 : wideV (l.getD a 0) = 0 := by unfold wideV; rw [if_neg e16, if_neg e17, if_neg e18]
        have t0 : timesV (l.getD a 0) = 1 := by unfold timesV; rw [if_neg e16, if_neg e17, if_neg e18]
        have v0 : valueV (l.getD a 0) (l.take a) = l.getD a 0 := by unfold valueV; rw [if_neg e16, if_neg e17, if_neg e18]
        refine ⟨?_, by dsimp only; omega, by dsimp only; rw [w0]; decide, fun e => absurd e e16⟩
        unfold symS
        dsimp only
        rw [t0, v0]
        exact take_rep l _ a 1 (by omega) fun i hi => by rw [show a + i = a from by omega]
theorem marks_is {l : List Nat} (h15 : ∀ x ∈ l, x ≤ 15) : ∀ (k a : Nat), l.length - a ≤ k → a ≤ l.length → symsS (marksN l a) (l.take a) = l ∧ ∀ op ∈ marksN l a, op.1 < 19 ∧ op.2 < 2 ^ wideV op.1
  | 0, a, hk, ha => by
    rw [marksN_end (by omega), symsS]
    exact ⟨List.take_of_length_le (by omega), fun op h => by cases h⟩
  | k + 1, a, hk, ha => by
    by_cases h : a < l.length
    · have hx : l.getD a 0 ≤ 15 := by
        rw [List.getD_eq_getElem?_getD, List.getElem?_eq_getElem h]
        exact h15 _ (List.getElem_mem h)
      obtain ⟨m1, m2, m3, _⟩ := mark_is h hx
      obtain ⟨p1, p2⟩ := markN_pos h
      obtain ⟨i1, i2⟩ := marks_is h15 k (a + (markN l a).2) (by omega) (by omega)
      rw [marksN_go h, symsS, m1, i1]
      refine ⟨rfl, fun op ho => ?_⟩
      rcases List.mem_cons.1 ho with e | e
      · rw [e]; exact ⟨m2, m3⟩
      · exact i2 op e
    · rw [marksN_end h, symsS]
      exact ⟨List.take_of_length_le (by omega), fun op h => by cases h⟩
theorem marks_all {l : List Nat} (h15 : ∀ x ∈ l, x ≤ 15) : symsS (marksN l 0) [] = l ∧ ∀ op ∈ marksN l 0, op.1 < 19 ∧ op.2 < 2 ^ wideV op.1 := by
  have := marks_is h15 l.length 0 (by omega) (by omega)
  rwa [List.take_zero] at this
theorem marks_16 {l : List Nat} (h15 : ∀ x ∈ l, x ≤ 15) : ∀ op r, marksN l 0 = op :: r → op.1 ≠ 16 := by
  intro op r h e
  by_cases h0 : 0 < l.length
  · rw [marksN_go h0] at h
    injection h with h1 h2
    have hx : l.getD 0 0 ≤ 15 := by
      rw [List.getD_eq_getElem?_getD, List.getElem?_eq_getElem h0]
      exact h15 _ (List.getElem_mem h0)
    have := (mark_is h0 hx).2.2.2 (by rw [h1]; exact e)
    omega
  · rw [marksN_end h0] at h
    cases h
theorem syms_one (s : Nat) (h16 : s ≠ 16) : ∀ (ops : List (Nat × Nat)) (all : List Nat), (∀ op ∈ ops, op.1 = s) → (∀ x ∈ all, x = valueV s []) → ∀ x ∈ symsS ops all, x = valueV s []
  | [], all, h, ha => ha
  | op :: ops, all, h, ha => by
    rw [symsS]
    refine syms_one s h16 ops _ (fun o ho => h o (List.mem_cons_of_mem _ ho)) fun x hx => ?_
    unfold symS at hx
    rcases List.mem_append.1 hx with e | e
    · exact ha x e
    · have e1 := (List.mem_replicate.1 e).2
      rw [e1, h op List.mem_cons_self]
      unfold valueV
      rw [if_neg h16, if_neg h16]
theorem marks_two {l : List Nat} (h15 : ∀ x ∈ l, x ≤ 15) (h4 : 4 ≤ l.length) (hn : ∃ x ∈ l, x ≠ 0) : ∃ p ∈ marksN l 0, ∃ q ∈ marksN l 0, p.1 ≠ q.1 := by
  refine Classical.byContradiction fun hno => ?_
  have h0 : 0 < l.length := by omega
  have hx0 : l.getD 0 0 ≤ 15 := by
    rw [List.getD_eq_getElem?_getD, List.getElem?_eq_getElem h0]
    exact h15 _ (List.getElem_mem h0)
  have hm := marksN_go h0
  have hall : ∀ q ∈ marksN l 0, q.1 = (markN l 0).1.1 := fun q hq => Classical.byContradiction fun hne => hno ⟨(markN l 0).1, by rw [hm]; exact List.mem_cons_self, q, hq, fun e => hne e.symm⟩
  have h16 : (markN l 0).1.1 ≠ 16 := fun e => by
    have := (mark_is h0 hx0).2.2.2 e
    omega
  have hv := syms_one _ h16 (marksN l 0) [] hall (fun x hx => by cases hx)
  rw [(marks_all h15).1] at hv
  obtain ⟨r1, r2, r3, r4⟩ := run_at h0
  rw [Nat.zero_add] at r2 r4
  have heq : ∀ i, i < l.length → l.getD i 0 = valueV (markN l 0).1.1 [] := fun i hi => by
    rw [List.getD_eq_getElem?_getD, List.getElem?_eq_getElem hi]
    exact hv _ (List.getElem_mem hi)
  have hrun : runN (l.drop 0) = l.length := by
    rcases Nat.lt_or_ge (runN (l.drop 0)) l.length with hlt | hge
    · exact absurd ((heq _ hlt).trans (heq 0 h0).symm) (r4 hlt)
    · omega
  by_cases hz : l.getD 0 0 = 0
  · obtain ⟨x, hx, hne⟩ := hn
    exact hne ((hv x hx).trans ((heq 0 h0).symm.trans hz))
  · have hm0 : markN l 0 = ((l.getD 0 0, 0), 1) := by
      unfold markN
      rw [if_neg (fun h => hz h.1), if_neg (fun h => hz h.1), if_neg (fun h => by omega)]
    have h1 : 1 < l.length := by omega
    obtain ⟨q1, q2, q3, q4⟩ := run_at h1
    have hrun1 : 1 + runN (l.drop 1) = l.length := by
      rcases Nat.lt_or_ge (1 + runN (l.drop 1)) l.length with hlt | hge
      · exact absurd ((heq _ hlt).trans (heq 1 h1).symm) (q4 hlt)
      · omega
    have e10 : l.getD 1 0 = l.getD 0 0 := (heq 1 h1).trans (heq 0 h0).symm
    have hm1 : (markN l 1).1.1 = 16 := by
      unfold markN
      rw [if_neg (fun h => hz (e10 ▸ h.1)), if_neg (fun h => hz (e10 ▸ h.1)), if_pos ⟨by omega, e10, by omega⟩]
    have hin : (markN l 1).1 ∈ marksN l 0 := by
      rw [hm, hm0, marksN_go (show 0 + 1 < l.length from h1)]
      exact List.mem_cons_of_mem _ List.mem_cons_self
    have := hall _ hin
    rw [hm1, hm0] at this
    dsimp only at this
    omega
end Go.Proofs.YtjafcjnkefioeaaGreat.Df
/- Contracts of share, starts, firstBits and of huff's Canon. -/
namespace Go.Proofs.YtjafcjnkefioeaaGreat.Hf
open Go.RowKit Go.Proofs.YtjafcjnkefioeaaGreat.Oct Go.Proofs.YtjafcjnkefioeaaGreat.Bit
set_option maxRecDepth 20000
theorem share_any (n : Nat) (w : World) (h : n ≤ 30) : Calls Tryz.prog 100 #[.int .i64 (n : Int)] w fun e w' => e = .returned (.int .u64 ((share n : Nat) : Int)) ∧ w = w' := by
  have e : (1073741824 : Int) / 2 ^ n = ((share n : Nat) : Int) := by
    have : (1073741824 : Int) = ((2 ^ n * share n : Nat) : Int) := by rw [share_top n h]; rfl
    rw [this, Int.natCast_mul]
    have h2 : (2 : Int) ^ n = ((2 ^ n : Nat) : Int) := by simp
    rw [h2]
    exact Int.mul_ediv_cancel_left _ (by have : 0 < 2 ^ n := Nat.pow_pos (by omega); omega)
  rw [← e]; clear e
  go_enter Tryz.func100, Tryz.ntmps100
  go_wp2
  go_ret
  exact ⟨rfl, rfl⟩
def vecI (f : Nat → Nat) : Array Value := ((List.range 31).map fun j => Value.int .i64 (f j : Int)).toArray
def vecU (f : Nat → Nat) : Array Value := ((List.range 31).map fun j => Value.int .u64 (f j : Int)).toArray
theorem vecI_size (f : Nat → Nat) : (vecI f).size = 31 := by simp [vecI]
theorem vecU_size (f : Nat → Nat) : (vecU f).size = 31 := by simp [vecU]
theorem vecI_zero : vecI (fun _ => 0) = Array.replicate 31 (.int .i64 0) := by rfl
theorem vecU_zero : vecU (fun _ => 0) = Array.replicate 31 (.int .u64 0) := by rfl
theorem vecU_one (f : Nat → Nat) : (vecU f).all (·.oneCell') = true := by
  refine all_oneCell_toArray fun v hv => ?_
  simp at hv
  obtain ⟨_, _, rfl⟩ := hv
  rfl
theorem vec_set {V : Nat → Value} (f : Nat → Nat) (j v : Nat) : ((List.range 31).map fun i => V (f i)).set j (V v) = (List.range 31).map fun i => V (if i = j then v else f i) := by
  apply List.ext_getElem
  · simp
  · intro i h1 h2
    rw [List.getElem_set]
    simp
    by_cases h : j = i
    · simp [h]
    · rw [if_neg h, if_neg (fun e => h e.symm)]
theorem vecI_set (f : Nat → Nat) (j v : Nat) : (vecI f).setIfInBounds j (.int .i64 (v : Int)) = vecI (fun i => if i = j then v else f i) := by
  unfold vecI
  rw [List.setIfInBounds_toArray]
  congr 1
  exact vec_set (V := fun n => .int .i64 (n : Int)) f j v
theorem vecU_set (f : Nat → Nat) (j v : Nat) : (vecU f).setIfInBounds j (.int .u64 (v : Int)) = vecU (fun i => if i = j then v else f i) := by
  unfold vecU
  rw [List.setIfInBounds_toArray]
  congr 1
  exact vec_set (V := fun n => .int .u64 (n : Int)) f j v
theorem blk_set {W : World} {d : Nat} {cs : Array Value} {T : TypeId} (h : W.heap[d]? = some (.cells cs T (0, 0))) (i : Nat) (v : Value) : (W.setCell ⟨d, i, none⟩ v).heap[d]? = some (.cells (cs.setIfInBounds i v) T (0, 0)) := by
  simp [World.setCell, Array.getElem?_modify, h]
theorem blk_far {W : World} {d e : Nat} {x : Option Obj} (h : W.heap[d]? = x) (hne : e ≠ d) (i : Nat) (v : Value) : (W.setCell ⟨e, i, none⟩ v).heap[d]? = x := by
  rw [← h]
  exact Below.heap_setCell _ _ _ _ (fun e' => hne e'.symm)
theorem blk_frozen {W : World} {d : Nat} {cs : Array Value} {T : TypeId} (h : W.heap[d]? = some (.cells cs T (0, 0))) (i : Nat) : W.frozen? ⟨d, i, none⟩ = false := by
  simp [World.frozen?, h]
theorem vecI_cell {W : World} {d : Nat} {f : Nat → Nat} {T : TypeId} (h : W.heap[d]? = some (.cells (vecI f) T (0, 0))) (j : Nat) (hj : j < 31) : W.cell? ⟨d, j, none⟩ = some (.int .i64 (f j : Int)) := by
  simp [World.cell?, h, vecI, hj]
theorem vecU_cell {W : World} {d : Nat} {f : Nat → Nat} {T : TypeId} (h : W.heap[d]? = some (.cells (vecU f) T (0, 0))) (j : Nat) (hj : j < 31) : W.cell? ⟨d, j, none⟩ = some (.int .u64 (f j : Int)) := by
  simp [World.cell?, h, vecU, hj]
theorem blk_range {W : World} {d : Nat} {cs : Array Value} {T : TypeId} (h : W.heap[d]? = some (.cells cs T (0, 0))) : W.rangeAt d 0 cs.toList := by
  intro j v hv
  rw [Nat.zero_add]
  simp at hv
  simp [World.cell?, h, hv]
theorem startN_bd (L : List Nat) (k : Nat) : startN L k ≤ k * (L.length * 1073741824) := by
  induction k with
  | zero => simp [startN]
  | succ k ih =>
    have h1 : L.count k ≤ L.length := List.count_le_length
    have h2 : share k ≤ 1073741824 := by unfold share; exact Nat.pow_le_pow_right (n := 2) (by omega) (show 30 - k ≤ 30 by omega)
    have h3 : L.count k * share k ≤ L.length * 1073741824 := Nat.mul_le_mul h1 h2
    rw [Nat.add_mul]
    simp only [startN]
    split <;> omega
def startF (L : List Nat) (k j : Nat) : Nat := if j < k then startN L j else 0
theorem startF_set (L : List Nat) (k : Nat) : (fun i => if i = k then startN L k else startF L k i) = startF L (k + 1) := by
  funext i
  unfold startF
  by_cases h : i = k
  · subst h; simp
  · by_cases h2 : i < k
    · rw [if_neg h, if_pos h2, if_pos (by omega)]
    · rw [if_neg h, if_neg h2, if_neg (by omega)]
theorem startF_one (L : List Nat) : startF L 1 = fun _ => 0 := by
  funext j
  unfold startF
  split
  · rename_i h
    rw [show j = 0 by omega]
    rfl
  · rfl
theorem below_cells {B b : Nat} (hb : B ≤ b) : ∀ (vs : List Value) (o : Nat) (w w' : World), Below B w w' → Below B w (w'.setCells b o vs)
  | [], _, _, _, h => h
  | v :: vs, o, w, w', h => below_cells hb vs (o + 1) w _ (h.setCell (p := ⟨b, o, none⟩) hb v)
theorem blk_there {W : World} {d : Nat} {cs : Array Value} {T : TypeId} (h : W.heap[d]? = some (.cells cs T (0, 0))) : W.there d 0 cs.size := by
  intro j hj
  rw [Nat.zero_add]
  exact ⟨by simp [World.cell?, h, hj], blk_frozen h j⟩
structure StM (W : World) (n : Nat) (L : List Nat) (k : Nat) : Prop where
  b0 : W.heap[n]? = some (.cells (vecI (fun j => L.count j)) 163 (0, 0))
  b1 : W.heap[n + 1]? = some (.cells (vecU (startF L k)) 165 (0, 0))
theorem StM.put {W : World} {n k : Nat} {L : List Nat} (h : StM W n L k) : StM (W.setCell ⟨n + 1, k, none⟩ (.int .u64 ((startN L k : Nat) : Int))) n L (k + 1) := by
  refine ⟨blk_far h.b0 (by omega) _ _, ?_⟩
  rw [blk_set h.b1, vecU_set, startF_set]
theorem Tryz.size31u : (Tryz.prog.info? 165).map (·.size) = some 31 := by kernel_rfl
theorem Tryz.size31 : (Tryz.prog.info? 163).map (·.size) = some 31 := by kernel_rfl
def StartsP (w : World) (L : List Nat) (e : Ending) (w' : World) : Prop := e = .returned (.tuple #[.agg (vecU (startF L 31)), .int .u64 ((startN L 31 : Nat) : Int)]) ∧ Below w.heap.size w w'
set_option maxHeartbeats 1000000 in
theorem starts_any (L : List Nat) (w : World) (h : L.length ≤ 100000) : Calls Tryz.prog 98 #[.agg (vecI (fun j => L.count j))] w (StartsP w L) := by
  have hB0 : Below w.heap.size w ((w.alloc (.cells (vecI (fun j => L.count j)) 163)).alloc (.cells (vecU (startF L 1)) 165)) := ((Below.refl _ w).alloc (Nat.le_refl _) _).alloc (by simp) _
  have hM0 : StM ((w.alloc (.cells (vecI (fun j => L.count j)) 163)).alloc (.cells (vecU (startF L 1)) 165)) w.heap.size L 1 := ⟨by
    show ((w.heap.push _).push _)[w.heap.size]? = _
    simp [Array.getElem?_push], by
    show ((w.heap.push _).push _)[w.heap.size + 1]? = _
    rw [show w.heap.size + 1 = (w.heap.push (.cells (vecI (fun j => L.count j)) 163 (0, 0))).size from by simp, Array.getElem?_push_size]⟩
  rw [startF_one, vecU_zero] at hB0 hM0
  simp only [show Array.replicate 31 (Value.int .u64 0) = #[Value.int .u64 0, .int .u64 0, .int .u64 0, .int .u64 0, .int .u64 0, .int .u64 0, .int .u64 0, .int .u64 0, .int .u64 0, .int .u64 0, .int .u64 0, .int .u64 0, .int .u64 0, .int .u64 0, .int .u64 0, .int .u64 0, .int .u64 0, .int .u64 0, .int .u64 0, .int .u64 0, .int .u64 0, .int .u64 0, .int .u64 0, .int .u64 0, .int .u64 0, .int .u64 0, .int .u64 0, .int .u64 0, .int .u64 0, .int .u64 0, .int .u64 0] from rfl] at hB0 hM0
  have HB0 := Lib.hid hB0
  have HM0 := Lib.hid hM0
  obtain ⟨cs, hcs⟩ : ∃ cs, cs = vecI (fun j => L.count j) := ⟨_, rfl⟩
  rw [← hcs] at HB0 HM0 ⊢
  have HCS := Lib.hid hcs
  clear hB0 hM0 hcs
  go_enter Tryz.func98, Tryz.ntmps98
  go_wp2_with fail
  go_loopw [3, 4] (fun t n wr => ∃ k : Nat, 1 ≤ k ∧ k ≤ 31 ∧ n = .int .i64 (k : Int) ∧ t = .int .u64 ((startN L k : Nat) : Int) ∧ Hid (StM wr w.heap.size L k) ∧ Hid (Below w.heap.size w wr)) (fun _ n _ => 31 - (intOf n).toNat)
  case atStart => exact ⟨1, by omega, by omega, rfl, by rw [startN_one]; rfl, HM0, HB0⟩
  case round =>
    obtain ⟨k, hk1, hk2, rfl, rfl, HM, HB⟩ := hrel
    by_cases hlt : k ≤ 30
    · have hd : decide ((k : Int) ≤ 30) = true := by simp; omega
      have i0 : (0 : Int) ≤ (k : Int) := by omega
      have i1 : (k : Int) < 31 := by omega
      have c1 := vecU_cell HM.out.b1 k (by omega)
      have f1 := blk_frozen HM.out.b1 k
      have HM2 := Lib.hid HM.out.put
      have HB2 := Lib.hid (HB.out.setCell (p := ⟨w.heap.size + 1, k, none⟩) (by simp) (.int .u64 ((startN L k : Nat) : Int)))
      generalize startF L k k = old at c1
      go_wp2_with fail
      have c2 := vecI_cell HM2.out.b0 k (by omega)
      have hs := fun j => share_any k ((wr.setCell ⟨w.heap.size + 1, k, none⟩ (.int .u64 ((startN L k : Nat) : Int))).drewN j) hlt
      have HS := Lib.hid hs
      have hbd : startN L (k + 1) ≤ 31 * (100000 * 1073741824) := Nat.le_trans (startN_bd L (k + 1)) (Nat.mul_le_mul (by omega) (Nat.mul_le_mul_right _ h))
      have hsc := startN_succ L k (by omega)
      have hcc : L.count k ≤ L.length := List.count_le_length
      have HE := Lib.hid (show (startN L k : Int) + ((L.count k * share k : Nat) : Int) = ((startN L (k + 1) : Nat) : Int) by rw [hsc]; simp)
      have hp : ((L.count k : Nat) : Int) * ((share k : Nat) : Int) = ((L.count k * share k : Nat) : Int) := by simp
      have hpb : L.count k * share k ≤ 4000000000000000 := by omega
      have hsb : startN L k ≤ 4000000000000000 := by omega
      generalize L.count k * share k = p at hp hpb hsc HE
      generalize hc : L.count k = c at c2 hp hcc
      generalize share k = sh at HS hp
      generalize hst : startN L k = st at *
      clear hs hbd hsc
      go_quiet ((go_at_call 100; exact quietly (HS.out _)))
      go_wp2_with fail
      go_roundw
      case rel => exact ⟨k + 1, by omega, by omega, by go_num, by rw [HE.out], Lib.hid ⟨HM2.out.b0, HM2.out.b1⟩, Lib.hid ((Below.trans HB2.out ⟨rfl, rfl, rfl, Nat.le_refl _, fun _ _ => rfl⟩))⟩
      case measure => simp [intOf]; omega
    · have hke : k = 31 := by omega
      subst hke
      have hd : decide ((31 : Int) ≤ 30) = false := by simp
      obtain ⟨fs, hfs⟩ : ∃ fs, fs = vecU (startF L 31) := ⟨_, rfl⟩
      have hfz : fs.size = 31 := by rw [hfs, vecU_size]
      have hb1 := HM.out.b1
      have hf1 : fs.all (·.oneCell') = true := by rw [hfs]; exact vecU_one _
      rw [← hfs] at hb1
      have HFS := Lib.hid hfs
      have hr := blk_range hb1
      have ht := blk_there hb1
      have HR2 := Lib.hid (World.rangeAt_setCells_same wr (w.heap.size + 1) 0 fs.toList (by simpa using ht))
      have HB2 := Lib.hid (below_cells (Nat.le_succ w.heap.size) fs.toList 0 w wr HB.out)
      have hi1 : (Tryz.prog.info? 165).map (·.size) = some fs.toList.length := by rw [Tryz.size31u, Array.length_toList, hfz]
      have hi2 : (Tryz.prog.info? 165).map (·.size) = some fs.size := by rw [Tryz.size31u, hfz]
      have HT := Lib.hid ht
      have HR := Lib.hid hr
      have HF1 := Lib.hid hf1
      have HI1 := Lib.hid hi1
      have HI2 := Lib.hid hi2
      clear ht hr hfs hb1 hfz hf1 hi1 hi2
      go_wp2_with (first | (refine wpList_load_mid rfl 165 _ rfl (w.heap.size + 1) 0 rfl fs.toList _ HR.out Tryz.underlying165 rfl HI1.out ?_) | (refine wpList_store_mid rfl 165 _ _ rfl (w.heap.size + 1) 0 fs rfl rfl HT.out HI2.out HF1.out ?_))
      refine bodyPost_ret (v := .tuple #[.agg fs, .int .u64 ((startN L 31 : Nat) : Int)]) ?_ rfl ⟨by rw [HFS.out], HB2.out⟩
      have hld := run_loadVar_mid (P := Tryz.prog) (wr.setCells (w.heap.size + 1) 0 fs.toList) (w.heap.size + 1) 0 165 fs.toList _ HR2.out Tryz.underlying165 rfl HI1.out
      rw [results_cell_tmp rfl]
      have ha : ∀ W : World, (asAddr (.pointer (some ⟨w.heap.size + 1, 0, none⟩))).run Tryz.prog W = .ok ⟨w.heap.size + 1, 0, none⟩ W := fun _ => rfl
      refine Eq.trans (congrArg (fun r : Result Addr => r.andThen _) (ha _)) ?_
      show (Sem.run Tryz.prog (loadVar 165 ⟨w.heap.size + 1, 0, none⟩) (wr.setCells (w.heap.size + 1) 0 fs.toList)).andThen _ = _
      rw [hld]
      rfl
theorem word_get (v k i : Nat) (h : i < (word v k).length) : (word v k)[i] = (v / 2 ^ (k - 1 - i) % 2 == 1) := by
  induction k generalizing i with
  | zero => simp [word] at h
  | succ k ih =>
    rcases i with _ | i
    · simp [word]
    · simp only [word, List.getElem_cons_succ]
      rw [ih i (by simpa [word] using h), show k + 1 - 1 - (i + 1) = k - 1 - i by omega]
theorem wordAt_get (p n i : Nat) (hn : n ≤ 30) (h : i < (wordAt p n).length) : (wordAt p n)[i] = (p / 2 ^ (29 - i) % 2 == 1) := by
  have hi : i < n := by rwa [wordAt_length] at h
  refine (word_get (p / share n) n i (by rw [word_length]; exact hi)).trans ?_
  rw [Nat.div_div_eq_div_mul]
  unfold share
  rw [← Nat.pow_add, show 30 - n + (n - 1 - i) = 29 - i by omega]
theorem bit_val (p i : Nat) (b : Bool) (hb : b = (p / 2 ^ (29 - i) % 2 == 1)) (hp : p < 18446744073709551616) : (48 + bits .and .u64 ((p : Int) / 2 ^ (29 - i)) 1) % 256 = ((dig b).toNat : Int) := by
  have e : ((p : Int) / 2 ^ (29 - i)) = ((p / 2 ^ (29 - i) : Nat) : Int) := by push_cast; rfl
  have hq : p / 2 ^ (29 - i) ≤ p := Nat.div_le_self _ _
  rw [e, dig_toNat, hb, bit_toNat, show (1 : Int) = ((1 : Nat) : Int) from rfl, u64_and_nat _ _ (by omega) (by omega), Nat.and_one_is_mod]
  omega
set_option maxHeartbeats 1000000 in
theorem firstBits_any (p n : Nat) (w : World) (hn : n ≤ 30) (hp : p < 18446744073709551616) : Calls Tryz.prog 99 #[.int .u64 (p : Int), .int .i64 (n : Int)] w fun e w' => e = .returned (.string (ds (wordAt p n))) ∧ Below w.heap.size w w' := by
  obtain ⟨i0, hi, hz0, hz1, hz2⟩ := info_parts Tryz.infoByte
  obtain ⟨ps, hps⟩ : ∃ ps, ps = (wordAt p n).map dig := ⟨_, rfl⟩
  have hpl : ps.length = n := by rw [hps, List.length_map, wordAt_length]
  have HPS := Lib.hid hps
  have HPL := Lib.hid hpl
  clear hps hpl
  go_enter Tryz.func99, Tryz.ntmps99
  go_wp2_with (at_make; refine wpList_make_full _ rfl _ _ 22 rfl w.heap.size 5 i0 (.int .u8 0) 1 Tryz.underlying22 hi hz0 hz1 .i64 .i64 (n : Int) (n : Int) n rfl rfl rfl rfl ?c2 ?c3 ?c4 ?_)
  case c2 => rw [hz2]; omega
  case c3 => unfold maxLen; omega
  case c4 => omega
  intro w1 hown hgrow
  have hg0 := blk_of_own hown
  have hb1 : Below w.heap.size w w1 := (Below.refl _ _).grown hgrow (Nat.le_refl _) (fun k hk => by cases hk)
  have hP : Blk w1 w.heap.size (fillL ps 0) := by
    unfold Blk
    rw [fillL_zero, HPL.out, ← made_zero]
    simpa using hg0
  have HP := Lib.hid hP
  have HB1 := Lib.hid hb1
  clear hown hgrow hg0 hb1 hP
  go_wp2_with fail
  go_loopw [6, 10] (fun u i wr => ∃ k : Nat, k ≤ n ∧ i = .int .i64 (k : Int) ∧ Hid (Blk wr w.heap.size (fillL ps k)) ∧ Hid (Below w.heap.size w wr)) (fun _ i _ => n - (intOf i).toNat)
  case atStart => exact ⟨0, by omega, rfl, HP, HB1⟩
  case round =>
    obtain ⟨k, hk, rfl, HP, HB⟩ := hrel
    by_cases hlt : k < n
    · have hd : decide ((k : Int) < (n : Int)) = true := by simp; omega
      have i0' : (0 : Int) ≤ (k : Int) := by omega
      have i1' : (k : Int) < (n : Int) := by omega
      have hlen : k < ps.length := by rw [HPL.out]; exact hlt
      have hfl : k < (fillL ps k).length := by rw [fillL_length _ _ (by omega)]; exact hlen
      have hc := HP.out.cell k hfl
      have hfz := HP.out.frozen k
      generalize (fillL ps k)[k] = old at hc
      have hbit := bit_val p k ((wordAt p n)[k]'(by rw [wordAt_length]; exact hlt)) (wordAt_get p n k hn _) hp
      have hpk : dig ((wordAt p n)[k]'(by rw [wordAt_length]; exact hlt)) = ps[k] := by
        have : ∀ h, ps[k]'h = dig ((wordAt p n)[k]'(by rw [wordAt_length]; exact hlt)) := by rw [HPS.out]; intro h; simp
        exact (this hlen).symm
      rw [hpk] at hbit
      have hs1 : (29 : Int) - (k : Int) = ((29 - k : Nat) : Int) := by omega
      have hs2 : 29 - k < 64 := by omega
      have HBIT := Lib.hid hbit
      have HS := Lib.hid (HP.out.set_ k ps[k])
      rw [fillL_step _ _ hlen] at HS
      have HB2 := Lib.hid (HB.out.setCell (p := ⟨w.heap.size, k, none⟩) (Nat.le_refl _) (.int .u8 (ps[k].toNat : Int)))
      clear hpk hbit hfl
      go_wp2_with fail
      rw [HBIT.out]
      go_roundw
      case rel => exact ⟨k + 1, by omega, by go_num, HS, HB2⟩
      case measure => simp [intOf]; omega
    · have hke : k = n := by omega
      subst hke
      have hd : decide ((k : Int) < (k : Int)) = false := by simp
      have HPZ := HP.out.row
      rw [← HPL.out, fillL_all] at HPZ
      have hcv := conv_row k k HPZ HPL.out
      rw [HPS.out] at hcv
      have HCV := Lib.hid hcv
      clear hcv HPZ
      have hcv : (convert 22 9 (.slice (some ⟨w.heap.size, 0, none⟩) k k)).run Tryz.prog wr = .ok (.string (ds (wordAt p k))) wr := HCV.out
      go_wp2_with fail
      go_ret
      exact ⟨rfl, HB.out⟩
end Go.Proofs.YtjafcjnkefioeaaGreat.Hf
/- sort.Search over a table's numbers; the contract of markOf. -/
namespace Go.Proofs.YtjafcjnkefioeaaGreat.Df
open Go.RowKit Go.Proofs.YtjafcjnkefioeaaGreat.Oct Go.Proofs.YtjafcjnkefioeaaGreat.Bit Go.Proofs.YtjafcjnkefioeaaGreat.Hf Go.Proofs.YtjafcjnkefioeaaGreat.Inf
set_option maxRecDepth 100000
theorem last_is (F : List Nat) (n s : Nat) (hs : s < F.length) (h1 : F.getD s 0 ≤ n) (h2 : ∀ i, s < i → i < F.length → n < F.getD i 0) : lastLe F n (F.length - 1) = s := by
  have hgo : ∀ k, s ≤ k → k < F.length → lastLe F n k = s := by
    intro k
    induction k with
    | zero => intro hk _; rw [lastLe]; omega
    | succ k ih =>
      intro hk hl
      rw [lastLe]
      by_cases hq : s = k + 1
      · subst hq
        rw [if_neg (by omega)]
      · rw [if_pos (h2 (k + 1) (by omega) hl)]
        exact ih (by omega) (by omega)
  exact hgo _ (by omega) (by omega)
theorem wrap_same (x : Int) (h1 : -9223372036854775808 ≤ x) (h2 : x < 9223372036854775808) : wrap64 x = x := by
  unfold wrap64
  omega
theorem drawn_two {w w1 w2 : World} (h : Drawn w w1) (h2 : Drawn w1 w2) : Drawn w w2 := by
  obtain ⟨n, rfl⟩ := h2
  exact h.more n
theorem above_any (W : World) (g1 g2 b n cap i F v : Nat) (h1 : W.cell? ⟨g1, 0, none⟩ = some (.slice (some ⟨b, 0, none⟩) n cap)) (h2 : W.cell? ⟨g2, 0, none⟩ = some (.int .i64 (v : Int)))
    (hf : W.cell? ⟨b, i * 2, none⟩ = some (.int .i64 (F : Int))) (hi : i < n) :
    Calls Tryz.prog 96 #[.int .i64 (i : Int), .pointer (some ⟨g1, 0, none⟩), .pointer (some ⟨g2, 0, none⟩)] W fun e w' => e = .returned (.bool (decide (v < F))) ∧ Drawn W w' := by
  have i0 : (0 : Int) ≤ (i : Int) := by omega
  have i1 : (i : Int) < (n : Int) := by omega
  have hd : decide ((v : Int) < (F : Int)) = decide (v < F) := by rw [decide_eq_decide]; omega
  have HD := Lib.hid hd
  clear hd hi
  go_enter Tryz.func96, Tryz.ntmps96
  go_wp2_with fail
  go_quiet (fail)
  go_wp2_with fail
  go_ret
  exact ⟨rfl, ⟨_, rfl⟩⟩
structure Srch (far : Bool) (v lo hi : Nat) : Prop where
  le : lo ≤ hi
  top : hi ≤ (froms far).length
  lo1 : ∀ i, i < lo → (froms far).getD i 0 ≤ v
  hi1 : ∀ i, hi ≤ i → i < (froms far).length → v < (froms far).getD i 0
theorem froms_rise : ∀ far : Bool, ∀ i, i < (froms far).length → ∀ j, j < i → (froms far).getD j 0 ≤ (froms far).getD i 0 := by decide +kernel
theorem Srch.up {far : Bool} {v lo hi m : Nat} (h : Srch far v lo hi) (hm : lo ≤ m ∧ m < hi) (hf : ¬ v < (froms far).getD m 0) : Srch far v (m + 1) hi :=
  ⟨by omega, h.top, fun i hi2 => by
    by_cases e : i = m
    · rw [e]; omega
    · have := froms_rise far m (by have := h.top; omega) i (by omega)
      omega, h.hi1⟩
theorem Srch.down {far : Bool} {v lo hi m : Nat} (h : Srch far v lo hi) (hm : lo ≤ m ∧ m < hi) (hf : v < (froms far).getD m 0) : Srch far v lo m :=
  ⟨hm.1, by have := h.top; omega, h.lo1, fun i h1 h2 => by
    by_cases e : i = m
    · rw [e]; exact hf
    · have := froms_rise far i h2 m (by omega)
      omega⟩
theorem Srch.done {far : Bool} {v s : Nat} (h : Srch far v s s) (h0 : least1 far ≤ v) : s = placeN far v + 1 := by
  have hl : 0 < (froms far).length := by cases far <;> decide
  have hs : s ≠ 0 := fun e => by
    have := h.hi1 0 (by omega) hl
    have hz : (froms far).getD 0 0 = least1 far := by cases far <;> rfl
    omega
  have := last_is (froms far) v (s - 1) (by have := h.top; omega) (h.lo1 _ (by omega)) (fun i h1 h2 => h.hi1 i (by omega) h2)
  unfold placeN
  omega
set_option maxHeartbeats 1000000 in
theorem search_any (W : World) (g1 g2 b n cap v : Nat) (far : Bool) (h1 : W.cell? ⟨g1, 0, none⟩ = some (.slice (some ⟨b, 0, none⟩) n cap)) (h2 : W.cell? ⟨g2, 0, none⟩ = some (.int .i64 (v : Int))) (ht : TabR W b far) (hn : n = (froms far).length) (h0 : least1 far ≤ v) (s : Nat) (hs : s = placeN far v + 1) :
    Calls Tryz.prog 97 #[.int .i64 (n : Int), .func (.func 96) #[] #[.pointer (some ⟨g1, 0, none⟩), .pointer (some ⟨g2, 0, none⟩)]] W fun e w' => e = .returned (.int .i64 (s : Int)) ∧ Drawn W w' := by
  have HF : Hid (∀ (W' : World) (i : Nat), Drawn W W' → i < n → Calls Tryz.prog 96 #[.int .i64 (i : Int), .pointer (some ⟨g1, 0, none⟩), .pointer (some ⟨g2, 0, none⟩)] W' fun e w' => e = .returned (.bool (decide (v < (froms far).getD i 0))) ∧ Drawn W' w') :=
    Lib.hid fun W' i hd hi => by
      obtain ⟨k, rfl⟩ := hd
      exact above_any _ g1 g2 b n cap i _ v h1 h2 ((ht i (by omega)).1) hi
  have HI : Hid (Srch far v 0 n) := Lib.hid ⟨Nat.zero_le _, by omega, fun i hi => by omega, fun i hi hl => by omega⟩
  have HDN := Lib.hid (fun t (h : Srch far v t t) => (h.done h0).trans hs.symm)
  have hn30 : n ≤ 30 := by rw [hn]; cases far <;> decide
  clear h1 h2 ht hn h0 hs
  go_enter Tryz.func97, Tryz.ntmps97
  go_wp2_with fail
  go_loopw [5, 6] (fun s5 s6 wr => ∃ lo hi : Nat, s5 = .int .i64 (lo : Int) ∧ s6 = .int .i64 (hi : Int) ∧ lo ≤ hi ∧ hi ≤ n ∧ Hid (Srch far v lo hi) ∧ Drawn W wr) (fun s5 s6 _ => (intOf s6).toNat - (intOf s5).toNat)
  case atStart => exact ⟨0, n, rfl, rfl, by omega, by omega, HI, ⟨0, rfl⟩⟩
  case round =>
    obtain ⟨lo, hi, rfl, rfl, hlh, hhn, HS, hdr⟩ := hrel
    clear HI
    by_cases hlt : lo < hi
    · have hlz : (lo : Int) < (hi : Int) := by omega
      have hc := HF.out wr ((lo + hi) / 2) hdr (by omega)
      rw [show (((lo + hi) / 2 : Nat) : Int) = ((lo : Int) + (hi : Int)) / 2 by omega] at hc
      by_cases hp : v < (froms far).getD ((lo + hi) / 2) 0
      · have HS2 := Lib.hid (HS.out.down ⟨by omega, by omega⟩ hp)
        rw [decide_eq_true hp] at hc
        have HDR := Lib.hid hdr
        clear hp hdr
        go_wp2_with fail
        refine hc.mono ?_
        rintro e w' ⟨rfl, hd2⟩
        have HD2 := Lib.hid (drawn_two HDR.out hd2)
        clear hc hd2
        go_wp2_with fail
        go_roundw
        case rel => exact ⟨lo, (lo + hi) / 2, rfl, by first | rfl | (congr 1; omega), by omega, by omega, HS2, HD2.out⟩
        case measure => simp [intOf]; omega
      · have HS2 := Lib.hid (HS.out.up (m := (lo + hi) / 2) ⟨by omega, by omega⟩ hp)
        rw [decide_eq_false hp] at hc
        have HDR := Lib.hid hdr
        clear hp hdr
        go_wp2_with fail
        refine hc.mono ?_
        rintro e w' ⟨rfl, hd2⟩
        have HD2 := Lib.hid (drawn_two HDR.out hd2)
        clear hc hd2
        go_wp2_with fail
        go_roundw
        case rel => exact ⟨(lo + hi) / 2 + 1, hi, by first | rfl | (congr 1; omega), rfl, by omega, by omega, HS2, HD2.out⟩
        case measure => simp [intOf]; omega
    · have hlz : ¬ (lo : Int) < (hi : Int) := by omega
      have hhl : hi = lo := by omega
      subst hhl
      have hfin := HDN.out _ HS.out
      subst hfin
      have HDR := Lib.hid hdr
      clear hdr
      go_wp2_with fail
      go_ret
      exact ⟨rfl, HDR.out⟩
def Mk (w : World) (d : Nat) (x y z : Value) : Prop := w.heap[d]? = some (.cells #[x, y, z] 117 (0, 0))
section
variable {w w' : World} {d : Nat} {x y z : Value}
theorem Mk.c0 (h : Mk w d x y z) : w.cell? ⟨d, 0, none⟩ = some x := by unfold Mk at h; simp [World.cell?, h]
theorem Mk.c1 (h : Mk w d x y z) : w.cell? ⟨d, 1, none⟩ = some y := by unfold Mk at h; simp [World.cell?, h]
theorem Mk.c2 (h : Mk w d x y z) : w.cell? ⟨d, 2, none⟩ = some z := by unfold Mk at h; simp [World.cell?, h]
theorem Mk.fz (h : Mk w d x y z) (j : Nat) : w.frozen? ⟨d, j, none⟩ = false := by unfold Mk at h; simp [World.frozen?, h]
theorem Mk.put (h : Mk w d x y z) (a b c : Value) : Mk (((w.setCell ⟨d, 0, none⟩ a).setCell ⟨d, 1, none⟩ b).setCell ⟨d, 2, none⟩ c) d a b c := blk_set (blk_set (blk_set h 0 a) 1 b) 2 c
theorem Mk.below {B : Nat} (h : Mk w d x y z) (hb : Below B w w') (hd : d < B) : Mk w' d x y z := (hb.block d hd).trans h
theorem Mk.lt (h : Mk w d x y z) : d < w.heap.size := by
  rcases Nat.lt_or_ge d w.heap.size with hlt | hge
  · exact hlt
  · unfold Mk at h; rw [Array.getElem?_eq_none hge] at h; cases h
end
theorem put_below {w w' : World} {B d : Nat} (hb : Below B w w') (hd : B ≤ d) (a b c : Value) : Below B w (((w'.setCell ⟨d, 0, none⟩ a).setCell ⟨d, 1, none⟩ b).setCell ⟨d, 2, none⟩ c) := ((hb.setCell hd _).setCell hd _).setCell hd _
theorem ret_mark {Q : Ending → World → Prop} {act : Act} {F : World} {d : Nat} {x y z : Value} (hm : Mk F d x y z) (h4 : act.tmps[4]?.getD undef = .pointer (some ⟨d, 0, none⟩)) (hd : act.defers = [])
    (h : Q (.returned (.agg #[x, y, z])) F) : bodyPost Tryz.prog Tryz.f60 Q .ret act F := by
  have q0 := hm.c0
  have q1 := hm.c1
  have q2 := hm.c2
  refine bodyPost_ret (v := .agg #[x, y, z]) ?_ hd h
  simp [results, Tryz.results60, go_sem, h4, q0, q1, q2]
def markV (far : Bool) (v : Nat) : Value := .agg #[.int .i64 (placeN far v : Int), .int .i64 ((v - (froms far).getD (placeN far v) 0 : Nat) : Int), .int .i64 (((extras far).getD (placeN far v) 0 : Nat) : Int)]
def MarkP (w : World) (far : Bool) (v : Nat) (e : Ending) (w' : World) : Prop := e = .returned (markV far v) ∧ Below w.heap.size w w'
set_option maxHeartbeats 1000000 in
theorem markOf_any (w : World) (b n cap v : Nat) (far : Bool) (ht : TabR w b far) (hb : b < w.heap.size) (hn : n = (froms far).length) (h0 : least1 far ≤ v) (hv : v ≤ 100000) :
    Calls Tryz.prog 60 #[.slice (some ⟨b, 0, none⟩) n cap, .int .i64 (v : Int)] w (MarkP w far v) := by
  have hp := place_lt far v
  have hlow := place_low far v h0
  obtain ⟨wa, hwa⟩ : ∃ wa, wa = w.alloc (.cells #[.slice (some ⟨b, 0, none⟩) n cap] 37) := ⟨_, rfl⟩
  obtain ⟨wb, hwb⟩ : ∃ wb, wb = wa.alloc (.cells #[.int .i64 (v : Int)] 3) := ⟨_, rfl⟩
  obtain ⟨w3, hw3⟩ : ∃ w3, w3 = wb.alloc (.cells #[.int .i64 0, .int .i64 0, .int .i64 0] 117) := ⟨_, rfl⟩
  have za : wa.heap.size = w.heap.size + 1 := by rw [hwa]; simp
  have zb : wb.heap.size = w.heap.size + 2 := by rw [hwb]; simp [za]
  have hz : w3.heap.size = w.heap.size + 3 := by rw [hw3]; simp [zb]
  have ba : Below w.heap.size w wa := by rw [hwa]; exact (Below.refl _ w).alloc (Nat.le_refl _) _
  have bb : Below wa.heap.size wa wb := by rw [hwb]; exact (Below.refl _ wa).alloc (Nat.le_refl _) _
  have b3 : Below wb.heap.size wb w3 := by rw [hw3]; exact (Below.refl _ wb).alloc (Nat.le_refl _) _
  have hb3 : Below w.heap.size w w3 := (ba.trans (bb.mono (by omega))).trans (b3.mono (by omega))
  have ht3 := tab_same ht (hb3.block b hb)
  have o1 : wa.heap[w.heap.size]? = some (.cells #[.slice (some ⟨b, 0, none⟩) n cap] 37 (0, 0)) := by rw [hwa]; exact Array.getElem?_push_size
  have o2 : wb.heap[w.heap.size + 1]? = some (.cells #[.int .i64 (v : Int)] 3 (0, 0)) := by rw [← za, hwb]; exact Array.getElem?_push_size
  have hblk : w3.heap[w.heap.size + 2]? = some (.cells #[.int .i64 0, .int .i64 0, .int .i64 0] 117 (0, 0)) := by rw [← zb, hw3]; exact Array.getElem?_push_size
  have o1' : w3.heap[w.heap.size]? = some (.cells #[.slice (some ⟨b, 0, none⟩) n cap] 37 (0, 0)) := (b3.block _ (by omega)).trans ((bb.block _ (by omega)).trans o1)
  have o2' : w3.heap[w.heap.size + 1]? = some (.cells #[.int .i64 (v : Int)] 3 (0, 0)) := (b3.block _ (by omega)).trans o2
  have k1 : w3.cell? ⟨w.heap.size, 0, none⟩ = some (.slice (some ⟨b, 0, none⟩) n cap) := by simp [World.cell?, o1']
  have k2 : w3.cell? ⟨w.heap.size + 1, 0, none⟩ = some (.int .i64 (v : Int)) := by simp [World.cell?, o2']
  rw [hwb, hwa] at hw3
  clear hwa hwb za zb ba bb b3 o1 o2 o1' o2'
  obtain ⟨s, hs⟩ : ∃ s, s = placeN far v + 1 := ⟨_, rfl⟩
  obtain ⟨i, hi⟩ : ∃ i, i = placeN far v := ⟨_, rfl⟩
  have hse : (s : Int) - 1 = (i : Int) := by omega
  obtain ⟨f1, f2⟩ := ht3 i (by omega)
  have HSR := Lib.hid (search_any w3 w.heap.size (w.heap.size + 1) b n cap v far k1 k2 ht3 hn h0 s hs)
  have i0 : (0 : Int) ≤ (i : Int) := by omega
  have i1 : (i : Int) < (n : Int) := by omega
  have hwi : wrap64 (i : Int) = (i : Int) := wrap_same _ (by omega) (by have : (froms far).length ≤ 30 := (by cases far <;> decide); omega)
  have hwv : wrap64 ((v : Int) - (((froms far).getD i 0 : Nat) : Int)) = (v : Int) - (((froms far).getD i 0 : Nat) : Int) := wrap_same _ (by rw [hi]; omega) (by omega)
  rw [← hi] at hlow
  have hRES : markV far v = .agg #[.int .i64 (i : Int), .int .i64 ((v : Int) - (((froms far).getD i 0 : Nat) : Int)), .int .i64 (((extras far).getD i 0 : Nat) : Int)] := by
    unfold markV
    rw [← hi, Int.natCast_sub hlow]
  have hF : (froms far).getD i 0 ≤ 100000 := by omega
  have HRES := Lib.hid hRES
  have HB3 := Lib.hid hb3
  have HW3 := Lib.hid hw3
  generalize (froms far).getD i 0 = F at f1 hRES HRES hF hwv
  generalize (extras far).getD i 0 = X at f2 hRES HRES
  clear hRES ht3 ht hn hp hlow h0 hs hi hb3 hw3
  go_enter Tryz.func60, Tryz.ntmps60
  go_wp2_with fail
  rw [← HW3.out]
  refine HSR.out.mono ?_
  rintro e w' ⟨rfl, k, rfl⟩
  have f1' : (w3.drewN k).cell? ⟨b, i * 2, none⟩ = some (.int .i64 (F : Int)) := f1
  have f2' : (w3.drewN k).cell? ⟨b, i * 2 + 1, none⟩ = some (.int .i64 (X : Int)) := f2
  have k1' : (w3.drewN k).cell? ⟨w.heap.size, 0, none⟩ = some (.slice (some ⟨b, 0, none⟩) n cap) := k1
  have k2' : (w3.drewN k).cell? ⟨w.heap.size + 1, 0, none⟩ = some (.int .i64 (v : Int)) := k2
  have hblk' : (w3.drewN k).heap[w.heap.size + 2]? = some (.cells #[.int .i64 0, .int .i64 0, .int .i64 0] 117 (0, 0)) := hblk
  have hz' : (w3.drewN k).heap.size = w.heap.size + 3 := hz
  have HB' := Lib.hid (HB3.out.trans ((show Drawn w3 (w3.drewN k) from ⟨k, rfl⟩).below _))
  generalize w3.drewN k = W at *
  have hmk : Mk W (w.heap.size + 1 + 1) (.int .i64 0) (.int .i64 0) (.int .i64 0) := hblk'
  have r0 := hmk.c0
  have r1 := hmk.c1
  have r2 := hmk.c2
  have rf := fun j => hmk.fz j
  have hp3 := hmk.put (.int .i64 (i : Int)) (.int .i64 ((v : Int) - (F : Int))) (.int .i64 (X : Int))
  have hbp := put_below HB'.out (show w.heap.size ≤ w.heap.size + 1 + 1 by omega) (.int .i64 (i : Int)) (.int .i64 ((v : Int) - (F : Int))) (.int .i64 (X : Int))
  have HP := Lib.hid (hp3.below ((Below.refl _ _).alloc (Nat.le_refl _) (.cells #[.int .i64 (F : Int), .int .i64 (X : Int)] 63)) hp3.lt)
  have HBP := Lib.hid (hbp.alloc hbp.size (.cells #[.int .i64 (F : Int), .int .i64 (X : Int)] 63))
  clear hmk hp3 hbp hblk'
  clear k1 k2 f1 f2 hblk HSR HW3 HB3
  go_wp2_with fail
  refine ret_mark HP.out rfl rfl ⟨?_, HBP.out⟩
  rw [HRES.out]
end Go.Proofs.YtjafcjnkefioeaaGreat.Df


/- The document's table of least costs, level by level, as a function that is bettered step by step; no program in sight. -/
import Derived.Test.YtefniglinligeaaLmR
namespace Go.Proofs.Ytefniglinligeaa.Lm
open Go.Proofs.Ytefniglinligeaa.Bit Go.Proofs.Ytefniglinligeaa.Hf
set_option linter.unusedVariables false
set_option linter.unusedSimpArgs false

def far : Nat := 1152921504606846976
theorem sumH_le (A : List Nat) (r : Nat) : sumH A r ≤ A.sum := by
  have h : A.sum = (A.take r).sum + (A.drop r).sum := by rw [← List.sum_append, List.take_append_drop]
  unfold sumH
  omega
theorem reach_bd {f : List Nat} {k g o c : Nat} (h : Reach f k g o c) : c ≤ k * f.sum := by
  induction h with
  | zero => simp
  | @step k g o c here h _ _ _ ih =>
    have := sumH_le (isort f) (f.length - g)
    rw [isort_sum] at this
    rw [Nat.succ_mul]
    omega
/-- a level's table is right -/
structure Lv (f : List Nat) (k : Nat) (t : Nat → Nat → Nat) : Prop where
  snd : ∀ g o, t g o = far ∨ Reach f k g o (t g o)
  cmp : ∀ g o c, Reach f k g o c → t g o ≤ c
theorem Lv.start (f : List Nat) : Lv f 0 (fun g o => if g = 0 ∧ o = 1 then 0 else far) := by
  refine ⟨fun g o => ?_, fun g o c h => ?_⟩
  · by_cases h : g = 0 ∧ o = 1
    · obtain ⟨rfl, rfl⟩ := h
      exact .inr Reach.zero
    · exact .inl (if_neg h)
  · cases h
    simp
/-- the next table, when some ways have been looked at -/
structure Mid (f : List Nat) (k : Nat) (t : Nat → Nat → Nat) (P : Nat → Nat → Nat → Prop) (nx : Nat → Nat → Nat) : Prop where
  snd : ∀ g o, nx g o = far ∨ Reach f (k + 1) g o (nx g o)
  cmp : ∀ g o h, P g o h → t g o ≠ far → o ≤ f.length - g → h ≤ 2 * o → g + h ≤ f.length → nx (g + h) (min (2 * o - h) (f.length - g - h)) ≤ t g o + sumH (isort f) (f.length - g)
theorem Mid.start (f : List Nat) (k : Nat) (t : Nat → Nat → Nat) : Mid f k t (fun _ _ _ => False) (fun _ _ => far) := ⟨fun _ _ => .inl rfl, fun _ _ _ h => h.elim⟩
theorem Mid.less {f : List Nat} {k : Nat} {t nx : Nat → Nat → Nat} {P Q : Nat → Nat → Nat → Prop} (h : Mid f k t P nx)
    (hq : ∀ g o h, Q g o h → t g o ≠ far → o ≤ f.length - g → h ≤ 2 * o → g + h ≤ f.length → P g o h) : Mid f k t Q nx :=
  ⟨h.snd, fun g o h' hQ h1 h2 h3 h4 => h.cmp g o h' (hq g o h' hQ h1 h2 h3 h4) h1 h2 h3 h4⟩
/-- one cell bettered -/
def better (nx : Nat → Nat → Nat) (a b c : Nat) : Nat → Nat → Nat := fun g o => if g = a ∧ o = b then (if c < nx a b then c else nx a b) else nx g o
theorem better_le (nx : Nat → Nat → Nat) (a b c g o : Nat) : better nx a b c g o ≤ nx g o := by
  unfold better
  split
  · rename_i h
    obtain ⟨rfl, rfl⟩ := h
    split <;> omega
  · exact Nat.le_refl _
theorem better_at (nx : Nat → Nat → Nat) (a b c : Nat) : better nx a b c a b ≤ c := by
  unfold better
  rw [if_pos ⟨rfl, rfl⟩]
  split <;> omega
theorem Mid.relax {f : List Nat} {k : Nat} {t nx : Nat → Nat → Nat} {P : Nat → Nat → Nat → Prop} (h : Mid f k t P nx) (ht : Lv f k t) {g o e : Nat} (h1 : t g o ≠ far) (h2 : o ≤ f.length - g) (h3 : e ≤ 2 * o) (h4 : g + e ≤ f.length) :
    Mid f k t (fun g' o' e' => P g' o' e' ∨ (g' = g ∧ o' = o ∧ e' = e)) (better nx (g + e) (min (2 * o - e) (f.length - g - e)) (t g o + sumH (isort f) (f.length - g))) := by
  refine ⟨fun a b => ?_, fun a b x hP q1 q2 q3 q4 => ?_⟩
  · unfold better
    by_cases hab : a = g + e ∧ b = min (2 * o - e) (f.length - g - e)
    · obtain ⟨rfl, rfl⟩ := hab
      rw [if_pos ⟨rfl, rfl⟩]
      split
      · rcases ht.snd g o with hf | hr
        · exact absurd hf h1
        · exact .inr (Reach.step hr h2 h3 h4)
      · exact h.snd _ _
    · rw [if_neg hab]; exact h.snd a b
  · rcases hP with hP | ⟨rfl, rfl, rfl⟩
    · exact Nat.le_trans (better_le ..) (h.cmp a b x hP q1 q2 q3 q4)
    · exact better_at ..
/-- all ways looked at: the next table is right -/
theorem Mid.done {f : List Nat} {k : Nat} {t nx : Nat → Nat → Nat} {P : Nat → Nat → Nat → Prop} (h : Mid f k t P nx) (ht : Lv f k t) (hP : ∀ g o e, g ≤ f.length → o ≤ f.length → P g o e) (hb : k * f.sum < far) : Lv f (k + 1) nx := by
  refine ⟨h.snd, fun g o c hr => ?_⟩
  cases hr with
  | @step k g o c here hr h2 h3 h4 =>
    have hc := reach_bd hr
    have hle := ht.cmp g o c hr
    have hg := hr.given
    have hne : t g o ≠ far := by omega
    have := h.cmp g o here (hP g o here hg (by omega)) hne h2 h3 h4
    omega
/-- ways looked at before a place of the three loops -/
def Seen (G O E : Nat) : Nat → Nat → Nat → Prop := fun g o e => g < G ∨ (g = G ∧ (o < O ∨ (o = O ∧ e < E)))
/-- the least so far -/
structure Bst (f : List Nat) (k best : Nat) : Prop where
  snd : best = far ∨ ∃ j, j ≤ k ∧ Reach f j f.length 0 best
  cmp : ∀ j o c, j ≤ k → Reach f j f.length o c → best ≤ c
theorem reach_end {f : List Nat} {k o c : Nat} (h1 : 1 ≤ f.length) (h : Reach f k f.length o c) : o = 0 := by
  generalize hg : f.length = g at h
  cases h with
  | zero => omega
  | step _ _ _ _ => omega
theorem Bst.start {f : List Nat} (h1 : 1 ≤ f.length) : Bst f 0 far := by
  refine ⟨.inl rfl, fun j o c hj h => ?_⟩
  have : j = 0 := by omega
  subst this
  generalize hg : f.length = g at h
  cases h
  omega
theorem Bst.next {f : List Nat} {k best : Nat} {t : Nat → Nat → Nat} (h : Bst f k best) (ht : Lv f (k + 1) t) (h1 : 1 ≤ f.length) : Bst f (k + 1) (if t f.length 0 < best then t f.length 0 else best) := by
  refine ⟨?_, fun j o c hj hr => ?_⟩
  · split
    · rename_i hlt
      rcases ht.snd f.length 0 with hf | hr
      · exact .inl hf
      · exact .inr ⟨k + 1, Nat.le_refl _, hr⟩
    · rcases h.snd with hf | ⟨j, hj, hr⟩
      · exact .inl hf
      · exact .inr ⟨j, by omega, hr⟩
  · by_cases hjk : j = k + 1
    · subst hjk
      have ho := reach_end h1 hr
      subst ho
      have := ht.cmp _ _ _ hr
      split <;> omega
    · have := h.cmp j o c (by omega) hr
      split <;> omega
/-- the search's least is the least -/
theorem best_is {f : List Nat} {L : Nat} {l : List Nat} {best : Nat} (h : Least f L l) (hL : L ≤ 30) (h2 : 2 ≤ f.length) (hf : ∀ x ∈ f, 1 ≤ x) (hb : Bst f (min L f.length) best) (hbd : 30 * f.sum < far) : best = cost f l := by
  obtain ⟨⟨k, hk, hr⟩, hlow⟩ := search_is h hL h2 hf
  have h1 := hb.cmp k 0 _ hk hr
  have h3 := reach_bd hr
  have h4 : k * f.sum ≤ 30 * f.sum := Nat.mul_le_mul_right _ (by omega)
  rcases hb.snd with hb | ⟨j, hj, hr2⟩
  · omega
  · have := hlow j 0 best hj hr2
    omega
end Go.Proofs.Ytefniglinligeaa.Lm

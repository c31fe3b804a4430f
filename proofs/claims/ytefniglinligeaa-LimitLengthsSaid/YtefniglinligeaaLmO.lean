
/- Least costs in another order, twice as often, and of what comes more often; things that don't come; no program in sight. -/
import Derived.Test.YtefniglinligeaaLmT
namespace Go.Proofs.Ytefniglinligeaa.Lm
open Go.Proofs.Ytefniglinligeaa.Bit Go.Proofs.Ytefniglinligeaa.Hf
set_option linter.unusedVariables false
set_option linter.unusedSimpArgs false

theorem cost_nil (l : List Nat) : cost [] l = 0 := by cases l <;> rfl
theorem cost_perm {f D : List Nat} (h : f.Perm D) : ∀ ls : List Nat, ls.length = D.length → ∃ l : List Nat, l.Perm ls ∧ cost f l = cost D ls := by
  induction h with
  | nil => intro ls _; exact ⟨ls, List.Perm.refl _, rfl⟩
  | cons x h ih =>
    intro ls hl
    cases ls with
    | nil => simp at hl
    | cons y ls =>
      obtain ⟨l, h1, h2⟩ := ih ls (by simpa using hl)
      exact ⟨y :: l, h1.cons y, by simp only [cost, h2]⟩
  | swap x y f =>
    intro ls hl
    match ls, hl with
    | a :: b :: ls, _ => exact ⟨b :: a :: ls, List.Perm.swap .., by simp only [cost]; omega⟩
  | trans h1 h2 ih1 ih2 =>
    intro ls hl
    obtain ⟨m, g1, g2⟩ := ih2 ls hl
    obtain ⟨l, g3, g4⟩ := ih1 m (by rw [g1.length_eq, hl, h2.length_eq])
    exact ⟨l, g3.trans g1, by rw [g4, g2]⟩
theorem kraft_perm {l m : List Nat} (h : l.Perm m) : kraft l = kraft m := by
  induction h with
  | nil => rfl
  | cons x h ih => rw [kraft_cons, kraft_cons, ih]
  | swap x y l => simp only [kraft_cons]; omega
  | trans _ _ h1 h2 => rw [h1, h2]
theorem Ok.perm {f D : List Nat} {L : Nat} {l m : List Nat} (h : Ok D L m) (hp : l.Perm m) (hf : f.length = D.length) : Ok f L l :=
  ⟨by rw [hp.length_eq, h.len, hf], fun x hx => h.lo x (hp.mem_iff.1 hx), fun x hx => h.hi x (hp.mem_iff.1 hx), by rw [kraft_perm hp]; exact h.kr⟩
/-- things in another order cost no more -/
theorem least_perm {f D : List Nat} {L : Nat} {l m : List Nat} (hp : f.Perm D) (h : Least f L l) (k : Ok D L m) : cost f l ≤ cost D m := by
  obtain ⟨l', h1, h2⟩ := cost_perm hp m k.len
  rw [← h2]
  exact h.min l' (k.perm h1 hp.length_eq)
theorem least_same {f D : List Nat} {L : Nat} {l m : List Nat} (hp : f.Perm D) (h : Least f L l) (k : Least D L m) : cost f l = cost D m :=
  Nat.le_antisymm (least_perm hp h k.ok) (least_perm hp.symm k h.ok)
/-- twice as often: twice the cost -/
theorem cost_twice (f l : List Nat) : cost (f.map (2 * ·)) l = 2 * cost f l := by
  induction f generalizing l with
  | nil => simp [cost_nil]
  | cons x f ih =>
    cases l with
    | nil => rfl
    | cons y l => simp only [List.map_cons, cost, ih]; rw [Nat.mul_add, Nat.mul_assoc]
theorem Ok.twice {f : List Nat} {L : Nat} {l : List Nat} (h : Ok f L l) : Ok (f.map (2 * ·)) L l := ⟨by rw [List.length_map]; exact h.len, h.lo, h.hi, h.kr⟩
theorem Ok.once {f : List Nat} {L : Nat} {l : List Nat} (h : Ok (f.map (2 * ·)) L l) : Ok f L l := ⟨by have := h.len; rwa [List.length_map] at this, h.lo, h.hi, h.kr⟩
theorem least_twice {f : List Nat} {L : Nat} {l m : List Nat} (h : Least f L l) (k : Least (f.map (2 * ·)) L m) : cost (f.map (2 * ·)) m = 2 * cost f l := by
  have h1 := k.min l h.ok.twice
  have h2 := h.min m k.ok.once
  simp only [cost_twice] at h1 ⊢
  omega
/-- what comes more often has no longer a word -/
theorem least_order {f : List Nat} {L : Nat} {l : List Nat} (h : Least f L l) (i k : Nat) (hi : i < f.length) (hk : k < f.length) (hi' : i < l.length) (hk' : k < l.length) (hf : f[k] < f[i]) : l[i] ≤ l[k] := by
  rcases Nat.lt_or_ge l[k] l[i] with hlt | hge
  · exfalso
    have hik : i ≠ k := by intro e; subst e; omega
    have c1 := cost_set f l i l[k] hi' hi
    have k1 := kraft_set l i l[k] hi'
    have hkl : k < (l.set i l[k]).length := by rw [List.length_set]; exact hk'
    have c2 := cost_set f (l.set i l[k]) k l[i] hkl hk
    have k2 := kraft_set (l.set i l[k]) k l[i] hkl
    rw [List.getElem_set_ne hik] at c2 k2
    have hok : Ok f L ((l.set i l[k]).set k l[i]) := by
      have hmem : ∀ x ∈ (l.set i l[k]).set k l[i], x ∈ l := by
        intro x hx
        rcases List.mem_or_eq_of_mem_set hx with hx | rfl
        · rcases List.mem_or_eq_of_mem_set hx with hx | rfl
          · exact hx
          · exact List.getElem_mem hk'
        · exact List.getElem_mem hi'
      exact ⟨by rw [List.length_set, List.length_set]; exact h.ok.len, fun x hx => h.ok.lo x (hmem x hx), fun x hx => h.ok.hi x (hmem x hx), by have := h.ok.kr; omega⟩
    have hm := h.min _ hok
    obtain ⟨d, hd⟩ : ∃ d, l[i] = l[k] + d := ⟨l[i] - l[k], by omega⟩
    obtain ⟨e, he⟩ : ∃ e, f[i] = f[k] + e := ⟨f[i] - f[k], by omega⟩
    have hde : 0 < e * d := Nat.mul_pos (by omega) (by omega)
    rw [hd, he] at c1
    rw [hd] at c2
    simp only [Nat.add_mul, Nat.mul_add] at c1 c2
    rw [hd] at hm
    omega
  · exact hge
/-- there are lengths that serve, if there are not too many things -/
theorem ok_exists (f : List Nat) (L : Nat) (hL1 : 1 ≤ L) (hL : L ≤ 30) (hn : f.length ≤ 2 ^ L) : Ok f L (List.replicate f.length L) := by
  refine ⟨by simp, fun x hx => ?_, fun x hx => ?_, ?_⟩
  · rw [List.eq_of_mem_replicate hx]; exact hL1
  · rw [List.eq_of_mem_replicate hx]; exact Nat.le_refl _
  · unfold kraft
    rw [List.map_replicate, List.sum_replicate_nat, ← share_top L hL]
    exact Nat.mul_le_mul_right _ hn
/-- one thing, or none -/
theorem least_one (x L : Nat) (hL : 1 ≤ L) : Least [x] L [1] := by
  refine ⟨⟨rfl, by simp, by simpa using hL, by decide⟩, fun l' h => ?_⟩
  match l', h.len with
  | [y], _ =>
    have := h.lo y (by simp)
    simp only [cost]
    have := Nat.mul_le_mul_left x this
    omega
theorem least_none (L : Nat) : Least [] L [] := ⟨⟨rfl, by simp, by simp, by decide⟩, fun l' _ => by simp [cost]⟩
/-! Things that don't come. -/
def come (o : List Nat) : List Nat := o.filter (0 < ·)
/-- the lengths of those that come -/
def comeL : List Nat → List Nat → List Nat
  | x :: o, y :: l => if 0 < x then y :: comeL o l else comeL o l
  | _, _ => []
theorem come_pos (o : List Nat) : ∀ x ∈ come o, 1 ≤ x := by
  intro x hx
  have := (List.mem_filter.1 hx).2
  simp at this
  omega
theorem cost_come (o l : List Nat) : cost o l = cost (come o) (comeL o l) := by
  induction o generalizing l with
  | nil => simp [cost_nil, come]
  | cons x o ih =>
    cases l with
    | nil => cases h : come (x :: o) <;> rfl
    | cons y l =>
      unfold come at ih ⊢
      simp only [cost, comeL]
      by_cases h : 0 < x
      · rw [if_pos h, List.filter_cons_of_pos (by simpa using h)]
        simp only [cost]
        rw [ih l]
      · have : x = 0 := by omega
        subst this
        rw [if_neg h, List.filter_cons_of_neg (by simp), ih l]
        omega
theorem come_twice (o : List Nat) : come (o.map (2 * ·)) = (come o).map (2 * ·) := by
  induction o with
  | nil => rfl
  | cons x o ih =>
    unfold come at ih ⊢
    rw [List.map_cons]
    by_cases h : 0 < x
    · rw [List.filter_cons_of_pos (by simp; omega), List.filter_cons_of_pos (by simpa using h), List.map_cons, ih]
    · rw [List.filter_cons_of_neg (by simp; omega), List.filter_cons_of_neg (by simpa using h), ih]
end Go.Proofs.Ytefniglinligeaa.Lm

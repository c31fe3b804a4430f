
/- The least cost, level by level: what the search over 'so many words given, so many places open' comes to; no program in sight. -/
import Derived.Test.YtefniglinligeaaLmO
namespace Go.Proofs.Ytefniglinligeaa.Lm
open Go.Proofs.Ytefniglinligeaa.Bit Go.Proofs.Ytefniglinligeaa.Hf
set_option linter.unusedVariables false
set_option linter.unusedSimpArgs false

/-- after so many levels so many words can be given, so many places be open, at such a cost -/
inductive Reach (f : List Nat) : Nat → Nat → Nat → Nat → Prop
  | zero : Reach f 0 0 1 0
  | step {k g o c here : Nat} : Reach f k g o c → o ≤ f.length - g → here ≤ 2 * o → g + here ≤ f.length → Reach f (k + 1) (g + here) (min (2 * o - here) (f.length - g - here)) (c + sumH (isort f) (f.length - g))
theorem Reach.given {f : List Nat} {k g o c : Nat} (h : Reach f k g o c) : g ≤ f.length := by
  cases h with
  | zero => omega
  | step _ _ _ h => exact h
theorem sumH_split (A : List Nat) (r s : Nat) : sumH A (r + s) = sumH A r + sumH (A.drop r) s := by
  unfold sumH
  rw [List.take_add, List.sum_append]
theorem cost_app (a b l m : List Nat) (h : a.length = l.length) : cost (a ++ b) (l ++ m) = cost a l + cost b m := by
  induction a generalizing l with
  | nil => have : l = [] := List.eq_nil_of_length_eq_zero h.symm
           subst this; simp [cost_nil]
  | cons x a ih =>
    cases l with
    | nil => simp at h
    | cons y l =>
      have := ih l (by simpa using h)
      simp only [List.cons_append, cost, this]
      omega
theorem cost_rep (a : List Nat) (k : Nat) : cost a (List.replicate a.length k) = a.sum * k := by
  induction a with
  | nil => simp [cost_nil]
  | cons x a ih => simp only [List.length_cons, List.replicate_succ, cost, ih, List.sum_cons, Nat.add_mul]
theorem kraft_app (l m : List Nat) : kraft (l ++ m) = kraft l + kraft m := by simp [kraft]
theorem kraft_rep (n k : Nat) : kraft (List.replicate n k) = n * share k := by
  unfold kraft
  rw [List.map_replicate, List.sum_replicate_nat]
/-- what is reached are lengths of the greatest, that leave so much room, at that cost -/
theorem reach_sound {f : List Nat} {k g o c : Nat} (h : Reach f k g o c) (hk : k ≤ 30) : ∃ ls : List Nat, ls.length = g ∧ (∀ x ∈ ls, 1 ≤ x ∧ x ≤ k) ∧ kraft ls + o * share k ≤ 1073741824 ∧
    cost ((isort f).drop (f.length - g)) ls + sumH (isort f) (f.length - g) * k = c := by
  induction h with
  | zero =>
    refine ⟨[], rfl, by simp, by decide, ?_⟩
    rw [Nat.sub_zero, ← isort_length f, List.drop_length, cost_nil]
    simp
  | @step k g o c here h ho hh hg ih =>
    obtain ⟨ls, h1, h2, h3, h4⟩ := ih (Nat.le_of_succ_le hk)
    clear ih
    have hs := share_two k (by omega)
    have hn : f.length - g = (f.length - (g + here)) + here := by omega
    refine ⟨List.replicate here (k + 1) ++ ls, by simp [h1]; omega, fun x hx => ?_, ?_, ?_⟩
    · rcases List.mem_append.1 hx with hx | hx
      · rw [List.eq_of_mem_replicate hx]; omega
      · have := h2 x hx; omega
    · rw [kraft_app, kraft_rep]
      have e : (here + (2 * o - here)) * share (k + 1) = o * share k := by
        rw [show here + (2 * o - here) = 2 * o by omega, hs, Nat.mul_comm 2 o, Nat.mul_assoc]
      have e2 : min (2 * o - here) (f.length - g - here) * share (k + 1) ≤ (2 * o - here) * share (k + 1) := Nat.mul_le_mul_right _ (Nat.min_le_left _ _)
      rw [Nat.add_mul] at e
      omega
    · have hl1 : ((isort f).drop (f.length - (g + here))).take here ++ (isort f).drop (f.length - g) = (isort f).drop (f.length - (g + here)) := by
        conv => lhs; rw [hn, ← List.drop_drop]
        exact List.take_append_drop _ _
      have hl2 : (((isort f).drop (f.length - (g + here))).take here).length = here := by
        rw [List.length_take, List.length_drop, isort_length]; omega
      have hc := cost_rep (((isort f).drop (f.length - (g + here))).take here) (k + 1)
      rw [hl2] at hc
      have hsp := sumH_split (isort f) (f.length - (g + here)) here
      rw [← hn] at hsp
      rw [← hl1, cost_app _ _ _ _ (by rw [hl2, List.length_replicate]), hc]
      have e3 : (((isort f).drop (f.length - (g + here))).take here).sum = sumH ((isort f).drop (f.length - (g + here))) here := rfl
      rw [e3]
      generalize sumH ((isort f).drop (f.length - (g + here))) here = B at *
      generalize sumH (isort f) (f.length - (g + here)) = R at *
      generalize sumH (isort f) (f.length - g) = R0 at *
      generalize cost ((isort f).drop (f.length - g)) ls = C at *
      rw [hsp] at h4 ⊢
      simp only [Nat.mul_add, Nat.add_mul, Nat.mul_one] at h4 ⊢
      omega
theorem ins_perm (x : Nat) (B : List Nat) : (ins x B).Perm (x :: B) := by
  induction B with
  | nil => exact List.Perm.refl _
  | cons b B ih =>
    unfold ins
    split
    · exact List.Perm.refl _
    · exact (ih.cons b).trans (List.Perm.swap ..)
theorem isort_perm (f : List Nat) : (isort f).Perm f := by
  induction f with
  | nil => exact List.Perm.refl _
  | cons x f ih => exact (ins_perm x _).trans (ih.cons x)
/-- whatever the search finds are lengths that serve -/
theorem search_sound {f : List Nat} {k o c L : Nat} (h : Reach f k f.length o c) (hk : k ≤ L) (hL : L ≤ 30) : ∃ l, Ok f L l ∧ cost f l = c := by
  obtain ⟨ls, h1, h2, h3, h4⟩ := reach_sound h (by omega)
  rw [Nat.sub_self, List.drop_zero, sumH_zero, Nat.zero_mul, Nat.add_zero] at h4
  obtain ⟨l, g1, g2⟩ := cost_perm (isort_perm f).symm ls (by rw [h1, isort_length])
  exact ⟨l, ⟨by rw [g1.length_eq, h1], fun x hx => (h2 x (g1.mem_iff.1 hx)).1, fun x hx => Nat.le_trans (h2 x (g1.mem_iff.1 hx)).2 hk, by rw [kraft_perm g1]; omega⟩, by rw [g2, h4]⟩
/-- any lengths that serve are found, at no greater cost -/
theorem search_all {f : List Nat} {L : Nat} {l : List Nat} (h : Ok f L l) (hL : L ≤ 30) (h1 : 1 ≤ f.length) :
    ∀ k, k ≤ L → ∃ p, before l k + p * share k = 1073741824 ∧ Reach f k (f.length - cntG l k) (min p (cntG l k)) (sumK (fun i => sumH (isort f) (cntG l i)) k) := by
  intro k
  induction k with
  | zero =>
    intro _
    refine ⟨1, ?_, ?_⟩
    · have hb := both l 0
      rw [taken_zero l h.lo] at hb
      have : before l 0 = 0 := by omega
      rw [this]; rfl
    · rw [cntG_zero l h.lo, h.len, Nat.sub_self, Nat.min_eq_left h1]
      exact Reach.zero
  | succ k ih =>
    intro hk
    obtain ⟨p, hp, hr⟩ := ih (Nat.le_of_succ_le hk)
    clear ih
    have hs := cntG_step l k
    have hb := before_step l k
    have h2 := share_two k (by omega)
    have hsp := share_pos (k + 1)
    have hle : cntG l k ≤ f.length := by rw [← h.len]; exact List.countP_le_length
    have hkr := both l (k + 1)
    have hkr2 := h.kr
    have hpp : cntE l (k + 1) ≤ 2 * p := by
      have e : p * share k = 2 * p * share (k + 1) := by rw [h2, Nat.mul_comm 2 p, Nat.mul_assoc]
      have : cntE l (k + 1) * share (k + 1) ≤ 2 * p * share (k + 1) := by omega
      exact Nat.le_of_mul_le_mul_right this hsp
    refine ⟨2 * p - cntE l (k + 1), ?_, ?_⟩
    · have e : p * share k = 2 * p * share (k + 1) := by rw [h2, Nat.mul_comm 2 p, Nat.mul_assoc]
      rw [Nat.sub_mul]
      have : cntE l (k + 1) * share (k + 1) ≤ 2 * p * share (k + 1) := Nat.mul_le_mul_right _ hpp
      omega
    · have := Reach.step (here := cntE l (k + 1)) hr (by omega) (by omega) (by omega)
      rw [show f.length - cntG l k + cntE l (k + 1) = f.length - cntG l (k + 1) by omega, show f.length - (f.length - cntG l k) = cntG l k by omega] at this
      rw [show min (2 * p - cntE l (k + 1)) (cntG l (k + 1)) = min (2 * min p (cntG l k) - cntE l (k + 1)) (cntG l k - cntE l (k + 1)) by omega]
      exact this
theorem search_least {f : List Nat} {L : Nat} {l : List Nat} (h : Ok f L l) (hL : L ≤ 30) (h1 : 1 ≤ f.length) : ∃ c, Reach f L f.length 0 c ∧ c ≤ cost f l := by
  obtain ⟨p, _, hr⟩ := search_all h hL h1 L (Nat.le_refl _)
  rw [cntG_none l L h.hi, Nat.sub_zero, Nat.min_eq_right (by omega)] at hr
  exact ⟨_, hr, base_le f l L h.len h.hi⟩
/-- the least that the search finds with no more levels than there are things is the least of all -/
theorem search_is {f : List Nat} {L : Nat} {l : List Nat} (h : Least f L l) (hL : L ≤ 30) (h2 : 2 ≤ f.length) (hf : ∀ x ∈ f, 1 ≤ x) :
    (∃ k, k ≤ min L f.length ∧ Reach f k f.length 0 (cost f l)) ∧ ∀ k o c, k ≤ min L f.length → Reach f k f.length o c → cost f l ≤ c := by
  have hsnd : ∀ k o c, k ≤ min L f.length → Reach f k f.length o c → cost f l ≤ c := by
    intro k o c hk hr
    obtain ⟨l', g1, g2⟩ := search_sound hr (by omega : k ≤ L) hL
    rw [← g2]
    exact h.min l' g1
  refine ⟨?_, hsnd⟩
  have hfull := h.full hL h2 hf
  have hno := no_longer hfull h.ok.lo (fun x hx => Nat.le_trans (h.ok.hi x hx) hL)
  have hok : Ok f (min L f.length) l := ⟨h.ok.len, h.ok.lo, fun x hx => by have := hno x hx; have := h.ok.hi x hx; rw [h.ok.len] at *; omega, h.ok.kr⟩
  obtain ⟨c, hr, hc⟩ := search_least hok (by omega) (by omega)
  have := hsnd _ _ _ (Nat.le_refl _) hr
  have : c = cost f l := by omega
  subst this
  exact ⟨_, Nat.le_refl _, hr⟩
end Go.Proofs.Ytefniglinligeaa.Lm


/- Lengths that serve and what they cost, in plain words: sums of the smallest, costs level by level, shortening; no program in sight. -/
import Derived.Test.YtefniglinligeaaHfM
namespace Go.Proofs.Ytefniglinligeaa.Lm
open Go.Proofs.Ytefniglinligeaa.Bit Go.Proofs.Ytefniglinligeaa.Hf
set_option linter.unusedVariables false
set_option linter.unusedSimpArgs false

/-- a number into its place of a rising row -/
def ins (x : Nat) : List Nat → List Nat
  | [] => [x]
  | b :: B => if x ≤ b then x :: b :: B else b :: ins x B
def isort : List Nat → List Nat
  | [] => []
  | x :: f => ins x (isort f)
def Rising : List Nat → Prop
  | [] => True
  | [_] => True
  | a :: b :: B => a ≤ b ∧ Rising (b :: B)
theorem ins_length (x : Nat) (B : List Nat) : (ins x B).length = B.length + 1 := by
  induction B with
  | nil => rfl
  | cons b B ih => unfold ins; split <;> simp [ih]
theorem isort_length (f : List Nat) : (isort f).length = f.length := by
  induction f with
  | nil => rfl
  | cons x f ih => simp [isort, ins_length, ih]
theorem Rising.tail {b : Nat} {B : List Nat} (h : Rising (b :: B)) : Rising B := by
  cases B with
  | nil => trivial
  | cons c B => exact h.2
theorem Rising.head {b : Nat} {B : List Nat} (h : Rising (b :: B)) : ∀ x ∈ B, b ≤ x := by
  induction B generalizing b with
  | nil => intro x hx; cases hx
  | cons c B ih =>
    intro x hx
    rcases List.mem_cons.1 hx with rfl | hx
    · exact h.1
    · exact Nat.le_trans h.1 (ih h.2 x hx)
theorem Rising.cons {b : Nat} {B : List Nat} (h : Rising B) (hb : ∀ x ∈ B, b ≤ x) : Rising (b :: B) := by
  cases B with
  | nil => trivial
  | cons c B => exact ⟨hb c (List.mem_cons_self ..), h⟩
theorem ins_mem {x y : Nat} {B : List Nat} (h : y ∈ ins x B) : y = x ∨ y ∈ B := by
  induction B with
  | nil => simp [ins] at h; exact .inl h
  | cons b B ih =>
    unfold ins at h
    split at h
    · simpa using h
    · rcases List.mem_cons.1 h with rfl | h
      · exact .inr (List.mem_cons_self ..)
      · rcases ih h with h | h
        · exact .inl h
        · exact .inr (List.mem_cons_of_mem _ h)
theorem ins_rising {x : Nat} {B : List Nat} (h : Rising B) : Rising (ins x B) := by
  induction B with
  | nil => trivial
  | cons b B ih =>
    unfold ins
    split
    · rename_i hx
      exact ⟨hx, h⟩
    · refine Rising.cons (ih h.tail) (fun y hy => ?_)
      rcases ins_mem hy with rfl | hy
      · omega
      · exact h.head y hy
theorem isort_rising (f : List Nat) : Rising (isort f) := by
  induction f with
  | nil => trivial
  | cons x f ih => exact ins_rising ih
/-- the sum of so many at the head -/
def sumH (A : List Nat) (r : Nat) : Nat := (A.take r).sum
theorem sumH_zero (A : List Nat) : sumH A 0 = 0 := by simp [sumH]
theorem sumH_nil (r : Nat) : sumH [] r = 0 := by simp [sumH]
theorem sumH_cons (b : Nat) (B : List Nat) (r : Nat) : sumH (b :: B) (r + 1) = b + sumH B r := by simp [sumH]
theorem sumH_less {x : Nat} {B : List Nat} (h : ∀ y ∈ B, x ≤ y) (r : Nat) (hr : r < B.length) : x + sumH B r ≤ sumH B (r + 1) := by
  induction B generalizing r with
  | nil => simp at hr
  | cons b B ih =>
    cases r with
    | zero => rw [sumH_zero, sumH_cons, sumH_zero]; have := h b (List.mem_cons_self ..); omega
    | succ r =>
      rw [sumH_cons, sumH_cons]
      have := ih (fun y hy => h y (List.mem_cons_of_mem _ hy)) r (by simpa using hr)
      omega
theorem ins_one (x : Nat) (B : List Nat) (r : Nat) : sumH (ins x B) (r + 1) ≤ x + sumH B r := by
  induction B generalizing r with
  | nil => simp [ins, sumH]
  | cons b B ih =>
    unfold ins
    split
    · rw [sumH_cons]; exact Nat.le_refl _
    · rename_i hx
      rw [sumH_cons]
      cases r with
      | zero => rw [sumH_zero, sumH_zero]; omega
      | succ r => rw [sumH_cons]; have := ih r; omega
theorem ins_two {x : Nat} {B : List Nat} (h : Rising B) (r : Nat) (hr : r ≤ B.length) : sumH (ins x B) r ≤ sumH B r := by
  induction B generalizing r with
  | nil => have : r = 0 := by simpa using hr
           subst this; simp [sumH]
  | cons b B ih =>
    cases r with
    | zero => simp [sumH]
    | succ r =>
      unfold ins
      split
      · rename_i hx
        rw [sumH_cons]
        exact sumH_less (fun y hy => by
          rcases List.mem_cons.1 hy with rfl | hy
          · exact hx
          · exact Nat.le_trans hx (h.head y hy)) r (by simp at hr ⊢; omega)
      · rw [sumH_cons, sumH_cons]
        have := ih h.tail r (by simpa using hr)
        omega
/-- so many of some numbers are together no less than so many of the smallest -/
theorem small_sum {f S : List Nat} (h : S.Sublist f) : sumH (isort f) S.length ≤ S.sum := by
  induction h with
  | slnil => simp [sumH]
  | cons x hs ih =>
    refine Nat.le_trans (ins_two (isort_rising _) _ ?_) ih
    rw [isort_length]
    exact hs.length_le
  | cons_cons x hs ih =>
    rw [List.length_cons, List.sum_cons]
    exact Nat.le_trans (ins_one x _ _) (by omega)
theorem ins_all (x : Nat) (B : List Nat) : (ins x B).sum = x + B.sum := by
  induction B with
  | nil => simp [ins]
  | cons b B ih =>
    unfold ins
    split
    · simp
    · simp [ih]; omega
theorem isort_sum (f : List Nat) : (isort f).sum = f.sum := by
  induction f with
  | nil => rfl
  | cons x f ih => simp [isort, ins_all, ih]
/-! Costs. -/
def cost : List Nat → List Nat → Nat
  | x :: f, y :: l => x * y + cost f l
  | _, _ => 0
def kraft (l : List Nat) : Nat := (l.map share).sum
/-- those whose word is longer than so many bits -/
def sel : List Nat → List Nat → Nat → List Nat
  | x :: f, y :: l, k => if k < y then x :: sel f l k else sel f l k
  | _, _, _ => []
def cntG (l : List Nat) (k : Nat) : Nat := l.countP (k < ·)
theorem sel_sub (f l : List Nat) (k : Nat) : (sel f l k).Sublist f := by
  induction f generalizing l with
  | nil => simp [sel]
  | cons x f ih =>
    cases l with
    | nil => simp [sel]
    | cons y l =>
      unfold sel
      split
      · exact (ih l).cons_cons x
      · exact (ih l).cons x
theorem sel_length (f l : List Nat) (k : Nat) (h : l.length = f.length) : (sel f l k).length = cntG l k := by
  induction f generalizing l with
  | nil => have : l = [] := List.eq_nil_of_length_eq_zero h
           subst this; rfl
  | cons x f ih =>
    cases l with
    | nil => simp at h
    | cons y l =>
      have := ih l (by simpa using h)
      unfold cntG at this ⊢
      rw [List.countP_cons, ← this]
      simp only [sel]
      split
      · rename_i hk; simp [hk]
      · rename_i hk; simp [hk]
/-- the sum over the first so many levels -/
def sumK (g : Nat → Nat) : Nat → Nat
  | 0 => 0
  | k + 1 => sumK g k + g k
theorem sumK_add (g h : Nat → Nat) (k : Nat) : sumK (fun i => g i + h i) k = sumK g k + sumK h k := by
  induction k with
  | zero => rfl
  | succ k ih => simp only [sumK, ih]; omega
theorem sumK_le {g h : Nat → Nat} (k : Nat) (hl : ∀ i, i < k → g i ≤ h i) : sumK g k ≤ sumK h k := by
  induction k with
  | zero => exact Nat.le_refl _
  | succ k ih =>
    have := ih (fun i hi => hl i (by omega))
    have := hl k (by omega)
    simp only [sumK]; omega
theorem sumK_congr {g h : Nat → Nat} (k : Nat) (hl : ∀ i, i < k → g i = h i) : sumK g k = sumK h k := by
  induction k with
  | zero => rfl
  | succ k ih => simp only [sumK, ih (fun i hi => hl i (by omega)), hl k (by omega)]
theorem sumK_if (x y k : Nat) : sumK (fun i => if i < y then x else 0) k = x * min y k := by
  induction k with
  | zero => simp [sumK]
  | succ k ih =>
    simp only [sumK, ih]
    by_cases h : k < y
    · rw [if_pos h, Nat.min_eq_right (by omega), Nat.min_eq_right (by omega), Nat.mul_succ]
    · rw [if_neg h, Nat.min_eq_left (by omega), Nat.min_eq_left (by omega), Nat.add_zero]
/-- a cost is the sum, level by level, of those that go on -/
theorem cost_levels (f l : List Nat) (L : Nat) (h : l.length = f.length) (hL : ∀ x ∈ l, x ≤ L) : cost f l = sumK (fun k => (sel f l k).sum) L := by
  induction f generalizing l with
  | nil =>
    have : l = [] := List.eq_nil_of_length_eq_zero h
    subst this
    rw [sumK_congr (h := fun k => if k < 0 then 0 else 0) L (by intro i _; simp [sel]), sumK_if]
    simp [cost]
  | cons x f ih =>
    cases l with
    | nil => simp at h
    | cons y l =>
      have hy := hL y (List.mem_cons_self ..)
      have h1 := ih l (by simpa using h) (fun z hz => hL z (List.mem_cons_of_mem _ hz))
      have h2 := sumK_if x y L
      rw [Nat.min_eq_left hy] at h2
      rw [sumK_congr (h := fun k => (if k < y then x else 0) + (sel f l k).sum) L (by
        intro k _
        simp only [sel]
        split <;> simp), sumK_add, h2, ← h1]
      rfl
/-- the least that lengths with so many words at each level can cost -/
def base (f l : List Nat) (L : Nat) : Nat := sumK (fun k => sumH (isort f) (cntG l k)) L
theorem base_le (f l : List Nat) (L : Nat) (h : l.length = f.length) (hL : ∀ x ∈ l, x ≤ L) : base f l L ≤ cost f l := by
  rw [cost_levels f l L h hL]
  refine sumK_le L (fun k _ => ?_)
  rw [← sel_length f l k h]
  exact small_sum (sel_sub f l k)
/-- lengths that serve things that come -/
structure Ok (f : List Nat) (L : Nat) (l : List Nat) : Prop where
  len : l.length = f.length
  lo : ∀ x ∈ l, 1 ≤ x
  hi : ∀ x ∈ l, x ≤ L
  kr : kraft l ≤ 1073741824
structure Least (f : List Nat) (L : Nat) (l : List Nat) : Prop where
  ok : Ok f L l
  min : ∀ l', Ok f L l' → cost f l ≤ cost f l'
theorem Ok.wide {f : List Nat} {L M : Nat} {l : List Nat} (h : Ok f L l) (hM : L ≤ M) : Ok f M l := ⟨h.len, h.lo, fun x hx => Nat.le_trans (h.hi x hx) hM, h.kr⟩
theorem Least.more {f : List Nat} {L M : Nat} {l m : List Nat} (h : Least f L l) (k : Least f M m) (hM : L ≤ M) : cost f m ≤ cost f l := k.min l (h.ok.wide hM)
theorem Least.same {f : List Nat} {L : Nat} {l m : List Nat} (h : Least f L l) (k : Least f L m) : cost f l = cost f m := Nat.le_antisymm (h.min m k.ok) (k.min l h.ok)
theorem kraft_cons (y : Nat) (l : List Nat) : kraft (y :: l) = share y + kraft l := by simp [kraft]
theorem kraft_set (l : List Nat) (i x : Nat) (h : i < l.length) : kraft (l.set i x) + share l[i] = kraft l + share x := by
  induction l generalizing i with
  | nil => simp at h
  | cons y l ih =>
    cases i with
    | zero => simp [kraft]; omega
    | succ i =>
      have := ih i (by simpa using h)
      simp only [List.set_cons_succ, List.getElem_cons_succ, kraft_cons]
      omega
theorem cost_set (f l : List Nat) (i x : Nat) (h : i < l.length) (hf : i < f.length) : cost f (l.set i x) + f[i] * l[i] = cost f l + f[i] * x := by
  induction l generalizing i f with
  | nil => simp at h
  | cons y l ih =>
    cases f with
    | nil => simp at hf
    | cons z f =>
      cases i with
      | zero => simp only [List.set_cons_zero, List.getElem_cons_zero, cost]; omega
      | succ i =>
        have := ih f i (by simpa using h) (by simpa using hf)
        simp only [List.set_cons_succ, List.getElem_cons_succ, cost]
        omega
theorem kraft_dvd (l : List Nat) (m : Nat) (hm : m ≤ 30) (h : ∀ x ∈ l, x ≤ m) : share m ∣ kraft l := by
  induction l with
  | nil => exact ⟨0, by simp [kraft]⟩
  | cons y l ih =>
    rw [kraft_cons]
    exact Nat.dvd_add (share_dvd y m (h y (List.mem_cons_self ..)) hm) (ih (fun x hx => h x (List.mem_cons_of_mem _ hx)))
theorem top_dvd (m : Nat) (hm : m ≤ 30) : share m ∣ 1073741824 := ⟨2 ^ m, by rw [Nat.mul_comm, share_top m hm]⟩
theorem has_max : ∀ (l : List Nat), l ≠ [] → ∃ i, ∃ h : i < l.length, ∀ x ∈ l, x ≤ l[i]
  | [], h => absurd rfl h
  | [y], _ => ⟨0, by simp, by simp⟩
  | y :: z :: l, _ => by
    obtain ⟨i, h, hm⟩ := has_max (z :: l) (by simp)
    by_cases hy : (z :: l)[i] ≤ y
    · exact ⟨0, by simp, fun x hx => by
        rcases List.mem_cons.1 hx with rfl | hx
        · exact Nat.le_refl _
        · exact Nat.le_trans (hm x hx) hy⟩
    · exact ⟨i + 1, by simpa using h, fun x hx => by
        rw [List.getElem_cons_succ]
        rcases List.mem_cons.1 hx with rfl | hx
        · omega
        · exact hm x hx⟩
theorem kraft_ones (l : List Nat) (h : ∀ x ∈ l, x = 1) : kraft l = l.length * 536870912 := by
  induction l with
  | nil => rfl
  | cons y l ih =>
    have e := h y (List.mem_cons_self ..)
    rw [kraft_cons, ih (fun x hx => h x (List.mem_cons_of_mem _ hx)), e, List.length_cons, Nat.succ_mul]
    have : share 1 = 536870912 := rfl
    omega
/-- lengths that leave strings over can be made less -/
theorem shorten {f : List Nat} {L : Nat} {l : List Nat} (h : Ok f L l) (hL : L ≤ 30) (h2 : 2 ≤ f.length) (hf : ∀ x ∈ f, 1 ≤ x) (hk : kraft l < 1073741824) : ∃ l', Ok f L l' ∧ cost f l' < cost f l := by
  have hne : l ≠ [] := by
    intro e
    have := h.len
    rw [e] at this
    simp at this
    omega
  obtain ⟨i, hi, hm⟩ := has_max l hne
  have hi1 := h.lo l[i] (List.getElem_mem hi)
  have hi2 := h.hi l[i] (List.getElem_mem hi)
  have hif : i < f.length := by rw [← h.len]; exact hi
  have hfi := hf f[i] (List.getElem_mem hif)
  have hdv := kraft_dvd l l[i] (by omega) hm
  have htp := top_dvd l[i] (by omega)
  have hroom : kraft l + share l[i] ≤ 1073741824 := by
    obtain ⟨a, ha⟩ := hdv
    obtain ⟨b, hb⟩ := htp
    rw [ha, hb] at hk ⊢
    have : a < b := Nat.lt_of_mul_lt_mul_left hk
    rw [← Nat.mul_succ]
    exact Nat.mul_le_mul_left _ this
  by_cases h1 : l[i] = 1
  · exfalso
    have := kraft_ones l (fun x hx => by have := hm x hx; have := h.lo x hx; omega)
    rw [this, h.len] at hk
    omega
  · have hs := share_mul (l[i] - 1) l[i] (by omega) (by omega)
    rw [show l[i] - (l[i] - 1) = 1 by omega] at hs
    have hks := kraft_set l i (l[i] - 1) hi
    have hcs := cost_set f l i (l[i] - 1) hi hif
    refine ⟨l.set i (l[i] - 1), ⟨by rw [List.length_set]; exact h.len, fun x hx => ?_, fun x hx => ?_, by omega⟩, ?_⟩
    · rcases List.mem_or_eq_of_mem_set hx with hx | rfl
      · exact h.lo x hx
      · omega
    · rcases List.mem_or_eq_of_mem_set hx with hx | rfl
      · exact h.hi x hx
      · omega
    · have : f[i] * (l[i] - 1) + f[i] = f[i] * l[i] := by rw [← Nat.mul_succ]; congr 1; omega
      omega
theorem Least.full {f : List Nat} {L : Nat} {l : List Nat} (h : Least f L l) (hL : L ≤ 30) (h2 : 2 ≤ f.length) (hf : ∀ x ∈ f, 1 ≤ x) : kraft l = 1073741824 := by
  rcases Nat.lt_or_ge (kraft l) 1073741824 with hk | hk
  · obtain ⟨l', h1, h3⟩ := shorten h.ok hL h2 hf hk
    have := h.min l' h1
    omega
  · have := h.ok.kr; omega
/-- from any lengths one comes to full ones that cost no more -/
theorem to_full {f : List Nat} {L : Nat} (hL : L ≤ 30) (h2 : 2 ≤ f.length) (hf : ∀ x ∈ f, 1 ≤ x) : ∀ (n : Nat) (l : List Nat), cost f l ≤ n → Ok f L l → ∃ l', Ok f L l' ∧ cost f l' ≤ cost f l ∧ kraft l' = 1073741824 := by
  intro n
  induction n with
  | zero =>
    intro l hn h
    rcases Nat.lt_or_ge (kraft l) 1073741824 with hk | hk
    · obtain ⟨l', _, h3⟩ := shorten h hL h2 hf hk
      omega
    · exact ⟨l, h, Nat.le_refl _, by have := h.kr; omega⟩
  | succ n ih =>
    intro l hn h
    rcases Nat.lt_or_ge (kraft l) 1073741824 with hk | hk
    · obtain ⟨l', h1, h3⟩ := shorten h hL h2 hf hk
      obtain ⟨l2, g1, g2, g3⟩ := ih l' (by omega) h1
      exact ⟨l2, g1, by omega, g3⟩
    · exact ⟨l, h, Nat.le_refl _, by have := h.kr; omega⟩
end Go.Proofs.Ytefniglinligeaa.Lm

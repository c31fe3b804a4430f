/- LmM, LmT, LmO, LmR, LmS, LmC: merged. -/
import Derived.Laws.BitsAllLaws
import Derived.Laws.Strings
import Derived.Laws.BytesArg
import Derived.Test.YtjafcjnkefioeaaRaf
set_option linter.unusedVariables false
set_option linter.unusedSimpArgs false
/- Lengths that serve and what they cost, in plain words: sums of the smallest, costs level by level, shortening; no program in sight. -/
namespace Go.Proofs.Ytjafcjnkefioeaa.Lm
open Go.Proofs.Ytjafcjnkefioeaa.Bit Go.Proofs.Ytjafcjnkefioeaa.Hf
def ins (x : Nat) : List Nat → List Nat
  | [] => [x]
  | b :: B => if x ≤ b then x :: b :: B else b :: ins x B
def isort : List Nat → List Nat
  | [] => []
  | x :: f => ins x (isort f)
def Rising : List Nat → Prop
  | [] => True
  | [_] => True
  | a :: b :: B => a ≤ b ∧ Rising (b :: B)
theorem ins_length (x : Nat) (B : List Nat) : (ins x B).length = B.length + 1 := by
  induction B with
  | nil => rfl
  | cons b B ih => unfold ins; split <;> simp [ih]
theorem isort_length (f : List Nat) : (isort f).length = f.length := by
  induction f with
  | nil => rfl
  | cons x f ih => simp [isort, ins_length, ih]
theorem Rising.tail {b : Nat} {B : List Nat} (h : Rising (b :: B)) : Rising B := by
  cases B with
  | nil => trivial
  | cons c B => exact h.2
theorem Rising.head {b : Nat} {B : List Nat} (h : Rising (b :: B)) : ∀ x ∈ B, b ≤ x := by
  induction B generalizing b with
  | nil => intro x hx; cases hx
  | cons c B ih =>
    intro x hx
    rcases List.mem_cons.1 hx with rfl | hx
    · exact h.1
    · exact Nat.le_trans h.1 (ih h.2 x hx)
theorem Rising.cons {b : Nat} {B : List Nat} (h : Rising B) (hb : ∀ x ∈ B, b ≤ x) : Rising (b :: B) := by
  cases B with
  | nil => trivial
  | cons c B => exact ⟨hb c (List.mem_cons_self ..), h⟩
theorem ins_mem {x y : Nat} {B : List Nat} (h : y ∈ ins x B) : y = x ∨ y ∈ B := by
  induction B with
  | nil => simp [ins] at h; exact .inl h
  | cons b B ih =>
    unfold ins at h
    split at h
    · simpa using h
    · rcases List.mem_cons.1 h with rfl | h
      · exact .inr (List.mem_cons_self ..)
      · rcases ih h with h | h
        · exact .inl h
        · exact .inr (List.mem_cons_of_mem _ h)
theorem ins_rising {x : Nat} {B : List Nat} (h : Rising B) : Rising (ins x B) := by
  induction B with
  | nil => trivial
  | cons b B ih =>
    unfold ins
    split
    · rename_i hx
      exact ⟨hx, h⟩
    · refine Rising.cons (ih h.tail) (fun y hy => ?_)
      rcases ins_mem hy with rfl | hy
      · omega
      · exact h.head y hy
theorem isort_rising (f : List Nat) : Rising (isort f) := by
  induction f with
  | nil => trivial
  | cons x f ih => exact ins_rising ih
def sumH (A : List Nat) (r : Nat) : Nat := (A.take r).sum
theorem sumH_zero (A : List Nat) : sumH A 0 = 0 := by simp [sumH]
theorem sumH_cons (b : Nat) (B : List Nat) (r : Nat) : sumH (b :: B) (r + 1) = b + sumH B r := by simp [sumH]
theorem sumH_less {x : Nat} {B : List Nat} (h : ∀ y ∈ B, x ≤ y) (r : Nat) (hr : r < B.length) : x + sumH B r ≤ sumH B (r + 1) := by
  induction B generalizing r with
  | nil => simp at hr
  | cons b B ih =>
    cases r with
    | zero => rw [sumH_zero, sumH_cons, sumH_zero]; have := h b (List.mem_cons_self ..); omega
    | succ r =>
      rw [sumH_cons, sumH_cons]
      have := ih (fun y hy => h y (List.mem_cons_of_mem _ hy)) r (by simpa using hr)
      omega
theorem ins_one (x : Nat) (B : List Nat) (r : Nat) : sumH (ins x B) (r + 1) ≤ x + sumH B r := by
  induction B generalizing r with
  | nil => simp [ins, sumH]
  | cons b B ih =>
    unfold ins
    split
    · rw [sumH_cons]; exact Nat.le_refl _
    · rename_i hx
      rw [sumH_cons]
      cases r with
      | zero => rw [sumH_zero, sumH_zero]; omega
      | succ r => rw [sumH_cons]; have := ih r; omega
theorem ins_two {x : Nat} {B : List Nat} (h : Rising B) (r : Nat) (hr : r ≤ B.length) : sumH (ins x B) r ≤ sumH B r := by
  induction B generalizing r with
  | nil => have : r = 0 := by simpa using hr
           subst this; simp [sumH]
  | cons b B ih =>
    cases r with
    | zero => simp [sumH]
    | succ r =>
      unfold ins
      split
      · rename_i hx
        rw [sumH_cons]
        exact sumH_less (fun y hy => by
          rcases List.mem_cons.1 hy with rfl | hy
          · exact hx
          · exact Nat.le_trans hx (h.head y hy)) r (by simp at hr ⊢; omega)
      · rw [sumH_cons, sumH_cons]
        have := ih h.tail r (by simpa using hr)
        omega
theorem small_sum {f S : List Nat} (h : S.Sublist f) : sumH (isort f) S.length ≤ S.sum := by
  induction h with
  | slnil => simp [sumH]
  | cons x hs ih =>
    refine Nat.le_trans (ins_two (isort_rising _) _ ?_) ih
    rw [isort_length]
    exact hs.length_le
  | cons_cons x hs ih =>
    rw [List.length_cons, List.sum_cons]
    exact Nat.le_trans (ins_one x _ _) (by omega)
/-! Costs. -/
def cost : List Nat → List Nat → Nat
  | x :: f, y :: l => x * y + cost f l
  | _, _ => 0
def kraft (l : List Nat) : Nat := (l.map share).sum
def sel : List Nat → List Nat → Nat → List Nat
  | x :: f, y :: l, k => if k < y then x :: sel f l k else sel f l k
  | _, _, _ => []
def cntG (l : List Nat) (k : Nat) : Nat := l.countP (k < ·)
theorem sel_sub (f l : List Nat) (k : Nat) : (sel f l k).Sublist f := by
  induction f generalizing l with
  | nil => simp [sel]
  | cons x f ih =>
    cases l with
    | nil => simp [sel]
    | cons y l =>
      unfold sel
      split
      · exact (ih l).cons_cons x
      · exact (ih l).cons x
theorem sel_length (f l : List Nat) (k : Nat) (h : l.length = f.length) : (sel f l k).length = cntG l k := by
  induction f generalizing l with
  | nil => have : l = [] := List.eq_nil_of_length_eq_zero h
           subst this; rfl
  | cons x f ih =>
    cases l with
    | nil => simp at h
    | cons y l =>
      have := ih l (by simpa using h)
      unfold cntG at this ⊢
      rw [List.countP_cons, ← this]
      simp only [sel]
      split
      · rename_i hk; simp [hk]
      · rename_i hk; simp [hk]
def sumK (g : Nat → Nat) : Nat → Nat
  | 0 => 0
  | k + 1 => sumK g k + g k
theorem sumK_add (g h : Nat → Nat) (k : Nat) : sumK (fun i => g i + h i) k = sumK g k + sumK h k := by
  induction k with
  | zero => rfl
  | succ k ih => simp only [sumK, ih]; omega
theorem sumK_le {g h : Nat → Nat} (k : Nat) (hl : ∀ i, i < k → g i ≤ h i) : sumK g k ≤ sumK h k := by
  induction k with
  | zero => exact Nat.le_refl _
  | succ k ih =>
    have := ih (fun i hi => hl i (by omega))
    have := hl k (by omega)
    simp only [sumK]; omega
theorem sumK_congr {g h : Nat → Nat} (k : Nat) (hl : ∀ i, i < k → g i = h i) : sumK g k = sumK h k := by
  induction k with
  | zero => rfl
  | succ k ih => simp only [sumK, ih (fun i hi => hl i (by omega)), hl k (by omega)]
theorem sumK_if (x y k : Nat) : sumK (fun i => if i < y then x else 0) k = x * min y k := by
  induction k with
  | zero => simp [sumK]
  | succ k ih =>
    simp only [sumK, ih]
    by_cases h : k < y
    · rw [if_pos h, Nat.min_eq_right (by omega), Nat.min_eq_right (by omega), Nat.mul_succ]
    · rw [if_neg h, Nat.min_eq_left (by omega), Nat.min_eq_left (by omega), Nat.add_zero]
theorem cost_levels (f l : List Nat) (L : Nat) (h : l.length = f.length) (hL : ∀ x ∈ l, x ≤ L) : cost f l = sumK (fun k => (sel f l k).sum) L := by
  induction f generalizing l with
  | nil =>
    have : l = [] := List.eq_nil_of_length_eq_zero h
    subst this
    rw [sumK_congr (h := fun k => if k < 0 then 0 else 0) L (by intro i _; simp [sel]), sumK_if]
    simp [cost]
  | cons x f ih =>
    cases l with
    | nil => simp at h
    | cons y l =>
      have hy := hL y (List.mem_cons_self ..)
      have h1 := ih l (by simpa using h) (fun z hz => hL z (List.mem_cons_of_mem _ hz))
      have h2 := sumK_if x y L
      rw [Nat.min_eq_left hy] at h2
      rw [sumK_congr (h := fun k => (if k < y then x else 0) + (sel f l k).sum) L (by
        intro k _
        simp only [sel]
        split <;> simp), sumK_add, h2, ← h1]
      rfl
def base (f l : List Nat) (L : Nat) : Nat := sumK (fun k => sumH (isort f) (cntG l k)) L
theorem base_le (f l : List Nat) (L : Nat) (h : l.length = f.length) (hL : ∀ x ∈ l, x ≤ L) : base f l L ≤ cost f l := by
  rw [cost_levels f l L h hL]
  refine sumK_le L (fun k _ => ?_)
  rw [← sel_length f l k h]
  exact small_sum (sel_sub f l k)
structure Ok (f : List Nat) (L : Nat) (l : List Nat) : Prop where
  len : l.length = f.length
  lo : ∀ x ∈ l, 1 ≤ x
  hi : ∀ x ∈ l, x ≤ L
  kr : kraft l ≤ 1073741824
structure Least (f : List Nat) (L : Nat) (l : List Nat) : Prop where
  ok : Ok f L l
  min : ∀ l', Ok f L l' → cost f l ≤ cost f l'
theorem kraft_cons (y : Nat) (l : List Nat) : kraft (y :: l) = share y + kraft l := by simp [kraft]
theorem kraft_set (l : List Nat) (i x : Nat) (h : i < l.length) : kraft (l.set i x) + share l[i] = kraft l + share x := by
  induction l generalizing i with
  | nil => simp at h
  | cons y l ih =>
    cases i with
    | zero => simp [kraft]; omega
    | succ i =>
      have := ih i (by simpa using h)
      simp only [List.set_cons_succ, List.getElem_cons_succ, kraft_cons]
      omega
theorem cost_set (f l : List Nat) (i x : Nat) (h : i < l.length) (hf : i < f.length) : cost f (l.set i x) + f[i] * l[i] = cost f l + f[i] * x := by
  induction l generalizing i f with
  | nil => simp at h
  | cons y l ih =>
    cases f with
    | nil => simp at hf
    | cons z f =>
      cases i with
      | zero => simp only [List.set_cons_zero, List.getElem_cons_zero, cost]; omega
      | succ i =>
        have := ih f i (by simpa using h) (by simpa using hf)
        simp only [List.set_cons_succ, List.getElem_cons_succ, cost]
        omega
theorem kraft_dvd (l : List Nat) (m : Nat) (hm : m ≤ 30) (h : ∀ x ∈ l, x ≤ m) : share m ∣ kraft l := by
  induction l with
  | nil => exact ⟨0, by simp [kraft]⟩
  | cons y l ih =>
    rw [kraft_cons]
    exact Nat.dvd_add (share_dvd y m (h y (List.mem_cons_self ..)) hm) (ih (fun x hx => h x (List.mem_cons_of_mem _ hx)))
theorem top_dvd (m : Nat) (hm : m ≤ 30) : share m ∣ 1073741824 := ⟨2 ^ m, by rw [Nat.mul_comm, share_top m hm]⟩
theorem has_max : ∀ (l : List Nat), l ≠ [] → ∃ i, ∃ h : i < l.length, ∀ x ∈ l, x ≤ l[i]
  | [], h => absurd rfl h
  | [y], _ => ⟨0, by simp, by simp⟩
  | y :: z :: l, _ => by
    obtain ⟨i, h, hm⟩ := has_max (z :: l) (by simp)
    by_cases hy : (z :: l)[i] ≤ y
    · exact ⟨0, by simp, fun x hx => by
        rcases List.mem_cons.1 hx with rfl | hx
        · exact Nat.le_refl _
        · exact Nat.le_trans (hm x hx) hy⟩
    · exact ⟨i + 1, by simpa using h, fun x hx => by
        rw [List.getElem_cons_succ]
        rcases List.mem_cons.1 hx with rfl | hx
        · omega
        · exact hm x hx⟩
theorem kraft_ones (l : List Nat) (h : ∀ x ∈ l, x = 1) : kraft l = l.length * 536870912 := by
  induction l with
  | nil => rfl
  | cons y l ih =>
    have e := h y (List.mem_cons_self ..)
    rw [kraft_cons, ih (fun x hx => h x (List.mem_cons_of_mem _ hx)), e, List.length_cons, Nat.succ_mul]
    have : share 1 = 536870912 := rfl
    omega
theorem shorten {f : List Nat} {L : Nat} {l : List Nat} (h : Ok f L l) (hL : L ≤ 30) (h2 : 2 ≤ f.length) (hf : ∀ x ∈ f, 1 ≤ x) (hk : kraft l < 1073741824) : ∃ l', Ok f L l' ∧ cost f l' < cost f l := by
  have hne : l ≠ [] := by
    intro e
    have := h.len
    rw [e] at this
    simp at this
    omega
  obtain ⟨i, hi, hm⟩ := has_max l hne
  have hi1 := h.lo l[i] (List.getElem_mem hi)
  have hi2 := h.hi l[i] (List.getElem_mem hi)
  have hif : i < f.length := by rw [← h.len]; exact hi
  have hfi := hf f[i] (List.getElem_mem hif)
  have hdv := kraft_dvd l l[i] (by omega) hm
  have htp := top_dvd l[i] (by omega)
  have hroom : kraft l + share l[i] ≤ 1073741824 := by
    obtain ⟨a, ha⟩ := hdv
    obtain ⟨b, hb⟩ := htp
    rw [ha, hb] at hk ⊢
    have : a < b := Nat.lt_of_mul_lt_mul_left hk
    rw [← Nat.mul_succ]
    exact Nat.mul_le_mul_left _ this
  by_cases h1 : l[i] = 1
  · exfalso
    have := kraft_ones l (fun x hx => by have := hm x hx; have := h.lo x hx; omega)
    rw [this, h.len] at hk
    omega
  · have hs := share_mul (l[i] - 1) l[i] (by omega) (by omega)
    rw [show l[i] - (l[i] - 1) = 1 by omega] at hs
    have hks := kraft_set l i (l[i] - 1) hi
    have hcs := cost_set f l i (l[i] - 1) hi hif
    refine ⟨l.set i (l[i] - 1), ⟨by rw [List.length_set]; exact h.len, fun x hx => ?_, fun x hx => ?_, by omega⟩, ?_⟩
    · rcases List.mem_or_eq_of_mem_set hx with hx | rfl
      · exact h.lo x hx
      · omega
    · rcases List.mem_or_eq_of_mem_set hx with hx | rfl
      · exact h.hi x hx
      · omega
    · have : f[i] * (l[i] - 1) + f[i] = f[i] * l[i] := by rw [← Nat.mul_succ]; congr 1; omega
      omega
theorem Least.full {f : List Nat} {L : Nat} {l : List Nat} (h : Least f L l) (hL : L ≤ 30) (h2 : 2 ≤ f.length) (hf : ∀ x ∈ f, 1 ≤ x) : kraft l = 1073741824 := by
  rcases Nat.lt_or_ge (kraft l) 1073741824 with hk | hk
  · obtain ⟨l', h1, h3⟩ := shorten h.ok hL h2 hf hk
    have := h.min l' h1
    omega
  · have := h.ok.kr; omega
theorem to_full {f : List Nat} {L : Nat} (hL : L ≤ 30) (h2 : 2 ≤ f.length) (hf : ∀ x ∈ f, 1 ≤ x) : ∀ (n : Nat) (l : List Nat), cost f l ≤ n → Ok f L l → ∃ l', Ok f L l' ∧ cost f l' ≤ cost f l ∧ kraft l' = 1073741824 := by
  intro n
  induction n with
  | zero =>
    intro l hn h
    rcases Nat.lt_or_ge (kraft l) 1073741824 with hk | hk
    · obtain ⟨l', _, h3⟩ := shorten h hL h2 hf hk
      omega
    · exact ⟨l, h, Nat.le_refl _, by have := h.kr; omega⟩
  | succ n ih =>
    intro l hn h
    rcases Nat.lt_or_ge (kraft l) 1073741824 with hk | hk
    · obtain ⟨l', h1, h3⟩ := shorten h hL h2 hf hk
      obtain ⟨l2, g1, g2, g3⟩ := ih l' (by omega) h1
      exact ⟨l2, g1, by omega, g3⟩
    · exact ⟨l, h, Nat.le_refl _, by have := h.kr; omega⟩
end Go.Proofs.Ytjafcjnkefioeaa.Lm
/- Full lengths, level by level; no word is qs long qs there are things; the least sum of parcels; no program in sight. -/
namespace Go.Proofs.Ytjafcjnkefioeaa.Lm
open Go.Proofs.Ytjafcjnkefioeaa.Bit Go.Proofs.Ytjafcjnkefioeaa.Hf
def taken : List Nat → Nat → Nat
  | [], _ => 0
  | y :: l, k => (if k < y then share y else 0) + taken l k
def before : List Nat → Nat → Nat
  | [], _ => 0
  | y :: l, k => (if k < y then 0 else share y) + before l k
theorem both (l : List Nat) (k : Nat) : before l k + taken l k = kraft l := by
  induction l with
  | nil => rfl
  | cons y l ih =>
    rw [kraft_cons]
    simp only [before, taken]
    split <;> omega
def cntE (l : List Nat) (k : Nat) : Nat := l.countP (· == k)
theorem cntG_cons (y : Nat) (l : List Nat) (k : Nat) : cntG (y :: l) k = (if k < y then 1 else 0) + cntG l k := by
  unfold cntG
  rw [List.countP_cons]
  by_cases h : k < y
  · simp [h]; omega
  · simp [h]
theorem cntE_cons (y : Nat) (l : List Nat) (k : Nat) : cntE (y :: l) k = (if y = k then 1 else 0) + cntE l k := by
  unfold cntE
  rw [List.countP_cons]
  by_cases h : y = k
  · simp [h]; omega
  · simp [h]
theorem cntG_step (l : List Nat) (k : Nat) : cntG l k = cntE l (k + 1) + cntG l (k + 1) := by
  induction l with
  | nil => rfl
  | cons y l ih =>
    rw [cntG_cons, cntG_cons, cntE_cons]
    by_cases h : y = k + 1
    · subst h; simp; omega
    · by_cases h2 : k < y
      · rw [if_pos h2, if_neg h, if_pos (by omega)]; omega
      · rw [if_neg h2, if_neg h, if_neg (by omega)]; omega
theorem taken_step (l : List Nat) (k : Nat) : taken l k = cntE l (k + 1) * share (k + 1) + taken l (k + 1) := by
  induction l with
  | nil => simp [taken, cntE]
  | cons y l ih =>
    rw [cntE_cons]
    simp only [taken]
    by_cases h : y = k + 1
    · subst h
      rw [if_pos (by omega), if_pos rfl, if_neg (by omega), Nat.add_mul]
      omega
    · by_cases h2 : k < y
      · rw [if_pos h2, if_neg h, if_pos (by omega), Nat.zero_add]; omega
      · rw [if_neg h2, if_neg h, if_neg (by omega)]; simp only [Nat.zero_add]; omega
theorem before_dvd (l : List Nat) (k : Nat) (hk : k ≤ 30) : share k ∣ before l k := by
  induction l with
  | nil => exact ⟨0, by simp [before]⟩
  | cons y l ih =>
    simp only [before]
    refine Nat.dvd_add ?_ ih
    split
    · exact ⟨0, by simp⟩
    · exact share_dvd y k (by omega) hk
theorem taken_dvd {l : List Nat} (h : kraft l = 1073741824) (k : Nat) (hk : k ≤ 30) : share k ∣ taken l k := by
  have h1 := both l k
  rw [h] at h1
  have h2 := before_dvd l k hk
  have h3 := top_dvd k hk
  rw [← h1] at h3
  exact (Nat.dvd_add_right h2).1 h3
theorem taken_zero (l : List Nat) (h : ∀ x ∈ l, 1 ≤ x) : taken l 0 = kraft l := by
  induction l with
  | nil => rfl
  | cons y l ih =>
    have := h y (List.mem_cons_self ..)
    rw [kraft_cons, ← ih (fun x hx => h x (List.mem_cons_of_mem _ hx))]
    simp only [taken]
    rw [if_pos (by omega)]
theorem cntG_zero (l : List Nat) (h : ∀ x ∈ l, 1 ≤ x) : cntG l 0 = l.length := by
  induction l with
  | nil => rfl
  | cons y l ih =>
    have := h y (List.mem_cons_self ..)
    rw [cntG_cons, ih (fun x hx => h x (List.mem_cons_of_mem _ hx)), if_pos (by omega), List.length_cons]
    omega
theorem taken_none (l : List Nat) (m : Nat) (h : ∀ x ∈ l, x ≤ m) : taken l m = 0 := by
  induction l with
  | nil => rfl
  | cons y l ih =>
    have := h y (List.mem_cons_self ..)
    simp only [taken]
    rw [ih (fun x hx => h x (List.mem_cons_of_mem _ hx)), if_neg (by omega)]
theorem cntG_none (l : List Nat) (m : Nat) (h : ∀ x ∈ l, x ≤ m) : cntG l m = 0 := by
  induction l with
  | nil => rfl
  | cons y l ih =>
    have := h y (List.mem_cons_self ..)
    rw [cntG_cons, ih (fun x hx => h x (List.mem_cons_of_mem _ hx)), if_neg (by omega)]
theorem taken_pos {l : List Nat} {m k : Nat} (hm : m ∈ l) (hk : k < m) : 0 < taken l k := by
  induction l with
  | nil => cases hm
  | cons y l ih =>
    simp only [taken]
    rcases List.mem_cons.1 hm with rfl | hm
    · rw [if_pos hk]; have := share_pos m; omega
    · have := ih hm; omega
theorem share_two (k : Nat) (h : k < 30) : share k = 2 * share (k + 1) := by
  have := share_mul k (k + 1) (by omega) (by omega)
  rw [show k + 1 - k = 1 by omega] at this
  omega
theorem open_step {l : List Nat} {k o : Nat} (hk : k < 30) (ho : taken l k = o * share k) (hd : share (k + 1) ∣ taken l (k + 1)) : ∃ p, taken l (k + 1) = p * share (k + 1) ∧ 2 * o = cntE l (k + 1) + p := by
  obtain ⟨p, hp⟩ := hd
  have h1 := taken_step l k
  have h2 := share_two k hk
  have h3 := share_pos (k + 1)
  refine ⟨p, by rw [hp, Nat.mul_comm], ?_⟩
  have e : 2 * o * share (k + 1) = (cntE l (k + 1) + p) * share (k + 1) := by
    rw [Nat.add_mul, Nat.mul_comm p, ← hp, ← h1, ho, h2, Nat.mul_comm 2 o, Nat.mul_assoc]
  exact Nat.eq_of_mul_eq_mul_right h3 e
theorem deep {l : List Nat} {m : Nat} (hk1 : kraft l = 1073741824) (hm : m ∈ l) (hmax : ∀ x ∈ l, x ≤ m) (hm30 : m ≤ 30) :
    ∀ (d k o : Nat), 1 ≤ d → k + d = m → 1 ≤ o → taken l k = o * share k → o + d ≤ cntG l k := by
  intro d
  induction d with
  | zero => intro k o h; omega
  | succ d ih =>
    intro k o _ hkd ho1 ho
    obtain ⟨p, hp, hpo⟩ := open_step (by omega) ho (taken_dvd hk1 (k + 1) (by omega))
    have hs := cntG_step l k
    rcases Nat.eq_zero_or_pos d with h0 | h0
    · subst h0
      have h1 := taken_none l (k + 1) (fun x hx => by have := hmax x hx; omega)
      have h2 := share_pos (k + 1)
      rw [h1] at hp
      have : p = 0 := by
        rcases Nat.eq_zero_or_pos p with h | h
        · exact h
        · have := Nat.mul_pos h h2; omega
      omega
    · have h1 := taken_pos (k := k + 1) hm (by omega)
      have hp1 : 1 ≤ p := by
        rcases Nat.eq_zero_or_pos p with h | h
        · subst h; omega
        · exact h
      have := ih (k + 1) p h0 (by omega) hp1 hp
      omega
/-! Parcels. -/
def pairs : List Nat → List Nat
  | a :: b :: P => (a + b) :: pairs P
  | _ => []
theorem pairs_length : ∀ (P : List Nat), (pairs P).length = P.length / 2
  | [] => by simp [pairs]
  | [_] => by simp [pairs]
  | a :: b :: P => by
    simp only [pairs, List.length_cons, pairs_length P]
    omega
theorem pairs_sum : ∀ (P : List Nat) (b : Nat), 2 * b ≤ P.length → sumH (pairs P) b = sumH P (2 * b)
  | _, 0, _ => by simp [sumH]
  | [], b + 1, h => by simp at h
  | [_], b + 1, h => by simp at h; omega
  | x :: y :: P, b + 1, h => by
    have := pairs_sum P b (by simp at h; omega)
    rw [pairs, sumH_cons, this, show 2 * (b + 1) = 2 * b + 1 + 1 by omega, sumH_cons, sumH_cons]
    omega
def parcels (f : List Nat) : Nat → List Nat
  | 0 => []
  | t + 1 => isort (isort f ++ pairs (parcels f t))
def Tot : List Nat → Nat → Prop
  | [], j => j = 0
  | a :: qs, j => ∃ b, j = a + b ∧ Tot qs (2 * b)
theorem parcels_least (f : List Nat) : ∀ (qs : List Nat) (j : Nat), Tot qs j → (∀ a ∈ qs, a ≤ f.length) → j ≤ (parcels f qs.length).length ∧ sumH (parcels f qs.length) j ≤ (qs.map (sumH (isort f))).sum := by
  intro qs
  induction qs with
  | nil => intro j h _; simp only [Tot] at h; subst h; simp [parcels, sumH]
  | cons a qs ih =>
    intro j h ha
    obtain ⟨b, rfl, hb⟩ := h
    obtain ⟨h1, h2⟩ := ih (2 * b) hb (fun x hx => ha x (List.mem_cons_of_mem _ hx))
    have haf := ha a (List.mem_cons_self ..)
    have hpl := pairs_length (parcels f qs.length)
    have hps := pairs_sum (parcels f qs.length) b h1
    have e : parcels f (a :: qs).length = isort (isort f ++ pairs (parcels f qs.length)) := rfl
    rw [e]
    generalize parcels f qs.length = P at h1 h2 hpl hps ⊢
    have hal : ((isort f).take a).length = a := by rw [List.length_take, isort_length]; omega
    have hbl : ((pairs P).take b).length = b := by rw [List.length_take]; omega
    refine ⟨?_, ?_⟩
    · rw [isort_length, List.length_append, isort_length]; omega
    · have hs : ((isort f).take a ++ (pairs P).take b).Sublist (isort f ++ pairs P) := List.Sublist.append (List.take_sublist _ _) (List.take_sublist _ _)
      have := small_sum hs
      rw [List.length_append, hal, hbl, List.sum_append] at this
      rw [List.map_cons, List.sum_cons]
      have e1 : ((pairs P).take b).sum = sumH (pairs P) b := rfl
      have e2 : ((isort f).take a).sum = sumH (isort f) a := rfl
      omega
def levels (l : List Nat) (k : Nat) : Nat → List Nat
  | 0 => []
  | t + 1 => cntG l k :: levels l (k + 1) t
theorem levels_length (l : List Nat) (t k : Nat) : (levels l k t).length = t := by
  induction t generalizing k with
  | zero => rfl
  | succ t ih => simp [levels, ih]
theorem levels_bd (l : List Nat) (t k : Nat) : ∀ a ∈ levels l k t, a ≤ l.length := by
  induction t generalizing k with
  | zero => intro a h; cases h
  | succ t ih =>
    intro a h
    rcases List.mem_cons.1 h with rfl | h
    · exact List.countP_le_length
    · exact ih (k + 1) a h
theorem sumK_shift (g : Nat → Nat) (t : Nat) : sumK g (t + 1) = g 0 + sumK (fun i => g (i + 1)) t := by
  induction t with
  | zero => simp [sumK]
  | succ t ih => rw [sumK, ih]; simp only [sumK]; omega
theorem levels_sum (g : Nat → Nat) (l : List Nat) (t k : Nat) : ((levels l k t).map g).sum = sumK (fun i => g (cntG l (k + i))) t := by
  induction t generalizing k with
  | zero => rfl
  | succ t ih =>
    rw [sumK_shift]
    simp only [levels, List.map_cons, List.sum_cons, ih (k + 1), Nat.add_zero]
    congr 1
    refine sumK_congr t (fun i _ => ?_)
    rw [show k + 1 + i = k + (i + 1) by omega]
theorem open_less {l : List Nat} {k o : Nat} (hk : k < 30) (ho : taken l k = o * share k) : o ≤ cntG l k := by
  have key : ∀ l : List Nat, taken l k ≤ cntG l k * share k := by
    intro l
    induction l with
    | nil => simp [taken]
    | cons y l ih =>
      rw [cntG_cons]
      simp only [taken]
      split
      · rename_i h
        have : share y ≤ share k := Nat.le_of_dvd (share_pos k) (by
          rcases Nat.lt_or_ge 30 y with h30 | h30
          · unfold share
            rw [show 30 - y = 0 by omega]
            exact Nat.one_dvd _
          · exact share_dvd k y (by omega) h30)
        rw [Nat.add_mul]; omega
      · rw [Nat.zero_add, Nat.zero_add]; exact ih
  have h1 := key l
  rw [ho] at h1
  exact Nat.le_of_mul_le_mul_right h1 (share_pos k)
theorem full_tot {l : List Nat} {L : Nat} (hk1 : kraft l = 1073741824) (hhi : ∀ x ∈ l, x ≤ L) (hL : L ≤ 30) :
    ∀ (t k o : Nat), 1 ≤ t → k + t = L → taken l k = o * share k → Tot (levels l k t) (2 * (cntG l k - o)) := by
  intro t
  induction t with
  | zero => intro k o h; omega
  | succ t ih =>
    intro k o _ hkt ho
    obtain ⟨p, hp, hpo⟩ := open_step (by omega) ho (taken_dvd hk1 (k + 1) (by omega))
    have hs := cntG_step l k
    have hol := open_less (by omega) ho
    rcases Nat.eq_zero_or_pos t with h0 | h0
    · subst h0
      have h1 := taken_none l (k + 1) (fun x hx => by have := hhi x hx; omega)
      have h2 := cntG_none l (k + 1) (fun x hx => by have := hhi x hx; omega)
      rw [h1] at hp
      have hp0 : p = 0 := by
        rcases Nat.eq_zero_or_pos p with h | h
        · exact h
        · have := Nat.mul_pos h (share_pos (k + 1)); omega
      exact ⟨0, by omega, by simp [levels, Tot]⟩
    · have hpl : p ≤ cntG l (k + 1) := by
        rcases Nat.lt_or_ge (k + 1) 30 with h30 | h30
        · exact open_less h30 hp
        · omega
      have := ih (k + 1) p h0 (by omega) hp
      exact ⟨cntG l (k + 1) - p, by omega, this⟩
theorem parcels_low {f : List Nat} {L : Nat} {l : List Nat} (h : Ok f L l) (hL1 : 1 ≤ L) (hL : L ≤ 30) (h2 : 2 ≤ f.length) (hf : ∀ x ∈ f, 1 ≤ x) : sumH (parcels f L) (2 * (f.length - 1)) ≤ cost f l := by
  obtain ⟨l', g1, g2, g3⟩ := to_full hL h2 hf _ l (Nat.le_refl _) h
  have ht := full_tot g3 g1.hi hL L 0 1 hL1 (by omega) (by rw [taken_zero l' g1.lo, g3]; rfl)
  rw [cntG_zero l' g1.lo, g1.len] at ht
  obtain ⟨_, h5⟩ := parcels_least f _ _ ht (fun a ha => by rw [← g1.len]; exact levels_bd l' L 0 a ha)
  rw [levels_length, levels_sum] at h5
  refine Nat.le_trans h5 (Nat.le_trans ?_ g2)
  refine Nat.le_trans (Nat.le_of_eq (sumK_congr L (fun i _ => ?_))) (base_le f l' L g1.len g1.hi)
  rw [Nat.zero_add]
end Go.Proofs.Ytjafcjnkefioeaa.Lm
/- Least costs in another order, twice as often, and of what comes more often; things that don't come; no program in sight. -/
namespace Go.Proofs.Ytjafcjnkefioeaa.Lm
open Go.Proofs.Ytjafcjnkefioeaa.Bit Go.Proofs.Ytjafcjnkefioeaa.Hf
theorem ok_exists (f : List Nat) (L : Nat) (hL1 : 1 ≤ L) (hL : L ≤ 30) (hn : f.length ≤ 2 ^ L) : Ok f L (List.replicate f.length L) := by
  refine ⟨by simp, fun x hx => ?_, fun x hx => ?_, ?_⟩
  · rw [List.eq_of_mem_replicate hx]; exact hL1
  · rw [List.eq_of_mem_replicate hx]; exact Nat.le_refl _
  · unfold kraft
    rw [List.map_replicate, List.sum_replicate_nat, ← share_top L hL]
    exact Nat.mul_le_mul_right _ hn
theorem least_one (x L : Nat) (hL : 1 ≤ L) : Least [x] L [1] := by
  refine ⟨⟨rfl, by simp, by simpa using hL, by decide⟩, fun l' h => ?_⟩
  match l', h.len with
  | [y], _ =>
    have := h.lo y (by simp)
    simp only [cost]
    have := Nat.mul_le_mul_left x this
    omega
theorem least_none (L : Nat) : Least [] L [] := ⟨⟨rfl, by simp, by simp, by decide⟩, fun l' _ => by simp [cost]⟩
/-! Things that don't come. -/
def come (o : List Nat) : List Nat := o.filter (0 < ·)
def comeL : List Nat → List Nat → List Nat
  | x :: o, y :: l => if 0 < x then y :: comeL o l else comeL o l
  | _, _ => []
theorem come_pos (o : List Nat) : ∀ x ∈ come o, 1 ≤ x := by
  intro x hx
  have := (List.mem_filter.1 hx).2
  simp at this
  omega
end Go.Proofs.Ytjafcjnkefioeaa.Lm
/- The least cost, level by level: what the search over 'so many words given, so many places open' comes to; no program in sight. -/
namespace Go.Proofs.Ytjafcjnkefioeaa.Lm
open Go.Proofs.Ytjafcjnkefioeaa.Bit Go.Proofs.Ytjafcjnkefioeaa.Hf
theorem ins_perm (x : Nat) (B : List Nat) : (ins x B).Perm (x :: B) := by
  induction B with
  | nil => exact List.Perm.refl _
  | cons b B ih =>
    unfold ins
    split
    · exact List.Perm.refl _
    · exact (ih.cons b).trans (List.Perm.swap ..)
theorem isort_perm (f : List Nat) : (isort f).Perm f := by
  induction f with
  | nil => exact List.Perm.refl _
  | cons x f ih => exact (ins_perm x _).trans (ih.cons x)
end Go.Proofs.Ytjafcjnkefioeaa.Lm
/- The document's table of least costs, level by level, as a function that is bettered step by step; no program in sight. -/
namespace Go.Proofs.Ytjafcjnkefioeaa.Lm
open Go.Proofs.Ytjafcjnkefioeaa.Bit Go.Proofs.Ytjafcjnkefioeaa.Hf
def far : Nat := 1152921504606846976
end Go.Proofs.Ytjafcjnkefioeaa.Lm
/- Things taken at each level as coins: how often each is taken serves as its length; no program in sight. -/
namespace Go.Proofs.Ytjafcjnkefioeaa.Lm
open Go.Proofs.Ytjafcjnkefioeaa.Bit Go.Proofs.Ytjafcjnkefioeaa.Hf
theorem sumK_mul (g : Nat → Nat) (c n : Nat) : sumK (fun r => c * g r) n = c * sumK g n := by
  induction n with
  | zero => rfl
  | succ n ih => simp only [sumK, ih, Nat.mul_add]
theorem sumK_const (c n : Nat) : sumK (fun _ => c) n = n * c := by
  induction n with
  | zero => simp [sumK]
  | succ n ih => simp only [sumK, ih, Nat.succ_mul]
theorem sumK_one {g : Nat → Nat} {n r : Nat} (h : r < n) : g r ≤ sumK g n := by
  induction n with
  | zero => omega
  | succ n ih =>
    simp only [sumK]
    by_cases hr : r = n
    · subst hr; omega
    · have := ih (by omega); omega
theorem sumK_two {g : Nat → Nat} {n r s : Nat} (hr : r < n) (hs : s < n) (hrs : r < s) : g r + g s ≤ sumK g n := by
  induction n with
  | zero => omega
  | succ n ih =>
    simp only [sumK]
    by_cases h : s = n
    · subst h
      have := sumK_one (g := g) (n := s) (r := r) hrs
      omega
    · have := ih (by omega) (by omega); omega
def cntP (n : Nat) (p : Nat → Bool) : Nat := sumK (fun r => (p r).toNat) n
def lenP : List (Nat → Bool) → Nat → Nat
  | [], _ => 0
  | p :: ps, r => (p r).toNat + lenP ps r
theorem lenP_le (ps : List (Nat → Bool)) (r : Nat) : lenP ps r ≤ ps.length := by
  induction ps with
  | nil => simp [lenP]
  | cons p ps ih => simp only [lenP, List.length_cons]; cases p r <;> simp <;> omega
def widP : List (Nat → Bool) → Nat → Nat
  | [], _ => 0
  | p :: ps, r => (p r).toNat * 2 ^ ps.length + widP ps r
theorem room (ps : List (Nat → Bool)) (r : Nat) : 2 ^ (ps.length - lenP ps r) + widP ps r ≤ 2 ^ ps.length := by
  induction ps with
  | nil => simp [lenP, widP]
  | cons p ps ih =>
    have hl := lenP_le ps r
    simp only [lenP, widP, List.length_cons]
    cases p r
    · have e : 2 ^ (ps.length + 1 - (0 + lenP ps r)) = 2 * 2 ^ (ps.length - lenP ps r) := by
        rw [show ps.length + 1 - (0 + lenP ps r) = (ps.length - lenP ps r) + 1 by omega, Nat.pow_succ, Nat.mul_comm]
      simp only [Bool.toNat_false]
      rw [e, Nat.pow_succ]
      omega
    · simp only [Bool.toNat_true, Nat.one_mul]
      rw [show ps.length + 1 - (1 + lenP ps r) = ps.length - lenP ps r by omega, Nat.pow_succ]
      omega
def widA (n : Nat) : List (Nat → Bool) → Nat
  | [] => 0
  | p :: ps => cntP n p * 2 ^ ps.length + widA n ps
theorem widA_sum (n : Nat) (ps : List (Nat → Bool)) : sumK (widP ps) n = widA n ps := by
  induction ps with
  | nil => simp only [widP, widA]; rw [sumK_const]; omega
  | cons p ps ih =>
    have e : sumK (widP (p :: ps)) n = sumK (fun r => 2 ^ ps.length * (p r).toNat + widP ps r) n := sumK_congr n (fun r _ => by simp only [widP]; rw [Nat.mul_comm])
    rw [e, sumK_add, sumK_mul, ih]
    simp only [widA, cntP]
    rw [Nat.mul_comm]
theorem tot_wid (n : Nat) : ∀ (ps : List (Nat → Bool)) (j : Nat), Tot (ps.map (cntP n)) j → 2 * widA n ps = j * 2 ^ ps.length := by
  intro ps
  induction ps with
  | nil => intro j h; simp only [List.map_nil, Tot] at h; subst h; simp [widA]
  | cons p ps ih =>
    intro j h
    obtain ⟨b, rfl, hb⟩ := h
    have := ih _ hb
    simp only [widA, List.length_cons, Nat.pow_succ]
    rw [Nat.mul_add, this, Nat.add_mul]
    generalize 2 ^ ps.length = x
    have e1 : 2 * (cntP n p * x) = cntP n p * (x * 2) := by rw [Nat.mul_comm 2, Nat.mul_assoc]
    have e2 : 2 * b * x = b * (x * 2) := by rw [Nat.mul_comm 2 b, Nat.mul_assoc, Nat.mul_comm 2 x]
    omega
def lensP (n : Nat) (ps : List (Nat → Bool)) : List Nat := (List.range n).map (lenP ps)
theorem lensP_length (n : Nat) (ps : List (Nat → Bool)) : (lensP n ps).length = n := by simp [lensP]
theorem sum_range (g : Nat → Nat) (n : Nat) : ((List.range n).map g).sum = sumK g n := by
  induction n with
  | zero => rfl
  | succ n ih => rw [List.range_succ, List.map_append, List.sum_append, ih]; simp [sumK]
theorem coins_ok {f : List Nat} {L : Nat} {ps : List (Nat → Bool)} (h2 : 2 ≤ f.length) (hL : L ≤ 30) (hp : ps.length = L) (ht : Tot (ps.map (cntP f.length)) (2 * (f.length - 1))) : Ok f L (lensP f.length ps) := by
  subst hp
  have hw := tot_wid f.length ps _ ht
  have hs := widA_sum f.length ps
  have hsum : sumK (fun r => 2 ^ (ps.length - lenP ps r)) f.length + widA f.length ps ≤ f.length * 2 ^ ps.length := by
    rw [← hs, ← sumK_add, ← sumK_const]
    exact sumK_le _ (fun r _ => room ps r)
  have hone : sumK (fun r => 2 ^ (ps.length - lenP ps r)) f.length ≤ 2 ^ ps.length := by
    have e : f.length * 2 ^ ps.length = (f.length - 1) * 2 ^ ps.length + 2 ^ ps.length := by
      rw [← Nat.succ_mul]; congr 1; omega
    have e2 : 2 * (f.length - 1) * 2 ^ ps.length = 2 * ((f.length - 1) * 2 ^ ps.length) := Nat.mul_assoc ..
    omega
  refine ⟨lensP_length _ _, fun x hx => ?_, fun x hx => ?_, ?_⟩
  · obtain ⟨r, hr, rfl⟩ := List.mem_map.1 hx
    have hr : r < f.length := by simpa using hr
    rcases Nat.eq_zero_or_pos (lenP ps r) with h0 | h0
    · exfalso
      have hpos : ∀ s, 0 < 2 ^ (ps.length - lenP ps s) := fun s => Nat.pow_pos (by omega)
      have hbig : 2 ^ (ps.length - lenP ps r) = 2 ^ ps.length := by rw [h0, Nat.sub_zero]
      rcases Nat.eq_zero_or_pos r with hr0 | hr0
      · have h9 : 2 ^ (ps.length - lenP ps r) + 2 ^ (ps.length - lenP ps 1) ≤ sumK (fun r => 2 ^ (ps.length - lenP ps r)) f.length := sumK_two (g := fun r => 2 ^ (ps.length - lenP ps r)) hr (by omega) (by omega)
        have := hpos 1
        omega
      · have h9 : 2 ^ (ps.length - lenP ps 0) + 2 ^ (ps.length - lenP ps r) ≤ sumK (fun r => 2 ^ (ps.length - lenP ps r)) f.length := sumK_two (g := fun r => 2 ^ (ps.length - lenP ps r)) (by omega) hr hr0
        have := hpos 0
        omega
    · exact h0
  · obtain ⟨r, _, rfl⟩ := List.mem_map.1 hx
    exact lenP_le ps r
  · unfold kraft lensP
    rw [List.map_map, sum_range]
    have e : sumK (share ∘ lenP ps) f.length = sumK (fun r => 2 ^ (30 - ps.length) * 2 ^ (ps.length - lenP ps r)) f.length := sumK_congr _ (fun r _ => by
      have := lenP_le ps r
      show 2 ^ (30 - lenP ps r) = _
      rw [← Nat.pow_add]
      congr 1
      omega)
    rw [e, sumK_mul]
    refine Nat.le_trans (Nat.mul_le_mul_left _ hone) ?_
    rw [← Nat.pow_add, show 30 - ps.length + ps.length = 30 by omega]
    exact Nat.le_refl _
theorem cost_range (f : List Nat) (g : Nat → Nat) : cost f ((List.range f.length).map g) = sumK (fun r => f.getD r 0 * g r) f.length := by
  have key : ∀ (f : List Nat) (g : Nat → Nat), cost f ((List.range f.length).map g) = sumK (fun r => f.getD r 0 * g r) f.length := by
    intro f
    induction f with
    | nil => intro g; rfl
    | cons x f ih =>
      intro g
      rw [List.length_cons, List.range_succ_eq_map, List.map_cons, List.map_map, sumK_shift]
      simp only [cost]
      rw [ih (g ∘ Nat.succ)]
      rfl
  exact key f g
def selP (f : List Nat) (p : Nat → Bool) : Nat := sumK (fun r => f.getD r 0 * (p r).toNat) f.length
theorem cost_coins (f : List Nat) (ps : List (Nat → Bool)) : cost f (lensP f.length ps) = (ps.map (selP f)).sum := by
  unfold lensP
  rw [cost_range]
  induction ps with
  | nil => simp only [lenP, Nat.mul_zero]; rw [sumK_const]; simp
  | cons p ps ih =>
    have e : sumK (fun r => f.getD r 0 * lenP (p :: ps) r) f.length = sumK (fun r => f.getD r 0 * (p r).toNat + f.getD r 0 * lenP ps r) f.length := sumK_congr _ (fun r _ => by simp only [lenP]; rw [Nat.mul_add])
    rw [e, sumK_add, ih, List.map_cons, List.sum_cons]
    rfl
theorem coins_least {f : List Nat} {L : Nat} {ps : List (Nat → Bool)} (h2 : 2 ≤ f.length) (hf : ∀ x ∈ f, 1 ≤ x) (hL1 : 1 ≤ L) (hL : L ≤ 30) (hp : ps.length = L) (ht : Tot (ps.map (cntP f.length)) (2 * (f.length - 1)))
    (hw : (ps.map (selP f)).sum ≤ sumH (parcels f L) (2 * (f.length - 1))) : Least f L (lensP f.length ps) := by
  refine ⟨coins_ok h2 hL hp ht, fun l' h => ?_⟩
  rw [cost_coins]
  exact Nat.le_trans hw (parcels_low h hL1 hL h2 hf)
theorem rising_is : ∀ (M : List Nat), Rising M → isort M = M
  | [], _ => rfl
  | x :: M, h => by
    have h1 := rising_is M h.tail
    simp only [isort, h1]
    cases M with
    | nil => rfl
    | cons y M => unfold ins; rw [if_pos h.1]
theorem ins_comm (x y : Nat) (B : List Nat) : ins x (ins y B) = ins y (ins x B) := by
  induction B with
  | nil =>
    simp only [ins]
    by_cases h : x ≤ y
    · by_cases h2 : y ≤ x
      · have : x = y := by omega
        subst this; rfl
      · rw [if_pos h, if_neg h2]
    · rw [if_neg h, if_pos (by omega)]
  | cons b B ih =>
    simp only [ins]
    by_cases hx : x ≤ b
    · by_cases hy : y ≤ b
      · rw [if_pos hy, if_pos hx]
        simp only [ins]
        by_cases h : x ≤ y
        · by_cases h2 : y ≤ x
          · have : x = y := by omega
            subst this; rfl
          · rw [if_pos h, if_neg h2, if_pos hy]
        · rw [if_neg h, if_pos hx, if_pos (show y ≤ x by omega)]
      · rw [if_neg hy, if_pos hx]
        simp only [ins]
        rw [if_pos hx, if_neg (by omega), if_neg hy]
    · by_cases hy : y ≤ b
      · rw [if_pos hy, if_neg hx]
        simp only [ins]
        rw [if_neg (by omega), if_neg hx, if_pos hy]
      · rw [if_neg hy, if_neg hx]
        simp only [ins]
        rw [if_neg hx, if_neg hy, ih]
theorem isort_perm_eq {a b : List Nat} (h : a.Perm b) : isort a = isort b := by
  induction h with
  | nil => rfl
  | cons x _ ih => simp only [isort, ih]
  | swap x y l => simp only [isort]; exact ins_comm y x _
  | trans _ _ h1 h2 => rw [h1, h2]
theorem rising_perm {M B : List Nat} (h : Rising M) (hp : M.Perm B) : M = isort B := by rw [← isort_perm_eq hp, rising_is M h]
end Go.Proofs.Ytjafcjnkefioeaa.Lm

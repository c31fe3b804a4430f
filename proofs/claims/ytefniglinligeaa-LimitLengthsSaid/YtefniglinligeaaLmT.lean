
/- Full lengths, level by level; no word is as long as there are things; the least sum of parcels; no program in sight. -/
import Derived.Test.YtefniglinligeaaLmM
namespace Go.Proofs.Ytefniglinligeaa.Lm
open Go.Proofs.Ytefniglinligeaa.Bit Go.Proofs.Ytefniglinligeaa.Hf
set_option linter.unusedVariables false
set_option linter.unusedSimpArgs false

/-- what the words longer than so many bits take -/
def taken : List Nat → Nat → Nat
  | [], _ => 0
  | y :: l, k => (if k < y then share y else 0) + taken l k
/-- what the others take -/
def before : List Nat → Nat → Nat
  | [], _ => 0
  | y :: l, k => (if k < y then 0 else share y) + before l k
theorem both (l : List Nat) (k : Nat) : before l k + taken l k = kraft l := by
  induction l with
  | nil => rfl
  | cons y l ih =>
    rw [kraft_cons]
    simp only [before, taken]
    split <;> omega
def cntE (l : List Nat) (k : Nat) : Nat := l.countP (· == k)
theorem cntG_cons (y : Nat) (l : List Nat) (k : Nat) : cntG (y :: l) k = (if k < y then 1 else 0) + cntG l k := by
  unfold cntG
  rw [List.countP_cons]
  by_cases h : k < y
  · simp [h]; omega
  · simp [h]
theorem cntE_cons (y : Nat) (l : List Nat) (k : Nat) : cntE (y :: l) k = (if y = k then 1 else 0) + cntE l k := by
  unfold cntE
  rw [List.countP_cons]
  by_cases h : y = k
  · simp [h]; omega
  · simp [h]
theorem cntG_step (l : List Nat) (k : Nat) : cntG l k = cntE l (k + 1) + cntG l (k + 1) := by
  induction l with
  | nil => rfl
  | cons y l ih =>
    rw [cntG_cons, cntG_cons, cntE_cons]
    by_cases h : y = k + 1
    · subst h; simp; omega
    · by_cases h2 : k < y
      · rw [if_pos h2, if_neg h, if_pos (by omega)]; omega
      · rw [if_neg h2, if_neg h, if_neg (by omega)]; omega
theorem taken_step (l : List Nat) (k : Nat) : taken l k = cntE l (k + 1) * share (k + 1) + taken l (k + 1) := by
  induction l with
  | nil => simp [taken, cntE]
  | cons y l ih =>
    rw [cntE_cons]
    simp only [taken]
    by_cases h : y = k + 1
    · subst h
      rw [if_pos (by omega), if_pos rfl, if_neg (by omega), Nat.add_mul]
      omega
    · by_cases h2 : k < y
      · rw [if_pos h2, if_neg h, if_pos (by omega), Nat.zero_add]; omega
      · rw [if_neg h2, if_neg h, if_neg (by omega)]; simp only [Nat.zero_add]; omega
theorem before_step (l : List Nat) (k : Nat) : before l (k + 1) = cntE l (k + 1) * share (k + 1) + before l k := by
  have h1 := both l k
  have h2 := both l (k + 1)
  have h3 := taken_step l k
  omega
theorem before_dvd (l : List Nat) (k : Nat) (hk : k ≤ 30) : share k ∣ before l k := by
  induction l with
  | nil => exact ⟨0, by simp [before]⟩
  | cons y l ih =>
    simp only [before]
    refine Nat.dvd_add ?_ ih
    split
    · exact ⟨0, by simp⟩
    · exact share_dvd y k (by omega) hk
theorem taken_dvd {l : List Nat} (h : kraft l = 1073741824) (k : Nat) (hk : k ≤ 30) : share k ∣ taken l k := by
  have h1 := both l k
  rw [h] at h1
  have h2 := before_dvd l k hk
  have h3 := top_dvd k hk
  rw [← h1] at h3
  exact (Nat.dvd_add_right h2).1 h3
theorem taken_zero (l : List Nat) (h : ∀ x ∈ l, 1 ≤ x) : taken l 0 = kraft l := by
  induction l with
  | nil => rfl
  | cons y l ih =>
    have := h y (List.mem_cons_self ..)
    rw [kraft_cons, ← ih (fun x hx => h x (List.mem_cons_of_mem _ hx))]
    simp only [taken]
    rw [if_pos (by omega)]
theorem cntG_zero (l : List Nat) (h : ∀ x ∈ l, 1 ≤ x) : cntG l 0 = l.length := by
  induction l with
  | nil => rfl
  | cons y l ih =>
    have := h y (List.mem_cons_self ..)
    rw [cntG_cons, ih (fun x hx => h x (List.mem_cons_of_mem _ hx)), if_pos (by omega), List.length_cons]
    omega
theorem taken_none (l : List Nat) (m : Nat) (h : ∀ x ∈ l, x ≤ m) : taken l m = 0 := by
  induction l with
  | nil => rfl
  | cons y l ih =>
    have := h y (List.mem_cons_self ..)
    simp only [taken]
    rw [ih (fun x hx => h x (List.mem_cons_of_mem _ hx)), if_neg (by omega)]
theorem cntG_none (l : List Nat) (m : Nat) (h : ∀ x ∈ l, x ≤ m) : cntG l m = 0 := by
  induction l with
  | nil => rfl
  | cons y l ih =>
    have := h y (List.mem_cons_self ..)
    rw [cntG_cons, ih (fun x hx => h x (List.mem_cons_of_mem _ hx)), if_neg (by omega)]
theorem taken_pos {l : List Nat} {m k : Nat} (hm : m ∈ l) (hk : k < m) : 0 < taken l k := by
  induction l with
  | nil => cases hm
  | cons y l ih =>
    simp only [taken]
    rcases List.mem_cons.1 hm with rfl | hm
    · rw [if_pos hk]; have := share_pos m; omega
    · have := ih hm; omega
theorem share_two (k : Nat) (h : k < 30) : share k = 2 * share (k + 1) := by
  have := share_mul k (k + 1) (by omega) (by omega)
  rw [show k + 1 - k = 1 by omega] at this
  omega
/-- how many open places stand before so many bits, of full lengths -/
theorem open_step {l : List Nat} {k o : Nat} (hk : k < 30) (ho : taken l k = o * share k) (hd : share (k + 1) ∣ taken l (k + 1)) : ∃ p, taken l (k + 1) = p * share (k + 1) ∧ 2 * o = cntE l (k + 1) + p := by
  obtain ⟨p, hp⟩ := hd
  have h1 := taken_step l k
  have h2 := share_two k hk
  have h3 := share_pos (k + 1)
  refine ⟨p, by rw [hp, Nat.mul_comm], ?_⟩
  have e : 2 * o * share (k + 1) = (cntE l (k + 1) + p) * share (k + 1) := by
    rw [Nat.add_mul, Nat.mul_comm p, ← hp, ← h1, ho, h2, Nat.mul_comm 2 o, Nat.mul_assoc]
  exact Nat.eq_of_mul_eq_mul_right h3 e
/-- full words: below each level there are more than its open places and what it goes down -/
theorem deep {l : List Nat} {m : Nat} (hk1 : kraft l = 1073741824) (hm : m ∈ l) (hmax : ∀ x ∈ l, x ≤ m) (hm30 : m ≤ 30) :
    ∀ (d k o : Nat), 1 ≤ d → k + d = m → 1 ≤ o → taken l k = o * share k → o + d ≤ cntG l k := by
  intro d
  induction d with
  | zero => intro k o h; omega
  | succ d ih =>
    intro k o _ hkd ho1 ho
    obtain ⟨p, hp, hpo⟩ := open_step (by omega) ho (taken_dvd hk1 (k + 1) (by omega))
    have hs := cntG_step l k
    rcases Nat.eq_zero_or_pos d with h0 | h0
    · subst h0
      have h1 := taken_none l (k + 1) (fun x hx => by have := hmax x hx; omega)
      have h2 := share_pos (k + 1)
      rw [h1] at hp
      have : p = 0 := by
        rcases Nat.eq_zero_or_pos p with h | h
        · exact h
        · have := Nat.mul_pos h h2; omega
      omega
    · have h1 := taken_pos (k := k + 1) hm (by omega)
      have hp1 : 1 ≤ p := by
        rcases Nat.eq_zero_or_pos p with h | h
        · subst h; omega
        · exact h
      have := ih (k + 1) p h0 (by omega) hp1 hp
      omega
theorem no_longer {l : List Nat} (hk1 : kraft l = 1073741824) (hlo : ∀ x ∈ l, 1 ≤ x) (hhi : ∀ x ∈ l, x ≤ 30) : ∀ x ∈ l, x + 1 ≤ l.length := by
  intro x hx
  obtain ⟨i, hi, hmax⟩ := has_max l (by intro e; rw [e] at hx; cases hx)
  have hm := List.getElem_mem hi
  have h1 := deep hk1 hm hmax (hhi _ hm) l[i] 0 1 (hlo _ hm) (by omega) (Nat.le_refl _) (by rw [taken_zero l hlo, hk1]; rfl)
  rw [cntG_zero l hlo] at h1
  have := hmax x hx
  omega
/-! Parcels. -/
def pairs : List Nat → List Nat
  | a :: b :: P => (a + b) :: pairs P
  | _ => []
theorem pairs_length : ∀ (P : List Nat), (pairs P).length = P.length / 2
  | [] => by simp [pairs]
  | [_] => by simp [pairs]
  | a :: b :: P => by
    simp only [pairs, List.length_cons, pairs_length P]
    omega
theorem pairs_sum : ∀ (P : List Nat) (b : Nat), 2 * b ≤ P.length → sumH (pairs P) b = sumH P (2 * b)
  | _, 0, _ => by simp [sumH]
  | [], b + 1, h => by simp at h
  | [_], b + 1, h => by simp at h; omega
  | x :: y :: P, b + 1, h => by
    have := pairs_sum P b (by simp at h; omega)
    rw [pairs, sumH_cons, this, show 2 * (b + 1) = 2 * b + 1 + 1 by omega, sumH_cons, sumH_cons]
    omega
/-- the parcels of so many levels -/
def parcels (f : List Nat) : Nat → List Nat
  | 0 => []
  | t + 1 => isort (isort f ++ pairs (parcels f t))
/-- so many things at each level come to so many parcels -/
def Tot : List Nat → Nat → Prop
  | [], j => j = 0
  | a :: as, j => ∃ b, j = a + b ∧ Tot as (2 * b)
theorem sumH_all (A : List Nat) (r : Nat) : sumH A r = (A.take r).sum := rfl
theorem parcels_least (f : List Nat) : ∀ (as : List Nat) (j : Nat), Tot as j → (∀ a ∈ as, a ≤ f.length) → j ≤ (parcels f as.length).length ∧ sumH (parcels f as.length) j ≤ (as.map (sumH (isort f))).sum := by
  intro as
  induction as with
  | nil => intro j h _; simp only [Tot] at h; subst h; simp [parcels, sumH]
  | cons a as ih =>
    intro j h ha
    obtain ⟨b, rfl, hb⟩ := h
    obtain ⟨h1, h2⟩ := ih (2 * b) hb (fun x hx => ha x (List.mem_cons_of_mem _ hx))
    have haf := ha a (List.mem_cons_self ..)
    have hpl := pairs_length (parcels f as.length)
    have hps := pairs_sum (parcels f as.length) b h1
    have e : parcels f (a :: as).length = isort (isort f ++ pairs (parcels f as.length)) := rfl
    rw [e]
    generalize parcels f as.length = P at h1 h2 hpl hps ⊢
    have hal : ((isort f).take a).length = a := by rw [List.length_take, isort_length]; omega
    have hbl : ((pairs P).take b).length = b := by rw [List.length_take]; omega
    refine ⟨?_, ?_⟩
    · rw [isort_length, List.length_append, isort_length]; omega
    · have hs : ((isort f).take a ++ (pairs P).take b).Sublist (isort f ++ pairs P) := List.Sublist.append (List.take_sublist _ _) (List.take_sublist _ _)
      have := small_sum hs
      rw [List.length_append, hal, hbl, List.sum_append] at this
      rw [List.map_cons, List.sum_cons]
      have e1 : ((pairs P).take b).sum = sumH (pairs P) b := rfl
      have e2 : ((isort f).take a).sum = sumH (isort f) a := rfl
      omega
/-- how many things have a word at least so long, level by level -/
def levels (l : List Nat) (k : Nat) : Nat → List Nat
  | 0 => []
  | t + 1 => cntG l k :: levels l (k + 1) t
theorem levels_length (l : List Nat) (t k : Nat) : (levels l k t).length = t := by
  induction t generalizing k with
  | zero => rfl
  | succ t ih => simp [levels, ih]
theorem levels_bd (l : List Nat) (t k : Nat) : ∀ a ∈ levels l k t, a ≤ l.length := by
  induction t generalizing k with
  | zero => intro a h; cases h
  | succ t ih =>
    intro a h
    rcases List.mem_cons.1 h with rfl | h
    · exact List.countP_le_length
    · exact ih (k + 1) a h
theorem sumK_shift (g : Nat → Nat) (t : Nat) : sumK g (t + 1) = g 0 + sumK (fun i => g (i + 1)) t := by
  induction t with
  | zero => simp [sumK]
  | succ t ih => rw [sumK, ih]; simp only [sumK]; omega
theorem levels_sum (g : Nat → Nat) (l : List Nat) (t k : Nat) : ((levels l k t).map g).sum = sumK (fun i => g (cntG l (k + i))) t := by
  induction t generalizing k with
  | zero => rfl
  | succ t ih =>
    rw [sumK_shift]
    simp only [levels, List.map_cons, List.sum_cons, ih (k + 1), Nat.add_zero]
    congr 1
    refine sumK_congr t (fun i _ => ?_)
    rw [show k + 1 + i = k + (i + 1) by omega]
theorem open_less {l : List Nat} {k o : Nat} (hk : k < 30) (ho : taken l k = o * share k) : o ≤ cntG l k := by
  have key : ∀ l : List Nat, taken l k ≤ cntG l k * share k := by
    intro l
    induction l with
    | nil => simp [taken]
    | cons y l ih =>
      rw [cntG_cons]
      simp only [taken]
      split
      · rename_i h
        have : share y ≤ share k := Nat.le_of_dvd (share_pos k) (by
          rcases Nat.lt_or_ge 30 y with h30 | h30
          · unfold share
            rw [show 30 - y = 0 by omega]
            exact Nat.one_dvd _
          · exact share_dvd k y (by omega) h30)
        rw [Nat.add_mul]; omega
      · rw [Nat.zero_add, Nat.zero_add]; exact ih
  have h1 := key l
  rw [ho] at h1
  exact Nat.le_of_mul_le_mul_right h1 (share_pos k)
/-- full lengths' counts come to two parcels for each thing, but two -/
theorem full_tot {l : List Nat} {L : Nat} (hk1 : kraft l = 1073741824) (hhi : ∀ x ∈ l, x ≤ L) (hL : L ≤ 30) :
    ∀ (t k o : Nat), 1 ≤ t → k + t = L → taken l k = o * share k → Tot (levels l k t) (2 * (cntG l k - o)) := by
  intro t
  induction t with
  | zero => intro k o h; omega
  | succ t ih =>
    intro k o _ hkt ho
    obtain ⟨p, hp, hpo⟩ := open_step (by omega) ho (taken_dvd hk1 (k + 1) (by omega))
    have hs := cntG_step l k
    have hol := open_less (by omega) ho
    rcases Nat.eq_zero_or_pos t with h0 | h0
    · subst h0
      have h1 := taken_none l (k + 1) (fun x hx => by have := hhi x hx; omega)
      have h2 := cntG_none l (k + 1) (fun x hx => by have := hhi x hx; omega)
      rw [h1] at hp
      have hp0 : p = 0 := by
        rcases Nat.eq_zero_or_pos p with h | h
        · exact h
        · have := Nat.mul_pos h (share_pos (k + 1)); omega
      exact ⟨0, by omega, by simp [levels, Tot]⟩
    · have hpl : p ≤ cntG l (k + 1) := by
        rcases Nat.lt_or_ge (k + 1) 30 with h30 | h30
        · exact open_less h30 hp
        · omega
      have := ih (k + 1) p h0 (by omega) hp
      exact ⟨cntG l (k + 1) - p, by omega, this⟩
/-- no lengths cost less than the least parcels -/
theorem parcels_low {f : List Nat} {L : Nat} {l : List Nat} (h : Ok f L l) (hL1 : 1 ≤ L) (hL : L ≤ 30) (h2 : 2 ≤ f.length) (hf : ∀ x ∈ f, 1 ≤ x) : sumH (parcels f L) (2 * (f.length - 1)) ≤ cost f l := by
  obtain ⟨l', g1, g2, g3⟩ := to_full hL h2 hf _ l (Nat.le_refl _) h
  have ht := full_tot g3 g1.hi hL L 0 1 hL1 (by omega) (by rw [taken_zero l' g1.lo, g3]; rfl)
  rw [cntG_zero l' g1.lo, g1.len] at ht
  obtain ⟨_, h5⟩ := parcels_least f _ _ ht (fun a ha => by rw [← g1.len]; exact levels_bd l' L 0 a ha)
  rw [levels_length, levels_sum] at h5
  refine Nat.le_trans h5 (Nat.le_trans ?_ g2)
  refine Nat.le_trans (Nat.le_of_eq (sumK_congr L (fun i _ => ?_))) (base_le f l' L g1.len g1.hi)
  rw [Nat.zero_add]
end Go.Proofs.Ytefniglinligeaa.Lm


/- Things taken at each level as coins: how often each is taken serves as its length; no program in sight. -/
import Derived.Test.YtefniglinligeaaLmS
namespace Go.Proofs.Ytefniglinligeaa.Lm
open Go.Proofs.Ytefniglinligeaa.Bit Go.Proofs.Ytefniglinligeaa.Hf
set_option linter.unusedVariables false
set_option linter.unusedSimpArgs false

/-- the sum of a function over the first so many places -/
theorem sumK_mul (g : Nat → Nat) (c n : Nat) : sumK (fun r => c * g r) n = c * sumK g n := by
  induction n with
  | zero => rfl
  | succ n ih => simp only [sumK, ih, Nat.mul_add]
theorem sumK_const (c n : Nat) : sumK (fun _ => c) n = n * c := by
  induction n with
  | zero => simp [sumK]
  | succ n ih => simp only [sumK, ih, Nat.succ_mul]
theorem sumK_one {g : Nat → Nat} {n r : Nat} (h : r < n) : g r ≤ sumK g n := by
  induction n with
  | zero => omega
  | succ n ih =>
    simp only [sumK]
    by_cases hr : r = n
    · subst hr; omega
    · have := ih (by omega); omega
theorem sumK_two {g : Nat → Nat} {n r s : Nat} (hr : r < n) (hs : s < n) (hrs : r < s) : g r + g s ≤ sumK g n := by
  induction n with
  | zero => omega
  | succ n ih =>
    simp only [sumK]
    by_cases h : s = n
    · subst h
      have := sumK_one (g := g) (n := s) (r := r) hrs
      omega
    · have := ih (by omega) (by omega); omega
/-- how many things a level takes -/
def cntP (n : Nat) (p : Nat → Bool) : Nat := sumK (fun r => (p r).toNat) n
/-- how often a thing is taken -/
def lenP : List (Nat → Bool) → Nat → Nat
  | [], _ => 0
  | p :: ps, r => (p r).toNat + lenP ps r
theorem lenP_le (ps : List (Nat → Bool)) (r : Nat) : lenP ps r ≤ ps.length := by
  induction ps with
  | nil => simp [lenP]
  | cons p ps ih => simp only [lenP, List.length_cons]; cases p r <;> simp <;> omega
/-- how wide a thing's coins are together -/
def widP : List (Nat → Bool) → Nat → Nat
  | [], _ => 0
  | p :: ps, r => (p r).toNat * 2 ^ ps.length + widP ps r
theorem room (ps : List (Nat → Bool)) (r : Nat) : 2 ^ (ps.length - lenP ps r) + widP ps r ≤ 2 ^ ps.length := by
  induction ps with
  | nil => simp [lenP, widP]
  | cons p ps ih =>
    have hl := lenP_le ps r
    simp only [lenP, widP, List.length_cons]
    cases p r
    · have e : 2 ^ (ps.length + 1 - (0 + lenP ps r)) = 2 * 2 ^ (ps.length - lenP ps r) := by
        rw [show ps.length + 1 - (0 + lenP ps r) = (ps.length - lenP ps r) + 1 by omega, Nat.pow_succ, Nat.mul_comm]
      simp only [Bool.toNat_false]
      rw [e, Nat.pow_succ]
      omega
    · simp only [Bool.toNat_true, Nat.one_mul]
      rw [show ps.length + 1 - (1 + lenP ps r) = ps.length - lenP ps r by omega, Nat.pow_succ]
      omega
/-- the width of all coins -/
def widA (n : Nat) : List (Nat → Bool) → Nat
  | [] => 0
  | p :: ps => cntP n p * 2 ^ ps.length + widA n ps
theorem widA_sum (n : Nat) (ps : List (Nat → Bool)) : sumK (widP ps) n = widA n ps := by
  induction ps with
  | nil => simp only [widP, widA]; rw [sumK_const]; omega
  | cons p ps ih =>
    have e : sumK (widP (p :: ps)) n = sumK (fun r => 2 ^ ps.length * (p r).toNat + widP ps r) n := sumK_congr n (fun r _ => by simp only [widP]; rw [Nat.mul_comm])
    rw [e, sumK_add, sumK_mul, ih]
    simp only [widA, cntP]
    rw [Nat.mul_comm]
theorem tot_wid (n : Nat) : ∀ (ps : List (Nat → Bool)) (j : Nat), Tot (ps.map (cntP n)) j → 2 * widA n ps = j * 2 ^ ps.length := by
  intro ps
  induction ps with
  | nil => intro j h; simp only [List.map_nil, Tot] at h; subst h; simp [widA]
  | cons p ps ih =>
    intro j h
    obtain ⟨b, rfl, hb⟩ := h
    have := ih _ hb
    simp only [widA, List.length_cons, Nat.pow_succ]
    rw [Nat.mul_add, this, Nat.add_mul]
    generalize 2 ^ ps.length = x
    have e1 : 2 * (cntP n p * x) = cntP n p * (x * 2) := by rw [Nat.mul_comm 2, Nat.mul_assoc]
    have e2 : 2 * b * x = b * (x * 2) := by rw [Nat.mul_comm 2 b, Nat.mul_assoc, Nat.mul_comm 2 x]
    omega
/-- the lengths -/
def lensP (n : Nat) (ps : List (Nat → Bool)) : List Nat := (List.range n).map (lenP ps)
theorem lensP_length (n : Nat) (ps : List (Nat → Bool)) : (lensP n ps).length = n := by simp [lensP]
theorem sum_range (g : Nat → Nat) (n : Nat) : ((List.range n).map g).sum = sumK g n := by
  induction n with
  | zero => rfl
  | succ n ih => rw [List.range_succ, List.map_append, List.sum_append, ih]; simp [sumK]
theorem coins_ok {f : List Nat} {L : Nat} {ps : List (Nat → Bool)} (h2 : 2 ≤ f.length) (hL : L ≤ 30) (hp : ps.length = L) (ht : Tot (ps.map (cntP f.length)) (2 * (f.length - 1))) : Ok f L (lensP f.length ps) := by
  subst hp
  have hw := tot_wid f.length ps _ ht
  have hs := widA_sum f.length ps
  have hsum : sumK (fun r => 2 ^ (ps.length - lenP ps r)) f.length + widA f.length ps ≤ f.length * 2 ^ ps.length := by
    rw [← hs, ← sumK_add, ← sumK_const]
    exact sumK_le _ (fun r _ => room ps r)
  have hone : sumK (fun r => 2 ^ (ps.length - lenP ps r)) f.length ≤ 2 ^ ps.length := by
    have e : f.length * 2 ^ ps.length = (f.length - 1) * 2 ^ ps.length + 2 ^ ps.length := by
      rw [← Nat.succ_mul]; congr 1; omega
    have e2 : 2 * (f.length - 1) * 2 ^ ps.length = 2 * ((f.length - 1) * 2 ^ ps.length) := Nat.mul_assoc ..
    omega
  refine ⟨lensP_length _ _, fun x hx => ?_, fun x hx => ?_, ?_⟩
  · obtain ⟨r, hr, rfl⟩ := List.mem_map.1 hx
    have hr : r < f.length := by simpa using hr
    rcases Nat.eq_zero_or_pos (lenP ps r) with h0 | h0
    · exfalso
      have hpos : ∀ s, 0 < 2 ^ (ps.length - lenP ps s) := fun s => Nat.pow_pos (by omega)
      have hbig : 2 ^ (ps.length - lenP ps r) = 2 ^ ps.length := by rw [h0, Nat.sub_zero]
      rcases Nat.eq_zero_or_pos r with hr0 | hr0
      · have h9 : 2 ^ (ps.length - lenP ps r) + 2 ^ (ps.length - lenP ps 1) ≤ sumK (fun r => 2 ^ (ps.length - lenP ps r)) f.length := sumK_two (g := fun r => 2 ^ (ps.length - lenP ps r)) hr (by omega) (by omega)
        have := hpos 1
        omega
      · have h9 : 2 ^ (ps.length - lenP ps 0) + 2 ^ (ps.length - lenP ps r) ≤ sumK (fun r => 2 ^ (ps.length - lenP ps r)) f.length := sumK_two (g := fun r => 2 ^ (ps.length - lenP ps r)) (by omega) hr hr0
        have := hpos 0
        omega
    · exact h0
  · obtain ⟨r, _, rfl⟩ := List.mem_map.1 hx
    exact lenP_le ps r
  · unfold kraft lensP
    rw [List.map_map, sum_range]
    have e : sumK (share ∘ lenP ps) f.length = sumK (fun r => 2 ^ (30 - ps.length) * 2 ^ (ps.length - lenP ps r)) f.length := sumK_congr _ (fun r _ => by
      have := lenP_le ps r
      show 2 ^ (30 - lenP ps r) = _
      rw [← Nat.pow_add]
      congr 1
      omega)
    rw [e, sumK_mul]
    refine Nat.le_trans (Nat.mul_le_mul_left _ hone) ?_
    rw [← Nat.pow_add, show 30 - ps.length + ps.length = 30 by omega]
    exact Nat.le_refl _
theorem cost_range (f : List Nat) (g : Nat → Nat) : cost f ((List.range f.length).map g) = sumK (fun r => f.getD r 0 * g r) f.length := by
  have key : ∀ (f : List Nat) (g : Nat → Nat), cost f ((List.range f.length).map g) = sumK (fun r => f.getD r 0 * g r) f.length := by
    intro f
    induction f with
    | nil => intro g; rfl
    | cons x f ih =>
      intro g
      rw [List.length_cons, List.range_succ_eq_map, List.map_cons, List.map_map, sumK_shift]
      simp only [cost]
      rw [ih (g ∘ Nat.succ)]
      rfl
  exact key f g
/-- what a level's things weigh -/
def selP (f : List Nat) (p : Nat → Bool) : Nat := sumK (fun r => f.getD r 0 * (p r).toNat) f.length
theorem cost_coins (f : List Nat) (ps : List (Nat → Bool)) : cost f (lensP f.length ps) = (ps.map (selP f)).sum := by
  unfold lensP
  rw [cost_range]
  induction ps with
  | nil => simp only [lenP, Nat.mul_zero]; rw [sumK_const]; simp
  | cons p ps ih =>
    have e : sumK (fun r => f.getD r 0 * lenP (p :: ps) r) f.length = sumK (fun r => f.getD r 0 * (p r).toNat + f.getD r 0 * lenP ps r) f.length := sumK_congr _ (fun r _ => by simp only [lenP]; rw [Nat.mul_add])
    rw [e, sumK_add, ih, List.map_cons, List.sum_cons]
    rfl
/-- coins that weigh no more than the least parcels are least lengths -/
theorem coins_least {f : List Nat} {L : Nat} {ps : List (Nat → Bool)} (h2 : 2 ≤ f.length) (hf : ∀ x ∈ f, 1 ≤ x) (hL1 : 1 ≤ L) (hL : L ≤ 30) (hp : ps.length = L) (ht : Tot (ps.map (cntP f.length)) (2 * (f.length - 1)))
    (hw : (ps.map (selP f)).sum ≤ sumH (parcels f L) (2 * (f.length - 1))) : Least f L (lensP f.length ps) := by
  refine ⟨coins_ok h2 hL hp ht, fun l' h => ?_⟩
  rw [cost_coins]
  exact Nat.le_trans hw (parcels_low h hL1 hL h2 hf)
/-- a rising row is what sorting gives -/
theorem rising_is : ∀ (M : List Nat), Rising M → isort M = M
  | [], _ => rfl
  | x :: M, h => by
    have h1 := rising_is M h.tail
    simp only [isort, h1]
    cases M with
    | nil => rfl
    | cons y M => unfold ins; rw [if_pos h.1]
theorem ins_comm (x y : Nat) (B : List Nat) : ins x (ins y B) = ins y (ins x B) := by
  induction B with
  | nil =>
    simp only [ins]
    by_cases h : x ≤ y
    · by_cases h2 : y ≤ x
      · have : x = y := by omega
        subst this; rfl
      · rw [if_pos h, if_neg h2]
    · rw [if_neg h, if_pos (by omega)]
  | cons b B ih =>
    simp only [ins]
    by_cases hx : x ≤ b
    · by_cases hy : y ≤ b
      · rw [if_pos hy, if_pos hx]
        simp only [ins]
        by_cases h : x ≤ y
        · by_cases h2 : y ≤ x
          · have : x = y := by omega
            subst this; rfl
          · rw [if_pos h, if_neg h2, if_pos hy]
        · rw [if_neg h, if_pos hx, if_pos (show y ≤ x by omega)]
      · rw [if_neg hy, if_pos hx]
        simp only [ins]
        rw [if_pos hx, if_neg (by omega), if_neg hy]
    · by_cases hy : y ≤ b
      · rw [if_pos hy, if_neg hx]
        simp only [ins]
        rw [if_neg (by omega), if_neg hx, if_pos hy]
      · rw [if_neg hy, if_neg hx]
        simp only [ins]
        rw [if_neg hx, if_neg hy, ih]
theorem isort_perm_eq {a b : List Nat} (h : a.Perm b) : isort a = isort b := by
  induction h with
  | nil => rfl
  | cons x _ ih => simp only [isort, ih]
  | swap x y l => simp only [isort]; exact ins_comm y x _
  | trans _ _ h1 h2 => rw [h1, h2]
/-- a rising row of the same numbers -/
theorem rising_perm {M B : List Nat} (h : Rising M) (hp : M.Perm B) : M = isort B := by rw [← isort_perm_eq hp, rising_is M h]
end Go.Proofs.Ytefniglinligeaa.Lm

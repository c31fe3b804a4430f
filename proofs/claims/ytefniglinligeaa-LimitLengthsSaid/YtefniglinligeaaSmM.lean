
/- Merging two sorted halves by turning them about a place (SymMerge): the plain facts, over an array; no program in sight. -/
import Derived.Sort.LotA
namespace Go.Proofs.Ytefniglinligeaa.Sm
open Go.Sort
set_option linter.unusedVariables false
set_option linter.unusedSimpArgs false
variable {α : Type} [Inhabited α] {lt : α → α → Bool}

/-- so many places of one stretch changed for another's -/
def swR (a b : Nat) : Nat → Array α → Array α
  | 0, d => d
  | n + 1, d => swp (swR a b n d) (a + n) (b + n)
theorem swR_size (a b n : Nat) (d : Array α) : (swR a b n d).size = d.size := by
  induction n with
  | zero => rfl
  | succ n ih => simp only [swR, size_swp, ih]
theorem swR_perm {lo hi a b n : Nat} {d : Array α} (h1 : lo ≤ a) (h2 : a + n ≤ b) (h3 : b + n ≤ hi) (h4 : hi ≤ d.size) : PermIn lo hi d (swR a b n d) := by
  induction n with
  | zero => exact permIn_refl _ _ _
  | succ n ih => exact permIn_trans _ _ _ _ _ (ih (by omega) (by omega)) (swp_permIn _ lo hi _ _ (by omega) (by omega) (by omega) (by omega) (by rw [swR_size]; omega))
theorem swR_get {a b n : Nat} {d : Array α} (h2 : a + n ≤ b) (h3 : b + n ≤ d.size) (k : Nat) :
    (swR a b n d)[k]! = if a ≤ k ∧ k < a + n then d[k - a + b]! else if b ≤ k ∧ k < b + n then d[k - b + a]! else d[k]! := by
  induction n generalizing k with
  | zero => rw [if_neg (by omega), if_neg (by omega)]; rfl
  | succ n ih =>
    have hs := swR_size a b n d
    simp only [swR]
    rw [swp_get _ (by omega) (by omega), ih (by omega) (by omega), ih (by omega) (by omega), ih (by omega) (by omega)]
    by_cases h4 : k = b + n
    · subst h4
      rw [if_pos rfl, if_neg (by omega), if_neg (by omega), if_neg (by omega), if_pos (by omega)]
      congr 1; omega
    · rw [if_neg h4]
      by_cases h5 : k = a + n
      · subst h5
        rw [if_pos rfl, if_neg (by omega), if_neg (by omega), if_pos (by omega)]
        congr 1; omega
      · rw [if_neg h5]
        by_cases h6 : a ≤ k ∧ k < a + n
        · rw [if_pos h6, if_pos (by omega)]
        · rw [if_neg h6, if_neg (show ¬ (a ≤ k ∧ k < a + (n + 1)) by omega)]
          by_cases h7 : b ≤ k ∧ k < b + n
          · rw [if_pos h7, if_pos (by omega)]
          · rw [if_neg h7, if_neg (by omega)]

/-- what lies where when two neighbours have changed places -/
def rotG (a m b : Nat) (d : Array α) (k : Nat) : α := if k < a ∨ b ≤ k then d[k]! else if k < a + (b - m) then d[k + (m - a)]! else d[k - (b - m)]!
theorem rotG_out {a m b : Nat} {d : Array α} {k : Nat} (h : k < a ∨ b ≤ k) : rotG a m b d k = d[k]! := by unfold rotG; rw [if_pos h]
theorem rotG_left {a m b : Nat} {d : Array α} {k : Nat} (h1 : a ≤ k) (h2 : k < a + (b - m)) (h3 : m ≤ b) (h4 : a ≤ m) : rotG a m b d k = d[k + (m - a)]! := by unfold rotG; rw [if_neg (by omega), if_pos h2]
theorem rotG_right {a m b : Nat} {d : Array α} {k : Nat} (h1 : a + (b - m) ≤ k) (h2 : k < b) : rotG a m b d k = d[k - (b - m)]! := by unfold rotG; rw [if_neg (by omega), if_neg (by omega)]
theorem rotG_none1 {a b : Nat} {d : Array α} (k : Nat) : rotG a a b d k = d[k]! := by
  unfold rotG
  split
  · rfl
  · rename_i h
    split
    · congr 1; omega
    · omega
theorem rotG_none2 {a b : Nat} {d : Array α} (h : a ≤ b) (k : Nat) : rotG a b b d k = d[k]! := by
  unfold rotG
  split
  · rfl
  · rename_i h
    split
    · omega
    · congr 1; omega
/-- the left stretch is the longer one -/
theorem rot_more {m i j : Nat} {d : Array α} (hi : i ≤ m) (hj : j < i) (hs : m + j ≤ d.size) (k : Nat) : rotG (m - (i - j)) m (m + j) (swR (m - i) m j d) k = rotG (m - i) m (m + j) d k := by
  have g := fun k => swR_get (d := d) (a := m - i) (b := m) (n := j) (by omega) hs k
  unfold rotG
  by_cases h1 : k < m - i ∨ m + j ≤ k
  · rw [if_pos (by omega), if_pos h1, g, if_neg (by omega), if_neg (by omega)]
  · rw [if_neg h1]
    by_cases h2 : k < m - i + (m + j - m)
    · rw [if_pos h2, if_pos (by omega), g, if_pos (by omega)]
      congr 1; omega
    · rw [if_neg h2, if_neg (by omega)]
      by_cases h3 : k < m - (i - j) + (m + j - m)
      · rw [if_pos h3, g, if_neg (by omega), if_pos (by omega)]
        congr 1; omega
      · rw [if_neg h3, g, if_neg (by omega), if_neg (by omega)]
/-- the right stretch is the longer one -/
theorem rot_less {m i j : Nat} {d : Array α} (hi : i ≤ m) (hj : i < j) (hs : m + j ≤ d.size) (k : Nat) : rotG (m - i) m (m + (j - i)) (swR (m - i) (m + j - i) i d) k = rotG (m - i) m (m + j) d k := by
  have g := fun k => swR_get (d := d) (a := m - i) (b := m + j - i) (n := i) (by omega) (by omega) k
  unfold rotG
  by_cases h1 : k < m - i ∨ m + j ≤ k
  · rw [if_pos (by omega), if_pos h1, g, if_neg (by omega), if_neg (by omega)]
  · rw [if_neg h1]
    by_cases h2 : k < m - i ∨ m + (j - i) ≤ k
    · rw [if_pos h2, if_neg (by omega), g, if_neg (by omega), if_pos (by omega)]
      congr 1; omega
    · rw [if_neg h2]
      by_cases h3 : k < m - i + (m + (j - i) - m)
      · rw [if_pos h3, if_pos (by omega), g]
        by_cases h4 : k + (m - (m - i)) < m + j - i
        · rw [if_neg (by omega), if_neg (by omega)]
        · omega
      · rw [if_neg h3, g, if_pos (by omega)]
        by_cases h4 : k < m - i + (m + j - m)
        · rw [if_pos h4]; congr 1; omega
        · omega
/-- both are as long -/
theorem rot_same {m i : Nat} {d : Array α} (hi : i ≤ m) (hs : m + i ≤ d.size) (k : Nat) : (swR (m - i) m i d)[k]! = rotG (m - i) m (m + i) d k := by
  rw [swR_get (by omega) hs]
  unfold rotG
  by_cases h1 : k < m - i ∨ m + i ≤ k
  · rw [if_pos h1, if_neg (by omega), if_neg (by omega)]
  · rw [if_neg h1]
    by_cases h2 : k < m - i + (m + i - m)
    · rw [if_pos h2, if_pos (by omega)]; congr 1; omega
    · rw [if_neg h2, if_neg (by omega), if_pos (by omega)]; congr 1; omega

theorem SortedIn.join {a m b : Nat} {d : Array α} (h1 : SortedIn lt a m d) (h2 : SortedIn lt m b d) (hx : ∀ x y, a ≤ x → x < m → m ≤ y → y < b → lt d[y]! d[x]! = false) : SortedIn lt a b d := by
  intro i j hi hij hj
  by_cases h : j < m
  · exact h1 i j hi hij h
  · by_cases h' : i < m
    · exact hx i j hi h' (by omega) hj
    · exact h2 i j (by omega) hij hj
theorem SortedIn.sub {a b a' b' : Nat} {d : Array α} (h : SortedIn lt a b d) (h1 : a ≤ a') (h2 : b' ≤ b) : SortedIn lt a' b' d := fun i j hi hij hj => h i j (by omega) hij (by omega)
theorem SortedIn.le {a b : Nat} {d : Array α} (hS : SWO lt) (h : SortedIn lt a b d) {i j : Nat} (hi : a ≤ i) (hij : i ≤ j) (hj : j < b) : lt d[j]! d[i]! = false := by
  rcases Nat.lt_or_ge i j with h' | h'
  · exact h i j hi h' hj
  · have : i = j := by omega
    subst this
    exact hS.irrefl _
theorem sorted_one {a : Nat} {d : Array α} : SortedIn lt a (a + 1) d := fun i j hi hij hj => by omega
theorem sorted_none {a b : Nat} {d : Array α} (h : b ≤ a + 1) : SortedIn lt a b d := fun i j hi hij hj => by omega

/-- two sorted stretches turned about between two places that fit -/
structure Cut (lt : α → α → Bool) (a s m e b : Nat) (d : Array α) : Prop where
  hs : a ≤ s
  hm : s ≤ m
  he : m ≤ e
  hb : e ≤ b
  x1 : ∀ x y, a ≤ x → x < s → e ≤ y → y < b → lt d[y]! d[x]! = false
  x2 : ∀ x y, m ≤ x → x < e → s ≤ y → y < m → lt d[y]! d[x]! = false

section
variable {a s m e b : Nat} {d d' : Array α} (hS : SWO lt) (h1 : SortedIn lt a m d) (h2 : SortedIn lt m b d) (C : Cut lt a s m e b d) (hd : ∀ k, d'[k]! = rotG s m e d k)
include hS h1 h2 C hd
omit hS h2 in
theorem cut_one : SortedIn lt a s d' := fun i j hi hij hj => by
  rw [hd, hd, rotG_out (by omega), rotG_out (by omega)]
  exact h1 i j hi hij (Nat.lt_of_lt_of_le hj C.hm)
omit hS h1 in
theorem cut_two : SortedIn lt s (s + (e - m)) d' := fun i j hi hij hj => by
  have := C.hm; have := C.he
  rw [hd, hd, rotG_left (by omega) (by omega) C.he C.hm, rotG_left (by omega) (by omega) C.he C.hm]
  exact h2 _ _ (by omega) (by omega) (by have := C.hb; omega)
omit hS h2 in
theorem cut_three : SortedIn lt (s + (e - m)) e d' := fun i j hi hij hj => by
  have := C.hm; have := C.he
  rw [hd, hd, rotG_right (by omega) (by omega), rotG_right (by omega) (by omega)]
  exact h1 _ _ (by have := C.hs; omega) (by omega) (by omega)
omit hS h1 in
theorem cut_four : SortedIn lt e b d' := fun i j hi hij hj => by
  rw [hd, hd, rotG_out (by omega), rotG_out (by omega)]
  exact h2 i j (by have := C.he; omega) hij hj
omit hS in
theorem cut_apart (x y : Nat) (hx : a ≤ x) (hx2 : x < s + (e - m)) (hy : s + (e - m) ≤ y) (hy2 : y < b) : lt d'[y]! d'[x]! = false := by
  have h3 := C.hm; have h4 := C.he; have h5 := C.hs; have h6 := C.hb
  rw [hd, hd]
  by_cases hxs : x < s
  · rw [rotG_out (k := x) (by omega)]
    by_cases hye : y < e
    · rw [rotG_right hy hye]
      exact h1 _ _ hx (by omega) (by omega)
    · rw [rotG_out (by omega)]
      exact C.x1 x y hx hxs (by omega) hy2
  · rw [rotG_left (by omega) hx2 h4 h3]
    by_cases hye : y < e
    · rw [rotG_right hy hye]
      exact C.x2 _ _ (by omega) (by omega) (by omega) (by omega)
    · rw [rotG_out (by omega)]
      exact h2 _ _ (by omega) (by omega) hy2
end

/-- one thing on the left, put to its place -/
theorem merge_left {a m i b : Nat} {d d' : Array α} (hS : SWO lt) (hm : m = a + 1) (h2 : SortedIn lt m b d) (hi : m ≤ i) (hib : i ≤ b) (hlo : ∀ q, m ≤ q → q < i → lt d[q]! d[a]! = true) (hhi : ∀ q, i ≤ q → q < b → lt d[q]! d[a]! = false)
    (hd : ∀ k, d'[k]! = rotG a m i d k) : SortedIn lt a b d' := by
  have C : Cut lt a a m i b d := ⟨Nat.le_refl _, by omega, hi, hib, fun x y _ _ => by omega, fun x y hx hx2 hy hy2 => by
    have : y = a := by omega
    subst this
    exact hS.asymmA (hlo x hx hx2)⟩
  have h1 : SortedIn lt a m d := by subst hm; exact sorted_one
  refine SortedIn.join (m := a + (i - m)) (cut_two h2 C hd) ?_ (cut_apart h1 h2 C hd)
  refine SortedIn.join (m := i) (cut_three h1 C hd) (cut_four h2 C hd) ?_
  intro x y hx hx2 hy hy2
  rw [hd, hd, rotG_right hx hx2, rotG_out (by omega), show x - (i - m) = a by omega]
  exact hhi y hy hy2
/-- one thing on the right -/
theorem merge_right {a m i b : Nat} {d d' : Array α} (hS : SWO lt) (hb : b = m + 1) (h1 : SortedIn lt a m d) (hi : a ≤ i) (him : i ≤ m) (hlo : ∀ q, a ≤ q → q < i → lt d[m]! d[q]! = false) (hhi : ∀ q, i ≤ q → q < m → lt d[m]! d[q]! = true)
    (hd : ∀ k, d'[k]! = rotG i m b d k) : SortedIn lt a b d' := by
  have C : Cut lt a i m b b d := ⟨hi, him, by omega, Nat.le_refl _, fun x y _ _ => by omega, fun x y hx hx2 hy hy2 => by
    have : x = m := by omega
    subst this
    exact hS.asymmA (hhi y hy hy2)⟩
  have h2 : SortedIn lt m b d := by subst hb; exact sorted_one
  refine SortedIn.join (m := i + (b - m)) ?_ (cut_three h1 C hd) (cut_apart h1 h2 C hd)
  refine SortedIn.join (m := i) (cut_one h1 C hd) (cut_two h2 C hd) ?_
  intro x y hx hx2 hy hy2
  rw [hd, hd, rotG_out (k := x) (by omega), rotG_left hy hy2 C.he C.hm, show y + (m - i) = m by omega]
  exact hlo x hx hx2

/-- where the search stands: all below are not less, all above are -/
structure Srch (lt : α → α → Bool) (d : Array α) (p lo hi start r : Nat) : Prop where
  h1 : lo ≤ start
  h2 : start ≤ r
  h3 : r ≤ hi
  below : lo < start → lt d[p - (start - 1)]! d[start - 1]! = false
  above : r < hi → lt d[p - r]! d[r]! = true
theorem Srch.cut {a m b mid start : Nat} {d : Array α} (hS : SWO lt) (h1 : SortedIn lt a m d) (h2 : SortedIn lt m b d) (ham : a < m) (hmb : m < b) (hmid : mid = (a + b) / 2) {lo hi : Nat} (hlo : lo = if mid < m then mid + m - b else a) (hhi : hi = if mid < m then mid else m)
    (H : Srch lt d (mid + m - 1) lo hi start start) : Cut lt a start m (mid + m - start) b d := by
  have e1 := H.h1; have e2 := H.h3
  have hA : a ≤ start ∧ start ≤ m ∧ m ≤ mid + m - start ∧ mid + m - start ≤ b := by
    by_cases h : mid < m
    · rw [if_pos h] at hlo hhi; omega
    · rw [if_neg h] at hlo hhi; omega
  refine ⟨hA.1, hA.2.1, hA.2.2.1, hA.2.2.2, ?_, ?_⟩
  · intro x y hx hx2 hy hy2
    by_cases hl : lo < start
    · have hb := H.below hl
      rw [show mid + m - 1 - (start - 1) = mid + m - start by omega] at hb
      have hye := SortedIn.le hS h2 hA.2.2.1 hy hy2
      have hxs := SortedIn.le hS h1 hx (show x ≤ start - 1 by omega) (by omega)
      exact hS.ntrans _ _ _ (hS.ntrans _ _ _ hye hb) hxs
    · exfalso
      by_cases h : mid < m
      · rw [if_pos h] at hlo; omega
      · rw [if_neg h] at hlo; omega
  · intro x y hx hx2 hy hy2
    by_cases hl : start < hi
    · have hb := hS.asymmA (H.above hl)
      rw [show mid + m - 1 - start = mid + m - start - 1 by omega] at hb
      have hys := SortedIn.le hS h1 hA.1 hy hy2
      have hxe := SortedIn.le hS h2 hx (show x ≤ mid + m - start - 1 by omega) (by omega)
      exact hS.ntrans _ _ _ (hS.ntrans _ _ _ hys hb) hxe
    · exfalso
      by_cases h : mid < m
      · rw [if_pos h] at hhi; omega
      · rw [if_neg h] at hhi; omega
/-- what the two halves are once they are sorted -/
theorem halves {a mid b : Nat} {d e f : Array α} (hb : b ≤ d.size) (ha : a ≤ mid) (hmb : mid ≤ b) (hx : ∀ x y, a ≤ x → x < mid → mid ≤ y → y < b → lt d[y]! d[x]! = false) (p1 : PermIn a mid d e) (s1 : SortedIn lt a mid e) (p2 : PermIn mid b e f) (s2 : SortedIn lt mid b f) :
    PermIn a b d f ∧ SortedIn lt a b f := by
  have hes : e.size = d.size := p1.1
  refine ⟨permIn_trans _ _ _ _ _ (permIn_mono _ _ _ _ _ _ (Nat.le_refl _) hmb hb p1) (permIn_mono _ _ _ _ _ _ ha (Nat.le_refl _) (by omega) p2), ?_⟩
  have s1' : SortedIn lt a mid f := s1.congrA (fun p hp => p2.2.1 p (Or.inl hp))
  refine SortedIn.join s1' s2 ?_
  intro x y hx1 hx2 hy1 hy2
  have q1 : ∀ y', mid ≤ y' → y' < b → ∀ x', a ≤ x' → x' < mid → lt d[y']! e[x']! = false := fun y' h1 h2 => permIn_all d e a mid (fun v => lt d[y']! v = false) (by omega) p1 (fun i hi hi2 => hx i y' hi hi2 h1 h2)
  have q2 : ∀ x', a ≤ x' → x' < mid → ∀ y', mid ≤ y' → y' < b → lt f[y']! e[x']! = false := fun x' h1 h2 => permIn_all e f mid b (fun v => lt v e[x']! = false) (by omega) p2 (fun i hi hi2 => by
    rw [p1.2.1 i (Or.inr hi)]
    exact q1 i hi hi2 x' h1 h2)
  rw [p2.2.1 x (Or.inl hx2)]
  exact q2 x hx1 hx2 y hy1 hy2
/-- a stretch elsewhere stays sorted -/
theorem sorted_out {a b a' b' : Nat} {d d' : Array α} (hp : PermIn a b d d') (h : SortedIn lt a' b' d) (ho : b' ≤ a ∨ b ≤ a') : SortedIn lt a' b' d' := fun i j hi hij hj => by
  rw [hp.2.1 i (by omega), hp.2.1 j (by omega)]
  exact h i j hi hij hj
end Go.Proofs.Ytefniglinligeaa.Sm

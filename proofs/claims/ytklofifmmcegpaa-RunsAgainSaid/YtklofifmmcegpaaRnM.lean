
/- Rows of white and black, and where they change, in plain words; no program in sight. -/
import Derived.Test.YtklofifmmcegpaaBitM
namespace Go.Proofs.Ytklofifmmcegpaa.Rn
open Go.Proofs.Ytklofifmmcegpaa.Bit
set_option linter.unusedVariables false
set_option linter.unusedSimpArgs false

/-- where pixels change, the one before them and the first place being known -/
def chg (p : Bool) (i : Nat) : List Bool → List Nat
  | [] => []
  | b :: l => if b = p then chg b (i + 1) l else i :: chg b (i + 1) l
def changes (l : List Bool) : List Nat := chg false 0 l
/-- the pixels that change at places -/
def pix (c : List Nat) (w : Nat) : List Bool := (List.range w).map fun x => c.countP (· ≤ x) % 2 == 1
/-- right places -/
def Valid (c : List Nat) (w : Nat) : Prop := c.Pairwise (· < ·) ∧ ∀ x ∈ c, x < w
theorem chg_mem : ∀ (l : List Bool) (p : Bool) (i : Nat), ∀ x ∈ chg p i l, i ≤ x ∧ x < i + l.length
  | [], p, i => fun x hx => by cases hx
  | b :: l, p, i => fun x hx => by
    rw [chg] at hx
    rw [List.length_cons]
    split at hx
    · have := chg_mem l b (i + 1) x hx; omega
    · rcases List.mem_cons.1 hx with rfl | hx
      · omega
      · have := chg_mem l b (i + 1) x hx; omega
theorem chg_rise : ∀ (l : List Bool) (p : Bool) (i : Nat), (chg p i l).Pairwise (· < ·)
  | [], p, i => List.Pairwise.nil
  | b :: l, p, i => by
    rw [chg]
    split
    · exact chg_rise l b (i + 1)
    · exact List.Pairwise.cons (fun x hx => by have := chg_mem l b (i + 1) x hx; omega) (chg_rise l b (i + 1))
theorem changes_valid (l : List Bool) : Valid (changes l) l.length := ⟨chg_rise l false 0, fun x hx => by have := chg_mem l false 0 x hx; omega⟩
theorem chg_count : ∀ (l : List Bool) (p : Bool) (i k : Nat) (h : k < l.length), (chg p i l).countP (· ≤ i + k) % 2 = if l[k] = p then 0 else 1
  | [], p, i, k, h => by simp at h
  | b :: l, p, i, 0, h => by
    have h0 : (chg b (i + 1) l).countP (· ≤ i + 0) = 0 := by
      rw [List.countP_eq_zero]
      intro x hx
      have := chg_mem l b (i + 1) x hx
      simp
      omega
    rw [chg]
    show _ = if b = p then 0 else 1
    split
    · rw [h0]
    · rw [List.countP_cons, h0]; simp
  | b :: l, p, i, k + 1, h => by
    have hk : k < l.length := by simpa using h
    have ih := chg_count l b (i + 1) k hk
    rw [show i + 1 + k = i + (k + 1) from by omega] at ih
    rw [chg]
    show _ = if l[k] = p then 0 else 1
    split
    · rename_i hb
      rw [ih, hb]
    · rename_i hb
      rw [List.countP_cons, if_pos (by simp)]
      cases hlk : l[k] <;> cases b <;> cases p <;> simp_all <;> omega
/-- the pixels of a row's changes are the row's -/
theorem pix_changes (l : List Bool) : pix (changes l) l.length = l := by
  apply List.ext_getElem
  · simp [pix]
  · intro k h1 h2
    have h := chg_count l false 0 k h2
    rw [Nat.zero_add] at h
    simp only [pix, List.getElem_map, List.getElem_range]
    unfold changes
    rw [h]
    cases l[k] <;> rfl
theorem pix_length (c : List Nat) (w : Nat) : (pix c w).length = w := by simp [pix]
theorem pix_get (c : List Nat) (w k : Nat) (h : k < (pix c w).length) : (pix c w)[k] = (c.countP (· ≤ k) % 2 == 1) := by simp [pix]
/-- two right lists of places with the same pixels are one -/
theorem changes_pix : ∀ (w : Nat) (c : List Nat), Valid c w → changes (pix c w) = c := by
  -- by the places: chg of the pixels from a place on are the places from there on
  have key : ∀ (n i : Nat) (c : List Nat) (w : Nat), Valid c w → w - i = n → i ≤ w → chg (decide (0 < i) && (c.countP (· ≤ i - 1) % 2 == 1)) i ((pix c w).drop i) = c.filter (i ≤ ·) := by
    intro n
    induction n with
    | zero =>
      intro i c w hv hn hi
      rw [List.drop_of_length_le (by rw [pix_length]; omega), chg]
      symm
      rw [List.filter_eq_nil_iff]
      intro x hx
      have := hv.2 x hx
      simp
      omega
    | succ n ih =>
      intro i c w hv hn hi
      have hil : i < (pix c w).length := by rw [pix_length]; omega
      rw [List.drop_eq_getElem_cons hil, pix_get]
      have ih2 := ih (i + 1) c w hv (by omega) (by omega)
      rw [Nat.add_sub_cancel, show decide (0 < i + 1) = true from by simp, Bool.true_and] at ih2
      rw [chg, ih2]
      have hcnt : c.countP (· ≤ i) = (if 0 < i then c.countP (· ≤ i - 1) else 0) + c.countP (· == i) := by
        have e : ∀ l : List Nat, l.countP (· ≤ i) = (if 0 < i then l.countP (· ≤ i - 1) else 0) + l.countP (· == i) := by
          intro l
          induction l with
          | nil => simp
          | cons y l ihl =>
            rw [List.countP_cons, List.countP_cons, List.countP_cons, ihl]
            by_cases h0 : 0 < i
            · rw [if_pos h0, if_pos h0]
              by_cases h1 : y ≤ i - 1
              · have h2 : y ≤ i := by omega
                have h3 : ¬ y = i := by omega
                simp [h1, h2, h3]; omega
              · by_cases h3 : y = i
                · subst h3
                  simp [h1]; omega
                · have h2 : ¬ y ≤ i := by omega
                  simp [h1, h2, h3]
            · rw [if_neg h0, if_neg h0]
              have hi0 : i = 0 := by omega
              subst hi0
              by_cases h3 : y = 0
              · simp [h3]
              · have h2 : ¬ y ≤ 0 := by omega
                simp [h3]
        exact e c
      have hone : c.countP (· == i) ≤ 1 := by
        have hnd : c.Nodup := hv.1.imp (fun h => by omega)
        have := List.nodup_iff_count.1 hnd i
        rwa [List.count] at this
      have hfil : c.filter (i ≤ ·) = (if c.countP (· == i) = 1 then [i] else []) ++ c.filter (i + 1 ≤ ·) := by
        have e : ∀ l : List Nat, l.Pairwise (· < ·) → l.filter (i ≤ ·) = (if l.countP (· == i) = 1 then [i] else []) ++ l.filter (i + 1 ≤ ·) := by
          intro l hl
          induction l with
          | nil => simp
          | cons y l ihl =>
            have hl2 := List.pairwise_cons.1 hl
            have ihl := ihl hl2.2
            by_cases h1 : y < i
            · rw [List.filter_cons_of_neg (by simp; omega), List.filter_cons_of_neg (by simp; omega), List.countP_cons_of_neg (by simp; omega)]
              exact ihl
            · by_cases h2 : y = i
              · have hz : l.countP (· == i) = 0 := by
                  rw [List.countP_eq_zero]
                  intro x hx
                  have := hl2.1 x hx
                  simp
                  omega
                rw [hz] at ihl
                rw [List.filter_cons_of_pos (by simp; omega), List.filter_cons_of_neg (by simp; omega), List.countP_cons_of_pos (by simp [h2]), hz, ihl, if_neg (by decide), if_pos rfl, h2]
                rfl
              · have hz : (y :: l).countP (· == i) = 0 := by
                  rw [List.countP_eq_zero]
                  intro x hx
                  rcases List.mem_cons.1 hx with rfl | hx
                  · simp; omega
                  · have := hl2.1 x hx; simp; omega
                rw [hz, if_neg (by decide), List.nil_append]
                refine List.filter_congr fun x hx => ?_
                rcases List.mem_cons.1 hx with rfl | hx
                · rw [decide_eq_decide]; omega
                · have := hl2.1 x hx; rw [decide_eq_decide]; omega
        exact e c hv.1
      rw [hfil]
      rcases (show c.countP (· == i) = 0 ∨ c.countP (· == i) = 1 by omega) with h | h
      · rw [show (if c.countP (· == i) = 1 then [i] else []) = [] from if_neg (by omega), List.nil_append]
        refine if_pos ?_
        rw [hcnt, h]
        by_cases h0 : 0 < i <;> simp [h0]
      · rw [show (if c.countP (· == i) = 1 then [i] else []) = [i] from if_pos h]
        refine if_neg ?_
        rw [hcnt, h]
        by_cases h0 : 0 < i
        · rw [if_pos h0, show decide (0 < i) = true from decide_eq_true h0, Bool.true_and]
          generalize c.countP (· ≤ i - 1) = m
          rcases (show m % 2 = 0 ∨ m % 2 = 1 by omega) with q | q
          · rw [show (m + 1) % 2 = 1 from by omega, q]; decide
          · rw [show (m + 1) % 2 = 0 from by omega, q]; decide
        · rw [if_neg h0, show decide (0 < i) = false from decide_eq_false h0, Bool.false_and]
          decide
  intro w c hv
  have h := key w 0 c w hv (by omega) (by omega)
  rw [List.drop_zero, show (decide (0 < 0) && (c.countP (· ≤ 0 - 1) % 2 == 1)) = false from by simp] at h
  unfold changes
  rw [h]
  exact List.filter_eq_self.2 fun x _ => by simp
/-- all pixels turned -/
theorem chg_not : ∀ (l : List Bool) (p : Bool) (i : Nat), chg (!p) i (l.map (!·)) = chg p i l
  | [], p, i => rfl
  | b :: l, p, i => by
    rw [List.map_cons, chg, chg, chg_not l b (i + 1)]
    by_cases h : b = p
    · rw [if_pos h, if_pos (by rw [h])]
    · rw [if_neg h, if_neg (by cases b <;> cases p <;> simp_all)]
theorem changes_not (b : Bool) (l : List Bool) : changes ((b :: l).map (!·)) = if b then chg b 1 l else 0 :: chg b 1 l := by
  have h := chg_not (b :: l) true 0
  unfold changes
  show chg (!true) 0 _ = _
  rw [h, chg]
theorem changes_cons (b : Bool) (l : List Bool) : changes (b :: l) = if b then 0 :: chg b 1 l else chg b 1 l := by
  unfold changes
  rw [chg]
  cases b <;> simp
/-- the lengths of runs, from a place on -/
def lensL (p : Nat) : List Nat → Nat → List Nat
  | [], w => [w - p]
  | x :: c, w => (x - p) :: lensL x c w
theorem lensL_length : ∀ (c : List Nat) (p w : Nat), (lensL p c w).length = c.length + 1
  | [], p, w => rfl
  | x :: c, p, w => by rw [lensL, List.length_cons, lensL_length c x w, List.length_cons]
end Go.Proofs.Ytklofifmmcegpaa.Rn


/- Rows of white and black, and where they change, in plain words; no program in sight. -/
import Derived.Test.YtidicajedckaoaaGreatDoorBitM
namespace Go.Proofs.YtidicajedckaoaaGreatDoor.Rn
open Go.Proofs.YtidicajedckaoaaGreatDoor.Bit
set_option linter.unusedVariables false
set_option linter.unusedSimpArgs false

/-- where pixels change, the one before them and the first place being known -/
def chg (p : Bool) (i : Nat) : List Bool → List Nat
  | [] => []
  | b :: l => if b = p then chg b (i + 1) l else i :: chg b (i + 1) l
def changes (l : List Bool) : List Nat := chg false 0 l
/-- the pixels that change at places -/
def pix (c : List Nat) (w : Nat) : List Bool := (List.range w).map fun x => c.countP (· ≤ x) % 2 == 1
/-- right places -/
def Valid (c : List Nat) (w : Nat) : Prop := c.Pairwise (· < ·) ∧ ∀ x ∈ c, x < w
theorem chg_mem : ∀ (l : List Bool) (p : Bool) (i : Nat), ∀ x ∈ chg p i l, i ≤ x ∧ x < i + l.length
  | [], p, i => fun x hx => by cases hx
  | b :: l, p, i => fun x hx => by
    rw [chg] at hx
    rw [List.length_cons]
    split at hx
    · have := chg_mem l b (i + 1) x hx; omega
    · rcases List.mem_cons.1 hx with rfl | hx
      · omega
      · have := chg_mem l b (i + 1) x hx; omega
theorem chg_rise : ∀ (l : List Bool) (p : Bool) (i : Nat), (chg p i l).Pairwise (· < ·)
  | [], p, i => List.Pairwise.nil
  | b :: l, p, i => by
    rw [chg]
    split
    · exact chg_rise l b (i + 1)
    · exact List.Pairwise.cons (fun x hx => by have := chg_mem l b (i + 1) x hx; omega) (chg_rise l b (i + 1))
theorem changes_valid (l : List Bool) : Valid (changes l) l.length := ⟨chg_rise l false 0, fun x hx => by have := chg_mem l false 0 x hx; omega⟩
theorem chg_count : ∀ (l : List Bool) (p : Bool) (i k : Nat) (h : k < l.length), (chg p i l).countP (· ≤ i + k) % 2 = if l[k] = p then 0 else 1
  | [], p, i, k, h => by simp at h
  | b :: l, p, i, 0, h => by
    have h0 : (chg b (i + 1) l).countP (· ≤ i + 0) = 0 := by
      rw [List.countP_eq_zero]
      intro x hx
      have := chg_mem l b (i + 1) x hx
      simp
      omega
    rw [chg]
    show _ = if b = p then 0 else 1
    split
    · rw [h0]
    · rw [List.countP_cons, h0]; simp
  | b :: l, p, i, k + 1, h => by
    have hk : k < l.length := by simpa using h
    have ih := chg_count l b (i + 1) k hk
    rw [show i + 1 + k = i + (k + 1) from by omega] at ih
    rw [chg]
    show _ = if l[k] = p then 0 else 1
    split
    · rename_i hb
      rw [ih, hb]
    · rename_i hb
      rw [List.countP_cons, if_pos (by simp)]
      cases hlk : l[k] <;> cases b <;> cases p <;> simp_all <;> omega
/-- the pixels of a row's changes are the row's -/
theorem pix_changes (l : List Bool) : pix (changes l) l.length = l := by
  apply List.ext_getElem
  · simp [pix]
  · intro k h1 h2
    have h := chg_count l false 0 k h2
    rw [Nat.zero_add] at h
    simp only [pix, List.getElem_map, List.getElem_range]
    unfold changes
    rw [h]
    cases l[k] <;> rfl
theorem pix_length (c : List Nat) (w : Nat) : (pix c w).length = w := by simp [pix]
theorem pix_get (c : List Nat) (w k : Nat) (h : k < (pix c w).length) : (pix c w)[k] = (c.countP (· ≤ k) % 2 == 1) := by simp [pix]
/-- two right lists of places with the same pixels are one -/
theorem changes_pix : ∀ (w : Nat) (c : List Nat), Valid c w → changes (pix c w) = c := by
  -- by the places: chg of the pixels from a place on are the places from there on
  have key : ∀ (n i : Nat) (c : List Nat) (w : Nat), Valid c w → w - i = n → i ≤ w → chg (decide (0 < i) && (c.countP (· ≤ i - 1) % 2 == 1)) i ((pix c w).drop i) = c.filter (i ≤ ·) := by
    intro n
    induction n with
    | zero =>
      intro i c w hv hn hi
      rw [List.drop_of_length_le (by rw [pix_length]; omega), chg]
      symm
      rw [List.filter_eq_nil_iff]
      intro x hx
      have := hv.2 x hx
      simp
      omega
    | succ n ih =>
      intro i c w hv hn hi
      have hil : i < (pix c w).length := by rw [pix_length]; omega
      rw [List.drop_eq_getElem_cons hil, pix_get]
      have ih2 := ih (i + 1) c w hv (by omega) (by omega)
      rw [Nat.add_sub_cancel, show decide (0 < i + 1) = true from by simp, Bool.true_and] at ih2
      rw [chg, ih2]
      have hcnt : c.countP (· ≤ i) = (if 0 < i then c.countP (· ≤ i - 1) else 0) + c.countP (· == i) := by
        have e : ∀ l : List Nat, l.countP (· ≤ i) = (if 0 < i then l.countP (· ≤ i - 1) else 0) + l.countP (· == i) := by
          intro l
          induction l with
          | nil => simp
          | cons y l ihl =>
            rw [List.countP_cons, List.countP_cons, List.countP_cons, ihl]
            by_cases h0 : 0 < i
            · rw [if_pos h0, if_pos h0]
              by_cases h1 : y ≤ i - 1
              · have h2 : y ≤ i := by omega
                have h3 : ¬ y = i := by omega
                simp [h1, h2, h3]; omega
              · by_cases h3 : y = i
                · subst h3
                  simp [h1]; omega
                · have h2 : ¬ y ≤ i := by omega
                  simp [h1, h2, h3]
            · rw [if_neg h0, if_neg h0]
              have hi0 : i = 0 := by omega
              subst hi0
              by_cases h3 : y = 0
              · simp [h3]
              · have h2 : ¬ y ≤ 0 := by omega
                simp [h3]
        exact e c
      have hone : c.countP (· == i) ≤ 1 := by
        have hnd : c.Nodup := hv.1.imp (fun h => by omega)
        have := List.nodup_iff_count.1 hnd i
        rwa [List.count] at this
      have hfil : c.filter (i ≤ ·) = (if c.countP (· == i) = 1 then [i] else []) ++ c.filter (i + 1 ≤ ·) := by
        have e : ∀ l : List Nat, l.Pairwise (· < ·) → l.filter (i ≤ ·) = (if l.countP (· == i) = 1 then [i] else []) ++ l.filter (i + 1 ≤ ·) := by
          intro l hl
          induction l with
          | nil => simp
          | cons y l ihl =>
            have hl2 := List.pairwise_cons.1 hl
            have ihl := ihl hl2.2
            by_cases h1 : y < i
            · rw [List.filter_cons_of_neg (by simp; omega), List.filter_cons_of_neg (by simp; omega), List.countP_cons_of_neg (by simp; omega)]
              exact ihl
            · by_cases h2 : y = i
              · have hz : l.countP (· == i) = 0 := by
                  rw [List.countP_eq_zero]
                  intro x hx
                  have := hl2.1 x hx
                  simp
                  omega
                rw [hz] at ihl
                rw [List.filter_cons_of_pos (by simp; omega), List.filter_cons_of_neg (by simp; omega), List.countP_cons_of_pos (by simp [h2]), hz, ihl, if_neg (by decide), if_pos rfl, h2]
                rfl
              · have hz : (y :: l).countP (· == i) = 0 := by
                  rw [List.countP_eq_zero]
                  intro x hx
                  rcases List.mem_cons.1 hx with rfl | hx
                  · simp; omega
                  · have := hl2.1 x hx; simp; omega
                rw [hz, if_neg (by decide), List.nil_append]
                refine List.filter_congr fun x hx => ?_
                rcases List.mem_cons.1 hx with rfl | hx
                · rw [decide_eq_decide]; omega
                · have := hl2.1 x hx; rw [decide_eq_decide]; omega
        exact e c hv.1
      rw [hfil]
      rcases (show c.countP (· == i) = 0 ∨ c.countP (· == i) = 1 by omega) with h | h
      · rw [show (if c.countP (· == i) = 1 then [i] else []) = [] from if_neg (by omega), List.nil_append]
        refine if_pos ?_
        rw [hcnt, h]
        by_cases h0 : 0 < i <;> simp [h0]
      · rw [show (if c.countP (· == i) = 1 then [i] else []) = [i] from if_pos h]
        refine if_neg ?_
        rw [hcnt, h]
        by_cases h0 : 0 < i
        · rw [if_pos h0, show decide (0 < i) = true from decide_eq_true h0, Bool.true_and]
          generalize c.countP (· ≤ i - 1) = m
          rcases (show m % 2 = 0 ∨ m % 2 = 1 by omega) with q | q
          · rw [show (m + 1) % 2 = 1 from by omega, q]; decide
          · rw [show (m + 1) % 2 = 0 from by omega, q]; decide
        · rw [if_neg h0, show decide (0 < i) = false from decide_eq_false h0, Bool.false_and]
          decide
  intro w c hv
  have h := key w 0 c w hv (by omega) (by omega)
  rw [List.drop_zero, show (decide (0 < 0) && (c.countP (· ≤ 0 - 1) % 2 == 1)) = false from by simp] at h
  unfold changes
  rw [h]
  exact List.filter_eq_self.2 fun x _ => by simp
/-- all pixels turned -/
theorem chg_not : ∀ (l : List Bool) (p : Bool) (i : Nat), chg (!p) i (l.map (!·)) = chg p i l
  | [], p, i => rfl
  | b :: l, p, i => by
    rw [List.map_cons, chg, chg, chg_not l b (i + 1)]
    by_cases h : b = p
    · rw [if_pos h, if_pos (by rw [h])]
    · rw [if_neg h, if_neg (by cases b <;> cases p <;> simp_all)]
theorem changes_not (b : Bool) (l : List Bool) : changes ((b :: l).map (!·)) = if b then chg b 1 l else 0 :: chg b 1 l := by
  have h := chg_not (b :: l) true 0
  unfold changes
  show chg (!true) 0 _ = _
  rw [h, chg]
theorem changes_cons (b : Bool) (l : List Bool) : changes (b :: l) = if b then 0 :: chg b 1 l else chg b 1 l := by
  unfold changes
  rw [chg]
  cases b <;> simp
/-- the lengths of runs, from a place on -/
def lensL (p : Nat) : List Nat → Nat → List Nat
  | [], w => [w - p]
  | x :: c, w => (x - p) :: lensL x c w
theorem lensL_length : ∀ (c : List Nat) (p w : Nat), (lensL p c w).length = c.length + 1
  | [], p, w => rfl
  | x :: c, p, w => by rw [lensL, List.length_cons, lensL_length c x w, List.length_cons]
end Go.Proofs.YtidicajedckaoaaGreatDoor.Rn
/- Rows of white and black, more in plain words: a row as it grows, places toggled, runs and their pixels, the next change to a colour; no program in sight. -/
namespace Go.Proofs.YtidicajedckaoaaGreatDoor.Rn
open Go.Proofs.YtidicajedckaoaaGreatDoor.Bit
set_option linter.unusedVariables false
set_option linter.unusedSimpArgs false

/-- the last pixel, or the one before the first -/
def lastP (p : Bool) : List Bool → Bool
  | [] => p
  | b :: l => lastP b l
theorem lastP_append : ∀ (l m : List Bool) (p : Bool), lastP p (l ++ m) = lastP (lastP p l) m
  | [], m, p => rfl
  | b :: l, m, p => lastP_append l m b
theorem chg_append : ∀ (l m : List Bool) (p : Bool) (i : Nat), chg p i (l ++ m) = chg p i l ++ chg (lastP p l) (i + l.length) m
  | [], m, p, i => by simp [chg, lastP]
  | b :: l, m, p, i => by
    rw [List.cons_append, chg, chg, chg_append l m b (i + 1), lastP, List.length_cons, show i + 1 + l.length = i + (l.length + 1) from by omega]
    split
    · rfl
    · rfl
theorem chg_same : ∀ (n : Nat) (b : Bool) (i : Nat), chg b i (List.replicate n b) = []
  | 0, b, i => rfl
  | n + 1, b, i => by rw [List.replicate_succ, chg, if_pos rfl, chg_same n b (i + 1)]
theorem lastP_same : ∀ (n : Nat) (b : Bool), lastP b (List.replicate n b) = b
  | 0, b => rfl
  | n + 1, b => by rw [List.replicate_succ, lastP, lastP_same n b]
/-- the changes of a row that is under way, the colour being known in which it goes on -/
def cur (P : List Bool) (b : Bool) : List Nat := changes (P ++ [b])
theorem cur_eq (P : List Bool) (b : Bool) : cur P b = changes P ++ (if b = lastP false P then [] else [P.length]) := by
  unfold cur changes
  rw [chg_append, Nat.zero_add, chg]
  split <;> rfl
theorem cur_nil : cur [] false = [] := rfl
/-- so many pixels more -/
theorem cur_run (P : List Bool) (b : Bool) (n : Nat) : cur (P ++ List.replicate n b) b = cur P b := by
  unfold cur
  rw [List.append_assoc, show List.replicate n b ++ [b] = [b] ++ List.replicate n b from by rw [← List.replicate_succ', List.replicate_succ]; rfl, ← List.append_assoc]
  unfold changes
  rw [chg_append, lastP_append]
  show _ ++ chg b _ (List.replicate n b) = _
  rw [chg_same, List.append_nil]
/-- a place, put behind or taken away -/
def togX (c : List Nat) (x : Nat) : List Nat := if c.getLast? = some x then c.dropLast else c ++ [x]
theorem changes_last (P : List Bool) : (changes P).getLast? ≠ some P.length := by
  intro h
  have := chg_mem P false 0 P.length (List.mem_of_getLast? h)
  omega
/-- the colour turns -/
theorem cur_flip (P : List Bool) (b : Bool) : togX (cur P b) P.length = cur P (!b) := by
  unfold togX
  rw [cur_eq, cur_eq]
  by_cases h : b = lastP false P
  · have h2 : ¬ (!b) = lastP false P := by rw [← h]; cases b <;> simp
    rw [if_pos h, if_neg h2, List.append_nil, if_neg (changes_last P)]
  · have h2 : (!b) = lastP false P := by cases b <;> cases hl : lastP false P <;> simp_all
    rw [if_neg h, if_pos h2, List.append_nil, if_pos (by simp)]
    simp
theorem cur_end (P : List Bool) (b : Bool) : changes P = if (cur P b).getLast? = some P.length then (cur P b).dropLast else cur P b := by
  rw [cur_eq]
  by_cases h : b = lastP false P
  · rw [if_pos h, List.append_nil, if_neg (changes_last P)]
  · rw [if_neg h, if_pos (by simp)]
    simp
theorem cur_valid (P : List Bool) (b : Bool) : Valid (cur P b) (P.length + 1) := by
  have := changes_valid (P ++ [b])
  rw [List.length_append, List.length_singleton] at this
  exact this
theorem lastP_count : ∀ (l : List Bool) (p : Bool) (i : Nat), lastP p l = (p ^^ ((chg p i l).length % 2 == 1))
  | [], p, i => by simp [lastP, chg]
  | b :: l, p, i => by
    rw [lastP, chg, lastP_count l b (i + 1)]
    split
    · rename_i h; rw [h]
    · rename_i h
      rw [List.length_cons]
      generalize (chg b (i + 1) l).length = n
      rcases (show n % 2 = 0 ∨ n % 2 = 1 by omega) with q | q
      · rw [show (n + 1) % 2 = 1 from by omega, q]
        cases b <;> cases p <;> simp_all
      · rw [show (n + 1) % 2 = 0 from by omega, q]
        cases b <;> cases p <;> simp_all
/-- how many places: the colour in which the row goes on -/
theorem cur_odd (P : List Bool) (b : Bool) : ((cur P b).length % 2 == 1) = b := by
  have h := lastP_count (P ++ [b]) false 0
  rw [lastP_append] at h
  have h2 : lastP (lastP false P) [b] = b := rfl
  rw [h2, Bool.false_xor] at h
  exact h.symm

/-- pixels of runs, the colours in turn -/
def pixR (b : Bool) : List Nat → List Bool
  | [] => []
  | n :: ns => List.replicate n b ++ pixR (!b) ns
theorem pixR_length : ∀ (ns : List Nat) (b : Bool), (pixR b ns).length = ns.sum
  | [], b => rfl
  | n :: ns, b => by rw [pixR, List.length_append, List.length_replicate, pixR_length ns (!b), List.sum_cons]
theorem pixR_append : ∀ (a c : List Nat) (b : Bool), pixR b (a ++ c) = pixR b a ++ pixR (if a.length % 2 = 0 then b else !b) c
  | [], c, b => by simp [pixR]
  | n :: a, c, b => by
    rw [List.cons_append, pixR, pixR, pixR_append a c (!b), List.append_assoc, List.length_cons]
    congr 2
    congr 1
    rcases (show a.length % 2 = 0 ∨ a.length % 2 = 1 by omega) with q | q
    · rw [if_pos q, if_neg (by omega)]
    · rw [if_neg (by omega), if_pos (by omega)]
      cases b <;> rfl
/-- places that rise, from one on, up to a width -/
def Rise (p : Nat) : List Nat → Nat → Prop
  | [], w => p ≤ w
  | x :: c, w => p ≤ x ∧ Rise x c w
theorem Rise.le : ∀ {c : List Nat} {p w : Nat}, Rise p c w → p ≤ w
  | [], p, w, h => h
  | x :: c, p, w, h => Nat.le_trans h.1 h.2.le
theorem rise_of : ∀ {c : List Nat} {w : Nat} (p : Nat), Valid c w → (∀ x ∈ c, p ≤ x) → p ≤ w → Rise p c w
  | [], w, p, hv, hp, hw => hw
  | x :: c, w, p, hv, hp, hw => by
    obtain ⟨h1, h2⟩ := hv
    have h3 := List.pairwise_cons.1 h1
    exact ⟨hp x (by simp), rise_of x ⟨h3.2, fun y hy => h2 y (by simp [hy])⟩ (fun y hy => by have := h3.1 y hy; omega) (by have := h2 x (by simp); omega)⟩
theorem lens_sum : ∀ {c : List Nat} {p w : Nat}, Rise p c w → p + (lensL p c w).sum = w
  | [], p, w, h => by have : p ≤ w := h; simp [lensL]; omega
  | x :: c, p, w, h => by
    have := lens_sum h.2
    have h1 := h.1
    rw [lensL, List.sum_cons]
    omega
theorem lens_take : ∀ {c : List Nat} {p w i : Nat} (h : Rise p c w) (hi : i < c.length), p + ((lensL p c w).take (i + 1)).sum = c[i]
  | [], p, w, i, h, hi => by simp at hi
  | x :: c, p, w, 0, h, hi => by
    have h1 := h.1
    simp [lensL]
    omega
  | x :: c, p, w, i + 1, h, hi => by
    have h1 := h.1
    have := lens_take (i := i) h.2 (by simpa using hi)
    rw [lensL, List.take_succ_cons, List.sum_cons, List.getElem_cons_succ, ← this]
    omega
/-- the runs of a row are its pixels -/
theorem pix_runs : ∀ (l : List Bool) (p : Bool) (i : Nat), List.replicate (match chg p i l with | [] => 0 | x :: _ => 0) p ++ [] = ([] : List Bool) ∧ pixR p (lensL i (chg p i l) (i + l.length)) = l
  | [], p, i => ⟨by simp [chg], by simp [chg, lensL, pixR]⟩
  | b :: l, p, i => by
    refine ⟨by split <;> simp, ?_⟩
    have ih := (pix_runs l b (i + 1)).2
    have hm := fun x hx => (chg_mem l b (i + 1) x hx).1
    rw [chg, List.length_cons, show i + (l.length + 1) = i + 1 + l.length from by omega]
    -- one pixel more ahead of the first run
    have ahead : ∀ (c : List Nat) (w : Nat), (∀ x ∈ c, i + 1 ≤ x) → i + 1 ≤ w → pixR b (lensL i c w) = b :: pixR b (lensL (i + 1) c w) := by
      intro c w hc hw
      cases c with
      | nil =>
        rw [lensL, lensL, pixR, pixR, show w - i = (w - (i + 1)) + 1 from by omega, List.replicate_succ]
        rfl
      | cons y c =>
        have := hc y (by simp)
        rw [lensL, lensL, pixR, pixR, show y - i = (y - (i + 1)) + 1 from by omega, List.replicate_succ]
        rfl
    split
    · rename_i h
      rw [← h, ahead _ _ hm (by omega), ih]
    · rename_i h
      have hb : (!p) = b := by cases b <;> cases p <;> simp_all
      rw [lensL, Nat.sub_self, pixR, List.replicate_zero, List.nil_append, hb, ahead _ _ hm (by omega), ih]
theorem row_runs (l : List Bool) : pixR false (lensL 0 (changes l) l.length) = l := by
  have := (pix_runs l false 0).2
  rwa [Nat.zero_add] at this

/-- the next change to a colour, not ahead of a place, and the one behind it -/
def nextF (w : Nat) : List Nat → Bool → Nat → Nat × Nat
  | [], _, _ => (w, w)
  | x :: c, b, a => if a ≤ x ∧ b = true then (x, c.headD w) else nextF w c (!b) a
/-- of all changes: the first one is to black -/
def nextX (w : Nat) (c : List Nat) (black : Bool) (a : Nat) : Nat × Nat := nextF w c black a
end Go.Proofs.YtidicajedckaoaaGreatDoor.Rn

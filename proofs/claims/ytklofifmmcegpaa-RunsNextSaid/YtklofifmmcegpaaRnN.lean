
/- Rows of white and black, more in plain words: a row as it grows, places toggled, runs and their pixels, the next change to a colour; no program in sight. -/
import Derived.Test.YtklofifmmcegpaaRnM
namespace Go.Proofs.Ytklofifmmcegpaa.Rn
open Go.Proofs.Ytklofifmmcegpaa.Bit
set_option linter.unusedVariables false
set_option linter.unusedSimpArgs false

/-- the last pixel, or the one before the first -/
def lastP (p : Bool) : List Bool → Bool
  | [] => p
  | b :: l => lastP b l
theorem lastP_append : ∀ (l m : List Bool) (p : Bool), lastP p (l ++ m) = lastP (lastP p l) m
  | [], m, p => rfl
  | b :: l, m, p => lastP_append l m b
theorem chg_append : ∀ (l m : List Bool) (p : Bool) (i : Nat), chg p i (l ++ m) = chg p i l ++ chg (lastP p l) (i + l.length) m
  | [], m, p, i => by simp [chg, lastP]
  | b :: l, m, p, i => by
    rw [List.cons_append, chg, chg, chg_append l m b (i + 1), lastP, List.length_cons, show i + 1 + l.length = i + (l.length + 1) from by omega]
    split
    · rfl
    · rfl
theorem chg_same : ∀ (n : Nat) (b : Bool) (i : Nat), chg b i (List.replicate n b) = []
  | 0, b, i => rfl
  | n + 1, b, i => by rw [List.replicate_succ, chg, if_pos rfl, chg_same n b (i + 1)]
theorem lastP_same : ∀ (n : Nat) (b : Bool), lastP b (List.replicate n b) = b
  | 0, b => rfl
  | n + 1, b => by rw [List.replicate_succ, lastP, lastP_same n b]
/-- the changes of a row that is under way, the colour being known in which it goes on -/
def cur (P : List Bool) (b : Bool) : List Nat := changes (P ++ [b])
theorem cur_eq (P : List Bool) (b : Bool) : cur P b = changes P ++ (if b = lastP false P then [] else [P.length]) := by
  unfold cur changes
  rw [chg_append, Nat.zero_add, chg]
  split <;> rfl
theorem cur_nil : cur [] false = [] := rfl
/-- so many pixels more -/
theorem cur_run (P : List Bool) (b : Bool) (n : Nat) : cur (P ++ List.replicate n b) b = cur P b := by
  unfold cur
  rw [List.append_assoc, show List.replicate n b ++ [b] = [b] ++ List.replicate n b from by rw [← List.replicate_succ', List.replicate_succ]; rfl, ← List.append_assoc]
  unfold changes
  rw [chg_append, lastP_append]
  show _ ++ chg b _ (List.replicate n b) = _
  rw [chg_same, List.append_nil]
/-- a place, put behind or taken away -/
def togX (c : List Nat) (x : Nat) : List Nat := if c.getLast? = some x then c.dropLast else c ++ [x]
theorem changes_last (P : List Bool) : (changes P).getLast? ≠ some P.length := by
  intro h
  have := chg_mem P false 0 P.length (List.mem_of_getLast? h)
  omega
/-- the colour turns -/
theorem cur_flip (P : List Bool) (b : Bool) : togX (cur P b) P.length = cur P (!b) := by
  unfold togX
  rw [cur_eq, cur_eq]
  by_cases h : b = lastP false P
  · have h2 : ¬ (!b) = lastP false P := by rw [← h]; cases b <;> simp
    rw [if_pos h, if_neg h2, List.append_nil, if_neg (changes_last P)]
  · have h2 : (!b) = lastP false P := by cases b <;> cases hl : lastP false P <;> simp_all
    rw [if_neg h, if_pos h2, List.append_nil, if_pos (by simp)]
    simp
theorem cur_end (P : List Bool) (b : Bool) : changes P = if (cur P b).getLast? = some P.length then (cur P b).dropLast else cur P b := by
  rw [cur_eq]
  by_cases h : b = lastP false P
  · rw [if_pos h, List.append_nil, if_neg (changes_last P)]
  · rw [if_neg h, if_pos (by simp)]
    simp
theorem cur_valid (P : List Bool) (b : Bool) : Valid (cur P b) (P.length + 1) := by
  have := changes_valid (P ++ [b])
  rw [List.length_append, List.length_singleton] at this
  exact this
theorem lastP_count : ∀ (l : List Bool) (p : Bool) (i : Nat), lastP p l = (p ^^ ((chg p i l).length % 2 == 1))
  | [], p, i => by simp [lastP, chg]
  | b :: l, p, i => by
    rw [lastP, chg, lastP_count l b (i + 1)]
    split
    · rename_i h; rw [h]
    · rename_i h
      rw [List.length_cons]
      generalize (chg b (i + 1) l).length = n
      rcases (show n % 2 = 0 ∨ n % 2 = 1 by omega) with q | q
      · rw [show (n + 1) % 2 = 1 from by omega, q]
        cases b <;> cases p <;> simp_all
      · rw [show (n + 1) % 2 = 0 from by omega, q]
        cases b <;> cases p <;> simp_all
/-- how many places: the colour in which the row goes on -/
theorem cur_odd (P : List Bool) (b : Bool) : ((cur P b).length % 2 == 1) = b := by
  have h := lastP_count (P ++ [b]) false 0
  rw [lastP_append] at h
  have h2 : lastP (lastP false P) [b] = b := rfl
  rw [h2, Bool.false_xor] at h
  exact h.symm

/-- pixels of runs, the colours in turn -/
def pixR (b : Bool) : List Nat → List Bool
  | [] => []
  | n :: ns => List.replicate n b ++ pixR (!b) ns
theorem pixR_length : ∀ (ns : List Nat) (b : Bool), (pixR b ns).length = ns.sum
  | [], b => rfl
  | n :: ns, b => by rw [pixR, List.length_append, List.length_replicate, pixR_length ns (!b), List.sum_cons]
theorem pixR_append : ∀ (a c : List Nat) (b : Bool), pixR b (a ++ c) = pixR b a ++ pixR (if a.length % 2 = 0 then b else !b) c
  | [], c, b => by simp [pixR]
  | n :: a, c, b => by
    rw [List.cons_append, pixR, pixR, pixR_append a c (!b), List.append_assoc, List.length_cons]
    congr 2
    congr 1
    rcases (show a.length % 2 = 0 ∨ a.length % 2 = 1 by omega) with q | q
    · rw [if_pos q, if_neg (by omega)]
    · rw [if_neg (by omega), if_pos (by omega)]
      cases b <;> rfl
/-- places that rise, from one on, up to a width -/
def Rise (p : Nat) : List Nat → Nat → Prop
  | [], w => p ≤ w
  | x :: c, w => p ≤ x ∧ Rise x c w
theorem Rise.le : ∀ {c : List Nat} {p w : Nat}, Rise p c w → p ≤ w
  | [], p, w, h => h
  | x :: c, p, w, h => Nat.le_trans h.1 h.2.le
theorem rise_of : ∀ {c : List Nat} {w : Nat} (p : Nat), Valid c w → (∀ x ∈ c, p ≤ x) → p ≤ w → Rise p c w
  | [], w, p, hv, hp, hw => hw
  | x :: c, w, p, hv, hp, hw => by
    obtain ⟨h1, h2⟩ := hv
    have h3 := List.pairwise_cons.1 h1
    exact ⟨hp x (by simp), rise_of x ⟨h3.2, fun y hy => h2 y (by simp [hy])⟩ (fun y hy => by have := h3.1 y hy; omega) (by have := h2 x (by simp); omega)⟩
theorem lens_sum : ∀ {c : List Nat} {p w : Nat}, Rise p c w → p + (lensL p c w).sum = w
  | [], p, w, h => by have : p ≤ w := h; simp [lensL]; omega
  | x :: c, p, w, h => by
    have := lens_sum h.2
    have h1 := h.1
    rw [lensL, List.sum_cons]
    omega
theorem lens_take : ∀ {c : List Nat} {p w i : Nat} (h : Rise p c w) (hi : i < c.length), p + ((lensL p c w).take (i + 1)).sum = c[i]
  | [], p, w, i, h, hi => by simp at hi
  | x :: c, p, w, 0, h, hi => by
    have h1 := h.1
    simp [lensL]
    omega
  | x :: c, p, w, i + 1, h, hi => by
    have h1 := h.1
    have := lens_take (i := i) h.2 (by simpa using hi)
    rw [lensL, List.take_succ_cons, List.sum_cons, List.getElem_cons_succ, ← this]
    omega
/-- the runs of a row are its pixels -/
theorem pix_runs : ∀ (l : List Bool) (p : Bool) (i : Nat), List.replicate (match chg p i l with | [] => 0 | x :: _ => 0) p ++ [] = ([] : List Bool) ∧ pixR p (lensL i (chg p i l) (i + l.length)) = l
  | [], p, i => ⟨by simp [chg], by simp [chg, lensL, pixR]⟩
  | b :: l, p, i => by
    refine ⟨by split <;> simp, ?_⟩
    have ih := (pix_runs l b (i + 1)).2
    have hm := fun x hx => (chg_mem l b (i + 1) x hx).1
    rw [chg, List.length_cons, show i + (l.length + 1) = i + 1 + l.length from by omega]
    -- one pixel more ahead of the first run
    have ahead : ∀ (c : List Nat) (w : Nat), (∀ x ∈ c, i + 1 ≤ x) → i + 1 ≤ w → pixR b (lensL i c w) = b :: pixR b (lensL (i + 1) c w) := by
      intro c w hc hw
      cases c with
      | nil =>
        rw [lensL, lensL, pixR, pixR, show w - i = (w - (i + 1)) + 1 from by omega, List.replicate_succ]
        rfl
      | cons y c =>
        have := hc y (by simp)
        rw [lensL, lensL, pixR, pixR, show y - i = (y - (i + 1)) + 1 from by omega, List.replicate_succ]
        rfl
    split
    · rename_i h
      rw [← h, ahead _ _ hm (by omega), ih]
    · rename_i h
      have hb : (!p) = b := by cases b <;> cases p <;> simp_all
      rw [lensL, Nat.sub_self, pixR, List.replicate_zero, List.nil_append, hb, ahead _ _ hm (by omega), ih]
theorem row_runs (l : List Bool) : pixR false (lensL 0 (changes l) l.length) = l := by
  have := (pix_runs l false 0).2
  rwa [Nat.zero_add] at this

/-- the next change to a colour, not ahead of a place, and the one behind it -/
def nextF (w : Nat) : List Nat → Bool → Nat → Nat × Nat
  | [], _, _ => (w, w)
  | x :: c, b, a => if a ≤ x ∧ b = true then (x, c.headD w) else nextF w c (!b) a
/-- of all changes: the first one is to black -/
def nextX (w : Nat) (c : List Nat) (black : Bool) (a : Nat) : Nat × Nat := nextF w c black a
end Go.Proofs.Ytklofifmmcegpaa.Rn

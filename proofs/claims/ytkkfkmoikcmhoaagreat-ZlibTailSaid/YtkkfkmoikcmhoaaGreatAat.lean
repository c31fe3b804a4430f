/- LmT, LmO, LmR, LmS, LmC, LmP, LpA, LpR: merged. -/
import Derived.Lib.SliceRun
import Derived.ChangeSlices
import Derived.Test.YtkkfkmoikcmhoaaGreatAaa
import Derived.Test.YtkkfkmoikcmhoaaGreatAas
set_option linter.unusedVariables false
set_option linter.unusedSimpArgs false
namespace Go.Proofs.YtkkfkmoikcmhoaaGreat.Lm
open Bit Hf
def taken : List Nat → Nat → Nat
 | [], _ => 0
 | y :: l, k => (if k < y then share y else 0) + taken l k
def before : List Nat → Nat → Nat
 | [], _ => 0
 | y :: l, k => (if k < y then 0 else share y) + before l k
theorem both (l : List Nat) (k : Nat) : before l k + taken l k = kraft l := by
 induction l with
 | nil => rfl
 | cons y l ih =>
  rw [Y4g]
  simp only [before, taken]
  split <;> omega
def Yvc (l : List Nat) (k : Nat) : Nat := l.countP (· == k)
theorem Y5e (y : Nat) (l : List Nat) (k : Nat) : Ye9 (y :: l) k = (if k < y then 1 else 0) + Ye9 l k := by
 unfold Ye9
 rw [List.countP_cons]
 by_cases h : k < y
 ·simp [h]; omega
 ·simp [h]
theorem Yep (y : Nat) (l : List Nat) (k : Nat) : Yvc (y :: l) k = (if y = k then 1 else 0) + Yvc l k := by
 unfold Yvc
 rw [List.countP_cons]
 by_cases h : y = k
 ·simp [h]; omega
 ·simp [h]
theorem Yeq (l : List Nat) (k : Nat) : Ye9 l k = Yvc l (k + 1) + Ye9 l (k + 1) := by
 induction l with
 | nil => rfl
 | cons y l ih =>
  rw [Y5e, Y5e, Yep]
  by_cases h : y = k + 1
  ·subst h; simp; omega
  ·by_cases h2 : k < y
   ·rw [if_pos h2, if_neg h, if_pos (by omega)]; omega
   ·rw [if_neg h2, if_neg h, if_neg (by omega)]; omega
theorem Ymo (l : List Nat) (k : Nat) : taken l k = Yvc l (k + 1) * share (k + 1) + taken l (k + 1) := by
 induction l with
 | nil => simp [taken, Yvc]
 | cons y l ih =>
  rw [Yep]
  simp only [taken]
  by_cases h : y = k + 1
  ·subst h
   rw [if_pos (by omega), if_pos rfl, if_neg (by omega), Nat.add_mul]
   omega
  ·by_cases h2 : k < y
   ·rw [if_pos h2, if_neg h, if_pos (by omega), Nat.zero_add]; omega
   ·rw [if_neg h2, if_neg h, if_neg (by omega)]; simp only [Nat.zero_add]; omega
theorem Ykk (l : List Nat) (k : Nat) (hk : k ≤ 30) : share k ∣ before l k := by
 induction l with
 | nil => exact ⟨0, by simp [before]⟩
 | cons y l ih =>
  simp only [before]
  refine Nat.dvd_add ?_ ih
  split
  ·exact ⟨0, by simp⟩
  ·exact Y7l y k (by omega) hk
theorem Ygk {l : List Nat} (h : kraft l = 1073741824) (k : Nat) (hk : k ≤ 30) : share k ∣ taken l k := by
 have h1 := both l k
 rw [h] at h1
 have h2 := Ykk l k hk
 have h3 := Yr7 k hk
 rw [← h1] at h3
 exact (Nat.dvd_add_right h2).1 h3
theorem Yca (l : List Nat) (h : ∀ x ∈ l, 1 ≤ x) : taken l 0 = kraft l := by
 induction l with
 | nil => rfl
 | cons y l ih =>
  have := h y (List.mem_cons_self ..)
  rw [Y4g, ← ih (fun x hx => h x (List.mem_cons_of_mem _ hx))]
  simp only [taken]
  rw [if_pos (by omega)]
theorem Yer (l : List Nat) (h : ∀ x ∈ l, 1 ≤ x) : Ye9 l 0 = l.length := by
 induction l with
 | nil => rfl
 | cons y l ih =>
  have := h y (List.mem_cons_self ..)
  rw [Y5e, ih (fun x hx => h x (List.mem_cons_of_mem _ hx)), if_pos (by omega), List.length_cons]
  omega
theorem Yc9 (l : List Nat) (m : Nat) (h : ∀ x ∈ l, x ≤ m) : taken l m = 0 := by
 induction l with
 | nil => rfl
 | cons y l ih =>
  have := h y (List.mem_cons_self ..)
  simp only [taken]
  rw [ih (fun x hx => h x (List.mem_cons_of_mem _ hx)), if_neg (by omega)]
theorem Ynw (l : List Nat) (m : Nat) (h : ∀ x ∈ l, x ≤ m) : Ye9 l m = 0 := by
 induction l with
 | nil => rfl
 | cons y l ih =>
  have := h y (List.mem_cons_self ..)
  rw [Y5e, ih (fun x hx => h x (List.mem_cons_of_mem _ hx)), if_neg (by omega)]
theorem Yr1 {l : List Nat} {m k : Nat} (hm : m ∈ l) (hk : k < m) : 0 < taken l k := by
 induction l with
 | nil => cases hm
 | cons y l ih =>
  simp only [taken]
  rcases List.mem_cons.1 hm with rfl | hm
  ·rw [if_pos hk]; have := Y1u m; omega
  ·have := ih hm; omega
theorem Yqj (k : Nat) (h : k < 30) : share k = 2 * share (k + 1) := by
 have := Y7m k (k + 1) (by omega) (by omega)
 rw [show k + 1 - k = 1 by omega] at this
 omega
theorem Yfs {l : List Nat} {k o : Nat} (hk : k < 30) (ho : taken l k = o * share k) (hd : share (k + 1) ∣ taken l (k + 1)) : ∃ p, taken l (k + 1) = p * share (k + 1) ∧ 2 * o = Yvc l (k + 1) + p := by
 obtain ⟨p, hp⟩ := hd
 have h1 := Ymo l k
 have h2 := Yqj k hk
 have h3 := Y1u (k + 1)
 refine ⟨p, by rw [hp, Nat.mul_comm], ?_⟩
 have e : 2 * o * share (k + 1) = (Yvc l (k + 1) + p) * share (k + 1) := by
  rw [Nat.add_mul, Nat.mul_comm p, ← hp, ← h1, ho, h2, Nat.mul_comm 2 o, Nat.mul_assoc]
 exact Nat.eq_of_mul_eq_mul_right h3 e
theorem deep {l : List Nat} {m : Nat} (hk1 : kraft l = 1073741824) (hm : m ∈ l) (hmax : ∀ x ∈ l, x ≤ m) (hm30 : m ≤ 30) :
  ∀ (d k o : Nat), 1 ≤ d → k + d = m → 1 ≤ o → taken l k = o * share k → o + d ≤ Ye9 l k := by
 intro d
 induction d with
 | zero => intro k o h; omega
 | succ d ih =>
  intro k o _ hkd ho1 ho
  obtain ⟨p, hp, hpo⟩ := Yfs (by omega) ho (Ygk hk1 (k + 1) (by omega))
  have hs := Yeq l k
  rcases Nat.eq_zero_or_pos d with h0 | h0
  ·subst h0
   have h1 := Yc9 l (k + 1) (fun x hx => by have := hmax x hx; omega)
   have h2 := Y1u (k + 1)
   rw [h1] at hp
   have : p = 0 := by
    rcases Nat.eq_zero_or_pos p with h | h
    ·exact h
    ·have := Nat.mul_pos h h2; omega
   omega
  ·have h1 := Yr1 (k := k + 1) hm (by omega)
   have hp1 : 1 ≤ p := by
    rcases Nat.eq_zero_or_pos p with h | h
    ·subst h; omega
    ·exact h
   have := ih (k + 1) p h0 (by omega) hp1 hp
   omega
def pairs : List Nat → List Nat
 | a :: b :: P => (a + b) :: pairs P
 | _ => []
theorem Y8t : ∀ (P : List Nat), (pairs P).length = P.length / 2
 | [] => by simp [pairs]
 | [_] => by simp [pairs]
 | a :: b :: P => by
  simp only [pairs, List.length_cons, Y8t P]
  omega
theorem Yfz : ∀ (P : List Nat) (b : Nat), 2 * b ≤ P.length → Y6v (pairs P) b = Y6v P (2 * b)
 | _, 0, _ => by simp [Y6v]
 | [], b + 1, h => by simp at h
 | [_], b + 1, h => by simp at h; omega
 | x :: y :: P, b + 1, h => by
  have := Yfz P b (by simp at h; omega)
  rw [pairs, Y1c, this, show 2 * (b + 1) = 2 * b + 1 + 1 by omega, Y1c, Y1c]
  omega
def parcels (f : List Nat) : Nat → List Nat
 | 0 => []
 | t + 1 => isort (isort f ++ pairs (parcels f t))
def Tot : List Nat → Nat → Prop
 | [], j => j = 0
 | a :: qs, j => ∃ b, j = a + b ∧ Tot qs (2 * b)
theorem Y7g (f : List Nat) : ∀ (qs : List Nat) (j : Nat), Tot qs j → (∀ a ∈ qs, a ≤ f.length) → j ≤ (parcels f qs.length).length ∧ Y6v (parcels f qs.length) j ≤ (qs.map (Y6v (isort f))).sum := by
 intro qs
 induction qs with
 | nil => intro j h _; simp only [Tot] at h; subst h; simp [parcels, Y6v]
 | cons a qs ih =>
  intro j h ha
  obtain ⟨b, rfl, hb⟩ := h
  obtain ⟨h1, h2⟩ := ih (2 * b) hb (fun x hx => ha x (List.mem_cons_of_mem _ hx))
  have haf := ha a (List.mem_cons_self ..)
  have hpl := Y8t (parcels f qs.length)
  have hps := Yfz (parcels f qs.length) b h1
  have e : parcels f (a :: qs).length = isort (isort f ++ pairs (parcels f qs.length)) := rfl
  rw [e]
  generalize parcels f qs.length = P at h1 h2 hpl hps ⊢
  have hal : ((isort f).take a).length = a := by rw [List.length_take, Y3x]; omega
  have hbl : ((pairs P).take b).length = b := by rw [List.length_take]; omega
  refine ⟨?_, ?_⟩
  ·rw [Y3x, List.length_append, Y3x]; omega
  ·have hs : ((isort f).take a ++ (pairs P).take b).Sublist (isort f ++ pairs P) := List.Sublist.append (List.take_sublist _ _) (List.take_sublist _ _)
   have := Yg9 hs
   rw [List.length_append, hal, hbl, List.sum_append] at this
   rw [List.map_cons, List.sum_cons]
   have e1 : ((pairs P).take b).sum = Y6v (pairs P) b := rfl
   have e2 : ((isort f).take a).sum = Y6v (isort f) a := rfl
   omega
def levels (l : List Nat) (k : Nat) : Nat → List Nat
 | 0 => []
 | t + 1 => Ye9 l k :: levels l (k + 1) t
theorem Y7a (l : List Nat) (t k : Nat) : (levels l k t).length = t := by
 induction t generalizing k with
 | zero => rfl
 | succ t ih => simp [levels, ih]
theorem Yfi (l : List Nat) (t k : Nat) : ∀ a ∈ levels l k t, a ≤ l.length := by
 induction t generalizing k with
 | zero => intro a h; cases h
 | succ t ih =>
  intro a h
  rcases List.mem_cons.1 h with rfl | h
  ·exact List.countP_le_length
  ·exact ih (k + 1) a h
theorem Yc7 (g : Nat → Nat) (t : Nat) : Y2u g (t + 1) = g 0 + Y2u (fun i => g (i + 1)) t := by
 induction t with
 | zero => simp [Y2u]
 | succ t ih => rw [Y2u, ih]; simp only [Y2u]; omega
theorem Ylt (g : Nat → Nat) (l : List Nat) (t k : Nat) : ((levels l k t).map g).sum = Y2u (fun i => g (Ye9 l (k + i))) t := by
 induction t generalizing k with
 | zero => rfl
 | succ t ih =>
  rw [Yc7]
  simp only [levels, List.map_cons, List.sum_cons, ih (k + 1), Nat.add_zero]
  congr 1
  refine Y1e t (fun i _ => ?_)
  rw [show k + 1 + i = k + (i + 1) by omega]
theorem Yfr {l : List Nat} {k o : Nat} (hk : k < 30) (ho : taken l k = o * share k) : o ≤ Ye9 l k := by
 have key : ∀ l : List Nat, taken l k ≤ Ye9 l k * share k := by
  intro l
  induction l with
  | nil => simp [taken]
  | cons y l ih =>
   rw [Y5e]
   simp only [taken]
   split
   ·rename_i h
    have : share y ≤ share k := Nat.le_of_dvd (Y1u k) (by
     rcases Nat.lt_or_ge 30 y with h30 | h30
     ·unfold share
      rw [show 30 - y = 0 by omega]
      exact Nat.one_dvd _
     ·exact Y7l k y (by omega) h30)
    rw [Nat.add_mul]; omega
   ·rw [Nat.zero_add, Nat.zero_add]; exact ih
 have h1 := key l
 rw [ho] at h1
 exact Nat.le_of_mul_le_mul_right h1 (Y1u k)
theorem Yj3 {l : List Nat} {L : Nat} (hk1 : kraft l = 1073741824) (hhi : ∀ x ∈ l, x ≤ L) (hL : L ≤ 30) :
  ∀ (t k o : Nat), 1 ≤ t → k + t = L → taken l k = o * share k → Tot (levels l k t) (2 * (Ye9 l k - o)) := by
 intro t
 induction t with
 | zero => intro k o h; omega
 | succ t ih =>
  intro k o _ hkt ho
  obtain ⟨p, hp, hpo⟩ := Yfs (by omega) ho (Ygk hk1 (k + 1) (by omega))
  have hs := Yeq l k
  have hol := Yfr (by omega) ho
  rcases Nat.eq_zero_or_pos t with h0 | h0
  ·subst h0
   have h1 := Yc9 l (k + 1) (fun x hx => by have := hhi x hx; omega)
   have h2 := Ynw l (k + 1) (fun x hx => by have := hhi x hx; omega)
   rw [h1] at hp
   have hp0 : p = 0 := by
    rcases Nat.eq_zero_or_pos p with h | h
    ·exact h
    ·have := Nat.mul_pos h (Y1u (k + 1)); omega
   exact ⟨0, by omega, by simp [levels, Tot]⟩
  ·have hpl : p ≤ Ye9 l (k + 1) := by
    rcases Nat.lt_or_ge (k + 1) 30 with h30 | h30
    ·exact Yfr h30 hp
    ·omega
   have := ih (k + 1) p h0 (by omega) hp
   exact ⟨Ye9 l (k + 1) - p, by omega, this⟩
theorem Yhz {f : List Nat} {L : Nat} {l : List Nat} (h : Ok f L l) (hL1 : 1 ≤ L) (hL : L ≤ 30) (h2 : 2 ≤ f.length) (hf : ∀ x ∈ f, 1 ≤ x) : Y6v (parcels f L) (2 * (f.length - 1)) ≤ cost f l := by
 obtain ⟨l', g1, g2, g3⟩ := Yr5 hL h2 hf _ l (Nat.le_refl _) h
 have ht := Yj3 g3 g1.hi hL L 0 1 hL1 (by omega) (by rw [Yca l' g1.lo, g3]; rfl)
 rw [Yer l' g1.lo, g1.len] at ht
 obtain ⟨_, h5⟩ := Y7g f _ _ ht (fun a ha => by rw [← g1.len]; exact Yfi l' L 0 a ha)
 rw [Y7a, Ylt] at h5
 refine Nat.le_trans h5 (Nat.le_trans ?_ g2)
 refine Nat.le_trans (Nat.le_of_eq (Y1e L (fun i _ => ?_))) (Yw0 f l' L g1.len g1.hi)
 rw [Nat.zero_add]
end Go.Proofs.YtkkfkmoikcmhoaaGreat.Lm
namespace Go.Proofs.YtkkfkmoikcmhoaaGreat.Lm
open Bit Hf
theorem Ypp (f : List Nat) (L : Nat) (hL1 : 1 ≤ L) (hL : L ≤ 30) (hn : f.length ≤ 2 ^ L) : Ok f L (List.replicate f.length L) := by
 refine ⟨by simp, fun x hx => ?_, fun x hx => ?_, ?_⟩
 ·rw [List.eq_of_mem_replicate hx]; exact hL1
 ·rw [List.eq_of_mem_replicate hx]; exact Nat.le_refl _
 ·unfold kraft
  rw [List.map_replicate, List.sum_replicate_nat, ← Y7n L hL]
  exact Nat.mul_le_mul_right _ hn
theorem Yp3 (x L : Nat) (hL : 1 ≤ L) : Least [x] L [1] := by
 refine ⟨⟨rfl, by simp, by simpa using hL, by decide⟩, fun l' h => ?_⟩
 match l', h.len with
 | [y], _ =>
  have := h.lo y (by simp)
  simp only [cost]
  have := Nat.mul_le_mul_left x this
  omega
theorem Ylr (L : Nat) : Least [] L [] := ⟨⟨rfl, by simp, by simp, by decide⟩, fun l' _ => by simp [cost]⟩
def come (o : List Nat) : List Nat := o.filter (0 < ·)
def Y4d : List Nat → List Nat → List Nat
 | x :: o, y :: l => if 0 < x then y :: Y4d o l else Y4d o l
 | _, _ => []
theorem Y92 (o : List Nat) : ∀ x ∈ come o, 1 ≤ x := by
 intro x hx
 have := (List.mem_filter.1 hx).2
 simp at this
 omega
end Go.Proofs.YtkkfkmoikcmhoaaGreat.Lm
namespace Go.Proofs.YtkkfkmoikcmhoaaGreat.Lm
open Bit Hf
inductive Reach (f : List Nat) : Nat → Nat → Nat → Nat → Prop
 | zero : Reach f 0 0 1 0
 | step {k g o c here : Nat} : Reach f k g o c → o ≤ f.length - g → here ≤ 2 * o → g + here ≤ f.length → Reach f (k + 1) (g + here) (min (2 * o - here) (f.length - g - here)) (c + Y6v (isort f) (f.length - g))
theorem Yt2 (x : Nat) (B : List Nat) : (ins x B).Perm (x :: B) := by
 induction B with
 | nil => exact List.Perm.refl _
 | cons b B ih =>
  unfold ins
  split
  ·exact List.Perm.refl _
  ·exact (ih.cons b).trans (List.Perm.swap ..)
theorem Ylp (f : List Nat) : (isort f).Perm f := by
 induction f with
 | nil => exact List.Perm.refl _
 | cons x f ih => exact (Yt2 x _).trans (ih.cons x)
end Go.Proofs.YtkkfkmoikcmhoaaGreat.Lm
namespace Go.Proofs.YtkkfkmoikcmhoaaGreat.Lm
open Bit Hf
def far : Nat := 1152921504606846976
end Go.Proofs.YtkkfkmoikcmhoaaGreat.Lm
namespace Go.Proofs.YtkkfkmoikcmhoaaGreat.Lm
open Bit Hf
theorem Yk2 (g : Nat → Nat) (c n : Nat) : Y2u (fun r => c * g r) n = c * Y2u g n := by
 induction n with
 | zero => rfl
 | succ n ih => simp only [Y2u, ih, Nat.mul_add]
theorem Y8k (c n : Nat) : Y2u (fun _ => c) n = n * c := by
 induction n with
 | zero => simp [Y2u]
 | succ n ih => simp only [Y2u, ih, Nat.succ_mul]
theorem Yue {g : Nat → Nat} {n r : Nat} (h : r < n) : g r ≤ Y2u g n := by
 induction n with
 | zero => omega
 | succ n ih =>
  simp only [Y2u]
  by_cases hr : r = n
  ·subst hr; omega
  ·have := ih (by omega); omega
theorem Yk3 {g : Nat → Nat} {n r s : Nat} (hr : r < n) (hs : s < n) (hrs : r < s) : g r + g s ≤ Y2u g n := by
 induction n with
 | zero => omega
 | succ n ih =>
  simp only [Y2u]
  by_cases h : s = n
  ·subst h
   have := Yue (g := g) (n := s) (r := r) hrs
   omega
  ·have := ih (by omega) (by omega); omega
def Yrt (n : Nat) (p : Nat → Bool) : Nat := Y2u (fun r => (p r).toNat) n
def Y5o : List (Nat → Bool) → Nat → Nat
 | [], _ => 0
 | p :: ps, r => (p r).toNat + Y5o ps r
theorem Yhm (ps : List (Nat → Bool)) (r : Nat) : Y5o ps r ≤ ps.length := by
 induction ps with
 | nil => simp [Y5o]
 | cons p ps ih => simp only [Y5o, List.length_cons]; cases p r <;> simp <;> omega
def Yuz : List (Nat → Bool) → Nat → Nat
 | [], _ => 0
 | p :: ps, r => (p r).toNat * 2 ^ ps.length + Yuz ps r
theorem room (ps : List (Nat → Bool)) (r : Nat) : 2 ^ (ps.length - Y5o ps r) + Yuz ps r ≤ 2 ^ ps.length := by
 induction ps with
 | nil => simp [Y5o, Yuz]
 | cons p ps ih =>
  have hl := Yhm ps r
  simp only [Y5o, Yuz, List.length_cons]
  cases p r
  ·have e : 2 ^ (ps.length + 1 - (0 + Y5o ps r)) = 2 * 2 ^ (ps.length - Y5o ps r) := by
    rw [show ps.length + 1 - (0 + Y5o ps r) = (ps.length - Y5o ps r) + 1 by omega, Nat.pow_succ, Nat.mul_comm]
   simp only [Bool.toNat_false]
   rw [e, Nat.pow_succ]
   omega
  ·simp only [Bool.toNat_true, Nat.one_mul]
   rw [show ps.length + 1 - (1 + Y5o ps r) = ps.length - Y5o ps r by omega, Nat.pow_succ]
   omega
def Yvk (n : Nat) : List (Nat → Bool) → Nat
 | [] => 0
 | p :: ps => Yrt n p * 2 ^ ps.length + Yvk n ps
theorem Yuy (n : Nat) (ps : List (Nat → Bool)) : Y2u (Yuz ps) n = Yvk n ps := by
 induction ps with
 | nil => simp only [Yuz, Yvk]; rw [Y8k]; omega
 | cons p ps ih =>
  have e : Y2u (Yuz (p :: ps)) n = Y2u (fun r => 2 ^ ps.length * (p r).toNat + Yuz ps r) n := Y1e n (fun r _ => by simp only [Yuz]; rw [Nat.mul_comm])
  rw [e, Y9a, Yk2, ih]
  simp only [Yvk, Yrt]
  rw [Nat.mul_comm]
theorem Yy8 (n : Nat) : ∀ (ps : List (Nat → Bool)) (j : Nat), Tot (ps.map (Yrt n)) j → 2 * Yvk n ps = j * 2 ^ ps.length := by
 intro ps
 induction ps with
 | nil => intro j h; simp only [List.map_nil, Tot] at h; subst h; simp [Yvk]
 | cons p ps ih =>
  intro j h
  obtain ⟨b, rfl, hb⟩ := h
  have := ih _ hb
  simp only [Yvk, List.length_cons, Nat.pow_succ]
  rw [Nat.mul_add, this, Nat.add_mul]
  generalize 2 ^ ps.length = x
  have e1 : 2 * (Yrt n p * x) = Yrt n p * (x * 2) := by rw [Nat.mul_comm 2, Nat.mul_assoc]
  have e2 : 2 * b * x = b * (x * 2) := by rw [Nat.mul_comm 2 b, Nat.mul_assoc, Nat.mul_comm 2 x]
  omega
def Yd5 (n : Nat) (ps : List (Nat → Bool)) : List Nat := (List.range n).map (Y5o ps)
theorem Yff (n : Nat) (ps : List (Nat → Bool)) : (Yd5 n ps).length = n := by simp [Yd5]
theorem Yge (g : Nat → Nat) (n : Nat) : ((List.range n).map g).sum = Y2u g n := by
 induction n with
 | zero => rfl
 | succ n ih => rw [List.range_succ, List.map_append, List.sum_append, ih]; simp [Y2u]
theorem Ysk {f : List Nat} {L : Nat} {ps : List (Nat → Bool)} (h2 : 2 ≤ f.length) (hL : L ≤ 30) (hp : ps.length = L) (ht : Tot (ps.map (Yrt f.length)) (2 * (f.length - 1))) : Ok f L (Yd5 f.length ps) := by
 subst hp
 have hw := Yy8 f.length ps _ ht
 have hs := Yuy f.length ps
 have hsum : Y2u (fun r => 2 ^ (ps.length - Y5o ps r)) f.length + Yvk f.length ps ≤ f.length * 2 ^ ps.length := by
  rw [← hs, ← Y9a, ← Y8k]
  exact Yqr _ (fun r _ => room ps r)
 have hone : Y2u (fun r => 2 ^ (ps.length - Y5o ps r)) f.length ≤ 2 ^ ps.length := by
  have e : f.length * 2 ^ ps.length = (f.length - 1) * 2 ^ ps.length + 2 ^ ps.length := by
   rw [← Nat.succ_mul]; congr 1; omega
  have e2 : 2 * (f.length - 1) * 2 ^ ps.length = 2 * ((f.length - 1) * 2 ^ ps.length) := Nat.mul_assoc ..
  omega
 refine ⟨Yff _ _, fun x hx => ?_, fun x hx => ?_, ?_⟩
 ·obtain ⟨r, hr, rfl⟩ := List.mem_map.1 hx
  have hr : r < f.length := by simpa using hr
  rcases Nat.eq_zero_or_pos (Y5o ps r) with h0 | h0
  ·exfalso
   have hpos : ∀ s, 0 < 2 ^ (ps.length - Y5o ps s) := fun s => Nat.pow_pos (by omega)
   have hbig : 2 ^ (ps.length - Y5o ps r) = 2 ^ ps.length := by rw [h0, Nat.sub_zero]
   rcases Nat.eq_zero_or_pos r with hr0 | hr0
   ·have h9 : 2 ^ (ps.length - Y5o ps r) + 2 ^ (ps.length - Y5o ps 1) ≤ Y2u (fun r => 2 ^ (ps.length - Y5o ps r)) f.length := Yk3 (g := fun r => 2 ^ (ps.length - Y5o ps r)) hr (by omega) (by omega)
    have := hpos 1
    omega
   ·have h9 : 2 ^ (ps.length - Y5o ps 0) + 2 ^ (ps.length - Y5o ps r) ≤ Y2u (fun r => 2 ^ (ps.length - Y5o ps r)) f.length := Yk3 (g := fun r => 2 ^ (ps.length - Y5o ps r)) (by omega) hr hr0
    have := hpos 0
    omega
  ·exact h0
 ·obtain ⟨r, _, rfl⟩ := List.mem_map.1 hx
  exact Yhm ps r
 ·unfold kraft Yd5
  rw [List.map_map, Yge]
  have e : Y2u (share ∘ Y5o ps) f.length = Y2u (fun r => 2 ^ (30 - ps.length) * 2 ^ (ps.length - Y5o ps r)) f.length := Y1e _ (fun r _ => by
   have := Yhm ps r
   show 2 ^ (30 - Y5o ps r) = _
   rw [← Nat.pow_add]
   congr 1
   omega)
  rw [e, Yk2]
  refine Nat.le_trans (Nat.mul_le_mul_left _ hone) ?_
  rw [← Nat.pow_add, show 30 - ps.length + ps.length = 30 by omega]
  exact Nat.le_refl _
theorem Yl2 (f : List Nat) (g : Nat → Nat) : cost f ((List.range f.length).map g) = Y2u (fun r => f.getD r 0 * g r) f.length := by
 have key : ∀ (f : List Nat) (g : Nat → Nat), cost f ((List.range f.length).map g) = Y2u (fun r => f.getD r 0 * g r) f.length := by
  intro f
  induction f with
  | nil => intro g; rfl
  | cons x f ih =>
   intro g
   rw [List.length_cons, List.range_succ_eq_map, List.map_cons, List.map_map, Yc7]
   simp only [cost]
   rw [ih (g ∘ Nat.succ)]
   rfl
 exact key f g
def Yym (f : List Nat) (p : Nat → Bool) : Nat := Y2u (fun r => f.getD r 0 * (p r).toNat) f.length
theorem Yl1 (f : List Nat) (ps : List (Nat → Bool)) : cost f (Yd5 f.length ps) = (ps.map (Yym f)).sum := by
 unfold Yd5
 rw [Yl2]
 induction ps with
 | nil => simp only [Y5o, Nat.mul_zero]; rw [Y8k]; simp
 | cons p ps ih =>
  have e : Y2u (fun r => f.getD r 0 * Y5o (p :: ps) r) f.length = Y2u (fun r => f.getD r 0 * (p r).toNat + f.getD r 0 * Y5o ps r) f.length := Y1e _ (fun r _ => by simp only [Y5o]; rw [Nat.mul_add])
  rw [e, Y9a, ih, List.map_cons, List.sum_cons]
  rfl
theorem Yh2 {f : List Nat} {L : Nat} {ps : List (Nat → Bool)} (h2 : 2 ≤ f.length) (hf : ∀ x ∈ f, 1 ≤ x) (hL1 : 1 ≤ L) (hL : L ≤ 30) (hp : ps.length = L) (ht : Tot (ps.map (Yrt f.length)) (2 * (f.length - 1)))
  (hw : (ps.map (Yym f)).sum ≤ Y6v (parcels f L) (2 * (f.length - 1))) : Least f L (Yd5 f.length ps) := by
 refine ⟨Ysk h2 hL hp ht, fun l' h => ?_⟩
 rw [Yl1]
 exact Nat.le_trans hw (Yhz h hL1 hL h2 hf)
theorem Yg5 : ∀ (M : List Nat), Rising M → isort M = M
 | [], _ => rfl
 | x :: M, h => by
  have h1 := Yg5 M h.tail
  simp only [isort, h1]
  cases M with
  | nil => rfl
  | cons y M => unfold ins; rw [if_pos h.1]
theorem Yt1 (x y : Nat) (B : List Nat) : ins x (ins y B) = ins y (ins x B) := by
 induction B with
 | nil =>
  simp only [ins]
  by_cases h : x ≤ y
  ·by_cases h2 : y ≤ x
   ·have : x = y := by omega
    subst this; rfl
   ·rw [if_pos h, if_neg h2]
  ·rw [if_neg h, if_pos (by omega)]
 | cons b B ih =>
  simp only [ins]
  by_cases hx : x ≤ b
  ·by_cases hy : y ≤ b
   ·rw [if_pos hy, if_pos hx]
    simp only [ins]
    by_cases h : x ≤ y
    ·by_cases h2 : y ≤ x
     ·have : x = y := by omega
      subst this; rfl
     ·rw [if_pos h, if_neg h2, if_pos hy]
    ·rw [if_neg h, if_pos hx, if_pos (show y ≤ x by omega)]
   ·rw [if_neg hy, if_pos hx]
    simp only [ins]
    rw [if_pos hx, if_neg (by omega), if_neg hy]
  ·by_cases hy : y ≤ b
   ·rw [if_pos hy, if_neg hx]
    simp only [ins]
    rw [if_neg (by omega), if_neg hx, if_pos hy]
   ·rw [if_neg hy, if_neg hx]
    simp only [ins]
    rw [if_neg hx, if_neg hy, ih]
theorem Yd0 {a b : List Nat} (h : a.Perm b) : isort a = isort b := by
 induction h with
 | nil => rfl
 | cons x _ ih => simp only [isort, ih]
 | swap x y l => simp only [isort]; exact Yt1 y x _
 | trans _ _ h1 h2 => rw [h1, h2]
theorem Yi6 {M B : List Nat} (h : Rising M) (hp : M.Perm B) : M = isort B := by rw [← Yd0 hp, Yg5 M h]
end Go.Proofs.YtkkfkmoikcmhoaaGreat.Lm
namespace Go.Proofs.YtkkfkmoikcmhoaaGreat.Lm
open Bit Hf
inductive Tree where
 | leaf (w s : Nat)
 | node (a b : Tree)
 deriving DecidableEq
def Tree.wt : Tree → Nat
 | .leaf w _ => w
 | .node a b => a.wt + b.wt
def Tree.cnt (r : Nat) : Tree → Nat
 | .leaf _ s => if s = r then 1 else 0
 | .node a b => a.cnt r + b.cnt r
def Tree.isLeaf : Tree → Bool
 | .leaf _ _ => true
 | .node _ _ => false
def Y33 : List Tree → List Tree
 | a :: b :: P => .node a b :: Y33 P
 | _ => []
theorem Yjo : ∀ (P : List Tree), (Y33 P).map Tree.wt = pairs (P.map Tree.wt)
 | [] => rfl
 | [_] => rfl
 | a :: b :: P => by simp only [Y33, List.map_cons, pairs, Tree.wt]; rw [Yjo P]
theorem Y40 : ∀ (P : List Tree), (Y33 P).length = P.length / 2
 | [] => rfl
 | [_] => by simp [Y33]
 | a :: b :: P => by simp only [Y33, List.length_cons]; rw [Y40 P]; omega
theorem Yfx : ∀ (P : List Tree) (i : Nat) (h : 2 * i + 1 < P.length), (Y33 P)[i]? = some (.node P[2 * i] P[2 * i + 1])
 | [], i, h => by simp at h
 | [_], i, h => by simp at h
 | a :: b :: P, 0, h => rfl
 | a :: b :: P, i + 1, h => by
  have := Yfx P i (by simp only [List.length_cons] at h; omega)
  simp only [Y33, List.getElem?_cons_succ]
  rw [this]
  congr 1
theorem Y6o : ∀ (P : List Tree), ∀ t ∈ Y33 P, t.isLeaf = false
 | [], t, h => by simp [Y33] at h
 | [_], t, h => by simp [Y33] at h
 | a :: b :: P, t, h => by
  simp only [Y33, List.mem_cons] at h
  rcases h with rfl | h
  ·rfl
  ·exact Y6o P t h
def Tree.kids : Tree → List Tree
 | .leaf _ _ => []
 | .node a b => [a, b]
theorem Yc0 : ∀ (P : List Tree), ∃ R, (Y33 P).flatMap Tree.kids ++ R = P
 | [] => ⟨[], rfl⟩
 | [x] => ⟨[x], rfl⟩
 | a :: b :: P => by
  obtain ⟨R, h⟩ := Yc0 P
  exact ⟨R, by simp only [Y33, List.flatMap_cons, Tree.kids, List.cons_append, List.nil_append]; rw [h]⟩
def Y12 (f : List Nat) : List Tree := (List.range f.length).map fun r => .leaf (f.getD r 0) r
def Level (f : List Nat) : Nat → List Tree → Prop
 | 0, T => T = []
 | l + 1, T => ∃ T', Level f l T' ∧ T.Perm (Y12 f ++ Y33 T')
def Y2w (f : List Nat) : Nat → List Tree → Prop
 | 0, T => T = []
 | l + 1, T => Rising (T.map Tree.wt) ∧ ∃ T', Y2w f l T' ∧ T.Perm (Y12 f ++ Y33 T')
theorem Y2w.level {f : List Nat} : ∀ {l : Nat} {T : List Tree}, Y2w f l T → Level f l T
 | 0, _, h => h
 | l + 1, _, ⟨_, T', h, hp⟩ => ⟨T', h.level, hp⟩
theorem Yls (f : List Nat) : (Y12 f).map Tree.wt = f := by
 unfold Y12
 rw [List.map_map]
 refine List.ext_getElem (by simp) (fun i h1 h2 => ?_)
 simp only [List.getElem_map, List.getElem_range, Function.comp, Tree.wt]
 rw [List.getD_eq_getElem?_getD, List.getElem?_eq_getElem h2]
 rfl
theorem Y2w.parcels {f : List Nat} : ∀ {l : Nat} {T : List Tree}, Y2w f l T → T.map Tree.wt = parcels f l
 | 0, _, h => by subst h; rfl
 | l + 1, T, ⟨hr, T', h, hp⟩ => by
  have h2 := hp.map Tree.wt
  rw [List.map_append, Yls, Yjo, h.parcels] at h2
  exact Yi6 hr (h2.trans (List.Perm.append_right _ (Ylp f).symm))
theorem Yf5 {A B : List Tree} (g : Tree → List Tree) (h : A.Perm B) : (A.flatMap g).Perm (B.flatMap g) := by
 induction h with
 | nil => exact List.Perm.refl _
 | cons x _ ih => simp only [List.flatMap_cons]; exact List.Perm.append_left _ ih
 | swap x y l =>
  simp only [List.flatMap_cons, ← List.append_assoc]
  exact List.Perm.append_right _ List.perm_append_comm
 | trans _ _ h1 h2 => exact h1.trans h2
theorem Yd1 (f : List Nat) : (Y12 f).Nodup := by
 unfold Y12
 rw [List.Nodup, List.pairwise_map]
 exact List.nodup_range.imp (fun h e => h (by injection e))
def Y49 (r : Nat) (Q : List Tree) : Nat := (Q.map (Tree.cnt r)).sum
def wtL (Q : List Tree) : Nat := (Q.map Tree.wt).sum
theorem Ynx {A B : List Tree} (r : Nat) (h : A.Perm B) : Y49 r A = Y49 r B := (h.map _).sum_nat
theorem Yv4 {A B : List Tree} (h : A.Perm B) : wtL A = wtL B := (h.map _).sum_nat
theorem Y9r (r : Nat) (A B : List Tree) : Y49 r (A ++ B) = Y49 r A + Y49 r B := by simp [Y49]
theorem Yci (A B : List Tree) : wtL (A ++ B) = wtL A + wtL B := by simp [wtL]
theorem Y75 (r : Nat) : ∀ (Q : List Tree), (∀ t ∈ Q, t.isLeaf = false) → Y49 r (Q.flatMap Tree.kids) = Y49 r Q ∧ wtL (Q.flatMap Tree.kids) = wtL Q ∧ (Q.flatMap Tree.kids).length = 2 * Q.length
 | [], _ => ⟨rfl, rfl, rfl⟩
 | .leaf w s :: Q, h => by have := h _ (List.mem_cons_self ..); cases this
 | .node a b :: Q, h => by
  obtain ⟨h1, h2, h3⟩ := Y75 r Q (fun t ht => h t (List.mem_cons_of_mem _ ht))
  simp only [List.flatMap_cons, Tree.kids]
  rw [Y9r, Yci, List.length_append, h1, h2, h3]
  refine ⟨?_, ?_, ?_⟩
  ·simp [Y49, Tree.cnt]
  ·simp [wtL, Tree.wt]
  ·simp; omega
theorem Yfc {f : List Nat} {Q R : List Tree} (h : (Q ++ R).Perm (Y12 f)) : ∃ p : Nat → Bool, Yrt f.length p = Q.length ∧ (∀ r, r < f.length → Y49 r Q = (p r).toNat) ∧ Yym f p = wtL Q := by
 have hnd : (Q ++ R).Nodup := h.nodup_iff.2 (Yd1 f)
 let q : Tree → Bool := fun t => decide (t ∈ Q)
 have hq1 : Q.filter q = Q := List.filter_eq_self.2 (fun t ht => decide_eq_true ht)
 have hq2 : R.filter q = [] := List.filter_eq_nil_iff.2 (fun t ht hc => by
  have hc := of_decide_eq_true hc
  exact (List.nodup_append.1 hnd).2.2 t hc t ht rfl)
 have hp : Q.Perm ((Y12 f).filter q) := by
  have := h.filter q
  rw [List.filter_append, hq1, hq2, List.append_nil] at this
  exact this
 have hg : ∀ (g : Tree → Nat), (Q.map g).sum = Y2u (fun r => (q (.leaf (f.getD r 0) r)).toNat * g (.leaf (f.getD r 0) r)) f.length := by
  intro g
  rw [(hp.map g).sum_nat, ← Yge]
  unfold Y12
  generalize f.length = n
  generalize List.range n = rs
  induction rs with
  | nil => rfl
  | cons r rs ih =>
   simp only [List.map_cons, List.filter_cons, List.sum_cons]
   rw [← ih]
   cases q (.leaf (f.getD r 0) r) <;> simp
 refine ⟨fun r => q (.leaf (f.getD r 0) r), ?_, ?_, ?_⟩
 ·have := hg (fun _ => 1)
  unfold Yrt
  have e : (Q.map fun _ => 1).sum = Q.length := by
   clear hg hp hq1 hq2 hnd h this
   induction Q with
   | nil => rfl
   | cons x Q ih => rw [List.map_cons, List.sum_cons, ih, List.length_cons, Nat.add_comm]
  rw [← e, this]
  exact Y1e _ (fun r _ => (Nat.mul_one _).symm)
 ·intro r hr
  unfold Y49
  rw [hg]
  rw [show Y2u (fun k => (q (.leaf (f.getD k 0) k)).toNat * Tree.cnt r (.leaf (f.getD k 0) k)) f.length = Y2u (fun k => if k = r then (q (.leaf (f.getD r 0) r)).toNat else 0) f.length from Y1e _ (fun k _ => by
   simp only [Tree.cnt]
   by_cases hk : k = r
   ·subst hk; rw [if_pos rfl, if_pos rfl, Nat.mul_one]
   ·rw [if_neg hk, if_neg hk, Nat.mul_zero])]
  generalize (q (.leaf (f.getD r 0) r)).toNat = x
  revert hr
  generalize f.length = n
  intro hr
  have key : ∀ n, Y2u (fun k => if k = r then x else 0) n = if r < n then x else 0 := by
   intro n
   induction n with
   | zero => rfl
   | succ n ih =>
    simp only [Y2u, ih]
    by_cases h1 : r < n
    ·rw [if_pos h1, if_neg (by omega), if_pos (by omega)]; omega
    ·by_cases h2 : n = r
     ·rw [if_neg h1, if_pos h2, if_pos (by omega)]; omega
     ·rw [if_neg h1, if_neg h2, if_neg (by omega)]
  rw [key, if_pos hr]
 ·unfold Yym wtL
  rw [hg]
  exact Y1e _ (fun r _ => by rw [Nat.mul_comm]; rfl)
theorem Yiv {f : List Nat} : ∀ {l : Nat} {T : List Tree}, Level f l T → ∀ Q R : List Tree, (Q ++ R).Perm T → ∃ ps : List (Nat → Bool), ps.length = l ∧ Tot (ps.map (Yrt f.length)) Q.length ∧ (∀ r, r < f.length → Y49 r Q = Y5o ps r) ∧ (ps.map (Yym f)).sum = wtL Q
 | 0, T, h, Q, R, hq => by
  subst h
  have := List.Perm.eq_nil hq
  have hQ : Q = [] := (List.append_eq_nil_iff.1 this).1
  subst hQ
  exact ⟨[], rfl, rfl, fun r _ => rfl, rfl⟩
 | l + 1, T, ⟨T', h, hp⟩, Q, R, hq => by
  have hqq := hq.trans hp
  have hl : ∀ t ∈ Y12 f, t.isLeaf = true := fun t ht => by
   unfold Y12 at ht
   obtain ⟨r, _, rfl⟩ := List.mem_map.1 ht
   rfl
  have e1 : (Y12 f ++ Y33 T').filter Tree.isLeaf = Y12 f := by
   rw [List.filter_append, List.filter_eq_self.2 hl, List.filter_eq_nil_iff.2 (fun t ht hc => by rw [Y6o T' t ht] at hc; cases hc), List.append_nil]
  have e2 : (Y12 f ++ Y33 T').filter (fun t => !t.isLeaf) = Y33 T' := by
   rw [List.filter_append, List.filter_eq_nil_iff.2 (fun t ht hc => by rw [hl t ht] at hc; cases hc), List.filter_eq_self.2 (fun t ht => by rw [Y6o T' t ht]; rfl), List.nil_append]
  have p1 := hqq.filter Tree.isLeaf
  have p2 := hqq.filter (fun t => !t.isLeaf)
  rw [e1, List.filter_append] at p1
  rw [e2, List.filter_append] at p2
  obtain ⟨p, hp1, hp2, hp3⟩ := Yfc p1
  obtain ⟨RR, hRR⟩ := Yc0 T'
  have p3 := Yf5 Tree.kids p2
  rw [List.flatMap_append] at p3
  have p4 : ((Q.filter (fun t => !t.isLeaf)).flatMap Tree.kids ++ ((R.filter (fun t => !t.isLeaf)).flatMap Tree.kids ++ RR)).Perm T' := by
   rw [← List.append_assoc]
   refine (List.Perm.append_right RR p3).trans ?_
   rw [hRR]
  obtain ⟨ps, a1, a2, a3, a4⟩ := Yiv h _ _ p4
  have hsplit : (Q.filter Tree.isLeaf ++ Q.filter (fun t => !t.isLeaf)).Perm Q := List.filter_append_perm _ _
  have hnl : ∀ t ∈ Q.filter (fun t => !t.isLeaf), t.isLeaf = false := fun t ht => by
   have := (List.mem_filter.1 ht).2
   cases ht' : t.isLeaf with
   | false => rfl
   | true => rw [ht'] at this; cases this
  refine ⟨p :: ps, by simp [a1], ?_, fun r hr => ?_, ?_⟩
  ·refine ⟨(Q.filter (fun t => !t.isLeaf)).length, ?_, ?_⟩
   ·rw [hp1, ← List.length_append, hsplit.length_eq]
   ·rw [← (Y75 0 _ hnl).2.2]
    exact a2
  ·rw [← Ynx r hsplit, Y9r, hp2 r hr, ← (Y75 r _ hnl).1, a3 r hr]
   rfl
  ·rw [← Yv4 hsplit, Yci, List.map_cons, List.sum_cons, hp3, a4, (Y75 0 _ hnl).2.1]
theorem Yr8 {f : List Nat} {L : Nat} {T : List Tree} (h2 : 2 ≤ f.length) (hf : ∀ x ∈ f, 1 ≤ x) (hL1 : 1 ≤ L) (hL : L ≤ 30) (hT : Y2w f L T) (hn : 2 * (f.length - 1) ≤ T.length) :
  Least f L ((List.range f.length).map fun r => Y49 r (T.take (2 * (f.length - 1)))) := by
 obtain ⟨ps, a1, a2, a3, a4⟩ := Yiv hT.level (T.take (2 * (f.length - 1))) (T.drop (2 * (f.length - 1))) (by rw [List.take_append_drop])
 rw [List.length_take, Nat.min_eq_left hn] at a2
 have hw : (ps.map (Yym f)).sum ≤ Y6v (parcels f L) (2 * (f.length - 1)) := by
  rw [a4, ← hT.parcels]
  unfold wtL Y6v
  rw [List.map_take]
  exact Nat.le_refl _
 have := Yh2 h2 hf hL1 hL a1 a2 hw
 have e : Yd5 f.length ps = (List.range f.length).map fun r => Y49 r (T.take (2 * (f.length - 1))) := by
  unfold Yd5
  exact List.map_congr_left (fun r hr => (a3 r (by simpa using hr)).symm)
 rw [← e]
 exact this
end Go.Proofs.YtkkfkmoikcmhoaaGreat.Lm
namespace Go.Proofs.YtkkfkmoikcmhoaaGreat.Lp
open Go.Shelf Go.RowKit Go.Lib Go.Sort Sm Lm
set_option maxRecDepth 100000
structure Pk where
 wt : Int
 sym : Int
 ptr : Option Addr
 len : Nat
 cap : Nat
instance : Inhabited Pk := ⟨⟨0, 0, none, 0, 0⟩⟩
def Yha (x : Pk) : List Value := [.int .i64 x.wt, .int .i64 x.sym, .slice x.ptr x.len x.cap]
theorem Yiy (x : Pk) : (Yha x).length = 3 := rfl
theorem Yiz (x : Pk) : ∀ v ∈ Yha x, v.oneCell' = true := fun v hv => by
 simp only [Yha, List.mem_cons, List.not_mem_nil, or_false] at hv
 rcases hv with rfl | rfl | rfl <;> rfl
def Yrs (x y : Int) : Int := if x < y then -1 else if y < x then 1 else 0
def Yrr (x y : Pk) : Int := Yrs x.wt y.wt
theorem ltP (x y : Pk) : ltOf Yrr x y = decide (x.wt < y.wt) := by
 unfold ltOf Yrr Yrs
 by_cases h1 : x.wt < y.wt
 ·simp [h1]
 ·by_cases h2 : y.wt < x.wt <;> simp [h1, h2]
theorem swoP : SWO (ltOf Yrr) where
 irrefl x := by rw [ltP]; simp
 trans x y z h1 h2 := by rw [ltP] at *; simp at *; omega
 ntrans x y z h1 h2 := by rw [ltP] at *; simp at *; omega
theorem Yvd (x : Int) (W : World) : Calls Tryz.prog 171 #[.int .i64 x] W fun e w' => e = .returned (.bool false) ∧ w' = W := by
 go_enter Tryz.func171, Tryz.ntmps171
 go_wp2
 go_ret
 exact ⟨by simp, rfl⟩
theorem compare (x y : Int) (W : World) : Calls Tryz.prog 163 #[.int .i64 x, .int .i64 y] W fun e w' => e = .returned (.int .i64 (Yrs x y)) ∧ w' = W := by
 have h1 := Yvd x
 have h2 := Yvd y
 by_cases hlt : x < y
 ·have hr : Yrs x y = -1 := by unfold Yrs; rw [if_pos hlt]
  rw [hr]
  go_enter Tryz.func163, Tryz.ntmps163
  go_wp2_with (go_at_call 171; first | (refine (h1 _).mono ?_; rintro e w' ⟨rfl, rfl⟩) | (refine (h2 _).mono ?_; rintro e w' ⟨rfl, rfl⟩))
  all_goals (go_ret; exact ⟨rfl, rfl⟩)
 ·by_cases hgt : y < x
  ·have hr : Yrs x y = 1 := by unfold Yrs; rw [if_neg hlt, if_pos hgt]
   rw [hr]
   go_enter Tryz.func163, Tryz.ntmps163
   go_wp2_with (go_at_call 171; first | (refine (h1 _).mono ?_; rintro e w' ⟨rfl, rfl⟩) | (refine (h2 _).mono ?_; rintro e w' ⟨rfl, rfl⟩))
   all_goals (go_ret; exact ⟨rfl, rfl⟩)
  ·have hr : Yrs x y = 0 := by unfold Yrs; rw [if_neg hlt, if_neg hgt]
   rw [hr]
   go_enter Tryz.func163, Tryz.ntmps163
   go_wp2_with (go_at_call 171; first | (refine (h1 _).mono ?_; rintro e w' ⟨rfl, rfl⟩) | (refine (h2 _).mono ?_; rintro e w' ⟨rfl, rfl⟩))
   all_goals (go_ret; exact ⟨rfl, rfl⟩)
set_option maxHeartbeats 1000000 in
theorem closure (x y : Pk) (W : World) : Calls Tryz.prog 162 #[.agg #[.int .i64 x.wt, .int .i64 x.sym, .slice x.ptr x.len x.cap], .agg #[.int .i64 y.wt, .int .i64 y.sym, .slice y.ptr y.len y.cap]] W fun e w' => e = .returned (.int .i64 (Yrr x y)) ∧ ∃ q os', w' = grow (W.drewN q) os' := by
 have hcon := fun W' => compare x.wt y.wt W'
 have hr : Yrs x.wt y.wt = Yrr x y := rfl
 rw [hr] at hcon
 generalize Yrr x y = r at hcon ⊢
 clear hr
 go_enter Tryz.func162, Tryz.ntmps162
 go_wp2_with (go_at_call 163; refine (hcon _).mono ?_; rintro e w' ⟨rfl, rfl⟩)
 go_ret
 exact ⟨rfl, 0, _, by rw [alloc_eq_grow, alloc_eq_grow, grow_grow]; rfl⟩
theorem Ysd (blk off size : Nat) (w : World) : CmpLays Tryz.prog 162 #[] Yha 3 Yrr blk off size w := fun _ _ _ _ x y => closure x y _
theorem Ybd (args : Array Value) (w : World) : (callFunc 162 args).run Tryz.prog w = .ok (.enter 162 args) w := enters_of Tryz.func162 (by kernel_rfl) rfl args w
theorem Yme (blk off cap : Nat) (d : Array Pk) (w : World) (hH : HoldsK Yha 3 w blk off d) (hblk : blk < w.heap.size) (hsz : d.size < 1000000000) :
  Calls Tryz.prog 161 #[.slice (some ⟨blk, off, none⟩) d.size cap, .func (.func 162) #[] #[]] w fun e w' => e = .returned (.tuple #[]) ∧ ∃ d', SWK Yha 3 w blk off d' w' ∧ PermIn 0 d.size d d' ∧ SortedIn (ltOf Yrr) 0 d.size d' :=
 Yi8 Yha Yrr swoP 162 #[] blk off cap d w Ybd (Ysd _ _ _ _) ⟨Yiy, Yiz, hH, hblk⟩ hsz
end Go.Proofs.YtkkfkmoikcmhoaaGreat.Lp
namespace Go.Proofs.YtkkfkmoikcmhoaaGreat.Lp
open Go.RowKit Oct
set_option maxRecDepth 100000
def Only (S : Nat → Prop) (w w' : World) : Prop :=
 w'.os = w.os ∧ w'.tape = w.tape ∧ w'.output = w.output ∧ w.heap.size ≤ w'.heap.size ∧ ∀ k, k < w.heap.size → ¬ S k → w'.heap[k]? = w.heap[k]?
theorem Only.refl (S : Nat → Prop) (w : World) : Only S w w := ⟨rfl, rfl, rfl, Nat.le_refl _, fun _ _ _ => rfl⟩
theorem Only.trans {S : Nat → Prop} {a b c : World} (h : Only S a b) (k : Only S b c) : Only S a c :=
 ⟨k.1.trans h.1, k.2.1.trans h.2.1, k.2.2.1.trans h.2.2.1, Nat.le_trans h.2.2.2.1 k.2.2.2.1, fun i hi hs => (k.2.2.2.2 i (by have := h.2.2.2.1; omega) hs).trans (h.2.2.2.2 i hi hs)⟩
theorem Only.below {S : Nat → Prop} {B : Nat} {w w' : World} (h : Only S w w') (hB : B ≤ w.heap.size) (hS : ∀ k, k < B → ¬ S k) : Below B w w' :=
 ⟨h.1, h.2.1, h.2.2.1, h.2.2.2.1, fun k hk => h.2.2.2.2 k (by omega) (hS k hk)⟩
theorem Only.of_below {S : Nat → Prop} {w w' : World} (h : Below w.heap.size w w') : Only S w w' := ⟨h.os, h.tape, h.output, h.size, fun k hk _ => h.block k hk⟩
theorem Only.setCell {S : Nat → Prop} {w : World} {p : Addr} (hp : S p.block) (u : Value) : Only S w (w.setCell p u) :=
 ⟨rfl, rfl, rfl, by simp [World.setCell], fun k hk hs => Below.heap_setCell _ _ _ _ (fun e => hs (e ▸ hp))⟩
def VRow (w : World) (C : Nat) (p : Option Addr) (vs : List Value) : Prop :=
 0 < vs.length → ∃ b off, p = some ⟨b, off, none⟩ ∧ b < C ∧ ∀ i (h : i < vs.length), w.cell? ⟨b, off + i, none⟩ = some vs[i]
def ints (zs : List Int) : List Value := zs.map fun z => .int .i64 z
theorem Y06 (zs : List Int) : (ints zs).length = zs.length := by simp [ints]
theorem VRow.int {w : World} {C : Nat} {b off : Nat} {zs : List Int} (h : VRow w C (some ⟨b, off, none⟩) (ints zs)) (i : Nat) (hi : i < zs.length) : w.cell? ⟨b, off + i, none⟩ = some (.int .i64 zs[i]) := by
 obtain ⟨b', off', e, hlt, hc⟩ := h (by rw [Y06]; omega)
 injection e with e
 injection e with e1 e2
 subst e1; subst e2
 have := hc i (by rw [Y06]; exact hi)
 rw [this]
 simp [ints]
theorem VRow.addr {w : World} {C : Nat} {p : Option Addr} {vs : List Value} (h : VRow w C p vs) (hp : 0 < vs.length) : ∃ b off, p = some ⟨b, off, none⟩ ∧ b < C := by
 obtain ⟨b, off, e, hlt, _⟩ := h hp
 exact ⟨b, off, e, hlt⟩
theorem Y2k {W : World} {d : Nat} {cs : Array Value} {T : TypeId} (h : W.heap[d]? = some (.cells cs T (0, 0))) (i : Nat) (v : Value) : (W.setCell ⟨d, i, none⟩ v).heap[d]? = some (.cells (cs.setIfInBounds i v) T (0, 0)) := by
 simp [World.setCell, Array.getElem?_modify, h]
theorem Y23 {W : World} {d : Nat} {cs : Array Value} {T : TypeId} (h : W.heap[d]? = some (.cells cs T (0, 0))) (i : Nat) : W.frozen? ⟨d, i, none⟩ = false := by
 simp [World.frozen?, h]
section
variable {H : Type} {enc : TypeId × Value → H} {w : World} {spare : Nat → Bool} {held : Bool}
end
end Go.Proofs.YtkkfkmoikcmhoaaGreat.Lp

/- SmM, SmA, SmB, SmC: merged. -/
import Derived.Sort.LotA
import Derived.Shelf.SlSortCmp.PdqK
import Derived.Test.YtkkfkmoikcmhoaaGreatAaa
set_option linter.unusedVariables false
set_option linter.unusedSimpArgs false
namespace Go.Proofs.YtkkfkmoikcmhoaaGreat.Sm
open Go.Sort
variable {α : Type} [Inhabited α] {lt : α → α → Bool}
def swR (a b : Nat) : Nat → Array α → Array α
 | 0, d => d
 | n + 1, d => swp (swR a b n d) (a + n) (b + n)
theorem Y7q (a b n : Nat) (d : Array α) : (swR a b n d).size = d.size := by
 induction n with
 | zero => rfl
 | succ n ih => simp only [swR, size_swp, ih]
theorem Ye1 {lo hi a b n : Nat} {d : Array α} (h1 : lo ≤ a) (h2 : a + n ≤ b) (h3 : b + n ≤ hi) (h4 : hi ≤ d.size) : PermIn lo hi d (swR a b n d) := by
 induction n with
 | zero => exact permIn_refl _ _ _
 | succ n ih => exact permIn_trans _ _ _ _ _ (ih (by omega) (by omega)) (swp_permIn _ lo hi _ _ (by omega) (by omega) (by omega) (by omega) (by rw [Y7q]; omega))
theorem Yic {a b n : Nat} {d : Array α} (h2 : a + n ≤ b) (h3 : b + n ≤ d.size) (k : Nat) :
  (swR a b n d)[k]! = if a ≤ k ∧ k < a + n then d[k - a + b]! else if b ≤ k ∧ k < b + n then d[k - b + a]! else d[k]! := by
 induction n generalizing k with
 | zero => rw [if_neg (by omega), if_neg (by omega)]; rfl
 | succ n ih =>
  have hs := Y7q a b n d
  simp only [swR]
  rw [swp_get _ (by omega) (by omega), ih (by omega) (by omega), ih (by omega) (by omega), ih (by omega) (by omega)]
  by_cases h4 : k = b + n
  ·subst h4
   rw [if_pos rfl, if_neg (by omega), if_neg (by omega), if_neg (by omega), if_pos (by omega)]
   congr 1; omega
  ·rw [if_neg h4]
   by_cases h5 : k = a + n
   ·subst h5
    rw [if_pos rfl, if_neg (by omega), if_neg (by omega), if_pos (by omega)]
    congr 1; omega
   ·rw [if_neg h5]
    by_cases h6 : a ≤ k ∧ k < a + n
    ·rw [if_pos h6, if_pos (by omega)]
    ·rw [if_neg h6, if_neg (show ¬ (a ≤ k ∧ k < a + (n + 1)) by omega)]
     by_cases h7 : b ≤ k ∧ k < b + n
     ·rw [if_pos h7, if_pos (by omega)]
     ·rw [if_neg h7, if_neg (by omega)]
def Y5w (a m b : Nat) (d : Array α) (k : Nat) : α := if k < a ∨ b ≤ k then d[k]! else if k < a + (b - m) then d[k + (m - a)]! else d[k - (b - m)]!
theorem Y39 {a m b : Nat} {d : Array α} {k : Nat} (h : k < a ∨ b ≤ k) : Y5w a m b d k = d[k]! := by unfold Y5w; rw [if_pos h]
theorem Y7k {a m b : Nat} {d : Array α} {k : Nat} (h1 : a ≤ k) (h2 : k < a + (b - m)) (h3 : m ≤ b) (h4 : a ≤ m) : Y5w a m b d k = d[k + (m - a)]! := by unfold Y5w; rw [if_neg (by omega), if_pos h2]
theorem Y4m {a m b : Nat} {d : Array α} {k : Nat} (h1 : a + (b - m) ≤ k) (h2 : k < b) : Y5w a m b d k = d[k - (b - m)]! := by unfold Y5w; rw [if_neg (by omega), if_neg (by omega)]
theorem Yc3 {a b : Nat} {d : Array α} (k : Nat) : Y5w a a b d k = d[k]! := by
 unfold Y5w
 split
 ·rfl
 ·rename_i h
  split
  ·congr 1; omega
  ·omega
theorem Yc4 {a b : Nat} {d : Array α} (h : a ≤ b) (k : Nat) : Y5w a b b d k = d[k]! := by
 unfold Y5w
 split
 ·rfl
 ·rename_i h
  split
  ·omega
  ·congr 1; omega
theorem Yu2 {m i j : Nat} {d : Array α} (hi : i ≤ m) (hj : j < i) (hs : m + j ≤ d.size) (k : Nat) : Y5w (m - (i - j)) m (m + j) (swR (m - i) m j d) k = Y5w (m - i) m (m + j) d k := by
 have g := fun k => Yic (d := d) (a := m - i) (b := m) (n := j) (by omega) hs k
 unfold Y5w
 by_cases h1 : k < m - i ∨ m + j ≤ k
 ·rw [if_pos (by omega), if_pos h1, g, if_neg (by omega), if_neg (by omega)]
 ·rw [if_neg h1]
  by_cases h2 : k < m - i + (m + j - m)
  ·rw [if_pos h2, if_pos (by omega), g, if_pos (by omega)]
   congr 1; omega
  ·rw [if_neg h2, if_neg (by omega)]
   by_cases h3 : k < m - (i - j) + (m + j - m)
   ·rw [if_pos h3, g, if_neg (by omega), if_pos (by omega)]
    congr 1; omega
   ·rw [if_neg h3, g, if_neg (by omega), if_neg (by omega)]
theorem Yu1 {m i j : Nat} {d : Array α} (hi : i ≤ m) (hj : i < j) (hs : m + j ≤ d.size) (k : Nat) : Y5w (m - i) m (m + (j - i)) (swR (m - i) (m + j - i) i d) k = Y5w (m - i) m (m + j) d k := by
 have g := fun k => Yic (d := d) (a := m - i) (b := m + j - i) (n := i) (by omega) (by omega) k
 unfold Y5w
 by_cases h1 : k < m - i ∨ m + j ≤ k
 ·rw [if_pos (by omega), if_pos h1, g, if_neg (by omega), if_neg (by omega)]
 ·rw [if_neg h1]
  by_cases h2 : k < m - i ∨ m + (j - i) ≤ k
  ·rw [if_pos h2, if_neg (by omega), g, if_neg (by omega), if_pos (by omega)]
   congr 1; omega
  ·rw [if_neg h2]
   by_cases h3 : k < m - i + (m + (j - i) - m)
   ·rw [if_pos h3, if_pos (by omega), g]
    by_cases h4 : k + (m - (m - i)) < m + j - i
    ·rw [if_neg (by omega), if_neg (by omega)]
    ·omega
   ·rw [if_neg h3, g, if_pos (by omega)]
    by_cases h4 : k < m - i + (m + j - m)
    ·rw [if_pos h4]; congr 1; omega
    ·omega
theorem Yu3 {m i : Nat} {d : Array α} (hi : i ≤ m) (hs : m + i ≤ d.size) (k : Nat) : (swR (m - i) m i d)[k]! = Y5w (m - i) m (m + i) d k := by
 rw [Yic (by omega) hs]
 unfold Y5w
 by_cases h1 : k < m - i ∨ m + i ≤ k
 ·rw [if_pos h1, if_neg (by omega), if_neg (by omega)]
 ·rw [if_neg h1]
  by_cases h2 : k < m - i + (m + i - m)
  ·rw [if_pos h2, if_pos (by omega)]; congr 1; omega
  ·rw [if_neg h2, if_neg (by omega), if_pos (by omega)]; congr 1; omega
theorem SortedIn.join {a m b : Nat} {d : Array α} (h1 : SortedIn lt a m d) (h2 : SortedIn lt m b d) (hx : ∀ x y, a ≤ x → x < m → m ≤ y → y < b → lt d[y]! d[x]! = false) : SortedIn lt a b d := by
 intro i j hi hij hj
 by_cases h : j < m
 ·exact h1 i j hi hij h
 ·by_cases h' : i < m
  ·exact hx i j hi h' (by omega) hj
  ·exact h2 i j (by omega) hij hj
theorem SortedIn.sub {a b a' b' : Nat} {d : Array α} (h : SortedIn lt a b d) (h1 : a ≤ a') (h2 : b' ≤ b) : SortedIn lt a' b' d := fun i j hi hij hj => h i j (by omega) hij (by omega)
theorem SortedIn.le {a b : Nat} {d : Array α} (hS : SWO lt) (h : SortedIn lt a b d) {i j : Nat} (hi : a ≤ i) (hij : i ≤ j) (hj : j < b) : lt d[j]! d[i]! = false := by
 rcases Nat.lt_or_ge i j with h' | h'
 ·exact h i j hi h' hj
 ·have : i = j := by omega
  subst this
  exact hS.irrefl _
theorem Yc6 {a : Nat} {d : Array α} : SortedIn lt a (a + 1) d := fun i j hi hij hj => by omega
theorem Yb0 {a b : Nat} {d : Array α} (h : b ≤ a + 1) : SortedIn lt a b d := fun i j hi hij hj => by omega
structure Cut (lt : α → α → Bool) (a s m e b : Nat) (d : Array α) : Prop where
 hs : a ≤ s
 hm : s ≤ m
 he : m ≤ e
 hb : e ≤ b
 x1 : ∀ x y, a ≤ x → x < s → e ≤ y → y < b → lt d[y]! d[x]! = false
 x2 : ∀ x y, m ≤ x → x < e → s ≤ y → y < m → lt d[y]! d[x]! = false
section
variable {a s m e b : Nat} {d d' : Array α} (hS : SWO lt) (h1 : SortedIn lt a m d) (h2 : SortedIn lt m b d) (C : Cut lt a s m e b d) (hd : ∀ k, d'[k]! = Y5w s m e d k)
include hS h1 h2 C hd
omit hS h2 in
theorem Yo0 : SortedIn lt a s d' := fun i j hi hij hj => by
 rw [hd, hd, Y39 (by omega), Y39 (by omega)]
 exact h1 i j hi hij (Nat.lt_of_lt_of_le hj C.hm)
omit hS h1 in
theorem Yh5 : SortedIn lt s (s + (e - m)) d' := fun i j hi hij hj => by
 have := C.hm; have := C.he
 rw [hd, hd, Y7k (by omega) (by omega) C.he C.hm, Y7k (by omega) (by omega) C.he C.hm]
 exact h2 _ _ (by omega) (by omega) (by have := C.hb; omega)
omit hS h2 in
theorem Y9y : SortedIn lt (s + (e - m)) e d' := fun i j hi hij hj => by
 have := C.hm; have := C.he
 rw [hd, hd, Y4m (by omega) (by omega), Y4m (by omega) (by omega)]
 exact h1 _ _ (by have := C.hs; omega) (by omega) (by omega)
omit hS h1 in
theorem Yix : SortedIn lt e b d' := fun i j hi hij hj => by
 rw [hd, hd, Y39 (by omega), Y39 (by omega)]
 exact h2 i j (by have := C.he; omega) hij hj
omit hS in
theorem Y9x (x y : Nat) (hx : a ≤ x) (hx2 : x < s + (e - m)) (hy : s + (e - m) ≤ y) (hy2 : y < b) : lt d'[y]! d'[x]! = false := by
 have h3 := C.hm; have h4 := C.he; have h5 := C.hs; have h6 := C.hb
 rw [hd, hd]
 by_cases hxs : x < s
 ·rw [Y39 (k := x) (by omega)]
  by_cases hye : y < e
  ·rw [Y4m hy hye]
   exact h1 _ _ hx (by omega) (by omega)
  ·rw [Y39 (by omega)]
   exact C.x1 x y hx hxs (by omega) hy2
 ·rw [Y7k (by omega) hx2 h4 h3]
  by_cases hye : y < e
  ·rw [Y4m hy hye]
   exact C.x2 _ _ (by omega) (by omega) (by omega) (by omega)
  ·rw [Y39 (by omega)]
   exact h2 _ _ (by omega) (by omega) hy2
end
theorem Ylw {a m i b : Nat} {d d' : Array α} (hS : SWO lt) (hm : m = a + 1) (h2 : SortedIn lt m b d) (hi : m ≤ i) (hib : i ≤ b) (hlo : ∀ q, m ≤ q → q < i → lt d[q]! d[a]! = true) (hhi : ∀ q, i ≤ q → q < b → lt d[q]! d[a]! = false)
  (hd : ∀ k, d'[k]! = Y5w a m i d k) : SortedIn lt a b d' := by
 have C : Cut lt a a m i b d := ⟨Nat.le_refl _, by omega, hi, hib, fun x y _ _ => by omega, fun x y hx hx2 hy hy2 => by
  have : y = a := by omega
  subst this
  exact hS.asymmA (hlo x hx hx2)⟩
 have h1 : SortedIn lt a m d := by subst hm; exact Yc6
 refine SortedIn.join (m := a + (i - m)) (Yh5 h2 C hd) ?_ (Y9x h1 h2 C hd)
 refine SortedIn.join (m := i) (Y9y h1 C hd) (Yix h2 C hd) ?_
 intro x y hx hx2 hy hy2
 rw [hd, hd, Y4m hx hx2, Y39 (by omega), show x - (i - m) = a by omega]
 exact hhi y hy hy2
theorem Yhr {a m i b : Nat} {d d' : Array α} (hS : SWO lt) (hb : b = m + 1) (h1 : SortedIn lt a m d) (hi : a ≤ i) (him : i ≤ m) (hlo : ∀ q, a ≤ q → q < i → lt d[m]! d[q]! = false) (hhi : ∀ q, i ≤ q → q < m → lt d[m]! d[q]! = true)
  (hd : ∀ k, d'[k]! = Y5w i m b d k) : SortedIn lt a b d' := by
 have C : Cut lt a i m b b d := ⟨hi, him, by omega, Nat.le_refl _, fun x y _ _ => by omega, fun x y hx hx2 hy hy2 => by
  have : x = m := by omega
  subst this
  exact hS.asymmA (hhi y hy hy2)⟩
 have h2 : SortedIn lt m b d := by subst hb; exact Yc6
 refine SortedIn.join (m := i + (b - m)) ?_ (Y9y h1 C hd) (Y9x h1 h2 C hd)
 refine SortedIn.join (m := i) (Yo0 h1 C hd) (Yh5 h2 C hd) ?_
 intro x y hx hx2 hy hy2
 rw [hd, hd, Y39 (k := x) (by omega), Y7k hy hy2 C.he C.hm, show y + (m - i) = m by omega]
 exact hlo x hx hx2
structure Srch (lt : α → α → Bool) (d : Array α) (p lo hi start r : Nat) : Prop where
 h1 : lo ≤ start
 h2 : start ≤ r
 h3 : r ≤ hi
 below : lo < start → lt d[p - (start - 1)]! d[start - 1]! = false
 above : r < hi → lt d[p - r]! d[r]! = true
theorem Srch.cut {a m b mid start : Nat} {d : Array α} (hS : SWO lt) (h1 : SortedIn lt a m d) (h2 : SortedIn lt m b d) (ham : a < m) (hmb : m < b) (hmid : mid = (a + b) / 2) {lo hi : Nat} (hlo : lo = if mid < m then mid + m - b else a) (hhi : hi = if mid < m then mid else m)
  (H : Srch lt d (mid + m - 1) lo hi start start) : Cut lt a start m (mid + m - start) b d := by
 have e1 := H.h1; have e2 := H.h3
 have hA : a ≤ start ∧ start ≤ m ∧ m ≤ mid + m - start ∧ mid + m - start ≤ b := by
  by_cases h : mid < m
  ·rw [if_pos h] at hlo hhi; omega
  ·rw [if_neg h] at hlo hhi; omega
 refine ⟨hA.1, hA.2.1, hA.2.2.1, hA.2.2.2, ?_, ?_⟩
 ·intro x y hx hx2 hy hy2
  by_cases hl : lo < start
  ·have hb := H.below hl
   rw [show mid + m - 1 - (start - 1) = mid + m - start by omega] at hb
   have hye := SortedIn.le hS h2 hA.2.2.1 hy hy2
   have hxs := SortedIn.le hS h1 hx (show x ≤ start - 1 by omega) (by omega)
   exact hS.ntrans _ _ _ (hS.ntrans _ _ _ hye hb) hxs
  ·exfalso
   by_cases h : mid < m
   ·rw [if_pos h] at hlo; omega
   ·rw [if_neg h] at hlo; omega
 ·intro x y hx hx2 hy hy2
  by_cases hl : start < hi
  ·have hb := hS.asymmA (H.above hl)
   rw [show mid + m - 1 - start = mid + m - start - 1 by omega] at hb
   have hys := SortedIn.le hS h1 hA.1 hy hy2
   have hxe := SortedIn.le hS h2 hx (show x ≤ mid + m - start - 1 by omega) (by omega)
   exact hS.ntrans _ _ _ (hS.ntrans _ _ _ hys hb) hxe
  ·exfalso
   by_cases h : mid < m
   ·rw [if_pos h] at hhi; omega
   ·rw [if_neg h] at hhi; omega
theorem halves {a mid b : Nat} {d e f : Array α} (hb : b ≤ d.size) (ha : a ≤ mid) (hmb : mid ≤ b) (hx : ∀ x y, a ≤ x → x < mid → mid ≤ y → y < b → lt d[y]! d[x]! = false) (p1 : PermIn a mid d e) (s1 : SortedIn lt a mid e) (p2 : PermIn mid b e f) (s2 : SortedIn lt mid b f) :
  PermIn a b d f ∧ SortedIn lt a b f := by
 have hes : e.size = d.size := p1.1
 refine ⟨permIn_trans _ _ _ _ _ (permIn_mono _ _ _ _ _ _ (Nat.le_refl _) hmb hb p1) (permIn_mono _ _ _ _ _ _ ha (Nat.le_refl _) (by omega) p2), ?_⟩
 have s1' : SortedIn lt a mid f := s1.congrA (fun p hp => p2.2.1 p (Or.inl hp))
 refine SortedIn.join s1' s2 ?_
 intro x y hx1 hx2 hy1 hy2
 have q1 : ∀ y', mid ≤ y' → y' < b → ∀ x', a ≤ x' → x' < mid → lt d[y']! e[x']! = false := fun y' h1 h2 => permIn_all d e a mid (fun v => lt d[y']! v = false) (by omega) p1 (fun i hi hi2 => hx i y' hi hi2 h1 h2)
 have q2 : ∀ x', a ≤ x' → x' < mid → ∀ y', mid ≤ y' → y' < b → lt f[y']! e[x']! = false := fun x' h1 h2 => permIn_all e f mid b (fun v => lt v e[x']! = false) (by omega) p2 (fun i hi hi2 => by
  rw [p1.2.1 i (Or.inr hi)]
  exact q1 i hi hi2 x' h1 h2)
 rw [p2.2.1 x (Or.inl hx2)]
 exact q2 x hx1 hx2 y hy1 hy2
theorem Y3d {a b a' b' : Nat} {d d' : Array α} (hp : PermIn a b d d') (h : SortedIn lt a' b' d) (ho : b' ≤ a ∨ b ≤ a') : SortedIn lt a' b' d' := fun i j hi hij hj => by
 rw [hp.2.1 i (by omega), hp.2.1 j (by omega)]
 exact h i j hi hij hj
end Go.Proofs.YtkkfkmoikcmhoaaGreat.Sm
namespace Go.Proofs.YtkkfkmoikcmhoaaGreat.Sm
open Go.Shelf Go.RowKit Go.Lib Go.Sort
variable {α : Type} [Inhabited α] {P : Program}
structure Lays (P : Program) : Prop where
 mixed : P.follows .mixedOrders = true
 fS : P.funcs[175]? = some Tryz.f175
 fR : P.funcs[174]? = some Tryz.f174
 fM : P.funcs[173]? = some Tryz.f173
 fT : P.funcs[170]? = some Tryz.f170
 t0 : P.underlying 0 = some (TypeDesc.tuple #[])
 a0 : ∀ w, (isAgg 0).run P w = .ok false w
 z0 : ∀ w, (Go.sizeOf 0).run P w = .ok 1 w
 v0 : ∀ w, (zeroValue 0).run P w = .ok (Value.tuple #[]) w
 t3 : P.underlying 3 = some (TypeDesc.int IntKind.i64)
 a3 : ∀ w, (isAgg 3).run P w = .ok false w
 z3 : ∀ w, (Go.sizeOf 3).run P w = .ok 1 w
 v3 : ∀ w, (zeroValue 3).run P w = .ok (Value.int IntKind.i64 0) w
 t4 : P.underlying 4 = some (TypeDesc.bool)
 a4 : ∀ w, (isAgg 4).run P w = .ok false w
 z4 : ∀ w, (Go.sizeOf 4).run P w = .ok 1 w
 v4 : ∀ w, (zeroValue 4).run P w = .ok (Value.bool false) w
 t33 : P.underlying 34 = some (TypeDesc.int IntKind.u64)
 a33 : ∀ w, (isAgg 34).run P w = .ok false w
 z33 : ∀ w, (Go.sizeOf 34).run P w = .ok 1 w
 v33 : ∀ w, (zeroValue 34).run P w = .ok (Value.int IntKind.u64 0) w
 t36 : P.underlying 218 = some (TypeDesc.slice 221)
 a36 : ∀ w, (isAgg 218).run P w = .ok false w
 z36 : ∀ w, (Go.sizeOf 218).run P w = .ok 1 w
 v36 : ∀ w, (zeroValue 218).run P w = .ok (Value.slice none 0 0) w
 t49 : P.underlying 244 = some (TypeDesc.func #[221, 221] #[3] false)
 a49 : ∀ w, (isAgg 244).run P w = .ok false w
 z49 : ∀ w, (Go.sizeOf 244).run P w = .ok 1 w
 v49 : ∀ w, (zeroValue 244).run P w = .ok (Value.nilFunc) w
 aE : ∀ w, (isAgg 221).run P w = .ok true w
theorem lays : Lays Tryz.prog where
 mixed := by kernel_rfl
 fS := Tryz.func175
 fR := Tryz.func174
 fM := Tryz.func173
 fT := Tryz.func170
 t0 := by kernel_rfl
 a0 _ := by kernel_rfl
 z0 _ := by kernel_rfl
 v0 _ := by kernel_rfl
 t3 := by kernel_rfl
 a3 _ := by kernel_rfl
 z3 _ := by kernel_rfl
 v3 _ := by kernel_rfl
 t4 := by kernel_rfl
 a4 _ := by kernel_rfl
 z4 _ := by kernel_rfl
 v4 _ := by kernel_rfl
 t33 := by kernel_rfl
 a33 _ := by kernel_rfl
 z33 _ := by kernel_rfl
 v33 _ := by kernel_rfl
 t36 := by kernel_rfl
 a36 _ := by kernel_rfl
 z36 _ := by kernel_rfl
 v36 _ := by kernel_rfl
 t49 := by kernel_rfl
 a49 _ := by kernel_rfl
 z49 _ := by kernel_rfl
 v49 _ := by kernel_rfl
 aE _ := by kernel_rfl
theorem Yu8 (w : World) : (Go.sizeOf 221).run Tryz.prog w = .ok 3 w := by kernel_rfl
set_option maxHeartbeats 4000000 in
set_option maxRecDepth 1000000 in
theorem Ymn (L : Lays P) (k : Nat) (zE : ∀ w, (Go.sizeOf 221).run P w = .ok k w) (enc : α → List Value) (blk off cap a b n : Nat) (fv : Value) (d0 d : Array α) (w0 w : World) (R : RowK enc k w0 blk off d0) (hs : d0.size = d.size) (S : SWK enc k w0 blk off d w) (hab : a + n ≤ b) (hb : b + n ≤ d.size) (hsz : d.size < 4611686018427387904) :
  Calls P 175 #[.slice (some ⟨blk, off, none⟩) d.size cap, .int .i64 a, .int .i64 b, .int .i64 n, fv] w fun e w' => e = .returned (.tuple #[]) ∧ SWK enc k w0 blk off (swR a b n d) w' := by
 have mixed := L.mixed; have t0 := L.t0; have a0 := L.a0; have z0 := L.z0; have v0 := L.v0; have t3 := L.t3; have a3 := L.a3; have z3 := L.z3; have v3 := L.v3; have t4 := L.t4; have a4 := L.a4; have z4 := L.z4; have v4 := L.v4; have t33 := L.t33; have a33 := L.a33; have z33 := L.z33; have v33 := L.v33; have t36 := L.t36; have a36 := L.a36; have z36 := L.z36; have v36 := L.v36; have t49 := L.t49; have a49 := L.a49; have z49 := L.z49; have v49 := L.v49; have aE := L.aE
 have S0 : Aside (SWK enc k w0 blk off d w) := S
 clear S
 go_enter L.fS, Tryz.ntmps175
 go_wp2
 go_loopg [10] n (fun kx s10 wr => ∃ (i : Nat), s10 = .int .i64 i ∧ i ≤ n ∧ n - i ≤ kx ∧ Aside (SWK enc k w0 blk off (swR a b i d) wr))
 case atStart => exact ⟨0, rfl, by omega, by omega, S0⟩
 case round =>
  clear S0
  obtain ⟨i, rfl, hin, hkx, S1⟩ := hrel
  by_cases hlt : i < n
  ·have hltz : (i : Int) < (n : Int) := by omega
   obtain ⟨dk, hdk⟩ : ∃ dk, dk = swR a b i d := ⟨_, rfl⟩
   have hds : dk.size = d.size := by rw [hdk, Y7q]
   rw [← hdk] at S1
   have hsw : swp dk (a + i) (b + i) = swR a b (i + 1) d := by rw [hdk]; rfl
   have wa : IntKind.i64.wrap ((a : Int) + (i : Int)) = ((a + i : Nat) : Int) := by rw [IntKind.wrap_i64]; omega
   have wb : IntKind.i64.wrap ((b : Int) + (i : Int)) = ((b + i : Nat) : Int) := by rw [IntKind.wrap_i64]; omega
   have ea : (((a + i : Nat) : Int)).toNat = a + i := by omega
   have pa : (0 : Int) ≤ ((a + i : Nat) : Int) := by omega
   have ba : ((a + i : Nat) : Int) < (d.size : Int) := by omega
   have eb : (((b + i : Nat) : Int)).toNat = b + i := by omega
   have pb : (0 : Int) ≤ ((b + i : Nat) : Int) := by omega
   have bb : ((b + i : Nat) : Int) < (d.size : Int) := by omega
   have S2 : Aside (SWK enc k w0 blk off (swp dk (a + i) (b + i)) ((wr.drew.setCells blk (off + (a + i) * k) (enc dk[b + i]!)).setCells blk (off + (b + i) * k) (enc dk[a + i]!))) := S1.out.swapped R _ _ (by omega) (by omega)
   have la := S1.out.ld1 R (by omega) P (a + i) (by omega)
   have lb := S1.out.ld1 R (by omega) P (b + i) (by omega)
   have sa := S1.out.st1 R (by omega) P (a + i) (by omega) dk[b + i]!
   have sb := S1.out.st2 R (by omega) P (a + i) (b + i) (by omega) (by omega) dk[b + i]! dk[a + i]!
   have na : (enc dk[a + i]!).length = k := R.hk _
   have nb : (enc dk[b + i]!).length = k := R.hk _
   generalize enc dk[a + i]! = cI at S2 la sb na
   generalize enc dk[b + i]! = cJ at S2 lb sa sb nb
   rw [hsw] at S2
   have HH : Hid (a + n ≤ b ∧ b + n ≤ d.size ∧ d.size < 4611686018427387904) := ⟨hab, hb, hsz⟩
   generalize ha1 : a + i = ai at *
   generalize hb1 : b + i = bi at *
   have HI : Hid (a + i = ai ∧ b + i = bi) := ⟨ha1, hb1⟩
   clear S1 ha1 hb1 hsw hdk hds
   go_wp2_with fail
   go_big_region_o
   clear la lb sa sb
   generalize (wr.drew.setCells blk (off + ai * k) cJ).setCells blk (off + bi * k) cI = w2 at S2 ⊢
   go_wp2
   go_roundg (n - (i + 1))
   case measure => omega
   case rel => exact ⟨i + 1, by go_num, by omega, Nat.le_refl _, S2⟩
  ·have hltz : ¬ (i : Int) < (n : Int) := by omega
   have hin' : i = n := by omega
   go_wp2
   go_end0
   subst hin'
   exact ⟨rfl, S1.out⟩
end Go.Proofs.YtkkfkmoikcmhoaaGreat.Sm
namespace Go.Proofs.YtkkfkmoikcmhoaaGreat.Sm
open Go.Shelf Go.RowKit Go.Lib Go.Sort
variable {α : Type} [Inhabited α] {P : Program}
structure Rt (enc : α → List Value) (k : Nat) (w0 : World) (blk off a m b i j : Nat) (d dk : Array α) (wr : World) : Prop where
 S : SWK enc k w0 blk off dk wr
 i0 : 0 < i
 j0 : 0 < j
 hi : i ≤ m - a
 hj : j ≤ b - m
 hs : dk.size = d.size
 pm : PermIn a b d dk
 rt : ∀ q, Y5w (m - i) m (m + j) dk q = Y5w a m b d q
set_option maxHeartbeats 4000000 in
set_option maxRecDepth 1000000 in
theorem rotate (L : Lays P) (k : Nat) (zE : ∀ w, (Go.sizeOf 221).run P w = .ok k w) (enc : α → List Value) (blk off cap a m b : Nat) (fv : Value) (d0 d : Array α) (w0 w : World) (R : RowK enc k w0 blk off d0) (hs : d0.size = d.size) (S : SWK enc k w0 blk off d w) (ham : a < m) (hmb : m < b) (hb : b ≤ d.size) (hsz : d.size < 4611686018427387904) :
  Calls P 174 #[.slice (some ⟨blk, off, none⟩) d.size cap, .int .i64 a, .int .i64 m, .int .i64 b, fv] w fun e w' => e = .returned (.tuple #[]) ∧ ∃ d', SWK enc k w0 blk off d' w' ∧ PermIn a b d d' ∧ ∀ q, d'[q]! = Y5w a m b d q := by
 have mixed := L.mixed; have t0 := L.t0; have a0 := L.a0; have z0 := L.z0; have v0 := L.v0; have t3 := L.t3; have a3 := L.a3; have z3 := L.z3; have v3 := L.v3; have t4 := L.t4; have a4 := L.a4; have z4 := L.z4; have v4 := L.v4; have t33 := L.t33; have a33 := L.a33; have z33 := L.z33; have v33 := L.v33; have t36 := L.t36; have a36 := L.a36; have z36 := L.z36; have v36 := L.v36; have t49 := L.t49; have a49 := L.a49; have z49 := L.z49; have v49 := L.v49; have aE := L.aE
 have e33 : ∀ args w, (callFunc 175 args).run P w = .ok (.enter 175 args) w := enters_of L.fS (by kernel_rfl) rfl
 have S0 : Hid (Rt enc k w0 blk off a m b (m - a) (b - m) d d w) := ⟨S, by omega, by omega, by omega, by omega, rfl, permIn_refl _ _ _, fun q => by rw [show m - (m - a) = a by omega, show m + (b - m) = b by omega]⟩
 have H0 : Hid (a < m ∧ m < b ∧ b ≤ d.size ∧ d.size < 4611686018427387904 ∧ d0.size = d.size) := ⟨ham, hmb, hb, hsz, hs⟩
 have LL : Hid (Lays P) := L
 have w1 : IntKind.i64.wrap ((m : Int) - (a : Int)) = ((m - a : Nat) : Int) := by rw [IntKind.wrap_i64]; omega
 have w2 : IntKind.i64.wrap ((b : Int) - (m : Int)) = ((b - m : Nat) : Int) := by rw [IntKind.wrap_i64]; omega
 obtain ⟨li, hli⟩ : ∃ li, li = m - a := ⟨_, rfl⟩
 obtain ⟨lj, hlj⟩ : ∃ lj, lj = b - m := ⟨_, rfl⟩
 rw [← hli, ← hlj] at S0
 rw [← hli] at w1
 rw [← hlj] at w2
 have H1 : Hid (li = m - a ∧ lj = b - m) := ⟨hli, hlj⟩
 clear S hli hlj
 go_enter L.fR, Tryz.ntmps174
 go_wp2
 go_loopg [10, 11] (li + lj) (fun kx s10 s11 wr => ∃ (i j : Nat) (dk : Array α), s10 = .int .i64 i ∧ s11 = .int .i64 j ∧ i + j ≤ kx ∧ Hid (Rt enc k w0 blk off a m b i j d dk wr))
 case atStart => exact ⟨li, lj, d, rfl, rfl, Nat.le_refl _, S0⟩
 case round =>
  clear S0 w1 w2
  obtain ⟨i, j, dk, rfl, rfl, hkx, T⟩ := hrel
  have hT := T.out
  have hi := hT.hi
  have hj := hT.hj
  have hi0 := hT.i0
  have hj0 := hT.j0
  have hds := hT.hs
  have hc := fun x y n hxy h2 => Ymn LL.out k zE enc blk off cap x y n fv d0 dk w0 wr R (by omega) hT.S hxy h2 (by omega)
  rw [hds] at hc
  obtain ⟨x, hx⟩ : ∃ x, x = m - i := ⟨_, rfl⟩
  have wx : IntKind.i64.wrap ((m : Int) - (i : Int)) = (x : Int) := by rw [IntKind.wrap_i64]; omega
  by_cases hij : i = j
  ·subst hij
   have hcc := hc x m i (by omega) (by omega)
   have HX : Hid (x = m - i) := hx
   clear hc hT hx
   go_wp2_with (go_at_fn (175); refine hcc.mono ?_; rintro e w' ⟨rfl, S2⟩)
   go_end0
   have hT := T.out
   have hx := HX.out
   refine ⟨rfl, _, S2, permIn_trans _ _ _ _ _ hT.pm (Ye1 (by omega) (by omega) (by omega) (by omega)), fun q => ?_⟩
   rw [hx, Yu3 (by omega) (by omega), hT.rt]
  ·have hne : ¬ (i : Int) = (j : Int) := by omega
   by_cases hgt : j < i
   ·have hgtz : (j : Int) < (i : Int) := by omega
    have hcc := hc x m j (by omega) (by omega)
    have wi : IntKind.i64.wrap ((i : Int) - (j : Int)) = ((i - j : Nat) : Int) := by rw [IntKind.wrap_i64]; omega
    obtain ⟨i', hi'⟩ : ∃ i', i' = i - j := ⟨_, rfl⟩
    rw [← hi'] at wi
    have HX : Hid (x = m - i ∧ i' = i - j) := ⟨hx, hi'⟩
    clear hc hT hx hi'
    go_wp2_with (go_at_fn (175); refine hcc.mono ?_; rintro e w' ⟨rfl, S2⟩)
    have hX := HX.out
    go_roundg (i' + j)
    case measure => omega
    case rel =>
     have hT := T.out
     refine ⟨i', j, _, rfl, rfl, Nat.le_refl _, (⟨S2, by omega, by omega, by omega, by omega, by rw [Y7q]; exact hds, permIn_trans _ _ _ _ _ hT.pm (Ye1 (by omega) (by omega) (by omega) (by omega)), fun q => ?_⟩ : Rt enc k w0 blk off a m b i' j d _ _)⟩
     rw [hX.2, hX.1, Yu2 (by omega) (by omega) (by omega), hT.rt]
   ·have hgtz : ¬ (j : Int) < (i : Int) := by omega
    obtain ⟨y, hy⟩ : ∃ y, y = m + j - i := ⟨_, rfl⟩
    have wy0 : IntKind.i64.wrap ((m : Int) + (j : Int)) = ((m + j : Nat) : Int) := by rw [IntKind.wrap_i64]; omega
    have wy : IntKind.i64.wrap (((m + j : Nat) : Int) - (i : Int)) = (y : Int) := by rw [IntKind.wrap_i64]; omega
    have wj : IntKind.i64.wrap ((j : Int) - (i : Int)) = ((j - i : Nat) : Int) := by rw [IntKind.wrap_i64]; omega
    have hcc := hc x y i (by omega) (by omega)
    obtain ⟨j', hj'⟩ : ∃ j', j' = j - i := ⟨_, rfl⟩
    obtain ⟨mj, hmj⟩ : ∃ mj, mj = m + j := ⟨_, rfl⟩
    rw [← hj'] at wj
    rw [← hmj] at wy0 wy
    have HX : Hid (x = m - i ∧ y = m + j - i ∧ j' = j - i) := ⟨hx, hy, hj'⟩
    clear hc hT hx hy hj' hmj
    go_wp2_with (go_at_fn (175); refine hcc.mono ?_; rintro e w' ⟨rfl, S2⟩)
    have hX := HX.out
    go_roundg (i + j')
    case measure => omega
    case rel =>
     have hT := T.out
     refine ⟨i, j', _, rfl, rfl, Nat.le_refl _, (⟨S2, by omega, by omega, by omega, by omega, by rw [Y7q]; exact hds, permIn_trans _ _ _ _ _ hT.pm (Ye1 (by omega) (by omega) (by omega) (by omega)), fun q => ?_⟩ : Rt enc k w0 blk off a m b i j' d _ _)⟩
     rw [hX.2.2, hX.1, hX.2.1, Yu1 (by omega) (by omega) (by omega), hT.rt]
end Go.Proofs.YtkkfkmoikcmhoaaGreat.Sm
namespace Go.Proofs.YtkkfkmoikcmhoaaGreat.Sm
open Go.Shelf Go.RowKit Go.Lib Go.Sort
variable {α : Type} [Inhabited α] {P : Program}
theorem Yzi {a k : Nat} {d e : Array α} (hk : a ≤ k) (hs : k + 1 < e.size) (h : ∀ q, e[q]! = Y5w a (a + 1) (k + 1) d q) (q : Nat) : (swp e k (k + 1))[q]! = Y5w a (a + 1) (k + 1 + 1) d q := by
 rw [swp_get _ (by omega) hs, h, h, h]
 unfold Y5w
 by_cases h1 : q = k + 1
 ·subst h1
  rw [if_pos rfl, if_neg (by omega), if_neg (by omega), if_neg (by omega), if_neg (by omega)]
  congr 1; omega
 ·rw [if_neg h1]
  by_cases h2 : q = k
  ·subst h2
   rw [if_pos rfl, if_pos (by omega), if_neg (by omega), if_pos (by omega)]
   congr 1; omega
  ·rw [if_neg h2]
   by_cases h3 : q < a ∨ k + 1 ≤ q
   ·rw [if_pos h3, if_pos (by omega)]
   ·rw [if_neg h3, if_pos (by omega), if_neg (by omega), if_pos (by omega)]
theorem Yu0 {m k : Nat} {d e : Array α} (hk : k + 1 ≤ m) (hs : k + 1 < e.size) (h : ∀ q, e[q]! = Y5w (k + 1) m (m + 1) d q) (q : Nat) : (swp e (k + 1) k)[q]! = Y5w k m (m + 1) d q := by
 rw [swp_get _ (by omega) (by omega), h, h, h]
 unfold Y5w
 by_cases h1 : q = k
 ·subst h1
  rw [if_pos rfl, if_neg (by omega), if_pos (by omega), if_neg (by omega), if_pos (by omega)]
  congr 1; omega
 ·rw [if_neg h1]
  by_cases h2 : q = k + 1
  ·subst h2
   rw [if_pos rfl, if_pos (by omega), if_neg (by omega), if_neg (by omega)]
   congr 1; omega
  ·rw [if_neg h2]
   by_cases h3 : q < k ∨ m + 1 ≤ q
   ·rw [if_pos h3, if_pos (by omega)]
   ·rw [if_neg h3, if_neg (by omega), if_neg (by omega), if_neg (by omega)]
set_option maxHeartbeats 4000000 in
set_option maxRecDepth 1000000 in
theorem Yug (L : Lays P) (k : Nat) (zE : ∀ w, (Go.sizeOf 221).run P w = .ok k w) (enc : α → List Value) (cf : α → α → Int) (hO : SWO (ltOf cf)) (g : Nat) (cb : Array Value) (blk off cap a m b : Nat) (d0 d : Array α) (w0 w : World) (eg : ∀ args w, (callFunc g args).run P w = .ok (.enter g args) w)
  (hcmp : CmpLays P g cb enc k cf blk off d0.size w0) (R : RowK enc k w0 blk off d0) (hs : d0.size = d.size) (S : SWK enc k w0 blk off d w) (ham : m = a + 1) (hmb : m < b) (hb : b ≤ d.size) (hsz : d.size < 4611686018427387904) (s1 : SortedIn (ltOf cf) a m d) (s2 : SortedIn (ltOf cf) m b d) :
  Calls P 173 #[.slice (some ⟨blk, off, none⟩) d.size cap, .int .i64 a, .int .i64 m, .int .i64 b, .func (.func g) #[] cb] w fun e w' => e = .returned (.tuple #[]) ∧ ∃ d', SWK enc k w0 blk off d' w' ∧ PermIn a b d d' ∧ SortedIn (ltOf cf) a b d' := by
 have mixed := L.mixed; have t0 := L.t0; have a0 := L.a0; have z0 := L.z0; have v0 := L.v0; have t3 := L.t3; have a3 := L.a3; have z3 := L.z3; have v3 := L.v3; have t4 := L.t4; have a4 := L.a4; have z4 := L.z4; have v4 := L.v4; have t33 := L.t33; have a33 := L.a33; have z33 := L.z33; have v33 := L.v33; have t36 := L.t36; have a36 := L.a36; have z36 := L.z36; have v36 := L.v36; have t49 := L.t49; have a49 := L.a49; have z49 := L.z49; have v49 := L.v49; have aE := L.aE
 have S0 : Aside (SWK enc k w0 blk off d w) := S
 have HC : Aside (CmpLays P g cb enc k cf blk off d0.size w0) := hcmp
 have H0 : Hid (m = a + 1 ∧ m < b ∧ b ≤ d.size ∧ d.size < 4611686018427387904 ∧ d0.size = d.size) := ⟨ham, hmb, hb, hsz, hs⟩
 have HS : Hid (SWO (ltOf cf) ∧ SortedIn (ltOf cf) a m d ∧ SortedIn (ltOf cf) m b d) := ⟨hO, s1, s2⟩
 have w1 : IntKind.i64.wrap ((m : Int) - (a : Int)) = 1 := by rw [IntKind.wrap_i64]; omega
 clear S hcmp ham s1 s2 hO hs
 go_enter L.fM, Tryz.ntmps173
 go_wp2
 go_loopg [10, 11] (b - m) (fun kx s10 s11 wr => ∃ (i j : Nat), s10 = .int .i64 i ∧ s11 = .int .i64 j ∧ m ≤ i ∧ i ≤ j ∧ j ≤ b ∧ j - i ≤ kx ∧ Aside (SWK enc k w0 blk off d wr) ∧ Hid ((∀ q, m ≤ q → q < i → ltOf cf d[q]! d[a]! = true) ∧ ∀ q, j ≤ q → q < b → ltOf cf d[q]! d[a]! = false))
 case atStart => exact ⟨m, b, rfl, rfl, by omega, by omega, by omega, by omega, S0, ⟨fun q h1 h2 => by omega, fun q h1 h2 => by omega⟩⟩
 case round =>
  clear S0
  obtain ⟨i, j, rfl, rfl, hmi, hij, hjb, hkx, S1, HB⟩ := hrel
  by_cases hlt : i < j
  ·have hltz : (i : Int) < (j : Int) := by omega
   obtain ⟨h, hh⟩ : ∃ h, h = (i + j) / 2 := ⟨_, rfl⟩
   obtain ⟨ij, hij2⟩ : ∃ ij, ij = i + j := ⟨_, rfl⟩
   have wij : IntKind.i64.wrap ((i : Int) + (j : Int)) = (ij : Int) := by rw [IntKind.wrap_i64]; omega
   have wu : IntKind.u64.wrap (ij : Int) = (ij : Int) := by rw [IntKind.wrap_u64]; omega
   have wh : IntKind.i64.wrap (h : Int) = (h : Int) := by rw [IntKind.wrap_i64]; omega
   have wh2 : IntKind.u64.wrap (h : Int) = (h : Int) := by rw [IntKind.wrap_u64]; omega
   have whs : (ij : Int) / 2 = (h : Int) := by omega
   have hih : i ≤ h ∧ h < j := by omega
   have eh : ((h : Int)).toNat = h := by omega
   have ph : (0 : Int) ≤ (h : Int) := by omega
   have bh : (h : Int) < (d.size : Int) := by omega
   have ea : ((a : Int)).toNat = a := by omega
   have pa : (0 : Int) ≤ (a : Int) := by omega
   have ba : (a : Int) < (d.size : Int) := by have := H0.out.1; omega
   have hX := H0.out
   obtain ⟨xh, hxh⟩ : ∃ x, x = d[h]! := ⟨_, rfl⟩
   obtain ⟨xa, hxa⟩ : ∃ x, x = d[a]! := ⟨_, rfl⟩
   have lh := S1.out.ld R hX.2.2.2.2.symm P h (by omega)
   have la := S1.out.ld R hX.2.2.2.2.symm P a (by omega)
   rw [← hxh] at lh
   rw [← hxa] at la
   have hc := S1.out.cmp HC.out hX.2.2.2.2.symm xh xa
   have HX : Hid (xh = d[h]! ∧ xa = d[a]!) := ⟨hxh, hxa⟩
   have HHh : Hid (h = (i + j) / 2 ∧ ij = i + j) := ⟨hh, hij2⟩
   clear hxh hxa hX hh hij2
   by_cases hlv : cf xh xa < 0
   ·have hd : decide (cf xh xa < 0) = true := decide_eq_true hlv
    go_wp2_with fail
    go_quiet_grown (first | (go_at_fn g; refine Calls.grown_of (hc _ _)))
    have S2 : Aside (SWK enc k w0 blk off d (grow (wr.drewN nq) osq)) := S1.out.grown nq osq
    clear lh la hc S1
    generalize grow (wr.drewN nq) osq = w2 at S2 ⊢
    clear nq osq
    go_wp2
    go_roundg (j - (h + 1))
    case measure => have := HHh.out; omega
    case rel =>
     refine ⟨h + 1, j, by go_num, rfl, by omega, by omega, by omega, Nat.le_refl _, S2, ⟨fun q q1 q2 => ?_, HB.out.2⟩⟩
     have hlt' : ltOf cf d[h]! d[a]! = true := by rw [← HX.out.1, ← HX.out.2]; exact hd
     cases hq : ltOf cf d[q]! d[a]! with
     | true => rfl
     | false =>
      have h9 := SortedIn.le HS.out.1 HS.out.2.2 q1 (show q ≤ h by omega) (by omega)
      rw [HS.out.1.ntrans _ _ _ h9 hq] at hlt'
      cases hlt'
   ·have hd : decide (cf xh xa < 0) = false := decide_eq_false hlv
    go_wp2_with fail
    go_quiet_grown (first | (go_at_fn g; refine Calls.grown_of (hc _ _)))
    have S2 : Aside (SWK enc k w0 blk off d (grow (wr.drewN nq) osq)) := S1.out.grown nq osq
    clear lh la hc S1
    generalize grow (wr.drewN nq) osq = w2 at S2 ⊢
    clear nq osq
    go_wp2
    go_roundg (h - i)
    case measure => have := HHh.out; omega
    case rel =>
     refine ⟨i, h, rfl, rfl, by omega, by omega, by omega, Nat.le_refl _, S2, ⟨HB.out.1, fun q q1 q2 => ?_⟩⟩
     have hlt' : ltOf cf d[h]! d[a]! = false := by rw [← HX.out.1, ← HX.out.2]; exact hd
     have h9 := SortedIn.le HS.out.1 HS.out.2.2 (show m ≤ h by omega) q1 (by omega)
     exact HS.out.1.ntrans _ _ _ h9 hlt'
  ·have hltz : ¬ (i : Int) < (j : Int) := by omega
   have hji : j = i := by omega
   subst hji
   go_wp2
   go_loopg [13] (j - 1 - a) (fun kx s13 wr => ∃ (kk : Nat) (dk : Array α), s13 = .int .i64 kk ∧ a ≤ kk ∧ kk + 1 ≤ j ∧ j - 1 - kk ≤ kx ∧ dk.size = d.size ∧ Aside (SWK enc k w0 blk off dk wr) ∧ Hid (PermIn a b d dk ∧ ∀ q, dk[q]! = Y5w a (a + 1) (kk + 1) d q))
   case atStart => exact ⟨a, d, rfl, by omega, by have := H0.out.1; omega, by omega, rfl, S1, ⟨permIn_refl _ _ _, fun q => (Yc4 (by omega) q).symm⟩⟩
   case round =>
    clear S1
    obtain ⟨kk, dk, rfl, hak, hkj, hkx2, hds, S1, HR⟩ := hrel
    by_cases hk : kk < j - 1
    ·have hkz : (kk : Int) < (j : Int) - 1 := by omega
     have S2 : Aside (SWK enc k w0 blk off (swp dk kk (kk + 1)) ((wr.drew.setCells blk (off + kk * k) (enc dk[kk + 1]!)).setCells blk (off + (kk + 1) * k) (enc dk[kk]!))) := S1.out.swapped R _ _ (by omega) (by omega)
     have hX := H0.out
     have la := S1.out.ld1 R (by omega) P kk (by omega)
     have lb := S1.out.ld1 R (by omega) P (kk + 1) (by omega)
     have sa := S1.out.st1 R (by omega) P kk (by omega) dk[kk + 1]!
     have sb := S1.out.st2 R (by omega) P kk (kk + 1) (by omega) (by omega) dk[kk + 1]! dk[kk]!
     have na : (enc dk[kk]!).length = k := R.hk _
     have nb : (enc dk[kk + 1]!).length = k := R.hk _
     generalize enc dk[kk]! = cI at S2 la sb na
     generalize enc dk[kk + 1]! = cJ at S2 lb sa sb nb
     obtain ⟨k1, hk1⟩ : ∃ k1, k1 = kk + 1 := ⟨_, rfl⟩
     have wk : IntKind.i64.wrap ((kk : Int) + 1) = (k1 : Int) := by rw [IntKind.wrap_i64]; omega
     have ek : ((kk : Int)).toNat = kk := by omega
     have pk : (0 : Int) ≤ (kk : Int) := by omega
     have bk : (kk : Int) < (d.size : Int) := by omega
     have ek1 : ((k1 : Int)).toNat = k1 := by omega
     have pk1 : (0 : Int) ≤ (k1 : Int) := by omega
     have bk1 : (k1 : Int) < (d.size : Int) := by omega
     rw [← hk1] at S2 lb sb
     have HK1 : Hid (k1 = kk + 1) := hk1
     clear S1 hX hk1
     go_wp2_with fail
     go_big_region_o
     clear la lb sa sb
     generalize (wr.drew.setCells blk (off + kk * k) cJ).setCells blk (off + k1 * k) cI = w2 at S2 ⊢
     go_wp2
     go_roundg (j - 1 - (kk + 1))
     case measure => omega
     case rel =>
      have hk1 := HK1.out
      subst hk1
      exact ⟨kk + 1, swp dk kk (kk + 1), rfl, by omega, by omega, Nat.le_refl _, by rw [size_swp]; exact hds, S2, ⟨permIn_trans _ _ _ _ _ HR.out.1 (swp_permIn _ a b _ _ (by omega) (by omega) (by omega) (by omega) (by omega)), Yzi hak (by omega) HR.out.2⟩⟩
    ·have hkz : ¬ (kk : Int) < (j : Int) - 1 := by omega
     have hkd : decide ((kk : Int) < (j : Int) - 1) = false := decide_eq_false hkz
     go_wp2
     (try simp only [Exit.inBlock, Exit.then]); refine bodyPost_ret (results_none rfl _ _ _) rfl ?_
     refine ⟨rfl, dk, S1.out, HR.out.1, ?_⟩
     have e : kk + 1 = j := by omega
     have hr := HR.out.2
     rw [e] at hr
     have hX := H0.out
     refine Ylw HS.out.1 hX.1 HS.out.2.2 hmi (by omega) HB.out.1 HB.out.2 ?_
     rw [hX.1]
     exact hr
set_option maxHeartbeats 4000000 in
set_option maxRecDepth 1000000 in
theorem Yqu (L : Lays P) (k : Nat) (zE : ∀ w, (Go.sizeOf 221).run P w = .ok k w) (enc : α → List Value) (cf : α → α → Int) (hO : SWO (ltOf cf)) (g : Nat) (cb : Array Value) (blk off cap a m b : Nat) (d0 d : Array α) (w0 w : World) (eg : ∀ args w, (callFunc g args).run P w = .ok (.enter g args) w)
  (hcmp : CmpLays P g cb enc k cf blk off d0.size w0) (R : RowK enc k w0 blk off d0) (hs : d0.size = d.size) (S : SWK enc k w0 blk off d w) (ham : a + 1 < m) (hmb : b = m + 1) (hb : b ≤ d.size) (hsz : d.size < 4611686018427387904) (s1 : SortedIn (ltOf cf) a m d) (s2 : SortedIn (ltOf cf) m b d) :
  Calls P 173 #[.slice (some ⟨blk, off, none⟩) d.size cap, .int .i64 a, .int .i64 m, .int .i64 b, .func (.func g) #[] cb] w fun e w' => e = .returned (.tuple #[]) ∧ ∃ d', SWK enc k w0 blk off d' w' ∧ PermIn a b d d' ∧ SortedIn (ltOf cf) a b d' := by
 have mixed := L.mixed; have t0 := L.t0; have a0 := L.a0; have z0 := L.z0; have v0 := L.v0; have t3 := L.t3; have a3 := L.a3; have z3 := L.z3; have v3 := L.v3; have t4 := L.t4; have a4 := L.a4; have z4 := L.z4; have v4 := L.v4; have t33 := L.t33; have a33 := L.a33; have z33 := L.z33; have v33 := L.v33; have t36 := L.t36; have a36 := L.a36; have z36 := L.z36; have v36 := L.v36; have t49 := L.t49; have a49 := L.a49; have z49 := L.z49; have v49 := L.v49; have aE := L.aE
 have S0 : Aside (SWK enc k w0 blk off d w) := S
 have HC : Aside (CmpLays P g cb enc k cf blk off d0.size w0) := hcmp
 have H0 : Hid (a + 1 < m ∧ b = m + 1 ∧ b ≤ d.size ∧ d.size < 4611686018427387904 ∧ d0.size = d.size) := ⟨ham, hmb, hb, hsz, hs⟩
 have HS : Hid (SWO (ltOf cf) ∧ SortedIn (ltOf cf) a m d ∧ SortedIn (ltOf cf) m b d) := ⟨hO, s1, s2⟩
 obtain ⟨ma, hma⟩ : ∃ ma, ma = m - a := ⟨_, rfl⟩
 have w1 : IntKind.i64.wrap ((m : Int) - (a : Int)) = (ma : Int) := by rw [IntKind.wrap_i64]; omega
 have hma1 : ((ma : Int) == 1) = false := beq_eq_false_iff_ne.2 (by omega)
 have w2 : IntKind.i64.wrap ((b : Int) - (m : Int)) = 1 := by rw [IntKind.wrap_i64]; omega
 have hmd : m < d.size := by omega
 clear S hcmp s1 s2 hO hs hma hmb
 go_enter L.fM, Tryz.ntmps173
 go_wp2
 go_loopg [14, 15] (m - a) (fun kx s10 s11 wr => ∃ (i j : Nat), s10 = .int .i64 i ∧ s11 = .int .i64 j ∧ a ≤ i ∧ i ≤ j ∧ j ≤ m ∧ j - i ≤ kx ∧ Aside (SWK enc k w0 blk off d wr) ∧ Hid ((∀ q, a ≤ q → q < i → ltOf cf d[m]! d[q]! = false) ∧ ∀ q, j ≤ q → q < m → ltOf cf d[m]! d[q]! = true))
 case atStart => exact ⟨a, m, rfl, rfl, by omega, by omega, by omega, by omega, S0, ⟨fun q h1 h2 => by omega, fun q h1 h2 => by omega⟩⟩
 case round =>
  clear S0
  obtain ⟨i, j, rfl, rfl, hmi, hij, hjb, hkx, S1, HB⟩ := hrel
  by_cases hlt : i < j
  ·have hltz : (i : Int) < (j : Int) := by omega
   obtain ⟨h, hh⟩ : ∃ h, h = (i + j) / 2 := ⟨_, rfl⟩
   obtain ⟨ij, hij2⟩ : ∃ ij, ij = i + j := ⟨_, rfl⟩
   have wij : IntKind.i64.wrap ((i : Int) + (j : Int)) = (ij : Int) := by rw [IntKind.wrap_i64]; omega
   have wu : IntKind.u64.wrap (ij : Int) = (ij : Int) := by rw [IntKind.wrap_u64]; omega
   have wh : IntKind.i64.wrap (h : Int) = (h : Int) := by rw [IntKind.wrap_i64]; omega
   have wh2 : IntKind.u64.wrap (h : Int) = (h : Int) := by rw [IntKind.wrap_u64]; omega
   have whs : (ij : Int) / 2 = (h : Int) := by omega
   have hih : i ≤ h ∧ h < j := by omega
   have eh : ((h : Int)).toNat = h := by omega
   have ph : (0 : Int) ≤ (h : Int) := by omega
   have bh : (h : Int) < (d.size : Int) := by omega
   have ea : ((m : Int)).toNat = m := by omega
   have pa : (0 : Int) ≤ (m : Int) := by omega
   have ba : (m : Int) < (d.size : Int) := by have := H0.out.2.1; omega
   have hX := H0.out
   have hX2 := hX.2.1
   obtain ⟨xh, hxh⟩ : ∃ x, x = d[h]! := ⟨_, rfl⟩
   obtain ⟨xa, hxa⟩ : ∃ x, x = d[m]! := ⟨_, rfl⟩
   have lh := S1.out.ld R hX.2.2.2.2.symm P h (by omega)
   have la := S1.out.ld R hX.2.2.2.2.symm P m (by omega)
   rw [← hxh] at lh
   rw [← hxa] at la
   have hc := S1.out.cmp HC.out hX.2.2.2.2.symm xa xh
   have HX : Hid (xh = d[h]! ∧ xa = d[m]!) := ⟨hxh, hxa⟩
   have HHh : Hid (h = (i + j) / 2 ∧ ij = i + j) := ⟨hh, hij2⟩
   clear hxh hxa hX hX2 hh hij2
   by_cases hlv : cf xa xh < 0
   ·have hd : decide (cf xa xh < 0) = true := decide_eq_true hlv
    go_wp2_with fail
    go_quiet_grown (first | (go_at_fn g; refine Calls.grown_of (hc _ _)))
    have S2 : Aside (SWK enc k w0 blk off d (grow (wr.drewN nq) osq)) := S1.out.grown nq osq
    clear lh la hc S1
    generalize grow (wr.drewN nq) osq = w2 at S2 ⊢
    clear nq osq
    go_wp2
    go_roundg (h - i)
    case measure => have := HHh.out; omega
    case rel =>
     refine ⟨i, h, rfl, rfl, by omega, by omega, by omega, Nat.le_refl _, S2, ⟨HB.out.1, fun q q1 q2 => ?_⟩⟩
     have hlt' : ltOf cf d[m]! d[h]! = true := by rw [← HX.out.1, ← HX.out.2]; exact hd
     cases hq : ltOf cf d[m]! d[q]! with
     | true => rfl
     | false =>
      have h9 := SortedIn.le HS.out.1 HS.out.2.1 (show a ≤ h by omega) q1 (by omega)
      rw [HS.out.1.ntrans _ _ _ hq h9] at hlt'
      cases hlt'
   ·have hd : decide (cf xa xh < 0) = false := decide_eq_false hlv
    go_wp2_with fail
    go_quiet_grown (first | (go_at_fn g; refine Calls.grown_of (hc _ _)))
    have S2 : Aside (SWK enc k w0 blk off d (grow (wr.drewN nq) osq)) := S1.out.grown nq osq
    clear lh la hc S1
    generalize grow (wr.drewN nq) osq = w2 at S2 ⊢
    clear nq osq
    go_wp2
    go_roundg (j - (h + 1))
    case measure => have := HHh.out; omega
    case rel =>
     refine ⟨h + 1, j, by go_num, rfl, by omega, by omega, by omega, Nat.le_refl _, S2, ⟨fun q q1 q2 => ?_, HB.out.2⟩⟩
     have hlt' : ltOf cf d[m]! d[h]! = false := by rw [← HX.out.1, ← HX.out.2]; exact hd
     have h9 := SortedIn.le HS.out.1 HS.out.2.1 q1 (show q ≤ h by omega) (by omega)
     exact HS.out.1.ntrans _ _ _ hlt' h9
  ·have hltz : ¬ (i : Int) < (j : Int) := by omega
   have hji : j = i := by omega
   subst hji
   go_wp2
   go_loopg [17] (m - j) (fun kx s13 wr => ∃ (kk : Nat) (dk : Array α), s13 = .int .i64 kk ∧ j ≤ kk ∧ kk ≤ m ∧ kk - j ≤ kx ∧ dk.size = d.size ∧ Aside (SWK enc k w0 blk off dk wr) ∧ Hid (PermIn a b d dk ∧ ∀ q, dk[q]! = Y5w kk m (m + 1) d q))
   case atStart => exact ⟨m, d, rfl, by omega, by omega, by omega, rfl, S1, ⟨permIn_refl _ _ _, fun q => (Yc3 q).symm⟩⟩
   case round =>
    clear S1
    obtain ⟨kk, dk, rfl, hjk, hkm, hkx2, hds, S1, HR⟩ := hrel
    by_cases hk : j < kk
    ·have hkz : (j : Int) < (kk : Int) := by omega
     obtain ⟨kp, rfl⟩ : ∃ kp, kk = kp + 1 := ⟨kk - 1, by omega⟩
     have hX := H0.out
     have hX2 := hX.2.1
     have S2 : Aside (SWK enc k w0 blk off (swp dk (kp + 1) kp) ((wr.drew.setCells blk (off + (kp + 1) * k) (enc dk[kp]!)).setCells blk (off + kp * k) (enc dk[kp + 1]!))) := S1.out.swapped R _ _ (by omega) (by omega)
     have la := S1.out.ld1 R (by omega) P (kp + 1) (by omega)
     have lb := S1.out.ld1 R (by omega) P kp (by omega)
     have sa := S1.out.st1 R (by omega) P (kp + 1) (by omega) dk[kp]!
     have sb := S1.out.st2 R (by omega) P (kp + 1) kp (by omega) (by omega) dk[kp]! dk[kp + 1]!
     have na : (enc dk[kp + 1]!).length = k := R.hk _
     have nb : (enc dk[kp]!).length = k := R.hk _
     generalize enc dk[kp + 1]! = cI at S2 la sb na
     generalize enc dk[kp]! = cJ at S2 lb sa sb nb
     obtain ⟨k1, hk1⟩ : ∃ k1, k1 = kp + 1 := ⟨_, rfl⟩
     have wk : IntKind.i64.wrap ((k1 : Int) - 1) = (kp : Int) := by rw [IntKind.wrap_i64]; omega
     have ek : ((kp : Int)).toNat = kp := by omega
     have pk : (0 : Int) ≤ (kp : Int) := by omega
     have bk : (kp : Int) < (d.size : Int) := by omega
     have ek1 : ((k1 : Int)).toNat = k1 := by omega
     have pk1 : (0 : Int) ≤ (k1 : Int) := by omega
     have bk1 : (k1 : Int) < (d.size : Int) := by omega
     rw [← hk1] at S2 la sa sb hkz hk hjk hkm hkx2 ⊢
     have HK1 : Hid (k1 = kp + 1) := hk1
     clear S1 hX hX2
     rw [← hk1] at HR
     clear hk1
     go_wp2_with fail
     go_big_region_o
     clear la lb sa sb
     generalize (wr.drew.setCells blk (off + k1 * k) cJ).setCells blk (off + kp * k) cI = w2 at S2 ⊢
     go_wp2
     go_roundg (kp - j)
     case measure => have := HK1.out; omega
     case rel =>
      have hk1 := HK1.out
      have hX := H0.out
      have hX2 := hX.2.1
      subst hk1
      exact ⟨kp, swp dk (kp + 1) kp, rfl, by omega, by omega, Nat.le_refl _, by rw [size_swp]; exact hds, S2, ⟨permIn_trans _ _ _ _ _ HR.out.1 (swp_permIn _ a b _ _ (by omega) (by omega) (by omega) (by omega) (by omega)), Yu0 (by omega) (by omega) HR.out.2⟩⟩
    ·have hkz : ¬ (j : Int) < (kk : Int) := by omega
     go_wp2
     (try simp only [Exit.inBlock, Exit.then]); refine bodyPost_ret (results_none rfl _ _ _) rfl ?_
     refine ⟨rfl, dk, S1.out, HR.out.1, ?_⟩
     have e : kk = j := by omega
     have hr := HR.out.2
     rw [e] at hr
     have hX := H0.out
     refine Yhr HS.out.1 hX.2.1 HS.out.2.1 hmi (by omega) HB.out.1 HB.out.2 ?_
     rw [hX.2.1]
     exact hr
end Go.Proofs.YtkkfkmoikcmhoaaGreat.Sm

/- LmC, LmP, LpA, LpR, LpB: merged. -/
import Derived.ChangeSlices
import Derived.Lib.BufferMore
import Derived.Test.YtkkfkmoikcmhoaaGreatPaa
import Derived.Test.YtkkfkmoikcmhoaaGreatPas
set_option linter.unusedVariables false
set_option linter.unusedSimpArgs false
namespace Go.Proofs.YtkkfkmoikcmhoaaGreat.Lm
open Bit Hf
theorem Ykj (g : Nat → Nat) (c n : Nat) : Y32 (fun r => c * g r) n = c * Y32 g n := by
 induction n with
 | zero => rfl
 | succ n ih => simp only [Y32, ih, Nat.mul_add]
theorem Y8x (c n : Nat) : Y32 (fun _ => c) n = n * c := by
 induction n with
 | zero => simp [Y32]
 | succ n ih => simp only [Y32, ih, Nat.succ_mul]
theorem Yvx {g : Nat → Nat} {n r : Nat} (h : r < n) : g r ≤ Y32 g n := by
 induction n with
 | zero => omega
 | succ n ih =>
  simp only [Y32]
  by_cases hr : r = n
  ·subst hr; omega
  ·have := ih (by omega); omega
theorem Ykk {g : Nat → Nat} {n r s : Nat} (hr : r < n) (hs : s < n) (hrs : r < s) : g r + g s ≤ Y32 g n := by
 induction n with
 | zero => omega
 | succ n ih =>
  simp only [Y32]
  by_cases h : s = n
  ·subst h
   have := Yvx (g := g) (n := s) (r := r) hrs
   omega
  ·have := ih (by omega) (by omega); omega
def Yt0 (n : Nat) (p : Nat → Bool) : Nat := Y32 (fun r => (p r).toNat) n
def Y65 : List (Nat → Bool) → Nat → Nat
 | [], _ => 0
 | p :: ps, r => (p r).toNat + Y65 ps r
theorem Yhy (ps : List (Nat → Bool)) (r : Nat) : Y65 ps r ≤ ps.length := by
 induction ps with
 | nil => simp [Y65]
 | cons p ps ih => simp only [Y65, List.length_cons]; cases p r <;> simp <;> omega
def Ywg : List (Nat → Bool) → Nat → Nat
 | [], _ => 0
 | p :: ps, r => (p r).toNat * 2 ^ ps.length + Ywg ps r
theorem room (ps : List (Nat → Bool)) (r : Nat) : 2 ^ (ps.length - Y65 ps r) + Ywg ps r ≤ 2 ^ ps.length := by
 induction ps with
 | nil => simp [Y65, Ywg]
 | cons p ps ih =>
  have hl := Yhy ps r
  simp only [Y65, Ywg, List.length_cons]
  cases p r
  ·have e : 2 ^ (ps.length + 1 - (0 + Y65 ps r)) = 2 * 2 ^ (ps.length - Y65 ps r) := by
    rw [show ps.length + 1 - (0 + Y65 ps r) = (ps.length - Y65 ps r) + 1 by omega, Nat.pow_succ, Nat.mul_comm]
   simp only [Bool.toNat_false]
   rw [e, Nat.pow_succ]
   omega
  ·simp only [Bool.toNat_true, Nat.one_mul]
   rw [show ps.length + 1 - (1 + Y65 ps r) = ps.length - Y65 ps r by omega, Nat.pow_succ]
   omega
def Yx0 (n : Nat) : List (Nat → Bool) → Nat
 | [] => 0
 | p :: ps => Yt0 n p * 2 ^ ps.length + Yx0 n ps
theorem Ywf (n : Nat) (ps : List (Nat → Bool)) : Y32 (Ywg ps) n = Yx0 n ps := by
 induction ps with
 | nil => simp only [Ywg, Yx0]; rw [Y8x]; omega
 | cons p ps ih =>
  have e : Y32 (Ywg (p :: ps)) n = Y32 (fun r => 2 ^ ps.length * (p r).toNat + Ywg ps r) n := Y1i n (fun r _ => by simp only [Ywg]; rw [Nat.mul_comm])
  rw [e, Y9o, Ykj, ih]
  simp only [Yx0, Yt0]
  rw [Nat.mul_comm]
theorem Yzk (n : Nat) : ∀ (ps : List (Nat → Bool)) (j : Nat), Tot (ps.map (Yt0 n)) j → 2 * Yx0 n ps = j * 2 ^ ps.length := by
 intro ps
 induction ps with
 | nil => intro j h; simp only [List.map_nil, Tot] at h; subst h; simp [Yx0]
 | cons p ps ih =>
  intro j h
  obtain ⟨b, rfl, hb⟩ := h
  have := ih _ hb
  simp only [Yx0, List.length_cons, Nat.pow_succ]
  rw [Nat.mul_add, this, Nat.add_mul]
  generalize 2 ^ ps.length = x
  have e1 : 2 * (Yt0 n p * x) = Yt0 n p * (x * 2) := by rw [Nat.mul_comm 2, Nat.mul_assoc]
  have e2 : 2 * b * x = b * (x * 2) := by rw [Nat.mul_comm 2 b, Nat.mul_assoc, Nat.mul_comm 2 x]
  omega
def Ydg (n : Nat) (ps : List (Nat → Bool)) : List Nat := (List.range n).map (Y65 ps)
theorem Yfi (n : Nat) (ps : List (Nat → Bool)) : (Ydg n ps).length = n := by simp [Ydg]
theorem Ygm (g : Nat → Nat) (n : Nat) : ((List.range n).map g).sum = Y32 g n := by
 induction n with
 | zero => rfl
 | succ n ih => rw [List.range_succ, List.map_append, List.sum_append, ih]; simp [Y32]
theorem Ytr {f : List Nat} {L : Nat} {ps : List (Nat → Bool)} (h2 : 2 ≤ f.length) (hL : L ≤ 30) (hp : ps.length = L) (ht : Tot (ps.map (Yt0 f.length)) (2 * (f.length - 1))) : Ok f L (Ydg f.length ps) := by
 subst hp
 have hw := Yzk f.length ps _ ht
 have hs := Ywf f.length ps
 have hsum : Y32 (fun r => 2 ^ (ps.length - Y65 ps r)) f.length + Yx0 f.length ps ≤ f.length * 2 ^ ps.length := by
  rw [← hs, ← Y9o, ← Y8x]
  exact Yru _ (fun r _ => room ps r)
 have hone : Y32 (fun r => 2 ^ (ps.length - Y65 ps r)) f.length ≤ 2 ^ ps.length := by
  have e : f.length * 2 ^ ps.length = (f.length - 1) * 2 ^ ps.length + 2 ^ ps.length := by
   rw [← Nat.succ_mul]; congr 1; omega
  have e2 : 2 * (f.length - 1) * 2 ^ ps.length = 2 * ((f.length - 1) * 2 ^ ps.length) := Nat.mul_assoc ..
  omega
 refine ⟨Yfi _ _, fun x hx => ?_, fun x hx => ?_, ?_⟩
 ·obtain ⟨r, hr, rfl⟩ := List.mem_map.1 hx
  have hr : r < f.length := by simpa using hr
  rcases Nat.eq_zero_or_pos (Y65 ps r) with h0 | h0
  ·exfalso
   have hpos : ∀ s, 0 < 2 ^ (ps.length - Y65 ps s) := fun s => Nat.pow_pos (by omega)
   have hbig : 2 ^ (ps.length - Y65 ps r) = 2 ^ ps.length := by rw [h0, Nat.sub_zero]
   rcases Nat.eq_zero_or_pos r with hr0 | hr0
   ·have h9 : 2 ^ (ps.length - Y65 ps r) + 2 ^ (ps.length - Y65 ps 1) ≤ Y32 (fun r => 2 ^ (ps.length - Y65 ps r)) f.length := Ykk (g := fun r => 2 ^ (ps.length - Y65 ps r)) hr (by omega) (by omega)
    have := hpos 1
    omega
   ·have h9 : 2 ^ (ps.length - Y65 ps 0) + 2 ^ (ps.length - Y65 ps r) ≤ Y32 (fun r => 2 ^ (ps.length - Y65 ps r)) f.length := Ykk (g := fun r => 2 ^ (ps.length - Y65 ps r)) (by omega) hr hr0
    have := hpos 0
    omega
  ·exact h0
 ·obtain ⟨r, _, rfl⟩ := List.mem_map.1 hx
  exact Yhy ps r
 ·unfold kraft Ydg
  rw [List.map_map, Ygm]
  have e : Y32 (share ∘ Y65 ps) f.length = Y32 (fun r => 2 ^ (30 - ps.length) * 2 ^ (ps.length - Y65 ps r)) f.length := Y1i _ (fun r _ => by
   have := Yhy ps r
   show 2 ^ (30 - Y65 ps r) = _
   rw [← Nat.pow_add]
   congr 1
   omega)
  rw [e, Ykj]
  refine Nat.le_trans (Nat.mul_le_mul_left _ hone) ?_
  rw [← Nat.pow_add, show 30 - ps.length + ps.length = 30 by omega]
  exact Nat.le_refl _
theorem Ylf (f : List Nat) (g : Nat → Nat) : cost f ((List.range f.length).map g) = Y32 (fun r => f.getD r 0 * g r) f.length := by
 have key : ∀ (f : List Nat) (g : Nat → Nat), cost f ((List.range f.length).map g) = Y32 (fun r => f.getD r 0 * g r) f.length := by
  intro f
  induction f with
  | nil => intro g; rfl
  | cons x f ih =>
   intro g
   rw [List.length_cons, List.range_succ_eq_map, List.map_cons, List.map_map, Yco]
   simp only [cost]
   rw [ih (g ∘ Nat.succ)]
   rfl
 exact key f g
def Yzy (f : List Nat) (p : Nat → Bool) : Nat := Y32 (fun r => f.getD r 0 * (p r).toNat) f.length
theorem Yle (f : List Nat) (ps : List (Nat → Bool)) : cost f (Ydg f.length ps) = (ps.map (Yzy f)).sum := by
 unfold Ydg
 rw [Ylf]
 induction ps with
 | nil => simp only [Y65, Nat.mul_zero]; rw [Y8x]; simp
 | cons p ps ih =>
  have e : Y32 (fun r => f.getD r 0 * Y65 (p :: ps) r) f.length = Y32 (fun r => f.getD r 0 * (p r).toNat + f.getD r 0 * Y65 ps r) f.length := Y1i _ (fun r _ => by simp only [Y65]; rw [Nat.mul_add])
  rw [e, Y9o, ih, List.map_cons, List.sum_cons]
  rfl
theorem Yhc {f : List Nat} {L : Nat} {ps : List (Nat → Bool)} (h2 : 2 ≤ f.length) (hf : ∀ x ∈ f, 1 ≤ x) (hL1 : 1 ≤ L) (hL : L ≤ 30) (hp : ps.length = L) (ht : Tot (ps.map (Yt0 f.length)) (2 * (f.length - 1)))
  (hw : (ps.map (Yzy f)).sum ≤ Y84 (parcels f L) (2 * (f.length - 1))) : Least f L (Ydg f.length ps) := by
 refine ⟨Ytr h2 hL hp ht, fun l' h => ?_⟩
 rw [Yle]
 exact Nat.le_trans hw (Yic h hL1 hL h2 hf)
theorem Yg9 : ∀ (M : List Nat), Rising M → isort M = M
 | [], _ => rfl
 | x :: M, h => by
  have h1 := Yg9 M h.tail
  simp only [isort, h1]
  cases M with
  | nil => rfl
  | cons y M => unfold ins; rw [if_pos h.1]
theorem Yud (x y : Nat) (B : List Nat) : ins x (ins y B) = ins y (ins x B) := by
 induction B with
 | nil =>
  simp only [ins]
  by_cases h : x ≤ y
  ·by_cases h2 : y ≤ x
   ·have : x = y := by omega
    subst this; rfl
   ·rw [if_pos h, if_neg h2]
  ·rw [if_neg h, if_pos (by omega)]
 | cons b B ih =>
  simp only [ins]
  by_cases hx : x ≤ b
  ·by_cases hy : y ≤ b
   ·rw [if_pos hy, if_pos hx]
    simp only [ins]
    by_cases h : x ≤ y
    ·by_cases h2 : y ≤ x
     ·have : x = y := by omega
      subst this; rfl
     ·rw [if_pos h, if_neg h2, if_pos hy]
    ·rw [if_neg h, if_pos hx, if_pos (show y ≤ x by omega)]
   ·rw [if_neg hy, if_pos hx]
    simp only [ins]
    rw [if_pos hx, if_neg (by omega), if_neg hy]
  ·by_cases hy : y ≤ b
   ·rw [if_pos hy, if_neg hx]
    simp only [ins]
    rw [if_neg (by omega), if_neg hx, if_pos hy]
   ·rw [if_neg hy, if_neg hx]
    simp only [ins]
    rw [if_neg hx, if_neg hy, ih]
theorem Ydb {a b : List Nat} (h : a.Perm b) : isort a = isort b := by
 induction h with
 | nil => rfl
 | cons x _ ih => simp only [isort, ih]
 | swap x y l => simp only [isort]; exact Yud y x _
 | trans _ _ h1 h2 => rw [h1, h2]
theorem Yil {M B : List Nat} (h : Rising M) (hp : M.Perm B) : M = isort B := by rw [← Ydb hp, Yg9 M h]
end Go.Proofs.YtkkfkmoikcmhoaaGreat.Lm
namespace Go.Proofs.YtkkfkmoikcmhoaaGreat.Lm
open Bit Hf
inductive Tree where
 | leaf (w s : Nat)
 | node (a b : Tree)
 deriving DecidableEq
def Tree.wt : Tree → Nat
 | .leaf w _ => w
 | .node a b => a.wt + b.wt
def Tree.cnt (r : Nat) : Tree → Nat
 | .leaf _ s => if s = r then 1 else 0
 | .node a b => a.cnt r + b.cnt r
def Tree.isLeaf : Tree → Bool
 | .leaf _ _ => true
 | .node _ _ => false
def Y3c : List Tree → List Tree
 | a :: b :: P => .node a b :: Y3c P
 | _ => []
theorem Yk4 : ∀ (P : List Tree), (Y3c P).map Tree.wt = pairs (P.map Tree.wt)
 | [] => rfl
 | [_] => rfl
 | a :: b :: P => by simp only [Y3c, List.map_cons, pairs, Tree.wt]; rw [Yk4 P]
theorem Y4c : ∀ (P : List Tree), (Y3c P).length = P.length / 2
 | [] => rfl
 | [_] => by simp [Y3c]
 | a :: b :: P => by simp only [Y3c, List.length_cons]; rw [Y4c P]; omega
theorem Yfx : ∀ (P : List Tree) (i : Nat) (h : 2 * i + 1 < P.length), (Y3c P)[i]? = some (.node P[2 * i] P[2 * i + 1])
 | [], i, h => by simp at h
 | [_], i, h => by simp at h
 | a :: b :: P, 0, h => rfl
 | a :: b :: P, i + 1, h => by
  have := Yfx P i (by simp only [List.length_cons] at h; omega)
  simp only [Y3c, List.getElem?_cons_succ]
  rw [this]
  congr 1
theorem Y74 : ∀ (P : List Tree), ∀ t ∈ Y3c P, t.isLeaf = false
 | [], t, h => by simp [Y3c] at h
 | [_], t, h => by simp [Y3c] at h
 | a :: b :: P, t, h => by
  simp only [Y3c, List.mem_cons] at h
  rcases h with rfl | h
  ·rfl
  ·exact Y74 P t h
def Tree.kids : Tree → List Tree
 | .leaf _ _ => []
 | .node a b => [a, b]
theorem Ycf : ∀ (P : List Tree), ∃ R, (Y3c P).flatMap Tree.kids ++ R = P
 | [] => ⟨[], rfl⟩
 | [x] => ⟨[x], rfl⟩
 | a :: b :: P => by
  obtain ⟨R, h⟩ := Ycf P
  exact ⟨R, by simp only [Y3c, List.flatMap_cons, Tree.kids, List.cons_append, List.nil_append]; rw [h]⟩
def Y14 (f : List Nat) : List Tree := (List.range f.length).map fun r => .leaf (f.getD r 0) r
def Level (f : List Nat) : Nat → List Tree → Prop
 | 0, T => T = []
 | l + 1, T => ∃ T', Level f l T' ∧ T.Perm (Y14 f ++ Y3c T')
def Y33 (f : List Nat) : Nat → List Tree → Prop
 | 0, T => T = []
 | l + 1, T => Rising (T.map Tree.wt) ∧ ∃ T', Y33 f l T' ∧ T.Perm (Y14 f ++ Y3c T')
theorem Y33.level {f : List Nat} : ∀ {l : Nat} {T : List Tree}, Y33 f l T → Level f l T
 | 0, _, h => h
 | l + 1, _, ⟨_, T', h, hp⟩ => ⟨T', h.level, hp⟩
theorem Ym4 (f : List Nat) : (Y14 f).map Tree.wt = f := by
 unfold Y14
 rw [List.map_map]
 refine List.ext_getElem (by simp) (fun i h1 h2 => ?_)
 simp only [List.getElem_map, List.getElem_range, Function.comp, Tree.wt]
 rw [List.getD_eq_getElem?_getD, List.getElem?_eq_getElem h2]
 rfl
theorem Y33.parcels {f : List Nat} : ∀ {l : Nat} {T : List Tree}, Y33 f l T → T.map Tree.wt = parcels f l
 | 0, _, h => by subst h; rfl
 | l + 1, T, ⟨hr, T', h, hp⟩ => by
  have h2 := hp.map Tree.wt
  rw [List.map_append, Ym4, Yk4, h.parcels] at h2
  exact Yil hr (h2.trans (List.Perm.append_right _ (Ym1 f).symm))
theorem Yf8 {A B : List Tree} (g : Tree → List Tree) (h : A.Perm B) : (A.flatMap g).Perm (B.flatMap g) := by
 induction h with
 | nil => exact List.Perm.refl _
 | cons x _ ih => simp only [List.flatMap_cons]; exact List.Perm.append_left _ ih
 | swap x y l =>
  simp only [List.flatMap_cons, ← List.append_assoc]
  exact List.Perm.append_right _ List.perm_append_comm
 | trans _ _ h1 h2 => exact h1.trans h2
theorem Ydc (f : List Nat) : (Y14 f).Nodup := by
 unfold Y14
 rw [List.Nodup, List.pairwise_map]
 exact List.nodup_range.imp (fun h e => h (by injection e))
def Y4m (r : Nat) (Q : List Tree) : Nat := (Q.map (Tree.cnt r)).sum
def wtL (Q : List Tree) : Nat := (Q.map Tree.wt).sum
theorem Yoi {A B : List Tree} (r : Nat) (h : A.Perm B) : Y4m r A = Y4m r B := (h.map _).sum_nat
theorem Ywl {A B : List Tree} (h : A.Perm B) : wtL A = wtL B := (h.map _).sum_nat
theorem Ya5 (r : Nat) (A B : List Tree) : Y4m r (A ++ B) = Y4m r A + Y4m r B := by simp [Y4m]
theorem Ycx (A B : List Tree) : wtL (A ++ B) = wtL A + wtL B := by simp [wtL]
theorem Y7k (r : Nat) : ∀ (Q : List Tree), (∀ t ∈ Q, t.isLeaf = false) → Y4m r (Q.flatMap Tree.kids) = Y4m r Q ∧ wtL (Q.flatMap Tree.kids) = wtL Q ∧ (Q.flatMap Tree.kids).length = 2 * Q.length
 | [], _ => ⟨rfl, rfl, rfl⟩
 | .leaf w s :: Q, h => by have := h _ (List.mem_cons_self ..); cases this
 | .node a b :: Q, h => by
  obtain ⟨h1, h2, h3⟩ := Y7k r Q (fun t ht => h t (List.mem_cons_of_mem _ ht))
  simp only [List.flatMap_cons, Tree.kids]
  rw [Ya5, Ycx, List.length_append, h1, h2, h3]
  refine ⟨?_, ?_, ?_⟩
  ·simp [Y4m, Tree.cnt]
  ·simp [wtL, Tree.wt]
  ·simp; omega
theorem Yfg {f : List Nat} {Q R : List Tree} (h : (Q ++ R).Perm (Y14 f)) : ∃ p : Nat → Bool, Yt0 f.length p = Q.length ∧ (∀ r, r < f.length → Y4m r Q = (p r).toNat) ∧ Yzy f p = wtL Q := by
 have hnd : (Q ++ R).Nodup := h.nodup_iff.2 (Ydc f)
 let q : Tree → Bool := fun t => decide (t ∈ Q)
 have hq1 : Q.filter q = Q := List.filter_eq_self.2 (fun t ht => decide_eq_true ht)
 have hq2 : R.filter q = [] := List.filter_eq_nil_iff.2 (fun t ht hc => by
  have hc := of_decide_eq_true hc
  exact (List.nodup_append.1 hnd).2.2 t hc t ht rfl)
 have hp : Q.Perm ((Y14 f).filter q) := by
  have := h.filter q
  rw [List.filter_append, hq1, hq2, List.append_nil] at this
  exact this
 have hg : ∀ (g : Tree → Nat), (Q.map g).sum = Y32 (fun r => (q (.leaf (f.getD r 0) r)).toNat * g (.leaf (f.getD r 0) r)) f.length := by
  intro g
  rw [(hp.map g).sum_nat, ← Ygm]
  unfold Y14
  generalize f.length = n
  generalize List.range n = rs
  induction rs with
  | nil => rfl
  | cons r rs ih =>
   simp only [List.map_cons, List.filter_cons, List.sum_cons]
   rw [← ih]
   cases q (.leaf (f.getD r 0) r) <;> simp
 refine ⟨fun r => q (.leaf (f.getD r 0) r), ?_, ?_, ?_⟩
 ·have := hg (fun _ => 1)
  unfold Yt0
  have e : (Q.map fun _ => 1).sum = Q.length := by
   clear hg hp hq1 hq2 hnd h this
   induction Q with
   | nil => rfl
   | cons x Q ih => rw [List.map_cons, List.sum_cons, ih, List.length_cons, Nat.add_comm]
  rw [← e, this]
  exact Y1i _ (fun r _ => (Nat.mul_one _).symm)
 ·intro r hr
  unfold Y4m
  rw [hg]
  rw [show Y32 (fun k => (q (.leaf (f.getD k 0) k)).toNat * Tree.cnt r (.leaf (f.getD k 0) k)) f.length = Y32 (fun k => if k = r then (q (.leaf (f.getD r 0) r)).toNat else 0) f.length from Y1i _ (fun k _ => by
   simp only [Tree.cnt]
   by_cases hk : k = r
   ·subst hk; rw [if_pos rfl, if_pos rfl, Nat.mul_one]
   ·rw [if_neg hk, if_neg hk, Nat.mul_zero])]
  generalize (q (.leaf (f.getD r 0) r)).toNat = x
  revert hr
  generalize f.length = n
  intro hr
  have key : ∀ n, Y32 (fun k => if k = r then x else 0) n = if r < n then x else 0 := by
   intro n
   induction n with
   | zero => rfl
   | succ n ih =>
    simp only [Y32, ih]
    by_cases h1 : r < n
    ·rw [if_pos h1, if_neg (by omega), if_pos (by omega)]; omega
    ·by_cases h2 : n = r
     ·rw [if_neg h1, if_pos h2, if_pos (by omega)]; omega
     ·rw [if_neg h1, if_neg h2, if_neg (by omega)]
  rw [key, if_pos hr]
 ·unfold Yzy wtL
  rw [hg]
  exact Y1i _ (fun r _ => by rw [Nat.mul_comm]; rfl)
theorem Yjc {f : List Nat} : ∀ {l : Nat} {T : List Tree}, Level f l T → ∀ Q R : List Tree, (Q ++ R).Perm T → ∃ ps : List (Nat → Bool), ps.length = l ∧ Tot (ps.map (Yt0 f.length)) Q.length ∧ (∀ r, r < f.length → Y4m r Q = Y65 ps r) ∧ (ps.map (Yzy f)).sum = wtL Q
 | 0, T, h, Q, R, hq => by
  subst h
  have := List.Perm.eq_nil hq
  have hQ : Q = [] := (List.append_eq_nil_iff.1 this).1
  subst hQ
  exact ⟨[], rfl, rfl, fun r _ => rfl, rfl⟩
 | l + 1, T, ⟨T', h, hp⟩, Q, R, hq => by
  have hqq := hq.trans hp
  have hl : ∀ t ∈ Y14 f, t.isLeaf = true := fun t ht => by
   unfold Y14 at ht
   obtain ⟨r, _, rfl⟩ := List.mem_map.1 ht
   rfl
  have e1 : (Y14 f ++ Y3c T').filter Tree.isLeaf = Y14 f := by
   rw [List.filter_append, List.filter_eq_self.2 hl, List.filter_eq_nil_iff.2 (fun t ht hc => by rw [Y74 T' t ht] at hc; cases hc), List.append_nil]
  have e2 : (Y14 f ++ Y3c T').filter (fun t => !t.isLeaf) = Y3c T' := by
   rw [List.filter_append, List.filter_eq_nil_iff.2 (fun t ht hc => by rw [hl t ht] at hc; cases hc), List.filter_eq_self.2 (fun t ht => by rw [Y74 T' t ht]; rfl), List.nil_append]
  have p1 := hqq.filter Tree.isLeaf
  have p2 := hqq.filter (fun t => !t.isLeaf)
  rw [e1, List.filter_append] at p1
  rw [e2, List.filter_append] at p2
  obtain ⟨p, hp1, hp2, hp3⟩ := Yfg p1
  obtain ⟨RR, hRR⟩ := Ycf T'
  have p3 := Yf8 Tree.kids p2
  rw [List.flatMap_append] at p3
  have p4 : ((Q.filter (fun t => !t.isLeaf)).flatMap Tree.kids ++ ((R.filter (fun t => !t.isLeaf)).flatMap Tree.kids ++ RR)).Perm T' := by
   rw [← List.append_assoc]
   refine (List.Perm.append_right RR p3).trans ?_
   rw [hRR]
  obtain ⟨ps, a1, a2, a3, a4⟩ := Yjc h _ _ p4
  have hsplit : (Q.filter Tree.isLeaf ++ Q.filter (fun t => !t.isLeaf)).Perm Q := List.filter_append_perm _ _
  have hnl : ∀ t ∈ Q.filter (fun t => !t.isLeaf), t.isLeaf = false := fun t ht => by
   have := (List.mem_filter.1 ht).2
   cases ht' : t.isLeaf with
   | false => rfl
   | true => rw [ht'] at this; cases this
  refine ⟨p :: ps, by simp [a1], ?_, fun r hr => ?_, ?_⟩
  ·refine ⟨(Q.filter (fun t => !t.isLeaf)).length, ?_, ?_⟩
   ·rw [hp1, ← List.length_append, hsplit.length_eq]
   ·rw [← (Y7k 0 _ hnl).2.2]
    exact a2
  ·rw [← Yoi r hsplit, Ya5, hp2 r hr, ← (Y7k r _ hnl).1, a3 r hr]
   rfl
  ·rw [← Ywl hsplit, Ycx, List.map_cons, List.sum_cons, hp3, a4, (Y7k 0 _ hnl).2.1]
theorem Ysa {f : List Nat} {L : Nat} {T : List Tree} (h2 : 2 ≤ f.length) (hf : ∀ x ∈ f, 1 ≤ x) (hL1 : 1 ≤ L) (hL : L ≤ 30) (hT : Y33 f L T) (hn : 2 * (f.length - 1) ≤ T.length) :
  Least f L ((List.range f.length).map fun r => Y4m r (T.take (2 * (f.length - 1)))) := by
 obtain ⟨ps, a1, a2, a3, a4⟩ := Yjc hT.level (T.take (2 * (f.length - 1))) (T.drop (2 * (f.length - 1))) (by rw [List.take_append_drop])
 rw [List.length_take, Nat.min_eq_left hn] at a2
 have hw : (ps.map (Yzy f)).sum ≤ Y84 (parcels f L) (2 * (f.length - 1)) := by
  rw [a4, ← hT.parcels]
  unfold wtL Y84
  rw [List.map_take]
  exact Nat.le_refl _
 have := Yhc h2 hf hL1 hL a1 a2 hw
 have e : Ydg f.length ps = (List.range f.length).map fun r => Y4m r (T.take (2 * (f.length - 1))) := by
  unfold Ydg
  exact List.map_congr_left (fun r hr => (a3 r (by simpa using hr)).symm)
 rw [← e]
 exact this
end Go.Proofs.YtkkfkmoikcmhoaaGreat.Lm
namespace Go.Proofs.YtkkfkmoikcmhoaaGreat.Lp
open Go.Shelf Go.RowKit Go.Lib Go.Sort Sm Lm
set_option maxRecDepth 100000
structure Pk where
 wt : Int
 sym : Int
 ptr : Option Addr
 len : Nat
 cap : Nat
instance : Inhabited Pk := ⟨⟨0, 0, none, 0, 0⟩⟩
def Yhm (x : Pk) : List Value := [.int .i64 x.wt, .int .i64 x.sym, .slice x.ptr x.len x.cap]
theorem Yjf (x : Pk) : (Yhm x).length = 3 := rfl
theorem Yjg (x : Pk) : ∀ v ∈ Yhm x, v.oneCell' = true := fun v hv => by
 simp only [Yhm, List.mem_cons, List.not_mem_nil, or_false] at hv
 rcases hv with rfl | rfl | rfl <;> rfl
def Ysz (x y : Int) : Int := if x < y then -1 else if y < x then 1 else 0
def Ysy (x y : Pk) : Int := Ysz x.wt y.wt
theorem ltP (x y : Pk) : ltOf Ysy x y = decide (x.wt < y.wt) := by
 unfold ltOf Ysy Ysz
 by_cases h1 : x.wt < y.wt
 ·simp [h1]
 ·by_cases h2 : y.wt < x.wt <;> simp [h1, h2]
theorem swoP : SWO (ltOf Ysy) where
 irrefl x := by rw [ltP]; simp
 trans x y z h1 h2 := by rw [ltP] at *; simp at *; omega
 ntrans x y z h1 h2 := by rw [ltP] at *; simp at *; omega
theorem Ywu (x : Int) (W : World) : Calls Tryz.prog 171 #[.int .i64 x] W fun e w' => e = .returned (.bool false) ∧ w' = W := by
 go_enter Tryz.func171, Tryz.ntmps171
 go_wp2
 go_ret
 exact ⟨by simp, rfl⟩
theorem compare (x y : Int) (W : World) : Calls Tryz.prog 163 #[.int .i64 x, .int .i64 y] W fun e w' => e = .returned (.int .i64 (Ysz x y)) ∧ w' = W := by
 have h1 := Ywu x
 have h2 := Ywu y
 by_cases hlt : x < y
 ·have hr : Ysz x y = -1 := by unfold Ysz; rw [if_pos hlt]
  rw [hr]
  go_enter Tryz.func163, Tryz.ntmps163
  go_wp2_with (go_at_call 171; first | (refine (h1 _).mono ?_; rintro e w' ⟨rfl, rfl⟩) | (refine (h2 _).mono ?_; rintro e w' ⟨rfl, rfl⟩))
  all_goals (go_ret; exact ⟨rfl, rfl⟩)
 ·by_cases hgt : y < x
  ·have hr : Ysz x y = 1 := by unfold Ysz; rw [if_neg hlt, if_pos hgt]
   rw [hr]
   go_enter Tryz.func163, Tryz.ntmps163
   go_wp2_with (go_at_call 171; first | (refine (h1 _).mono ?_; rintro e w' ⟨rfl, rfl⟩) | (refine (h2 _).mono ?_; rintro e w' ⟨rfl, rfl⟩))
   all_goals (go_ret; exact ⟨rfl, rfl⟩)
  ·have hr : Ysz x y = 0 := by unfold Ysz; rw [if_neg hlt, if_neg hgt]
   rw [hr]
   go_enter Tryz.func163, Tryz.ntmps163
   go_wp2_with (go_at_call 171; first | (refine (h1 _).mono ?_; rintro e w' ⟨rfl, rfl⟩) | (refine (h2 _).mono ?_; rintro e w' ⟨rfl, rfl⟩))
   all_goals (go_ret; exact ⟨rfl, rfl⟩)
set_option maxHeartbeats 1000000 in
theorem closure (x y : Pk) (W : World) : Calls Tryz.prog 162 #[.agg #[.int .i64 x.wt, .int .i64 x.sym, .slice x.ptr x.len x.cap], .agg #[.int .i64 y.wt, .int .i64 y.sym, .slice y.ptr y.len y.cap]] W fun e w' => e = .returned (.int .i64 (Ysy x y)) ∧ ∃ q os', w' = grow (W.drewN q) os' := by
 have hcon := fun W' => compare x.wt y.wt W'
 have hr : Ysz x.wt y.wt = Ysy x y := rfl
 rw [hr] at hcon
 generalize Ysy x y = r at hcon ⊢
 clear hr
 go_enter Tryz.func162, Tryz.ntmps162
 go_wp2_with (go_at_call 163; refine (hcon _).mono ?_; rintro e w' ⟨rfl, rfl⟩)
 go_ret
 exact ⟨rfl, 0, _, by rw [alloc_eq_grow, alloc_eq_grow, grow_grow]; rfl⟩
theorem Ytk (blk off size : Nat) (w : World) : CmpLays Tryz.prog 162 #[] Yhm 3 Ysy blk off size w := fun _ _ _ _ x y => closure x y _
theorem Ybt (args : Array Value) (w : World) : (callFunc 162 args).run Tryz.prog w = .ok (.enter 162 args) w := enters_of Tryz.func162 (by kernel_rfl) rfl args w
theorem Ymw (blk off cap : Nat) (d : Array Pk) (w : World) (hH : HoldsK Yhm 3 w blk off d) (hblk : blk < w.heap.size) (hsz : d.size < 1000000000) :
  Calls Tryz.prog 161 #[.slice (some ⟨blk, off, none⟩) d.size cap, .func (.func 162) #[] #[]] w fun e w' => e = .returned (.tuple #[]) ∧ ∃ d', SWK Yhm 3 w blk off d' w' ∧ PermIn 0 d.size d d' ∧ SortedIn (ltOf Ysy) 0 d.size d' :=
 Yiq Yhm Ysy swoP 162 #[] blk off cap d w Ybt (Ytk _ _ _ _) ⟨Yjf, Yjg, hH, hblk⟩ hsz
end Go.Proofs.YtkkfkmoikcmhoaaGreat.Lp
namespace Go.Proofs.YtkkfkmoikcmhoaaGreat.Lp
open Go.RowKit Oct
set_option maxRecDepth 100000
def Only (S : Nat → Prop) (w w' : World) : Prop :=
 w'.os = w.os ∧ w'.tape = w.tape ∧ w'.output = w.output ∧ w.heap.size ≤ w'.heap.size ∧ ∀ k, k < w.heap.size → ¬ S k → w'.heap[k]? = w.heap[k]?
theorem Only.refl (S : Nat → Prop) (w : World) : Only S w w := ⟨rfl, rfl, rfl, Nat.le_refl _, fun _ _ _ => rfl⟩
theorem Only.trans {S : Nat → Prop} {a b c : World} (h : Only S a b) (k : Only S b c) : Only S a c :=
 ⟨k.1.trans h.1, k.2.1.trans h.2.1, k.2.2.1.trans h.2.2.1, Nat.le_trans h.2.2.2.1 k.2.2.2.1, fun i hi hs => (k.2.2.2.2 i (by have := h.2.2.2.1; omega) hs).trans (h.2.2.2.2 i hi hs)⟩
theorem Only.below {S : Nat → Prop} {B : Nat} {w w' : World} (h : Only S w w') (hB : B ≤ w.heap.size) (hS : ∀ k, k < B → ¬ S k) : Below B w w' :=
 ⟨h.1, h.2.1, h.2.2.1, h.2.2.2.1, fun k hk => h.2.2.2.2 k (by omega) (hS k hk)⟩
theorem Only.of_below {S : Nat → Prop} {w w' : World} (h : Below w.heap.size w w') : Only S w w' := ⟨h.os, h.tape, h.output, h.size, fun k hk _ => h.block k hk⟩
theorem Only.setCell {S : Nat → Prop} {w : World} {p : Addr} (hp : S p.block) (u : Value) : Only S w (w.setCell p u) :=
 ⟨rfl, rfl, rfl, by simp [World.setCell], fun k hk hs => Below.heap_setCell _ _ _ _ (fun e => hs (e ▸ hp))⟩
def VRow (w : World) (C : Nat) (p : Option Addr) (vs : List Value) : Prop :=
 0 < vs.length → ∃ b off, p = some ⟨b, off, none⟩ ∧ b < C ∧ ∀ i (h : i < vs.length), w.cell? ⟨b, off + i, none⟩ = some vs[i]
def ints (zs : List Int) : List Value := zs.map fun z => .int .i64 z
theorem Y06 (zs : List Int) : (ints zs).length = zs.length := by simp [ints]
theorem VRow.int {w : World} {C : Nat} {b off : Nat} {zs : List Int} (h : VRow w C (some ⟨b, off, none⟩) (ints zs)) (i : Nat) (hi : i < zs.length) : w.cell? ⟨b, off + i, none⟩ = some (.int .i64 zs[i]) := by
 obtain ⟨b', off', e, hlt, hc⟩ := h (by rw [Y06]; omega)
 injection e with e
 injection e with e1 e2
 subst e1; subst e2
 have := hc i (by rw [Y06]; exact hi)
 rw [this]
 simp [ints]
theorem VRow.addr {w : World} {C : Nat} {p : Option Addr} {vs : List Value} (h : VRow w C p vs) (hp : 0 < vs.length) : ∃ b off, p = some ⟨b, off, none⟩ ∧ b < C := by
 obtain ⟨b, off, e, hlt, _⟩ := h hp
 exact ⟨b, off, e, hlt⟩
theorem Y2f {W : World} {d : Nat} {cs : Array Value} {T : TypeId} (h : W.heap[d]? = some (.cells cs T (0, 0))) (i : Nat) (v : Value) : (W.setCell ⟨d, i, none⟩ v).heap[d]? = some (.cells (cs.setIfInBounds i v) T (0, 0)) := by
 simp [World.setCell, Array.getElem?_modify, h]
theorem Y1h {W : World} {d : Nat} {cs : Array Value} {T : TypeId} (h : W.heap[d]? = some (.cells cs T (0, 0))) (i : Nat) : W.frozen? ⟨d, i, none⟩ = false := by
 simp [World.frozen?, h]
section
variable {H : Type} {enc : TypeId × Value → H} {w : World} {spare : Nat → Bool} {held : Bool}
end
end Go.Proofs.YtkkfkmoikcmhoaaGreat.Lp
namespace Go.Proofs.YtkkfkmoikcmhoaaGreat.Lp
open Go.RowKit Oct Lm
set_option maxRecDepth 100000
def PAt (w : World) (b o : Nat) (p : Pk) : Prop :=
 w.cell? ⟨b, o, none⟩ = some (.int .i64 p.wt) ∧ w.cell? ⟨b, o + 1, none⟩ = some (.int .i64 p.sym) ∧ w.cell? ⟨b, o + 2, none⟩ = some (.slice p.ptr p.len p.cap)
theorem Ya4 {w w' : World} {a : Addr} (h : w'.heap[a.block]? = w.heap[a.block]?) : w'.cell? a = w.cell? a := by
 unfold World.cell?
 rw [h]
theorem PAt.keep {w w' : World} {b o : Nat} {p : Pk} (h : PAt w b o p) (hb : w'.heap[b]? = w.heap[b]?) : PAt w' b o p :=
 ⟨(Ya4 hb).trans h.1, (Ya4 hb).trans h.2.1, (Ya4 hb).trans h.2.2⟩
def Mn (w : World) (lo hi : Nat) (ix : Nat → Nat) : Tree → Pk → Prop
 | .leaf wt s, p => p.wt = (wt : Int) ∧ p.sym = (ix s : Int) ∧ p.ptr = none ∧ p.len = 0 ∧ p.cap = 0
 | .node a b, p => p.wt = ((a.wt + b.wt : Nat) : Int) ∧ p.len = 2 ∧ 2 ≤ p.cap ∧ ∃ blk off pa pb, p.ptr = some ⟨blk, off, none⟩ ∧ lo ≤ blk ∧ blk < hi ∧ PAt w blk off pa ∧ PAt w blk (off + 3) pb ∧ Mn w lo hi ix a pa ∧ Mn w lo hi ix b pb
theorem Mn.wt {w : World} {lo hi : Nat} {ix : Nat → Nat} {t : Tree} {p : Pk} (h : Mn w lo hi ix t p) : p.wt = (t.wt : Int) := by
 cases t with
 | leaf wt s => exact h.1
 | node a b => exact h.1
theorem Mn.keep {w w' : World} {lo hi hi' : Nat} {ix : Nat → Nat} : ∀ {t : Tree} {p : Pk}, Mn w lo hi ix t p → hi ≤ hi' → (∀ k, lo ≤ k → k < hi → w'.heap[k]? = w.heap[k]?) → Mn w' lo hi' ix t p
 | .leaf _ _, _, h, _, _ => h
 | .node a b, p, ⟨h1, h2, h3, blk, off, pa, pb, e, l1, l2, q1, q2, m1, m2⟩, hh, hk =>
  ⟨h1, h2, h3, blk, off, pa, pb, e, l1, by omega, q1.keep (hk blk l1 l2), q2.keep (hk blk l1 l2), m1.keep hh hk, m2.keep hh hk⟩
def nats (ls : List Nat) : List Value := ls.map fun n : Nat => .int .i64 (n : Int)
def LRow (w : World) (bl : Nat) (ls : List Nat) : Prop := w.heap[bl]? = some (.cells (nats ls).toArray 3 (0, 0))
def Y7c (ix : Nat → Nat) : Tree → List Nat → List Nat
 | .leaf _ s, ls => ls.set (ix s) (ls.getD (ix s) 0 + 1)
 | .node a b, ls => Y7c ix b (Y7c ix a ls)
def Y3d : Tree → Nat
 | .leaf _ _ => 1
 | .node a b => Y3d a + Y3d b
def InT (ix : Nat → Nat) (n : Nat) : Tree → Prop
 | .leaf _ s => ix s < n
 | .node a b => InT ix n a ∧ InT ix n b
theorem Y23 (ix : Nat → Nat) : ∀ (t : Tree) (ls : List Nat), (Y7c ix t ls).length = ls.length
 | .leaf _ _, ls => by simp [Y7c]
 | .node a b, ls => by simp only [Y7c]; rw [Y23 ix b, Y23 ix a]
theorem Ycz (ix : Nat → Nat) {B : Nat} : ∀ (t : Tree) (ls : List Nat), (∀ x ∈ ls, x ≤ B) → ∀ x ∈ Y7c ix t ls, x ≤ B + Y3d t
 | .leaf _ s, ls, h, x, hx => by
  simp only [Y7c] at hx
  rcases List.mem_or_eq_of_mem_set hx with hx | rfl
  ·have := h x hx; simp only [Y3d]; omega
  ·simp only [Y3d]
   rw [List.getD_eq_getElem?_getD]
   rcases hg : ls[ix s]? with _ | y
   ·simp
   ·have := h y (List.mem_of_getElem? hg)
    simp; omega
 | .node a b, ls, h, x, hx => by
  have := Ycz ix (B := B + Y3d a) b (Y7c ix a ls) (Ycz ix a ls h) x hx
  simp only [Y3d]; omega
theorem Yfm {w : World} {bl : Nat} {ls : List Nat} (h : LRow w bl ls) (i : Nat) (hi : i < ls.length) : w.cell? ⟨bl, i, none⟩ = some (.int .i64 ((ls.getD i 0 : Nat) : Int)) := by
 unfold LRow at h
 rw [List.getD_eq_getElem?_getD, List.getElem?_eq_getElem hi]
 simp [World.cell?, h, nats, hi]
theorem Yjr {w : World} {bl : Nat} {ls : List Nat} (h : LRow w bl ls) (i n : Nat) : LRow (w.setCell ⟨bl, i, none⟩ (.int .i64 (n : Int))) bl (ls.set i n) := by
 have := Y2f h i (.int .i64 (n : Int))
 unfold LRow
 rw [this]
 simp [nats, List.map_set]
theorem LRow.lt {w : World} {bl : Nat} {ls : List Nat} (h : LRow w bl ls) : bl < w.heap.size := by
 rcases Nat.lt_or_ge bl w.heap.size with hlt | hge
 ·exact hlt
 ·unfold LRow at h; rw [Array.getElem?_eq_none hge] at h; cases h
theorem LRow.only {w w' : World} {bl : Nat} {ls : List Nat} {S : Nat → Prop} (h : LRow w bl ls) (ho : Only S w w') (hS : ¬ S bl) : LRow w' bl ls := (ho.2.2.2.2 bl h.lt hS).trans h
theorem Y1c (S : Nat → Prop) (w : World) (o : Obj) : Only S w (w.alloc o) := Only.of_below ((Below.refl _ w).alloc (Nat.le_refl _) o)
theorem Yqb (W : World) : (binOp .eql 218 (.slice none 0 0) (.slice none 0 0)).run Tryz.prog W = .ok (.bool true) W := Lib.run_eql_slice_nil_nil W 0 0 Tryz.underlying218
theorem Ykf (W : World) (a : Addr) (n c : Nat) : (binOp .eql 218 (.slice (some a) n c) (.slice none 0 0)).run Tryz.prog W = .ok (.bool false) W := Lib.run_eql_slice_some_nil W a n c Tryz.underlying218
def Long (w : World) (bl : Nat) (ls : List Nat) (e : Ending) (w' : World) : Prop := e = .returned (.tuple #[]) ∧ LRow w' bl ls ∧ Only (· = bl) w w'
set_option maxHeartbeats 4000000 in
theorem Yde (wt s : Nat) (p : Pk) (ls : List Nat) (w : World) (lo hi bl cap n : Nat) (ix : Nat → Nat) (hn : n = ls.length) (h : Mn w lo hi ix (.leaf wt s) p) (hl : LRow w bl ls) (hi' : InT ix ls.length (.leaf wt s)) (hb : ∀ x ∈ ls, x + 1 ≤ 4611686018427387904) :
  Calls Tryz.prog 147 #[.agg #[.int .i64 p.wt, .int .i64 p.sym, .slice p.ptr p.len p.cap], .slice (some ⟨bl, 0, none⟩) n cap] w (Long w bl (Y7c ix (.leaf wt s) ls)) := by
 obtain ⟨h1, h2, h3, h4, h5⟩ := h
 rw [h1, h2, h3, h4, h5]
 have hi2 : ix s < ls.length := hi'
 have hcell := Yfm hl (ix s) hi2
 have hfr := Y1h hl (ix s)
 have hx : ls.getD (ix s) 0 + 1 ≤ 4611686018427387904 := by
  rw [List.getD_eq_getElem?_getD, List.getElem?_eq_getElem hi2]
  exact hb _ (List.getElem_mem hi2)
 have hblt := hl.lt
 have HL := Lib.hid hl
 have HF : Hid (Y7c ix (.leaf wt s) ls = ls.set (ix s) (ls.getD (ix s) 0 + 1)) := rfl
 generalize Y7c ix (.leaf wt s) ls = res at HF ⊢
 generalize ls.getD (ix s) 0 = c at hcell hx HF
 generalize ix s = k at hcell hfr hi2 HF
 have hk1 : (0 : Int) ≤ (k : Int) := by omega
 have hk2 : (k : Int) < (n : Int) := by omega
 have HC : Hid (((c + 1 : Nat) : Int) = (c : Int) + 1) := by show _ = _; omega
 have hwr : IntKind.i64.wrap ((c : Int) + 1) = (c : Int) + 1 := by rw [IntKind.wrap_i64]; omega
 have hne : ¬ w.heap.size = bl := by omega
 have hne2 : ¬ bl = w.heap.size := by omega
 clear h1 h2 h3 h4 h5 hi' hb hl hn
 have hnil := Yqb
 have hsome := Ykf
 go_enter Tryz.func147, Tryz.ntmps147
 go_wp2
 (try simp only [Exit.inBlock, Exit.then]); refine bodyPost_ret (results_none rfl _ _ _) rfl ?_
 have hl3 := (Yjr HL.out k (c + 1)).only (S := fun _ => False) (Y1c _ _ (.cells #[.int .i64 wt, .int .i64 k, .slice none 0 0] 221)) (fun h => h)
 rw [HC.out] at hl3
 rw [HF.out]
 exact ⟨rfl, hl3, (Only.setCell (S := (· = bl)) rfl _).trans (Y1c _ _ _)⟩
def Ybr (lo hi bl cap n : Nat) (ix : Nat → Nat) (t : Tree) : Prop :=
 ∀ (p : Pk) (ls : List Nat) (w : World), n = ls.length → Mn w lo hi ix t p → LRow w bl ls → hi ≤ w.heap.size → InT ix n t → (∀ x ∈ ls, x + Y3d t ≤ 4611686018427387904) →
  Calls Tryz.prog 147 #[.agg #[.int .i64 p.wt, .int .i64 p.sym, .slice p.ptr p.len p.cap], .slice (some ⟨bl, 0, none⟩) n cap] w (Long w bl (Y7c ix t ls))
def Stage (ix : Nat → Nat) (a b : Tree) (ls : List Nat) (k : Nat) (lk : List Nat) : Prop := (k = 0 ∧ lk = ls) ∨ (k = 1 ∧ lk = Y7c ix a ls) ∨ (k = 2 ∧ lk = Y7c ix b (Y7c ix a ls))
theorem Ymz {lo hi bl cap n : Nat} {ix : Nat → Nat} {a b : Tree} {ls lk : List Nat} {k blk off : Nat} {w : World} {pa pb : Pk} (h : Stage ix a b ls k lk) (hk : k < 2) (q1 : PAt w blk off pa) (q2 : PAt w blk (off + 3) pb) (m1 : Mn w lo hi ix a pa) (m2 : Mn w lo hi ix b pb)
  (ha : Ybr lo hi bl cap n ix a) (hb : Ybr lo hi bl cap n ix b) (hi1 : InT ix n (.node a b)) (hbd : ∀ x ∈ ls, x + Y3d (.node a b) ≤ 4611686018427387904) (hn : n = ls.length) :
  ∃ t p, PAt w blk (off + k * 3) p ∧ Mn w lo hi ix t p ∧ Ybr lo hi bl cap n ix t ∧ InT ix n t ∧ (∀ x ∈ lk, x + Y3d t ≤ 4611686018427387904) ∧ Stage ix a b ls (k + 1) (Y7c ix t lk) ∧ n = lk.length := by
 rcases h with ⟨rfl, rfl⟩ | ⟨rfl, rfl⟩ | ⟨rfl, rfl⟩
 ·exact ⟨a, pa, by simpa using q1, m1, ha, hi1.1, fun x hx => by have := hbd x hx; simp only [Y3d] at this; omega, .inr (.inl ⟨rfl, rfl⟩), hn⟩
 ·refine ⟨b, pb, by simpa using q2, m2, hb, hi1.2, fun x hx => ?_, .inr (.inr ⟨rfl, rfl⟩), by rw [Y23]; exact hn⟩
  have := Ycz ix (B := 4611686018427387904 - Y3d (.node a b)) a ls (fun y hy => by have := hbd y hy; omega) x hx
  have h9 : Y3d (.node a b) = Y3d a + Y3d b := rfl
  rcases ls with _ | ⟨y, ls⟩
  ·have := List.length_pos_of_mem hx
   rw [Y23] at this
   simp at this
  ·have := hbd y (List.mem_cons_self ..)
   omega
 ·omega
set_option maxHeartbeats 4000000 in
theorem Ydf (a b : Tree) (lo hi bl cap n : Nat) (ix : Nat → Nat) (hbl : bl < lo) (ha : Ybr lo hi bl cap n ix a) (hb : Ybr lo hi bl cap n ix b) : Ybr lo hi bl cap n ix (.node a b) := by
 intro p ls w hn h hl hhi hin hbd
 obtain ⟨h1, h2, h2c, blk, off, pa, pb, h3, h4, h5, q1, q2, m1, m2⟩ := h
 rw [h2, h3]
 generalize p.cap = pc at h2c ⊢
 generalize p.wt = pw
 generalize p.sym = py
 have H0 : Hid (n = ls.length ∧ LRow w bl ls ∧ hi ≤ w.heap.size ∧ PAt w blk off pa ∧ PAt w blk (off + 3) pb ∧ Mn w lo hi ix a pa ∧ Mn w lo hi ix b pb) := ⟨hn, hl, hhi, q1, q2, m1, m2⟩
 have HI : Hid (Ybr lo hi bl cap n ix a ∧ Ybr lo hi bl cap n ix b ∧ InT ix n (.node a b) ∧ ∀ x ∈ ls, x + Y3d (.node a b) ≤ 4611686018427387904) := ⟨ha, hb, hin, hbd⟩
 have hb2 : blk < w.heap.size := by omega
 clear h1 h2 h3 hn hl q1 q2 m1 m2 hin hbd ha hb
 have hnil := Yqb
 have hsome := Ykf
 go_enter Tryz.func147, Tryz.ntmps147
 go_wp2
 go_loopg [19] 2 (fun kx s19 wr => ∃ (k : Nat) (lk : List Nat), s19 = .int .i64 (k : Int) ∧ k ≤ 2 ∧ 2 - k ≤ kx ∧ Hid (Stage ix a b ls k lk ∧ LRow wr bl lk ∧ Only (· = bl) w wr))
 case atStart => exact ⟨0, ls, rfl, by omega, by omega, ⟨.inl ⟨rfl, rfl⟩, H0.out.2.1.only (Y1c (· = w.heap.size) _ _) (by have := H0.out.2.1.lt; omega), Y1c _ _ _⟩⟩
 case round =>
  obtain ⟨k, lk, rfl, hk2, hkx, HR⟩ := hrel
  by_cases hlt : k < 2
  ·obtain ⟨e1, e2, e3, e4, e5, e6, e7⟩ := H0.out
   obtain ⟨i1, i2, i3, i4⟩ := HI.out
   obtain ⟨t, pk, s1, s2, s3, s4, s5, s6, s7⟩ := Ymz HR.out.1 hlt e4 e5 e6 e7 i1 i2 i3 i4 e1
   have hsz := HR.out.2.2.2.2.2.1
   have same : ∀ j, lo ≤ j → j < hi → wr.heap[j]? = w.heap[j]? := fun j h1 h2 => HR.out.2.2.2.2.2.2 j (by omega) (by omega)
   have s1' := s1.keep (same blk h4 h5)
   obtain ⟨c1, c2, c3⟩ := s1'
   have HS : Hid (Mn wr lo hi ix t pk ∧ Ybr lo hi bl cap n ix t ∧ InT ix n t ∧ (∀ x ∈ lk, x + Y3d t ≤ 4611686018427387904) ∧ Stage ix a b ls (k + 1) (Y7c ix t lk) ∧ n = lk.length) := ⟨s2.keep (Nat.le_refl _) same, s3, s4, s5, s6, s7⟩
   have hkz : (k : Int) < 2 := by omega
   have hk0 : (0 : Int) ≤ (k : Int) := by omega
   have hblr : bl < wr.heap.size := HR.out.2.1.lt
   have HSZ : Hid (w.heap.size ≤ wr.heap.size ∧ hi ≤ w.heap.size) := ⟨hsz, e3⟩
   clear e1 e2 e3 e4 e5 e6 e7 i1 i2 i3 i4 s1 s2 s3 s4 s5 s6 s7 same hhi
   go_wp2_with fail
   have hsame : ∀ j, lo ≤ j → j < hi → (wr.alloc (.cells #[.int .i64 pk.wt, .int .i64 pk.sym, .slice pk.ptr pk.len pk.cap] 221)).heap[j]? = wr.heap[j]? := fun j h1 h2 => (Y1c (fun _ => False) wr _).2.2.2.2 j (by have := HSZ.out; omega) (fun h => h)
   have hl1 := HR.out.2.1.only (S := fun _ => False) (Y1c _ wr (.cells #[.int .i64 pk.wt, .int .i64 pk.sym, .slice pk.ptr pk.len pk.cap] 221)) (fun h => h)
   have hc := HS.out.2.1 pk lk _ HS.out.2.2.2.2.2 (HS.out.1.keep (Nat.le_refl _) hsame) hl1 (by have := HSZ.out; simp; omega) HS.out.2.2.1 HS.out.2.2.2.1
   refine hc.mono ?_
   rintro e w' ⟨rfl, l1, o1⟩
   have HN : Hid (LRow w' bl (Y7c ix t lk) ∧ Only (· = bl) w w') := ⟨l1, HR.out.2.2.trans ((Y1c _ _ _).trans o1)⟩
   clear hc l1 o1 hl1 hsame
   go_wp2
   go_roundg (2 - (k + 1))
   case measure => omega
   case rel => exact ⟨k + 1, Y7c ix t lk, by go_num, by omega, Nat.le_refl _, ⟨HS.out.2.2.2.2.1, HN.out⟩⟩
  ·have hkz : ¬ (k : Int) < 2 := by omega
   have hk : k = 2 := by omega
   go_wp2
   go_end0
   obtain ⟨e1, e2, e3⟩ := HR.out
   rcases e1 with ⟨h, _⟩ | ⟨h, _⟩ | ⟨_, rfl⟩
   ·omega
   ·omega
   ·exact ⟨rfl, e2, e3⟩
theorem Y72 (lo hi bl cap n : Nat) (ix : Nat → Nat) (hbl : bl < lo) : ∀ t : Tree, Ybr lo hi bl cap n ix t
 | .leaf wt s => fun p ls w hn h hl hhi hin hbd => Yde wt s p ls w lo hi bl cap n ix hn h hl (by rw [← hn]; exact hin) hbd
 | .node a b => Ydf a b lo hi bl cap n ix hbl (Y72 lo hi bl cap n ix hbl a) (Y72 lo hi bl cap n ix hbl b)
end Go.Proofs.YtkkfkmoikcmhoaaGreat.Lp

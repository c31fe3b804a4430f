/- IfN, AdlM, ZlM, OctA, OctJ, OzK: merged. -/
import Derived.Test.YtkkfkmoikcmhoaaGreatQaa
import Derived.Test.YtkkfkmoikcmhoaaGreatQad
set_option linter.unusedVariables false
set_option linter.unusedSimpArgs false
namespace Go.Proofs.YtkkfkmoikcmhoaaGreat.Inf
open Bit Hf
def Less (m n : Nat) (x y : R (List UInt8)) : Prop :=
 x = .error 8 ∨ (x = y ∧ ∀ o a, x = .ok (o, a) → o.length ≤ m)
theorem Less.err (m n e : Nat) : Less m n (.error e) (.error e) := .inr ⟨rfl, fun o a h => by cases h⟩
theorem Less.ok {m n : Nat} {o : List UInt8} (a : Nat) (h : o.length ≤ m) : Less m n (.ok (o, a)) (.ok (o, a)) := .inr ⟨rfl, fun o a h => by cases h; assumption⟩
theorem Less.after {α : Type} {m n : Nat} (x : R α) {f g : α → Nat → R (List UInt8)} (h : ∀ v a, Less m n (f v a) (g v a)) : Less m n (x.then f) (x.then g) := by
 cases x with
 | error e => exact Less.err m n e
 | ok v => exact h v.1 v.2
theorem Less.ite {m n : Nat} {c : Prop} [Decidable c] {x y x' y' : R (List UInt8)} (h1 : c → Less m n x y) (h2 : ¬ c → Less m n x' y') : Less m n (if c then x else x') (if c then y else y') := by
 by_cases h : c
 ·simpa only [h, if_true] using h1 h
 ·simpa only [h, if_false] using h2 h
theorem Less.full {m n k : Nat} {x y : R (List UInt8)} (hmn : m ≤ n) (h : k ≤ m → Less m n x y) : Less m n (if m < k then .error 8 else x) (if n < k then .error 8 else y) := by
 by_cases hm : m < k
 ·left; rw [if_pos hm]
 ·rw [if_neg hm, if_neg (by omega)]
  exact h (by omega)
theorem Less.full' {m n k : Nat} {x y : R (List UInt8)} (hmn : m ≤ n) (h : k < m → Less m n x y) : Less m n (if m ≤ k then .error 8 else x) (if n ≤ k then .error 8 else y) := by
 by_cases hm : m ≤ k
 ·left; rw [if_pos hm]
 ·rw [if_neg hm, if_neg (by omega)]
  exact h (by omega)
theorem Less.withW {m n : Nat} (x : Except Nat (List (List Bool))) {f g : List (List Bool) → R (List UInt8)} (h : ∀ W, Less m n (f W) (g W)) : Less m n (withW x f) (withW x g) := by
 cases x with
 | error e => exact Less.err m n e
 | ok v => exact h v
theorem Y7e (L : List Bool) {m n : Nat} (hmn : m ≤ n) : ∀ (k at_ : Nat) (out : List UInt8), out.length ≤ m → Less m n (Y1l L m k at_ out) (Y1l L n k at_ out)
 | 0, at_, out, h => Less.ok at_ h
 | k + 1, at_, out, h => Less.after _ fun c a => Less.full' hmn fun hl => Y7e L hmn k a _ (by simp; omega)
theorem Y3y (A B : List (List Bool)) (L : List Bool) {m n : Nat} (hmn : m ≤ n) : ∀ (f at_ : Nat) (out : List UInt8), out.length ≤ m → Less m n (Y2n A B L m f at_ out) (Y2n A B L n f at_ out)
 | 0, at_, out, h => Less.err m n 0
 | f + 1, at_, out, h => Less.after _ fun v a => Less.ite (fun _ => Less.ok a h) fun _ => Less.ite (fun _ => Less.full' hmn fun hl => Y3y A B L hmn f a _ (by simp; omega)) fun _ =>
   Less.after _ fun k b => Less.after _ fun j c => Less.after _ fun d e => Less.ite (fun _ => Less.err m n 3) fun _ => Less.full hmn fun hl => Y3y A B L hmn f e _ (by rw [Y57]; exact hl)
theorem Yih (L : List Bool) {m n : Nat} (hmn : m ≤ n) (g h at_ : Nat) (out : List UInt8) (ho : out.length ≤ m) : Less m n (Yir L m g h at_ out) (Yir L n g h at_ out) :=
 Less.ite (fun _ => Less.after _ fun nm a => Less.ite (fun _ => Y7e L hmn _ a out ho) fun _ => Less.err m n 3) fun _ =>
  Less.ite (fun _ => Y3y _ _ L hmn g at_ out ho) fun _ => Less.ite (fun _ => Less.after _ fun k a => Less.ite (fun _ => Less.err m n 3) fun _ => Less.after _ fun l b =>
   Less.withW _ fun W => Less.after _ fun all c => Less.ite (fun _ => Less.err m n 3) fun _ => Less.withW _ fun A => Less.withW _ fun B => Y3y A B L hmn g c out ho) fun _ => Less.err m n 3
theorem Less.go {m n : Nat} {x y : R (List UInt8)} (h : Less m n x y) {f g : List UInt8 → Nat → R (List UInt8)} (hf : ∀ o a, o.length ≤ m → Less m n (f o a) (g o a)) : Less m n (x.then f) (y.then g) := by
 rcases h with h | ⟨h, hl⟩
 ·left; rw [h]; rfl
 ·subst h
  cases x with
  | error e => exact Less.err m n e
  | ok v => exact hf v.1 v.2 (hl v.1 v.2 rfl)
theorem Y9f (L : List Bool) {m n : Nat} (hmn : m ≤ n) (g : Nat) : ∀ (f at_ : Nat) (out : List UInt8), out.length ≤ m → Less m n (Y46 L m g f at_ out) (Y46 L n g f at_ out)
 | 0, at_, out, h => Less.err m n 0
 | f + 1, at_, out, h => Less.after _ fun v a => Less.go (Yih L hmn g v a out h) fun o b ho => Less.ite (fun _ => Less.ok b ho) fun _ => Y9f L hmn g f b o ho
theorem Y82 {xs : List UInt8} {n m k : Nat} {o : List UInt8} (h : inflate xs n = .ok (o, k)) (hm : m < o.length) (hmn : m ≤ n) : inflate xs m = .error 8 := by
 unfold inflate at *
 rcases Y9f (Y00 true xs) hmn (8 * xs.length + 1) (8 * xs.length + 1) 0 [] (by simp) with e | ⟨e, hl⟩
 ·rw [e]
 ·rw [← e] at h
  revert h
  cases hx : Y46 (Y00 true xs) m (8 * xs.length + 1) (8 * xs.length + 1) 0 [] with
  | error e => intro h; cases h
  | ok v =>
   intro h
   cases h
   exact absurd (hl v.1 v.2 hx) (by omega)
theorem Y09 {α β : Type} {x : R α} {f g : α → Nat → R β} (h : ∀ v a, x = .ok (v, a) → f v a = g v a) : x.then f = x.then g := by
 cases x with
 | error e => rfl
 | ok v => exact h v.1 v.2 rfl
theorem Y24 {β : Type} {x : Except Nat (List (List Bool))} {f g : List (List Bool) → R β} (h : ∀ W, f W = g W) : withW x f = withW x g := by
 cases x with
 | error e => rfl
 | ok v => exact h v
theorem Hon.le {α : Type} {at_ : Nat} {p : List Bool → R α} (h : Hon at_ p) {L : List Bool} (hL : at_ ≤ L.length) {v : α} {a : Nat} (e : p L = .ok (v, a)) : at_ ≤ a ∧ a ≤ L.length := (h L hL).1 v a e
theorem Y1z (A B : List (List Bool)) (L : List Bool) (most : Nat) : ∀ (f g at_ : Nat) (out : List UInt8), at_ ≤ L.length → L.length < f + at_ → L.length < g + at_ → Y2n A B L most f at_ out = Y2n A B L most g at_ out
 | 0, g, at_, out, h, hf, hg => by omega
 | f + 1, 0, at_, out, h, hf, hg => by omega
 | f + 1, g + 1, at_, out, h, hf, hg => by
  rw [Y2n, Y2n]
  refine Y09 fun v a hv => ?_
  have h1 := Yb7 hv
  have h2 := (Y2c A at_).le h hv
  split
  ·rfl
  ·split
   ·split
    ·rfl
    ·exact Y1z A B L most f g a _ h2.2 (by omega) (by omega)
   ·refine Y09 fun n b hb => ?_
    have h3 := (Y1n false _ a).le h2.2 hb
    refine Y09 fun k c hc => ?_
    have h4 := (Y2c B b).le h3.2 hc
    refine Y09 fun d e he => ?_
    have h5 := (Y1n true k c).le h4.2 he
    split
    ·rfl
    ·split
     ·rfl
     ·exact Y1z A B L most f g e _ h5.2 (by omega) (by omega)
theorem Yk6 {L : List Bool} {at_ n v a : Nat} (h : Y16 L at_ n = .ok (v, a)) : a = at_ + n := by
 unfold Y16 at h
 split at h
 ·cases h; rfl
 ·cases h
theorem Yis (L : List Bool) (most f g h at_ : Nat) (out : List UInt8) (ha : at_ ≤ L.length) (hf : L.length < f + at_) (hg : L.length < g + at_) : Yir L most f h at_ out = Yir L most g h at_ out := by
 unfold Yir
 split
 ·rfl
 ·split
  ·exact Y1z _ _ L most f g at_ out ha hf hg
  ·split
   ·unfold Yjp
    refine Y09 fun n a hn => ?_
    have h1 := (Y5y at_).le ha hn
    split
    ·rfl
    ·refine Y09 fun l b hb => ?_
     have h2 := (Y5h _ 0 a _).le h1.2 hb
     refine Y24 fun W => Y09 fun all c hc => ?_
     have h3 := (Y5g W _ _ b []).le h2.2 hc
     split
     ·rfl
     ·exact Y24 fun A => Y24 fun B => Y1z A B L most f g c out h3.2 (by omega) (by omega)
   ·rfl
theorem Y5z (L : List Bool) (most g1 g2 : Nat) (hg1 : L.length < g1) (hg2 : L.length < g2) : ∀ (f g at_ : Nat) (out : List UInt8), at_ ≤ L.length → L.length < f + at_ → L.length < g + at_ → Y46 L most g1 f at_ out = Y46 L most g2 g at_ out
 | 0, g, at_, out, h, hf, hg => by omega
 | f + 1, 0, at_, out, h, hf, hg => by omega
 | f + 1, g + 1, at_, out, h, hf, hg => by
  rw [Y46, Y46]
  refine Y09 fun v a hv => ?_
  have h1 := Yk6 hv
  have h2 := (Y4d at_ 3).le h hv
  rw [Yis L most g1 g2 v a out h2.2 (by omega) (by omega)]
  refine Y09 fun o b hb => ?_
  have h3 := (Y5x most g2 v a out).le h2.2 hb
  split
  ·rfl
  ·exact Y5z L most g1 g2 hg1 hg2 f g b o h3.2 (by omega) (by omega)
theorem Y60 {xs : List UInt8} {most F : Nat} (hF : 8 * xs.length < F) : Y46 (Y00 true xs) most (8 * xs.length + 1) (8 * xs.length + 1) 0 [] = Y46 (Y00 true xs) most F F 0 [] :=
 Y5z _ most _ _ (by rw [Y02]; omega) (by rw [Y02]; omega) _ _ 0 [] (by omega) (by rw [Y02]; omega) (by rw [Y02]; omega)
theorem Y3p {xs : List UInt8} {most k : Nat} {o : List UInt8} (h : inflate xs most = .ok (o, k)) (ys : List UInt8) : k ≤ xs.length ∧ inflate (xs ++ ys) most = .ok (o, k) := by
 have hF : 8 * xs.length < 8 * (xs ++ ys).length + 1 := by simp; omega
 unfold inflate at *
 rw [Y60 hF] at h
 have hh := Y80 most (8 * (xs ++ ys).length + 1) (8 * (xs ++ ys).length + 1) 0 [] (Y00 true xs) (by omega)
 rw [Y0j]
 rcases hh.2 (Y00 true ys) with e | e
 ·simp only [] at e; rw [e] at h; cases h
 ·simp only [] at e
  rw [e]
  refine ⟨?_, h⟩
  revert h
  cases hx : Y46 (Y00 true xs) most (8 * (xs ++ ys).length + 1) (8 * (xs ++ ys).length + 1) 0 [] with
  | error e => intro h; cases h
  | ok v =>
   intro h
   cases h
   have := (hh.1 v.1 v.2 hx).2
   rw [Y02] at this
   omega
theorem Yb3 {xs : List UInt8} {most k j : Nat} {o : List UInt8} (h : inflate xs most = .ok (o, k)) (hj : j < k) : inflate (xs.take j) most = .error 2 := by
 have hk := (Y3p h []).1
 cases hx : inflate (xs.take j) most with
 | ok v =>
  obtain ⟨h1, h2⟩ := Y3p (o := v.1) (k := v.2) hx (xs.drop j)
  rw [List.take_append_drop, h] at h2
  cases h2
  simp at h1
  omega
 | error e =>
  have hF : 8 * (xs.take j).length < 8 * xs.length + 1 := by simp; omega
  unfold inflate at hx h
  rw [Y60 hF] at hx
  have hh := (Y80 most (8 * xs.length + 1) (8 * xs.length + 1) 0 [] (Y00 true (xs.take j)) (by omega)).2 (Y00 true (xs.drop j))
  simp only [] at hh
  rw [← Y0j, List.take_append_drop] at hh
  rcases hh with e' | e'
  ·rw [e'] at hx; cases hx; rfl
  ·rw [← e'] at hx
   revert h hx
   cases Y46 (Y00 true xs) most (8 * xs.length + 1) (8 * xs.length + 1) 0 [] with
   | ok v => intro h hx; cases hx
   | error e => intro h hx; cases h
end Go.Proofs.YtkkfkmoikcmhoaaGreat.Inf
namespace Go.Proofs.YtkkfkmoikcmhoaaGreat.Adl
def sS : List UInt8 → Nat
 | [] => 0
 | x :: l => x.toNat + sS l
def sT : List UInt8 → Nat
 | [] => 0
 | x :: l => (l.length + 1) * x.toNat + sT l
theorem Ygm (l r : List UInt8) : sS (l ++ r) = sS l + sS r := by
 induction l with
 | nil => simp [sS]
 | cons x l ih => simp [sS, ih]; omega
theorem Ygn (l r : List UInt8) : sT (l ++ r) = sT l + r.length * sS l + sT r := by
 induction l with
 | nil => simp [sT, sS]
 | cons x l ih =>
  simp only [List.cons_append, sT, sS, ih, List.length_append]
  have e1 : (l.length + r.length + 1) * x.toNat = (l.length + 1) * x.toNat + r.length * x.toNat := by rw [← Nat.add_mul]; congr 1; omega
  have e2 : r.length * (x.toNat + sS l) = r.length * x.toNat + r.length * sS l := Nat.mul_add _ _ _
  omega
theorem Ybm (l : List UInt8) (x : UInt8) : sS (l ++ [x]) = sS l + x.toNat := by rw [Ygm]; simp [sS]
theorem Ylb (l : List UInt8) (x : UInt8) : sT (l ++ [x]) = sT l + sS l + x.toNat := by rw [Ygn]; simp [sT]
theorem Ymc (l : List UInt8) : sS l ≤ 255 * l.length := by
 induction l with
 | nil => simp [sS]
 | cons x l ih => have := x.toNat_lt; simp [sS]; omega
def lo (s : Nat) : Nat := s % 65536 % 65521
def up (s : Nat) : Nat := s / 65536 % 65521
theorem Ykw (s : Nat) : lo s < 65521 := Nat.mod_lt _ (by omega)
theorem Ymh (s : Nat) : up s < 65521 := Nat.mod_lt _ (by omega)
def loU (s : Nat) (xs : List UInt8) : Nat := (lo s + sS xs) % 65521
def upU (s : Nat) (xs : List UInt8) : Nat := (up s + xs.length * lo s + sT xs) % 65521
def updN (s : Nat) (xs : List UInt8) : Nat := upU s xs * 65536 + loU s xs
def sumN (xs : List UInt8) : Nat := updN 1 xs
theorem Ybz (s : Nat) (xs : List UInt8) : loU s xs < 65521 := Nat.mod_lt _ (by omega)
theorem Yh1 (s : Nat) (xs : List UInt8) : upU s xs < 65521 := Nat.mod_lt _ (by omega)
theorem Ykv (s : Nat) : loU s [] = lo s := by unfold loU; simp [sS]; exact Ykw s
theorem Ylg (s : Nat) : upU s [] = up s := by unfold upU; simp [sT]; exact Ymh s
theorem Ykx (s : Nat) (l : List UInt8) (x : UInt8) : (loU s l + x.toNat) % 65521 = loU s (l ++ [x]) := by
 unfold loU; rw [Ybm]; omega
theorem Ylh (s : Nat) (l : List UInt8) (x : UInt8) : (upU s l + loU s (l ++ [x])) % 65521 = upU s (l ++ [x]) := by
 unfold upU loU
 rw [Ybm, Ylb, List.length_append, List.length_singleton, Nat.add_mul, Nat.one_mul]
 generalize l.length * lo s = m
 omega
theorem Yli (s : Nat) (xs : List UInt8) : updN s xs < 4294967296 := by
 have := Ybz s xs; have := Yh1 s xs; unfold updN; omega
def missN (a : Nat) : Nat := (lo a + 65520) % 65521
theorem Yf2 (xs : List UInt8) (k : Nat) (h : k < xs.length) : sT (xs.drop k) = (xs.length - k) * xs[k].toNat + sT (xs.drop (k + 1)) := by
 rw [List.drop_eq_getElem_cons h]
 simp only [sT, List.length_drop]
 congr 2
 omega
theorem Ygy (xs : List UInt8) (k : Nat) (h : k < xs.length) : sS (xs.take (k + 1)) = sS (xs.take k) + xs[k].toNat := by
 rw [List.take_succ_eq_append_getElem h, Ybm]
theorem Ygc (s : Nat) (xs : List UInt8) : ((up s + xs.length % 65521 * lo s) % 65521 + sT xs) % 65521 = upU s xs := by
 have h : (xs.length % 65521 * lo s) % 65521 = (xs.length * lo s) % 65521 := by
  rw [Nat.mul_mod, Nat.mod_mod, ← Nat.mul_mod]
 unfold upU
 generalize xs.length % 65521 * lo s = p at h ⊢
 generalize xs.length * lo s = q at h ⊢
 omega
theorem Yj5 (xs : List UInt8) (k b t : Nat) (h : k < xs.length) (hb : (b + sT (xs.drop k)) % 65521 = t) :
  ((b + (xs.length - k) % 65521 * xs[k].toNat) % 65521 + sT (xs.drop (k + 1))) % 65521 = t := by
 rw [Yf2 xs k h] at hb
 have h : ((xs.length - k) % 65521 * xs[k].toNat) % 65521 = ((xs.length - k) * xs[k].toNat) % 65521 := by
  rw [Nat.mul_mod, Nat.mod_mod, ← Nat.mul_mod]
 generalize (xs.length - k) % 65521 * xs[k].toNat = p at h ⊢
 generalize (xs.length - k) * xs[k].toNat = q at h hb
 omega
theorem Yj4 (n : Nat) (x : UInt8) : n % 65521 * x.toNat ≤ 65520 * 255 := by
 have := x.toNat_lt
 have h2 : n % 65521 < 65521 := Nat.mod_lt _ (by omega)
 exact Nat.mul_le_mul (by omega) (by omega)
theorem Ygb (n s : Nat) : n % 65521 * lo s ≤ 65520 * 65520 := by
 have := Ykw s
 have h2 : n % 65521 < 65521 := Nat.mod_lt _ (by omega)
 exact Nat.mul_le_mul (by omega) (by omega)
end Go.Proofs.YtkkfkmoikcmhoaaGreat.Adl
namespace Go.Proofs.YtkkfkmoikcmhoaaGreat.Zl
open Bit Hf Oct Inf Adl
set_option maxRecDepth 100000
def be4 (n : Nat) : List UInt8 := [UInt8.ofNat (n / 16777216), UInt8.ofNat (n / 65536), UInt8.ofNat (n / 256), UInt8.ofNat n]
theorem Y3x (n : Nat) : (be4 n).length = 4 := rfl
theorem Ykl (n : Nat) (h : n < 4294967296) : Oct.numB (be4 n) = n := by
 have e1 : (UInt8.ofNat (n / 16777216)).toNat = n / 16777216 := by rw [UInt8.toNat_ofNat']; omega
 have e2 : (UInt8.ofNat (n / 65536)).toNat = n / 65536 % 256 := by rw [UInt8.toNat_ofNat']
 have e3 : (UInt8.ofNat (n / 256)).toNat = n / 256 % 256 := by rw [UInt8.toNat_ofNat']
 have e4 : (UInt8.ofNat n).toNat = n % 256 := by rw [UInt8.toNat_ofNat']
 unfold be4 Oct.numB
 simp only [List.foldl_cons, List.foldl_nil, e1, e2, e3, e4]
 omega
theorem Y6r (xs : List UInt8) : sumN xs < 4294967296 := Yli 1 xs
def Y2a (x y : Nat) : Bool := decide (x % 16 = 8) && (decide (x ≤ 127) && (decide ((x * 256 + y) % 31 = 0) && decide (y / 32 % 2 = 0)))
def Y2s (xs : List UInt8) (most : Int) : Except Nat (List UInt8 × Nat) :=
 if most < 0 then .error 1
 else if xs.length < 2 then .error 2
 else if Y2a (xs.getD 0 0).toNat (xs.getD 1 0).toNat = false then .error 3
 else match inflate (xs.drop 2) most.toNat with
  | .error e => .error e
  | .ok (o, n) => if xs.length < n + 6 then .error 2 else if Oct.numB ((xs.drop (2 + n)).take 4) = sumN o then .ok (o, n + 6) else .error 4
def Yah (ys zs : List UInt8) : List UInt8 := 120 :: 1 :: (ys ++ zs)
def Y3i (ys xs : List UInt8) : List UInt8 := Yah ys (be4 (sumN xs))
theorem Y3w (ys xs : List UInt8) : (Y3i ys xs).length = ys.length + 6 := by simp [Y3i, Yah, be4]
theorem Ydi (l : List UInt8) : ¬ Y2a ((120 :: 1 :: l : List UInt8).getD 0 0).toNat ((120 :: 1 :: l : List UInt8).getD 1 0).toNat = false := by
 show ¬ Y2a (120 : UInt8).toNat (1 : UInt8).toNat = false
 decide
def Tells (ys xs : List UInt8) : Prop := ∀ most, xs.length ≤ most → inflate ys most = .ok (xs, ys.length)
theorem Yg1 {ys xs zs : List UInt8} (h : Tells ys xs) {n : Nat} (hn : xs.length = n) : Y2s (Yah ys zs) (n : Int) =
  if zs.length < 4 then .error 2 else if Oct.numB (zs.take 4) = sumN xs then .ok (xs, ys.length + 6) else .error 4 := by
 have hi := (Y3p (h n (by omega)) zs).2
 unfold Y2s Yah
 rw [if_neg (by omega), if_neg (by simp), if_neg (Ydi _)]
 have e : (120 :: 1 :: (ys ++ zs) : List UInt8).drop 2 = ys ++ zs := rfl
 rw [e, Int.toNat_natCast, hi]
 have e2 : (120 :: 1 :: (ys ++ zs) : List UInt8).drop (2 + ys.length) = zs := by
  rw [Nat.add_comm]
  show (ys ++ zs).drop ys.length = zs
  simp
 show (if (120 :: 1 :: (ys ++ zs) : List UInt8).length < ys.length + 6 then _ else _) = _
 rw [e2]
 have e3 : ((120 :: 1 :: (ys ++ zs) : List UInt8).length < ys.length + 6) ↔ zs.length < 4 := by simp only [List.length_cons, List.length_append]; omega
 by_cases hz : zs.length < 4
 ·rw [if_pos (e3.2 hz), if_pos hz]
 ·rw [if_neg (fun q => hz (e3.1 q)), if_neg hz]
theorem Yfz {ys xs : List UInt8} (h : Tells ys xs) {n : Nat} (hn : xs.length = n) (ts : List UInt8) : Y2s (Y3i ys xs ++ ts) (n : Int) = .ok (xs, (Y3i ys xs).length) := by
 have e : Y3i ys xs ++ ts = Yah ys (be4 (sumN xs) ++ ts) := by simp [Y3i, Yah]
 rw [e, Yg1 h hn, if_neg (by rw [List.length_append, Y3x]; omega), List.take_left' (Y3x _), if_pos (Ykl _ (Y6r xs)), Y3w]
end Go.Proofs.YtkkfkmoikcmhoaaGreat.Zl
namespace Go.Proofs.YtkkfkmoikcmhoaaGreat.Oct
open Go.RowKit
def Y1v (n : Int) : Bool := decide (n = 1 ∨ n = 2 ∨ n = 4 ∨ n = 8)
theorem Y42 (n : Int) (w : World) : Calls Tryz.prog 30 #[.int .i64 n] w fun e w' => e = .returned (.bool (Y1v n)) ∧ w = w' := by
 by_cases h1 : n = 1
 ·subst h1
  go_enter Tryz.func30, Tryz.ntmps30
  go_wp2
  go_ret
  exact ⟨rfl, rfl⟩
 ·by_cases h2 : n = 2
  ·subst h2
   go_enter Tryz.func30, Tryz.ntmps30
   go_wp2
   go_ret
   exact ⟨rfl, rfl⟩
  ·by_cases h4 : n = 4
   ·subst h4
    go_enter Tryz.func30, Tryz.ntmps30
    go_wp2
    go_ret
    exact ⟨rfl, rfl⟩
   ·by_cases h8 : n = 8
    ·subst h8
     go_enter Tryz.func30, Tryz.ntmps30
     go_wp2
     go_ret
     exact ⟨rfl, rfl⟩
    ·have e : Y1v n = false := by simp [Y1v, h1, h2, h4, h8]
     rw [e]; clear e
     have b1 : (n == 1) = false := by simpa using h1
     have b2 : (n == 2) = false := by simpa using h2
     have b4 : (n == 4) = false := by simpa using h4
     have b8 : (n == 8) = false := by simpa using h8
     go_enter Tryz.func30, Tryz.ntmps30
     go_wp2
     go_ret
     exact ⟨rfl, rfl⟩
theorem Ya0 (n : Int) (w : World) : Calls Tryz.prog 51 #[.int .i64 n] w fun e w' => e = .returned (.bool (Y1v n)) ∧ w = w' := by
 by_cases h1 : n = 1
 ·subst h1
  go_enter Tryz.func51, Tryz.ntmps51
  go_wp2
  go_ret
  exact ⟨rfl, rfl⟩
 ·by_cases h2 : n = 2
  ·subst h2
   go_enter Tryz.func51, Tryz.ntmps51
   go_wp2
   go_ret
   exact ⟨rfl, rfl⟩
  ·by_cases h4 : n = 4
   ·subst h4
    go_enter Tryz.func51, Tryz.ntmps51
    go_wp2
    go_ret
    exact ⟨rfl, rfl⟩
   ·by_cases h8 : n = 8
    ·subst h8
     go_enter Tryz.func51, Tryz.ntmps51
     go_wp2
     go_ret
     exact ⟨rfl, rfl⟩
    ·have e : Y1v n = false := by simp [Y1v, h1, h2, h4, h8]
     rw [e]; clear e
     have b1 : (n == 1) = false := by simpa using h1
     have b2 : (n == 2) = false := by simpa using h2
     have b4 : (n == 4) = false := by simpa using h4
     have b8 : (n == 8) = false := by simpa using h8
     go_enter Tryz.func51, Tryz.ntmps51
     go_wp2
     go_ret
     exact ⟨rfl, rfl⟩
theorem Ya2 (i size : Nat) (big : Bool) (w : World) (h : i < size) (h8 : size ≤ 8) :
  Calls Tryz.prog 32 #[.int .i64 (i : Int), .int .i64 (size : Int), .bool big] w fun e w' => e = .returned (.int .u64 ((shiftN i size big : Nat) : Int)) ∧ w = w' := by
 cases big
 ·have e : ((shiftN i size false : Nat) : Int) = 8 * (i : Int) := by simp [shiftN]
  rw [e]; clear e
  go_enter Tryz.func32, Tryz.ntmps32
  go_wp2
  go_ret
  exact ⟨rfl, rfl⟩
 ·have e : ((shiftN i size true : Nat) : Int) = 8 * ((size : Int) - 1 - (i : Int)) := by simp only [shiftN, if_true]; omega
  rw [e]; clear e
  go_enter Tryz.func32, Tryz.ntmps32
  go_wp2
  go_ret
  exact ⟨rfl, rfl⟩
def Y1h (len : Nat) (at_ n : Int) : Bool := decide (at_ + n ≤ (len : Int))
theorem Y7s (p : Option Addr) (len cap : Nat) (at_ n : Int) (w : World) (hl : len ≤ maxLen) (ha : 0 ≤ at_) (ha' : at_ ≤ 18446744073709551615) (hb : 0 ≤ n) (hb' : n ≤ 18446744073709551615) :
  Calls Tryz.prog 31 #[.slice p len cap, .int .u64 at_, .int .u64 n] w fun e w' => e = .returned (.bool (Y1h len at_ n)) ∧ w = w' := by
 unfold maxLen at hl
 by_cases h : at_ + n ≤ (len : Int)
 ·have e : Y1h len at_ n = true := by simp [Y1h, h]
  rw [e]; clear e
  have h1 : at_ ≤ (len : Int) := by omega
  have h2 : n ≤ (len : Int) - at_ := by omega
  go_enter Tryz.func31, Tryz.ntmps31
  go_wp2
  go_ret
  exact ⟨rfl, rfl⟩
 ·have e : Y1h len at_ n = false := by simp [Y1h, h]
  rw [e]; clear e
  by_cases h1 : at_ ≤ (len : Int)
  ·have h2 : ¬ n ≤ (len : Int) - at_ := by omega
   have h3 : decide (n ≤ (len : Int) - at_) = false := by simpa using h2
   go_enter Tryz.func31, Tryz.ntmps31
   go_wp2
   go_ret
   exact ⟨rfl, rfl⟩
  ·have h3 : decide (at_ ≤ (len : Int)) = false := by simpa using h1
   go_enter Tryz.func31, Tryz.ntmps31
   go_wp2
   go_ret
   exact ⟨rfl, rfl⟩
end Go.Proofs.YtkkfkmoikcmhoaaGreat.Oct
namespace Go.Proofs.YtkkfkmoikcmhoaaGreat.Oct
def beB (n : Nat) : Nat → List UInt8
 | 0 => []
 | k + 1 => UInt8.ofNat (n / 256 ^ k % 256) :: beB n k
theorem Y2v (n k : Nat) : (beB n k).length = k := by
 induction k with
 | zero => rfl
 | succ k ih => simp [beB, ih]
theorem Yep (n k i : Nat) (h : i < (beB n k).length) : (beB n k)[i] = UInt8.ofNat (n / 256 ^ (k - 1 - i) % 256) := by
 induction k generalizing i with
 | zero => simp [beB] at h
 | succ k ih =>
  rcases i with _ | i
  ·simp [beB]
  ·simp only [beB, List.getElem_cons_succ]
   rw [ih i (by simpa [Y2v] using h)]
   congr 3
   congr 1
   omega
theorem Yd4 (m : Nat) : (UInt8.ofNat (m % 256)).toNat = m % 256 := by simp
def Y6y (n k : Nat) (big : Bool) : List UInt8 := if big then beB n k else (beB n k).reverse
theorem Y13 (n k : Nat) (big : Bool) : (Y6y n k big).length = k := by cases big <;> simp [Y6y, Y2v]
theorem Yj0 (n k i : Nat) (big : Bool) (h : i < (Y6y n k big).length) : (Y6y n k big)[i] = UInt8.ofNat (n / 2 ^ shiftN i k big % 256) := by
 rw [Y13] at h
 cases big
 ·simp only [Y6y, shiftN, pow8, Bool.false_eq_true, if_false]
  rw [List.getElem_reverse, Yep]
  congr 3
  congr 1
  simp [Y2v]; omega
 ·simp only [Y6y, shiftN, pow8, if_true]
  rw [Yep]
theorem Yhs (n k : Nat) : UInt8.ofNat (n / 256 ^ k % 256) :: beB n k = beB n (k + 1) := rfl
theorem Yi0 (n k : Nat) : n / 256 ^ k / 256 = n / 256 ^ (k + 1) := by rw [Nat.div_div_eq_div_mul, Nat.pow_succ]
theorem Y93 (n k : Nat) : n / 256 ^ k = 0 ↔ n < 256 ^ k := by
 rw [Nat.div_eq_zero_iff]
 have : 0 < 256 ^ k := Nat.pow_pos (by omega)
 constructor
 ·rintro (h | h)
  ·omega
  ·exact h
 ·exact Or.inr
end Go.Proofs.YtkkfkmoikcmhoaaGreat.Oct
namespace Go.Proofs.YtkkfkmoikcmhoaaGreat.Oct
open Go.RowKit
def Ydt (xs : List UInt8) (at_ size : Int) : Bool := Y1v size && Y1h xs.length at_ size
def Yfe (xs : List UInt8) (at_ size : Int) (big : Bool) : Int :=
 if Ydt xs at_ size then ((numOf big ((xs.drop at_.toNat).take size.toNat) : Nat) : Int) else 0
def Yfd (xs : List UInt8) (at_ size : Int) : Int :=
 if Y1v size then (if Y1h xs.length at_ size then 0 else 2) else 1
theorem Y54 {n : Int} (h : Y1v n = true) : ∃ k : Nat, n = (k : Int) ∧ 1 ≤ k ∧ k ≤ 8 := by
 have h' := of_decide_eq_true h
 exact ⟨n.toNat, by omega, by omega, by omega⟩
theorem Ygz (x : UInt8) (k sz : Nat) (big : Bool) (h : k < sz) (h8 : sz ≤ 8) : IntKind.u64.wrap ((x.toNat : Int) * 2 ^ min (shiftN k sz big) 64) = ((x.toNat * 2 ^ shiftN k sz big : Nat) : Int) := by
 have e : min (shiftN k sz big) 64 = shiftN k sz big := by
  apply Nat.min_eq_left
  cases big <;> simp [shiftN] <;> omega
 have ht := Ybp x k sz big h h8
 rw [e]
 have e2 : ((x.toNat : Int) * 2 ^ shiftN k sz big) = ((x.toNat * 2 ^ shiftN k sz big : Nat) : Int) := by push_cast; rfl
 rw [e2, IntWalk.u64_in _ (by omega)]
set_option maxHeartbeats 1000000 in
theorem Yi9 (b off len cap a sz : Nat) (big : Bool) (ys : List UInt8) (w : World) (hy : ys.length = sz) (h1 : 1 ≤ sz) (h8 : sz ≤ 8) (hw : a + sz ≤ len) (hl : len ≤ maxLen)
  (hc : ∀ i (h : i < ys.length), w.cell? ⟨b, off + (a + i), none⟩ = some (.int .u8 (ys[i].toNat : Int)))
  (hs : Y1v (sz : Int) = true) (hin : Y1h len (a : Int) (sz : Int) = true) :
  Calls Tryz.prog 15 #[.slice (some ⟨b, off, none⟩) len cap, .int .u64 (a : Int), .int .i64 (sz : Int), .bool big] w
   fun e w' => e = .returned (.tuple #[.int .u64 ((numOf big ys : Nat) : Int), .int .i64 0]) ∧ Drawn w w' := by
 have hl' := hl
 unfold maxLen at hl
 go_enter Tryz.func15, Tryz.ntmps15
 go_wp2_with fail
 refine (Y42 _ _).mono ?_
 rintro e w' ⟨rfl, rfl⟩
 rw [hs]
 go_wp2_with fail
 refine (Y7s _ _ _ _ _ _ hl' (by omega) (by omega) (by omega) (by omega)).mono ?_
 rintro e w' ⟨rfl, rfl⟩
 rw [hin]
 clear hs hin
 have HC := Lib.hid hc; clear hc
 have HY := Lib.hid hy; clear hy
 go_wp2_with fail
 go_loopw [10, 11, 22] (fun n i c wr => ∃ k : Nat, k ≤ sz ∧ c = .int .i64 (k : Int) ∧ n = .int .u64 ((part big sz (ys.take k) : Nat) : Int) ∧ Drawn w wr) (fun _ _ c _ => sz - (intOf c).toNat)
 case atStart => exact ⟨0, by omega, rfl, by simp [Yca], ⟨0, rfl⟩⟩
 case round =>
  obtain ⟨k, hk, rfl, rfl, hq⟩ := hrel
  by_cases hlt : k < sz
  ·have hky : k < ys.length := by rw [HY.out]; exact hlt
   have hcell : wr.cell? ⟨b, off + (a + k), none⟩ = some (.int .u8 (ys[k].toNat : Int)) := by
    obtain ⟨nq, rfl⟩ := hq; exact HC.out k hky
   have hx : ys[k].toNat < 256 := ys[k].toNat_lt
   have ht := Ybp ys[k] k sz big hlt h8
   have hp := Y8d big sz (ys.take k) (by rw [List.length_take]; omega) h8
   have HT0 : bits .or .u64 ((part big sz (ys.take k) : Nat) : Int) (((ys[k].toNat * 2 ^ shiftN k sz big : Nat)) : Int) = ((part big sz (ys.take (k + 1)) : Nat) : Int) := by
    rw [u64_or_nat _ _ hp ht, Y1p ys k hky]
    have hlen : (ys.take k).length = k := by rw [List.length_take]; omega
    have := Y9p big sz (ys.take k) ys[k] (by omega) h8
    rw [hlen] at this
    rw [this]
   have HT := Lib.hid HT0
   clear HT0 ht hp
   go_wp2_with fail
   go_quiet ((go_at_call 32; exact quietly (Ya2 _ _ _ _ (by omega) (by omega))))
   go_wp2_with fail
   go_roundw
   case rel => exact ⟨k + 1, by omega, by go_num, by rw [Ygz _ _ _ _ hlt h8, HT.out], hq.more _⟩
   case measure => simp [intOf]; omega
  ·have : k = sz := by omega
   subst this
   have hp := Y6c big k ys HY.out
   rw [List.take_of_length_le (by rw [HY.out]; omega)]
   rw [hp]
   clear hp
   go_wp2_with fail
   go_ret2
   exact ⟨rfl, hq⟩
theorem Yfg (p : Option Addr) (len cap : Nat) (at_ size : Int) (big : Bool) (w : World) (hs : Y1v size = false) :
  Calls Tryz.prog 15 #[.slice p len cap, .int .u64 at_, .int .i64 size, .bool big] w fun e w' => e = .returned (.tuple #[.int .u64 0, .int .i64 1]) ∧ Drawn w w' := by
 go_enter Tryz.func15, Tryz.ntmps15
 go_wp2_with fail
 refine (Y42 _ _).mono ?_
 rintro e w' ⟨rfl, rfl⟩
 rw [hs]
 go_wp2_with fail
 go_ret2
 exact ⟨rfl, 0, rfl⟩
theorem Ykq (p : Option Addr) (len cap : Nat) (at_ : Int) (sz : Nat) (big : Bool) (w : World) (hl : len ≤ maxLen) (ha : 0 ≤ at_) (ha' : at_ ≤ 18446744073709551615) (h1 : 1 ≤ sz) (h8 : sz ≤ 8)
  (hs : Y1v (sz : Int) = true) (hin : Y1h len at_ (sz : Int) = false) :
  Calls Tryz.prog 15 #[.slice p len cap, .int .u64 at_, .int .i64 (sz : Int), .bool big] w fun e w' => e = .returned (.tuple #[.int .u64 0, .int .i64 2]) ∧ Drawn w w' := by
 have hl' := hl
 unfold maxLen at hl
 go_enter Tryz.func15, Tryz.ntmps15
 go_wp2_with fail
 refine (Y42 _ _).mono ?_
 rintro e w' ⟨rfl, rfl⟩
 rw [hs]
 go_wp2_with fail
 refine (Y7s _ _ _ _ _ _ hl' (by omega) (by omega) (by omega) (by omega)).mono ?_
 rintro e w' ⟨rfl, rfl⟩
 rw [hin]
 go_wp2_with fail
 go_ret2
 exact ⟨rfl, 0, rfl⟩
theorem Yff (p : Option Addr) (len cap : Nat) (at_ size : Int) (big : Bool) (xs : List UInt8) (w : World) (hr : Row w p xs) (hx : xs.length = len) (hl : len ≤ maxLen) (ha : 0 ≤ at_) (ha' : at_ ≤ 18446744073709551615) :
  Calls Tryz.prog 15 #[.slice p len cap, .int .u64 at_, .int .i64 size, .bool big] w
   fun e w' => e = .returned (.tuple #[.int .u64 (Yfe xs at_ size big), .int .i64 (Yfd xs at_ size)]) ∧ Drawn w w' := by
 by_cases hs : Y1v size = true
 ·obtain ⟨sz, rfl, h1, h8⟩ := Y54 hs
  by_cases hin : Y1h len at_ (sz : Int) = true
  ·obtain ⟨a, rfl⟩ : ∃ a : Nat, at_ = (a : Int) := ⟨at_.toNat, by omega⟩
   have hw : a + sz ≤ len := by have := of_decide_eq_true hin; omega
   obtain ⟨b, off, rfl, hb, hc⟩ := hr (by omega)
   have e1 : Yfe xs (a : Int) (sz : Int) big = ((numOf big ((xs.drop a).take sz) : Nat) : Int) := by
    unfold Yfe Ydt
    rw [hx, hs, hin]; simp
   have e2 : Yfd xs (a : Int) (sz : Int) = 0 := by
    unfold Yfd
    rw [hx, hs, hin]; simp
   rw [e1, e2]
   refine Yi9 b off len cap a sz big _ w (by simp; omega) h1 h8 hw hl ?_ hs hin
   intro i h
   have h' : a + i < xs.length := by simp at h; omega
   rw [hc (a + i) h']
   simp
  ·have hin' : Y1h len at_ (sz : Int) = false := by simpa using hin
   have e1 : Yfe xs at_ (sz : Int) big = 0 := by
    unfold Yfe Ydt
    rw [hx, hin']; simp
   have e2 : Yfd xs at_ (sz : Int) = 2 := by
    unfold Yfd
    rw [hx, hs, hin']; simp
   rw [e1, e2]
   exact Ykq p len cap at_ sz big w hl ha ha' h1 h8 hs hin'
 ·have hs' : Y1v size = false := by simpa using hs
  have e1 : Yfe xs at_ size big = 0 := by
   unfold Yfe Ydt
   rw [hs']; simp
  have e2 : Yfd xs at_ size = 1 := by
   unfold Yfd
   rw [hs']; simp
  rw [e1, e2]
  exact Yfg p len cap at_ size big w hs'
def Yho (w : World) (xs : List UInt8) (er : Int) (e : Ending) (w' : World) : Prop :=
 Below w.heap.size w w' ∧ ((er = 0 ∧ e = .returned (.tuple #[.slice (some ⟨w.heap.size, 0, none⟩) xs.length xs.length, .int .i64 0]) ∧ Blk w' w.heap.size xs) ∨ (er ≠ 0 ∧ xs = [] ∧ e = .returned (.tuple #[.slice none 0 0, .int .i64 er])))
set_option maxHeartbeats 400000 in
theorem Yco (xs : List UInt8) (w : World) (hs : xs.length ≤ 4611686018427387903) :
  Calls Tryz.prog 41 #[.string (bs xs)] w fun e w' => e = .returned (.string (bs xs.reverse)) ∧ w = w' := by
 have hsz := Y12 xs
 go_enter Tryz.func41, Tryz.ntmps41
 go_wp2
 go_loop [3, 4] (fun n i => ∃ k : Nat, k ≤ xs.length ∧ i = .int .i64 k ∧ n = .string (bs (xs.take k).reverse)) (fun _ i => xs.length - (intOf i).toNat)
 case atStart => exact ⟨0, Nat.zero_le _, rfl, rfl⟩
 case round =>
  obtain ⟨k, hk, rfl, rfl⟩ := hrel
  by_cases hlt : k < xs.length
  ·have e1 := Y2w xs k (k + 1)
   have h1 := Yc4 xs k hlt
   rw [h1] at e1
   have hz1 : (bs [xs[k]]).size = 1 := by simp [Y12]
   have hz2 : (bs (xs.take k).reverse).size = k := by simp [Y12]; omega
   clear h1
   have hk1 : (k : Int) + 1 ≤ (xs.length : Int) := by omega
   have ht1 : ((k : Int) + 1).toNat = k + 1 := by omega
   go_wp2
   go_round
   case rel => exact ⟨k + 1, by omega, by go_num, by rw [Y2g, Y1p xs k hlt, List.reverse_append]; rfl⟩
   case measure => simp [intOf]; omega
  ·have : k = xs.length := by omega
   subst this
   rw [List.take_length]
   go_wp2
   go_ret
   exact ⟨rfl, rfl⟩
theorem Ykz (xs : List UInt8) (h : xs.length ≤ 8) : numB xs < 18446744073709551616 := by
 have := Y8d true xs.length xs (Nat.le_refl _) h
 simpa [part] using this
theorem Y5i (ys : List UInt8) (k : Nat) (h : k < ys.length) (h8 : ys.length ≤ 8) (h' : k < (bs ys).size) :
  IntKind.u64.wrap (IntKind.u64.wrap (((numB (ys.take k) : Nat) : Int) * 256) + IntKind.u64.wrap (((bs ys)[k].toNat : Nat) : Int)) = ((numB (ys.take (k + 1)) : Nat) : Int) := by
 have h2 := Ykz (ys.take (k + 1)) (by rw [List.length_take]; omega)
 rw [show (bs ys)[k] = ys[k] from Y5r ys k h' h]
 rw [Y1p ys k h, Y9i] at h2 ⊢
 generalize numB (ys.take k) = m at h2 ⊢
 have hx : ys[k].toNat < 256 := ys[k].toNat_lt
 generalize ys[k].toNat = x at h2 hx ⊢
 rw [IntKind.wrap_u64, IntKind.wrap_u64, IntKind.wrap_u64]
 omega
set_option maxHeartbeats 400000 in
theorem Y0t (xs : List UInt8) (w : World) (hs : xs.length ≤ 8) (b : Bool) :
  Calls Tryz.prog 18 #[.string (bs xs), .bool b] w fun e w' => e = .returned (.int .u64 ((numOf b xs : Nat) : Int)) ∧ w = w' := by
 cases b
 ·show Calls Tryz.prog 18 #[.string (bs xs), .bool false] w fun e w' => e = .returned (.int .u64 ((numB xs.reverse : Nat) : Int)) ∧ w = w'
  obtain ⟨ys, hy⟩ : ∃ ys, ys = xs.reverse := ⟨_, rfl⟩
  have hlen : ys.length ≤ 8 := by subst hy; simpa using hs
  rw [← hy]
  have HY := Lib.hid hy
  clear hy
  go_enter Tryz.func18, Tryz.ntmps18
  go_wp2_with fail
  refine (Yco _ _ (by omega)).mono ?_
  rintro e w' ⟨rfl, rfl⟩
  rw [← HY.out]
  clear HY
  have hsz := Y12 ys
  go_wp2_with fail
  go_loop [5, 6] (fun n i => ∃ k : Nat, k ≤ ys.length ∧ i = .int .i64 k ∧ n = .int .u64 ((numB (ys.take k) : Nat) : Int)) (fun _ i => ys.length - (intOf i).toNat)
  case atStart => exact ⟨0, Nat.zero_le _, rfl, rfl⟩
  case round =>
   obtain ⟨k, hk, rfl, rfl⟩ := hrel
   by_cases hlt : k < ys.length
   ·go_wp2
    go_round
    case rel => exact ⟨k + 1, by omega, by go_num, by rw [Y5i ys k hlt hlen]⟩
    case measure => simp [intOf]; omega
   ·have : k = ys.length := by omega
    subst this
    rw [List.take_length]
    go_wp2
    go_ret
    exact ⟨rfl, rfl⟩
 ·obtain ⟨ys, rfl⟩ : ∃ ys, ys = xs := ⟨_, rfl⟩
  show Calls Tryz.prog 18 #[.string (bs ys), .bool true] w fun e w' => e = .returned (.int .u64 ((numB ys : Nat) : Int)) ∧ w = w'
  have hlen := hs
  go_enter Tryz.func18, Tryz.ntmps18
  have hsz := Y12 ys
  go_wp2_with fail
  go_loop [5, 6] (fun n i => ∃ k : Nat, k ≤ ys.length ∧ i = .int .i64 k ∧ n = .int .u64 ((numB (ys.take k) : Nat) : Int)) (fun _ i => ys.length - (intOf i).toNat)
  case atStart => exact ⟨0, Nat.zero_le _, rfl, rfl⟩
  case round =>
   obtain ⟨k, hk, rfl, rfl⟩ := hrel
   by_cases hlt : k < ys.length
   ·go_wp2
    go_round
    case rel => exact ⟨k + 1, by omega, by go_num, by rw [Y5i ys k hlt hlen]⟩
    case measure => simp [intOf]; omega
   ·have : k = ys.length := by omega
    subst this
    rw [List.take_length]
    go_wp2
    go_ret
    exact ⟨rfl, rfl⟩
def Y4c (n : Int) (sz : Nat) : Bool := decide (n < 256 ^ sz)
def Y9u (n size : Int) (big : Bool) : List UInt8 := if Y1v size && Y4c n size.toNat then Y6y n.toNat size.toNat big else []
def Y9s (n size : Int) : Int := if Y1v size then (if Y4c n size.toNat then 0 else 7) else 1
theorem Ybn {n : Int} (h : Y1v n = true) : n = 1 ∨ n = 2 ∨ n = 4 ∨ n = 8 := of_decide_eq_true h
theorem Ybv (n size : Int) (w : World) (hn : 0 ≤ n) (hn' : n ≤ 18446744073709551615) (hs : Y1v size = true) :
  Calls Tryz.prog 49 #[.int .u64 n, .int .i64 size] w fun e w' => e = .returned (.bool (Y4c n size.toNat)) ∧ w = w' := by
 have key : ∀ k : Nat, k = 1 ∨ k = 2 ∨ k = 4 ∨ k = 8 → (n / 2 ^ (8 * k) == 0) = Y4c n k := by
  intro k hk
  rw [Bool.eq_iff_iff]
  unfold Y4c
  simp only [beq_iff_eq, decide_eq_true_eq]
  rcases hk with rfl | rfl | rfl | rfl <;> simp <;> omega
 rcases Ybn hs with rfl | rfl | rfl | rfl
 ·have h := key 1 (by simp)
  rw [show ((1 : Int).toNat) = 1 from rfl, ← h]
  clear key h hs
  go_enter Tryz.func49, Tryz.ntmps49
  go_wp2
  go_ret
  exact ⟨rfl, rfl⟩
 ·have h := key 2 (by simp)
  rw [show ((2 : Int).toNat) = 2 from rfl, ← h]
  clear key h hs
  go_enter Tryz.func49, Tryz.ntmps49
  go_wp2
  go_ret
  exact ⟨rfl, rfl⟩
 ·have h := key 4 (by simp)
  rw [show ((4 : Int).toNat) = 4 from rfl, ← h]
  clear key h hs
  go_enter Tryz.func49, Tryz.ntmps49
  go_wp2
  go_ret
  exact ⟨rfl, rfl⟩
 ·have h := key 8 (by simp)
  rw [show ((8 : Int).toNat) = 8 from rfl, ← h]
  clear key h hs
  go_enter Tryz.func49, Tryz.ntmps49
  go_wp2
  go_ret
  exact ⟨rfl, rfl⟩
theorem Ylc (n : Nat) (k sz : Nat) (big : Bool) (h : k < sz) (h8 : sz ≤ 8) (hk : k < (Y6y n sz big).length) : IntKind.u8.wrap ((n : Int) / 2 ^ min (shiftN k sz big) 64) = (((Y6y n sz big)[k].toNat : Nat) : Int) := by
 have e : min (shiftN k sz big) 64 = shiftN k sz big := by
  apply Nat.min_eq_left
  cases big <;> simp [shiftN] <;> omega
 rw [Yj0, Yd4, e, IntKind.wrap_u8]
 have : ((n : Int) / 2 ^ shiftN k sz big) = ((n / 2 ^ shiftN k sz big : Nat) : Int) := by simp
 rw [this]; omega
def Ylx (g : Nat) (w : World) (ps : List UInt8) (k : Nat) (wr : World) : Prop := Below g w wr ∧ Blk wr g (Y45 ps k)
theorem Ylx.step {g : Nat} {w wr : World} {n sz k : Nat} {big : Bool} (h : Ylx g w (Y6y n sz big) k wr) (hk : k < sz) (h8 : sz ≤ 8) :
  Ylx g w (Y6y n sz big) (k + 1) (wr.setCell ⟨g, k, none⟩ (.int .u8 (IntKind.u8.wrap ((n : Int) / 2 ^ min (shiftN k sz big) 64)))) := by
 have hl : k < (Y6y n sz big).length := by rw [Y13]; exact hk
 refine ⟨h.1.setCell (Nat.le_refl _) _, ?_⟩
 rw [Ylc n k sz big hk h8 hl, ← Y7b _ _ hl]
 exact h.2.set_ k _
set_option maxHeartbeats 1000000 in
theorem Ym9 (n sz : Nat) (big : Bool) (w : World) (hn : (n : Int) ≤ 18446744073709551615) (h1 : 1 ≤ sz) (h8 : sz ≤ 8) (hs : Y1v (sz : Int) = true) (hf : Y4c (n : Int) ((sz : Int).toNat) = true) :
  Calls Tryz.prog 21 #[.int .u64 (n : Int), .int .i64 (sz : Int), .bool big] w
   fun e w' => Below w.heap.size w w' ∧ e = .returned (.tuple #[.slice (some ⟨w.heap.size, 0, none⟩) sz sz, .int .i64 0]) ∧ Blk w' w.heap.size (Y6y n sz big) := by
 obtain ⟨i0, hi, hz0, hz1, hz2⟩ := info_parts Tryz.infoByte
 go_enter Tryz.func21, Tryz.ntmps21
 go_wp2_with fail
 refine (Y42 _ _).mono ?_
 rintro e w' ⟨rfl, rfl⟩
 rw [hs]
 go_wp2_with fail
 refine (Ybv _ _ _ (by omega) hn hs).mono ?_
 rintro e w' ⟨rfl, rfl⟩
 rw [hf]
 clear hs hf
 go_wp2_with (at_make; refine wpList_make_full _ rfl _ _ 22 rfl w.heap.size 5 i0 (.int .u8 0) 1 Tryz.underlying22 hi hz0 hz1 .i64 .i64 (sz : Int) (sz : Int) sz rfl rfl rfl rfl ?c2 ?c3 ?c4 ?_)
 case c2 => rw [hz2]; omega
 case c3 => unfold maxLen; omega
 case c4 => omega
 intro w1 hown hgrow
 have hg0 := Y1k hown
 have hb1 : Below w.heap.size w w1 := (Below.refl _ _).grown hgrow (Nat.le_refl _) (fun k hk => by cases hk)
 have hP : Ylx w.heap.size w (Y6y n sz big) 0 w1 := ⟨hb1, by
  unfold Blk
  rw [Y7c, Y13, ← Y9h]
  simpa using hg0⟩
 clear hown hgrow hg0 hb1
 go_wp2_with fail
 go_loopw [9, 21] (fun i c wr => ∃ k : Nat, k ≤ sz ∧ c = .int .i64 (k : Int) ∧ Ylx w.heap.size w (Y6y n sz big) k wr) (fun _ c _ => sz - (intOf c).toNat)
 case atStart => exact ⟨0, by omega, rfl, hP⟩
 case round =>
  obtain ⟨k, hk, rfl, hR⟩ := hrel
  by_cases hlt : k < sz
  ·have hc := hR.2.cell k (by rw [Y3m _ _ (by rw [Y13]; omega), Y13]; exact hlt)
   have hfz := hR.2.frozen k
   generalize ((Y45 (Y6y n sz big) k)[k]'(by rw [Y3m _ _ (by rw [Y13]; omega), Y13]; exact hlt)) = old at hc
   go_wp2_with (go_at_call 32; refine (Ya2 _ _ _ _ (by omega) (by omega)).mono ?_; rintro e w' ⟨rfl, rfl⟩)
   go_roundw
   case rel => exact ⟨k + 1, by omega, by go_num, hR.step hlt h8⟩
   case measure => simp [intOf]; omega
  ·have : k = sz := by omega
   subst this
   have hfull := hR.2
   have e : Y45 (Y6y n k big) k = Y6y n k big := by
    have := Y95 (Y6y n k big)
    rwa [Y13] at this
   rw [e] at hfull
   clear e
   go_wp2_with fail
   go_ret2
   exact ⟨hR.1, rfl, hfull⟩
theorem Yj3 (n size : Int) (big : Bool) (w : World) (hs : Y1v size = false) :
  Calls Tryz.prog 21 #[.int .u64 n, .int .i64 size, .bool big] w fun e w' => e = .returned (.tuple #[.slice none 0 0, .int .i64 1]) ∧ w = w' := by
 go_enter Tryz.func21, Tryz.ntmps21
 go_wp2_with fail
 refine (Y42 _ _).mono ?_
 rintro e w' ⟨rfl, rfl⟩
 rw [hs]
 go_wp2_with fail
 go_ret2
 exact ⟨rfl, rfl⟩
theorem Yj2 (n size : Int) (big : Bool) (w : World) (hn : 0 ≤ n) (hn' : n ≤ 18446744073709551615) (hs : Y1v size = true) (hf : Y4c n size.toNat = false) :
  Calls Tryz.prog 21 #[.int .u64 n, .int .i64 size, .bool big] w fun e w' => e = .returned (.tuple #[.slice none 0 0, .int .i64 7]) ∧ w = w' := by
 go_enter Tryz.func21, Tryz.ntmps21
 go_wp2_with fail
 refine (Y42 _ _).mono ?_
 rintro e w' ⟨rfl, rfl⟩
 rw [hs]
 go_wp2_with fail
 refine (Ybv _ _ _ hn hn' hs).mono ?_
 rintro e w' ⟨rfl, rfl⟩
 rw [hf]
 go_wp2_with fail
 go_ret2
 exact ⟨rfl, rfl⟩
theorem Yl7 (n size : Int) (big : Bool) (w : World) (hn : 0 ≤ n) (hn' : n ≤ 18446744073709551615) :
  Calls Tryz.prog 21 #[.int .u64 n, .int .i64 size, .bool big] w (Yho w (Y9u n size big) (Y9s n size)) := by
 by_cases hs : Y1v size = true
 ·by_cases hf : Y4c n size.toNat = true
  ·obtain ⟨sz, rfl, h1, h8⟩ := Y54 hs
   obtain ⟨m, rfl⟩ : ∃ m : Nat, n = (m : Int) := ⟨n.toNat, by omega⟩
   have e1 : Y9u (m : Int) (sz : Int) big = Y6y m sz big := by unfold Y9u; rw [hs, hf]; simp
   have e2 : Y9s (m : Int) (sz : Int) = 0 := by unfold Y9s; rw [hs, hf]; simp
   rw [e1, e2]
   refine (Ym9 m sz big w hn' h1 h8 hs hf).mono fun e w' ⟨h1, h2, h3⟩ => ⟨h1, .inl ⟨rfl, ?_, h3⟩⟩
   rw [Y13]; exact h2
  ·have hf' : Y4c n size.toNat = false := by simpa using hf
   have e1 : Y9u n size big = [] := by unfold Y9u; rw [hs, hf']; simp
   have e2 : Y9s n size = 7 := by unfold Y9s; rw [hs, hf']; simp
   rw [e1, e2]
   exact (Yj2 n size big w hn hn' hs hf').mono fun e w' ⟨h1, h2⟩ => ⟨by subst h2; exact Below.refl _ _, .inr ⟨by decide, rfl, h1⟩⟩
 ·have hs' : Y1v size = false := by simpa using hs
  have e1 : Y9u n size big = [] := by unfold Y9u; rw [hs']; simp
  have e2 : Y9s n size = 1 := by unfold Y9s; rw [hs']; simp
  rw [e1, e2]
  exact (Yj3 n size big w hs').mono fun e w' ⟨h1, h2⟩ => ⟨by subst h2; exact Below.refl _ _, .inr ⟨by decide, rfl, h1⟩⟩
theorem Yl1 (w : World) (q : Nat) : Row (w.alloc (.cells #[.int .u8 ((q : Int) % 256)] 5)) (some ⟨w.heap.size, 0, none⟩) [UInt8.ofNat (q % 256)] := by
 intro _
 refine ⟨w.heap.size, 0, rfl, by simp, fun i hi => ?_⟩
 have : i = 0 := by simpa using hi
 subst this
 simp
def Fresh (w w' : World) : Prop := Below w.heap.size w w'
set_option maxHeartbeats 1000000 in
theorem Ygh (n sz : Nat) (big : Bool) (w : World) (hn : (n : Int) ≤ 18446744073709551615) (h1 : 1 ≤ sz) (h8 : sz ≤ 8) (hs : Y1v (sz : Int) = true) :
  Calls Tryz.prog 23 #[.int .u64 (n : Int), .int .i64 (sz : Int), .bool big] w
   fun e w' => e = .returned (.tuple #[.string (bs (Y9u n sz big)), .int .i64 (Y9s n sz)]) ∧ Below w.heap.size w w' := by
 have hs' := hs
 go_enter Tryz.func23, Tryz.ntmps23
 go_wp2_with fail
 refine (Ya0 _ _).mono ?_
 rintro e w' ⟨rfl, rfl⟩
 rw [hs]
 have HS := Lib.hid hs'
 clear hs hs'
 go_wp2_with fail
 go_loopw [0, 8, 9] (fun m s i wr => ∃ k : Nat, k ≤ sz ∧ i = .int .i64 (k : Int) ∧ m = .int .u64 ((n / 256 ^ k : Nat) : Int) ∧ s = .string (bs (beB n k)) ∧ Fresh w wr) (fun _ _ c _ => sz - (intOf c).toNat)
 case atStart => exact ⟨0, by omega, rfl, by simp, rfl, Below.refl _ _⟩
 case round =>
  obtain ⟨k, hk, rfl, rfl, rfl, hF⟩ := hrel
  by_cases hlt : k < sz
  ·obtain ⟨q, hq⟩ : ∃ q, q = n / 256 ^ k := ⟨_, rfl⟩
   have hqn : q ≤ n := by rw [hq]; exact Nat.div_le_self _ _
   rw [← hq]
   have HQ := Lib.hid hq
   clear hq
   have cv := Y1q 1 1 (Yl1 wr q) rfl
   have hz1 : (bs [UInt8.ofNat (q % 256)]).size = 1 := by simp [Y12]
   have hz2 : (bs (beB n k)).size = k := by simp [Y12, Y2v]
   go_wp2_with fail
   go_roundw
   case rel =>
    refine ⟨k + 1, by omega, by go_num, ?_, ?_, ?_⟩
    ·rw [← Yi0, ← HQ.out]; go_num
    ·rw [Y2g, ← Yhs, ← HQ.out]; rfl
    ·exact Below.alloc hF (Below.size hF) _
   case measure => simp [intOf]; omega
  ·have : k = sz := by omega
   subst this
   obtain ⟨q, hq⟩ : ∃ q, q = n / 256 ^ k := ⟨_, rfl⟩
   rw [← hq]
   have hiff := Y93 n k
   rw [← hq] at hiff
   have hp : ((256 : Int) ^ k) = ((256 ^ k : Nat) : Int) := by simp
   by_cases h0 : q = 0
   ·have hf : Y4c (n : Int) ((k : Int).toNat) = true := by
     unfold Y4c; rw [Int.toNat_natCast, hp]
     have := hiff.1 h0
     simp; omega
    have e1 : Y9u (n : Int) (k : Int) big = Y6y n k big := by unfold Y9u; rw [HS.out, hf]; simp
    have e2 : Y9s (n : Int) (k : Int) = 0 := by unfold Y9s; rw [HS.out, hf]; simp
    have E1 := Lib.hid e1
    have E2 := Lib.hid e2
    clear e1 e2 hf hiff hp hq HS
    subst h0
    cases big
    ·go_wp2_with fail
     refine (Yco _ _ (by rw [Y2v]; omega)).mono ?_
     rintro e w' ⟨rfl, rfl⟩
     go_wp2_with fail
     go_ret2
     exact ⟨by rw [E1.out, E2.out]; rfl, hF⟩
    ·go_wp2_with fail
     go_ret2
     exact ⟨by rw [E1.out, E2.out]; rfl, hF⟩
   ·have hf : Y4c (n : Int) ((k : Int).toNat) = false := by
     unfold Y4c; rw [Int.toNat_natCast, hp]
     have := mt hiff.2 h0
     simp; omega
    have e1 : Y9u (n : Int) (k : Int) big = [] := by unfold Y9u; rw [HS.out, hf]; simp
    have e2 : Y9s (n : Int) (k : Int) = 7 := by unfold Y9s; rw [HS.out, hf]; simp
    have E1 := Lib.hid e1
    have E2 := Lib.hid e2
    clear e1 e2 hf hiff hp hq HS
    have hne : ((q : Int) != 0) = true := by simpa using h0
    go_wp2_with fail
    go_ret2
    exact ⟨by rw [E1.out, E2.out]; rfl, hF⟩
theorem Yja (n size : Int) (big : Bool) (w : World) (hn : 0 ≤ n) (hn' : n ≤ 18446744073709551615) :
  Calls Tryz.prog 23 #[.int .u64 n, .int .i64 size, .bool big] w
   fun e w' => e = .returned (.tuple #[.string (bs (Y9u n size big)), .int .i64 (Y9s n size)]) ∧ Below w.heap.size w w' := by
 by_cases hs : Y1v size = true
 ·obtain ⟨sz, rfl, h1, h8⟩ := Y54 hs
  obtain ⟨m, rfl⟩ : ∃ m : Nat, n = (m : Int) := ⟨n.toNat, by omega⟩
  exact Ygh m sz big w hn' h1 h8 hs
 ·have hs' : Y1v size = false := by simpa using hs
  have e1 : Y9u n size big = [] := by unfold Y9u; rw [hs']; simp
  have e2 : Y9s n size = 1 := by unfold Y9s; rw [hs']; simp
  rw [e1, e2]
  clear e1 e2 hs
  go_enter Tryz.func23, Tryz.ntmps23
  go_wp2_with fail
  refine (Ya0 _ _).mono ?_
  rintro e w' ⟨rfl, rfl⟩
  rw [hs']
  go_wp2_with fail
  go_ret2
  exact ⟨rfl, Below.refl _ _⟩
end Go.Proofs.YtkkfkmoikcmhoaaGreat.Oct

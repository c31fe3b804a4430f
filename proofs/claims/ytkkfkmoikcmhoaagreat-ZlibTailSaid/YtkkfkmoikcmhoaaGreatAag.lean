/- IfN, AdlM, ZlM, OctA, OctJ, OzK, AdlA, AdlB: merged. -/
import Derived.Lib.SlBytesConst
import Derived.Test.YtkkfkmoikcmhoaaGreatAaa
import Derived.Test.YtkkfkmoikcmhoaaGreatAaf
set_option linter.unusedVariables false
set_option linter.unusedSimpArgs false
namespace Go.Proofs.YtkkfkmoikcmhoaaGreat.Inf
open Bit Hf
def Less (m n : Nat) (x y : R (List UInt8)) : Prop :=
 x = .error 8 ∨ (x = y ∧ ∀ o a, x = .ok (o, a) → o.length ≤ m)
theorem Less.err (m n e : Nat) : Less m n (.error e) (.error e) := .inr ⟨rfl, fun o a h => by cases h⟩
theorem Less.ok {m n : Nat} {o : List UInt8} (a : Nat) (h : o.length ≤ m) : Less m n (.ok (o, a)) (.ok (o, a)) := .inr ⟨rfl, fun o a h => by cases h; assumption⟩
theorem Less.after {α : Type} {m n : Nat} (x : R α) {f g : α → Nat → R (List UInt8)} (h : ∀ v a, Less m n (f v a) (g v a)) : Less m n (x.then f) (x.then g) := by
 cases x with
 | error e => exact Less.err m n e
 | ok v => exact h v.1 v.2
theorem Less.ite {m n : Nat} {c : Prop} [Decidable c] {x y x' y' : R (List UInt8)} (h1 : c → Less m n x y) (h2 : ¬ c → Less m n x' y') : Less m n (if c then x else x') (if c then y else y') := by
 by_cases h : c
 ·simpa only [h, if_true] using h1 h
 ·simpa only [h, if_false] using h2 h
theorem Less.full {m n k : Nat} {x y : R (List UInt8)} (hmn : m ≤ n) (h : k ≤ m → Less m n x y) : Less m n (if m < k then .error 8 else x) (if n < k then .error 8 else y) := by
 by_cases hm : m < k
 ·left; rw [if_pos hm]
 ·rw [if_neg hm, if_neg (by omega)]
  exact h (by omega)
theorem Less.full' {m n k : Nat} {x y : R (List UInt8)} (hmn : m ≤ n) (h : k < m → Less m n x y) : Less m n (if m ≤ k then .error 8 else x) (if n ≤ k then .error 8 else y) := by
 by_cases hm : m ≤ k
 ·left; rw [if_pos hm]
 ·rw [if_neg hm, if_neg (by omega)]
  exact h (by omega)
theorem Less.withW {m n : Nat} (x : Except Nat (List (List Bool))) {f g : List (List Bool) → R (List UInt8)} (h : ∀ W, Less m n (f W) (g W)) : Less m n (withW x f) (withW x g) := by
 cases x with
 | error e => exact Less.err m n e
 | ok v => exact h v
theorem Ybu (L : List Bool) {m n : Nat} (hmn : m ≤ n) : ∀ (k at_ : Nat) (out : List UInt8), out.length ≤ m → Less m n (Y4a L m k at_ out) (Y4a L n k at_ out)
 | 0, at_, out, h => Less.ok at_ h
 | k + 1, at_, out, h => Less.after _ fun c a => Less.full' hmn fun hl => Ybu L hmn k a _ (by simp; omega)
theorem Y60 (A B : List (List Bool)) (L : List Bool) {m n : Nat} (hmn : m ≤ n) : ∀ (f at_ : Nat) (out : List UInt8), out.length ≤ m → Less m n (Y3t A B L m f at_ out) (Y3t A B L n f at_ out)
 | 0, at_, out, h => Less.err m n 0
 | f + 1, at_, out, h => Less.after _ fun v a => Less.ite (fun _ => Less.ok a h) fun _ => Less.ite (fun _ => Less.full' hmn fun hl => Y60 A B L hmn f a _ (by simp; omega)) fun _ =>
   Less.after _ fun k b => Less.after _ fun j c => Less.after _ fun d e => Less.ite (fun _ => Less.err m n 3) fun _ => Less.full hmn fun hl => Y60 A B L hmn f e _ (by rw [Y19]; exact hl)
theorem Yt6 (L : List Bool) {m n : Nat} (hmn : m ≤ n) (g h at_ : Nat) (out : List UInt8) (ho : out.length ≤ m) : Less m n (Yti L m g h at_ out) (Yti L n g h at_ out) :=
 Less.ite (fun _ => Less.after _ fun nm a => Less.ite (fun _ => Ybu L hmn _ a out ho) fun _ => Less.err m n 3) fun _ =>
  Less.ite (fun _ => Y60 _ _ L hmn g at_ out ho) fun _ => Less.ite (fun _ => Less.after _ fun k a => Less.ite (fun _ => Less.err m n 3) fun _ => Less.after _ fun l b =>
   Less.withW _ fun W => Less.after _ fun all c => Less.ite (fun _ => Less.err m n 3) fun _ => Less.withW _ fun A => Less.withW _ fun B => Y60 A B L hmn g c out ho) fun _ => Less.err m n 3
theorem Less.go {m n : Nat} {x y : R (List UInt8)} (h : Less m n x y) {f g : List UInt8 → Nat → R (List UInt8)} (hf : ∀ o a, o.length ≤ m → Less m n (f o a) (g o a)) : Less m n (x.then f) (y.then g) := by
 rcases h with h | ⟨h, hl⟩
 ·left; rw [h]; rfl
 ·subst h
  cases x with
  | error e => exact Less.err m n e
  | ok v => exact hf v.1 v.2 (hl v.1 v.2 rfl)
theorem Yfh (L : List Bool) {m n : Nat} (hmn : m ≤ n) (g : Nat) : ∀ (f at_ : Nat) (out : List UInt8), out.length ≤ m → Less m n (Y6a L m g f at_ out) (Y6a L n g f at_ out)
 | 0, at_, out, h => Less.err m n 0
 | f + 1, at_, out, h => Less.after _ fun v a => Less.go (Yt6 L hmn g v a out h) fun o b ho => Less.ite (fun _ => Less.ok b ho) fun _ => Yfh L hmn g f b o ho
theorem Ycz {xs : List UInt8} {n m k : Nat} {o : List UInt8} (h : inflate xs n = .ok (o, k)) (hm : m < o.length) (hmn : m ≤ n) : inflate xs m = .error 8 := by
 unfold inflate at *
 rcases Yfh (Y01 true xs) hmn (8 * xs.length + 1) (8 * xs.length + 1) 0 [] (by simp) with e | ⟨e, hl⟩
 ·rw [e]
 ·rw [← e] at h
  revert h
  cases hx : Y6a (Y01 true xs) m (8 * xs.length + 1) (8 * xs.length + 1) 0 [] with
  | error e => intro h; cases h
  | ok v =>
   intro h
   cases h
   exact absurd (hl v.1 v.2 hx) (by omega)
theorem Y0b {α β : Type} {x : R α} {f g : α → Nat → R β} (h : ∀ v a, x = .ok (v, a) → f v a = g v a) : x.then f = x.then g := by
 cases x with
 | error e => rfl
 | ok v => exact h v.1 v.2 rfl
theorem Y2s {β : Type} {x : Except Nat (List (List Bool))} {f g : List (List Bool) → R β} (h : ∀ W, f W = g W) : withW x f = withW x g := by
 cases x with
 | error e => rfl
 | ok v => exact h v
theorem Hon.le {α : Type} {at_ : Nat} {p : List Bool → R α} (h : Hon at_ p) {L : List Bool} (hL : at_ ≤ L.length) {v : α} {a : Nat} (e : p L = .ok (v, a)) : at_ ≤ a ∧ a ≤ L.length := (h L hL).1 v a e
theorem Y2l (A B : List (List Bool)) (L : List Bool) (most : Nat) : ∀ (f g at_ : Nat) (out : List UInt8), at_ ≤ L.length → L.length < f + at_ → L.length < g + at_ → Y3t A B L most f at_ out = Y3t A B L most g at_ out
 | 0, g, at_, out, h, hf, hg => by omega
 | f + 1, 0, at_, out, h, hf, hg => by omega
 | f + 1, g + 1, at_, out, h, hf, hg => by
  rw [Y3t, Y3t]
  refine Y0b fun v a hv => ?_
  have h1 := Yht hv
  have h2 := (Y2t A at_).le h hv
  split
  ·rfl
  ·split
   ·split
    ·rfl
    ·exact Y2l A B L most f g a _ h2.2 (by omega) (by omega)
   ·refine Y0b fun n b hb => ?_
    have h3 := (Y24 false _ a).le h2.2 hb
    refine Y0b fun k c hc => ?_
    have h4 := (Y2t B b).le h3.2 hc
    refine Y0b fun d e he => ?_
    have h5 := (Y24 true k c).le h4.2 he
    split
    ·rfl
    ·split
     ·rfl
     ·exact Y2l A B L most f g e _ h5.2 (by omega) (by omega)
theorem Yvf {L : List Bool} {at_ n v a : Nat} (h : Y36 L at_ n = .ok (v, a)) : a = at_ + n := by
 unfold Y36 at h
 split at h
 ·cases h; rfl
 ·cases h
theorem Ytj (L : List Bool) (most f g h at_ : Nat) (out : List UInt8) (ha : at_ ≤ L.length) (hf : L.length < f + at_) (hg : L.length < g + at_) : Yti L most f h at_ out = Yti L most g h at_ out := by
 unfold Yti
 split
 ·rfl
 ·split
  ·exact Y2l _ _ L most f g at_ out ha hf hg
  ·split
   ·unfold Yut
    refine Y0b fun n a hn => ?_
    have h1 := (Ya6 at_).le ha hn
    split
    ·rfl
    ·refine Y0b fun l b hb => ?_
     have h2 := (Y95 _ 0 a _).le h1.2 hb
     refine Y2s fun W => Y0b fun all c hc => ?_
     have h3 := (Y94 W _ _ b []).le h2.2 hc
     split
     ·rfl
     ·exact Y2s fun A => Y2s fun B => Y2l A B L most f g c out h3.2 (by omega) (by omega)
   ·rfl
theorem Ya7 (L : List Bool) (most g1 g2 : Nat) (hg1 : L.length < g1) (hg2 : L.length < g2) : ∀ (f g at_ : Nat) (out : List UInt8), at_ ≤ L.length → L.length < f + at_ → L.length < g + at_ → Y6a L most g1 f at_ out = Y6a L most g2 g at_ out
 | 0, g, at_, out, h, hf, hg => by omega
 | f + 1, 0, at_, out, h, hf, hg => by omega
 | f + 1, g + 1, at_, out, h, hf, hg => by
  rw [Y6a, Y6a]
  refine Y0b fun v a hv => ?_
  have h1 := Yvf hv
  have h2 := (Y6j at_ 3).le h hv
  rw [Ytj L most g1 g2 v a out h2.2 (by omega) (by omega)]
  refine Y0b fun o b hb => ?_
  have h3 := (Ycw most g2 v a out).le h2.2 hb
  split
  ·rfl
  ·exact Ya7 L most g1 g2 hg1 hg2 f g b o h3.2 (by omega) (by omega)
theorem Ya8 {xs : List UInt8} {most F : Nat} (hF : 8 * xs.length < F) : Y6a (Y01 true xs) most (8 * xs.length + 1) (8 * xs.length + 1) 0 [] = Y6a (Y01 true xs) most F F 0 [] :=
 Ya7 _ most _ _ (by rw [Y04]; omega) (by rw [Y04]; omega) _ _ 0 [] (by omega) (by rw [Y04]; omega) (by rw [Y04]; omega)
theorem Y3w {xs : List UInt8} {most k : Nat} {o : List UInt8} (h : inflate xs most = .ok (o, k)) (ys : List UInt8) : k ≤ xs.length ∧ inflate (xs ++ ys) most = .ok (o, k) := by
 have hF : 8 * xs.length < 8 * (xs ++ ys).length + 1 := by simp; omega
 unfold inflate at *
 rw [Ya8 hF] at h
 have hh := Ycv most (8 * (xs ++ ys).length + 1) (8 * (xs ++ ys).length + 1) 0 [] (Y01 true xs) (by omega)
 rw [Y0u]
 rcases hh.2 (Y01 true ys) with e | e
 ·simp only [] at e; rw [e] at h; cases h
 ·simp only [] at e
  rw [e]
  refine ⟨?_, h⟩
  revert h
  cases hx : Y6a (Y01 true xs) most (8 * (xs ++ ys).length + 1) (8 * (xs ++ ys).length + 1) 0 [] with
  | error e => intro h; cases h
  | ok v =>
   intro h
   cases h
   have := (hh.1 v.1 v.2 hx).2
   rw [Y04] at this
   omega
theorem Yhh {xs : List UInt8} {most k j : Nat} {o : List UInt8} (h : inflate xs most = .ok (o, k)) (hj : j < k) : inflate (xs.take j) most = .error 2 := by
 have hk := (Y3w h []).1
 cases hx : inflate (xs.take j) most with
 | ok v =>
  obtain ⟨h1, h2⟩ := Y3w (o := v.1) (k := v.2) hx (xs.drop j)
  rw [List.take_append_drop, h] at h2
  cases h2
  simp at h1
  omega
 | error e =>
  have hF : 8 * (xs.take j).length < 8 * xs.length + 1 := by simp; omega
  unfold inflate at hx h
  rw [Ya8 hF] at hx
  have hh := (Ycv most (8 * xs.length + 1) (8 * xs.length + 1) 0 [] (Y01 true (xs.take j)) (by omega)).2 (Y01 true (xs.drop j))
  simp only [] at hh
  rw [← Y0u, List.take_append_drop] at hh
  rcases hh with e' | e'
  ·rw [e'] at hx; cases hx; rfl
  ·rw [← e'] at hx
   revert h hx
   cases Y6a (Y01 true xs) most (8 * xs.length + 1) (8 * xs.length + 1) 0 [] with
   | ok v => intro h hx; cases hx
   | error e => intro h hx; cases h
end Go.Proofs.YtkkfkmoikcmhoaaGreat.Inf
namespace Go.Proofs.YtkkfkmoikcmhoaaGreat.Adl
def sS : List UInt8 → Nat
 | [] => 0
 | x :: l => x.toNat + sS l
def sT : List UInt8 → Nat
 | [] => 0
 | x :: l => (l.length + 1) * x.toNat + sT l
theorem Yqe (l r : List UInt8) : sS (l ++ r) = sS l + sS r := by
 induction l with
 | nil => simp [sS]
 | cons x l ih => simp [sS, ih]; omega
theorem Yqg (l r : List UInt8) : sT (l ++ r) = sT l + r.length * sS l + sT r := by
 induction l with
 | nil => simp [sT, sS]
 | cons x l ih =>
  simp only [List.cons_append, sT, sS, ih, List.length_append]
  have e1 : (l.length + r.length + 1) * x.toNat = (l.length + 1) * x.toNat + r.length * x.toNat := by rw [← Nat.add_mul]; congr 1; omega
  have e2 : r.length * (x.toNat + sS l) = r.length * x.toNat + r.length * sS l := Nat.mul_add _ _ _
  omega
theorem Yqf (l : List UInt8) (x : UInt8) : sS (l ++ [x]) = sS l + x.toNat := by rw [Yqe]; simp [sS]
theorem Yxx (l : List UInt8) (x : UInt8) : sT (l ++ [x]) = sT l + sS l + x.toNat := by rw [Yqg]; simp [sT]
def lo (s : Nat) : Nat := s % 65536 % 65521
def up (s : Nat) : Nat := s / 65536 % 65521
theorem lo_lt (s : Nat) : lo s < 65521 := Nat.mod_lt _ (by omega)
theorem up_lt (s : Nat) : up s < 65521 := Nat.mod_lt _ (by omega)
def loU (s : Nat) (xs : List UInt8) : Nat := (lo s + sS xs) % 65521
def upU (s : Nat) (xs : List UInt8) : Nat := (up s + xs.length * lo s + sT xs) % 65521
def updN (s : Nat) (xs : List UInt8) : Nat := upU s xs * 65536 + loU s xs
def sumN (xs : List UInt8) : Nat := updN 1 xs
theorem Yj8 (s : Nat) (xs : List UInt8) : loU s xs < 65521 := Nat.mod_lt _ (by omega)
theorem Yra (s : Nat) (xs : List UInt8) : upU s xs < 65521 := Nat.mod_lt _ (by omega)
theorem Ywv (s : Nat) : loU s [] = lo s := by unfold loU; simp [sS]; exact lo_lt s
theorem Yy9 (s : Nat) : upU s [] = up s := by unfold upU; simp [sT]; exact up_lt s
theorem Ywx (s : Nat) (l : List UInt8) (x : UInt8) : (loU s l + x.toNat) % 65521 = loU s (l ++ [x]) := by
 unfold loU; rw [Yqf]; omega
theorem Yyb (s : Nat) (l : List UInt8) (x : UInt8) : (upU s l + loU s (l ++ [x])) % 65521 = upU s (l ++ [x]) := by
 unfold upU loU
 rw [Yqf, Yxx, List.length_append, List.length_singleton, Nat.add_mul, Nat.one_mul]
 generalize l.length * lo s = m
 omega
theorem Yyc (s : Nat) (xs : List UInt8) : updN s xs < 4294967296 := by
 have := Yj8 s xs; have := Yra s xs; unfold updN; omega
end Go.Proofs.YtkkfkmoikcmhoaaGreat.Adl
namespace Go.Proofs.YtkkfkmoikcmhoaaGreat.Zl
open Bit Hf Oct Inf Adl
set_option maxRecDepth 100000
def be4 (n : Nat) : List UInt8 := [UInt8.ofNat (n / 16777216), UInt8.ofNat (n / 65536), UInt8.ofNat (n / 256), UInt8.ofNat n]
theorem Y21 (n : Nat) : (be4 n).length = 4 := rfl
theorem Yng (n : Nat) (h : n < 4294967296) : Oct.Y2n (be4 n) = n := by
 have e1 : (UInt8.ofNat (n / 16777216)).toNat = n / 16777216 := by rw [UInt8.toNat_ofNat']; omega
 have e2 : (UInt8.ofNat (n / 65536)).toNat = n / 65536 % 256 := by rw [UInt8.toNat_ofNat']
 have e3 : (UInt8.ofNat (n / 256)).toNat = n / 256 % 256 := by rw [UInt8.toNat_ofNat']
 have e4 : (UInt8.ofNat n).toNat = n % 256 := by rw [UInt8.toNat_ofNat']
 unfold be4 Oct.Y2n
 simp only [List.foldl_cons, List.foldl_nil, e1, e2, e3, e4]
 omega
theorem Yji : ∀ (a b : List UInt8), a.length = b.length → Oct.Y2n a = Oct.Y2n b → a = b
 | [], [], _, _ => rfl
 | [], y :: b, h, _ => by simp at h
 | x :: a, [], h, _ => by simp at h
 | x :: a, y :: b, h, he => by
  have hl : a.length = b.length := by simpa using h
  rw [Oct.Y5t, Oct.Y5t, hl] at he
  have h1 := Oct.Yai a
  have h2 := Oct.Yai b
  rw [hl] at h1
  have hp : 0 < 256 ^ b.length := Nat.pow_pos (by decide)
  have hx : x.toNat = y.toNat := by
   have e1 : (x.toNat * 256 ^ b.length + Oct.Y2n a) / 256 ^ b.length = x.toNat := by rw [Nat.mul_comm, Nat.mul_add_div hp, Nat.div_eq_of_lt h1, Nat.add_zero]
   have e2 : (y.toNat * 256 ^ b.length + Oct.Y2n b) / 256 ^ b.length = y.toNat := by rw [Nat.mul_comm, Nat.mul_add_div hp, Nat.div_eq_of_lt h2, Nat.add_zero]
   rw [← e1, ← e2, he]
  rw [hx] at he
  have hn : Oct.Y2n a = Oct.Y2n b := by omega
  rw [UInt8.toNat_inj.1 hx, Yji a b hl hn]
theorem Ye0 (xs : List UInt8) : sumN xs < 4294967296 := Yyc 1 xs
def Y4s (x y : Nat) : Bool := decide (x % 16 = 8) && (decide (x ≤ 127) && (decide ((x * 256 + y) % 31 = 0) && decide (y / 32 % 2 = 0)))
def Y3j (xs : List UInt8) (most : Int) : Except Nat (List UInt8 × Nat) :=
 if most < 0 then .error 1
 else if xs.length < 2 then .error 2
 else if Y4s (xs.getD 0 0).toNat (xs.getD 1 0).toNat = false then .error 3
 else match inflate (xs.drop 2) most.toNat with
  | .error e => .error e
  | .ok (o, n) => if xs.length < n + 6 then .error 2 else if Oct.Y2n ((xs.drop (2 + n)).take 4) = sumN o then .ok (o, n + 6) else .error 4
def Y3b (ys zs : List UInt8) : List UInt8 := 120 :: 1 :: (ys ++ zs)
def Y0n (ys xs : List UInt8) : List UInt8 := Y3b ys (be4 (sumN xs))
theorem Y11 (ys xs : List UInt8) : (Y0n ys xs).length = ys.length + 6 := by simp [Y0n, Y3b, be4]
theorem Y87 (l : List UInt8) : ¬ Y4s ((120 :: 1 :: l : List UInt8).getD 0 0).toNat ((120 :: 1 :: l : List UInt8).getD 1 0).toNat = false := by
 show ¬ Y4s (120 : UInt8).toNat (1 : UInt8).toNat = false
 decide
def Tells (ys xs : List UInt8) : Prop := ∀ most, xs.length ≤ most → inflate ys most = .ok (xs, ys.length)
theorem Yaq {ys xs zs : List UInt8} (h : Tells ys xs) {n : Nat} (hn : xs.length = n) : Y3j (Y3b ys zs) (n : Int) =
  if zs.length < 4 then .error 2 else if Oct.Y2n (zs.take 4) = sumN xs then .ok (xs, ys.length + 6) else .error 4 := by
 have hi := (Y3w (h n (by omega)) zs).2
 unfold Y3j Y3b
 rw [if_neg (by omega), if_neg (by simp), if_neg (Y87 _)]
 have e : (120 :: 1 :: (ys ++ zs) : List UInt8).drop 2 = ys ++ zs := rfl
 rw [e, Int.toNat_natCast, hi]
 have e2 : (120 :: 1 :: (ys ++ zs) : List UInt8).drop (2 + ys.length) = zs := by
  rw [Nat.add_comm]
  show (ys ++ zs).drop ys.length = zs
  simp
 show (if (120 :: 1 :: (ys ++ zs) : List UInt8).length < ys.length + 6 then _ else _) = _
 rw [e2]
 have e3 : ((120 :: 1 :: (ys ++ zs) : List UInt8).length < ys.length + 6) ↔ zs.length < 4 := by simp only [List.length_cons, List.length_append]; omega
 by_cases hz : zs.length < 4
 ·rw [if_pos (e3.2 hz), if_pos hz]
 ·rw [if_neg (fun q => hz (e3.1 q)), if_neg hz]
theorem Yan {ys xs : List UInt8} (h : Tells ys xs) {n : Nat} (hn : xs.length = n) (ts : List UInt8) : Y3j (Y0n ys xs ++ ts) (n : Int) = .ok (xs, (Y0n ys xs).length) := by
 have e : Y0n ys xs ++ ts = Y3b ys (be4 (sumN xs) ++ ts) := by simp [Y0n, Y3b]
 rw [e, Yaq h hn, if_neg (by rw [List.length_append, Y21]; omega), List.take_left' (Y21 _), if_pos (Yng _ (Ye0 xs)), Y11]
theorem Yjk {ys xs : List UInt8} (h : Tells ys xs) {n : Nat} (hn : xs.length = n) (j : Nat) (hj : j < (Y0n ys xs).length) : Y3j ((Y0n ys xs).take j) (n : Int) = .error 2 := by
 rw [Y11] at hj
 by_cases h2 : j < 2
 ·unfold Y3j
  rw [if_neg (by omega), if_pos (by rw [List.length_take, Y11]; omega)]
 ·obtain ⟨k, rfl⟩ : ∃ k, j = k + 2 := ⟨j - 2, by omega⟩
  have e : (Y0n ys xs).take (k + 2) = 120 :: 1 :: (ys ++ be4 (sumN xs)).take k := rfl
  rw [e]
  by_cases hk : k < ys.length
  ·have ht : (ys ++ be4 (sumN xs)).take k = ys.take k := List.take_append_of_le_length (by omega)
   rw [ht]
   unfold Y3j
   rw [if_neg (by omega), if_neg (by simp), if_neg (Y87 _)]
   have e2 : (120 :: 1 :: ys.take k : List UInt8).drop 2 = ys.take k := rfl
   rw [e2, Int.toNat_natCast, Yhh (h n (by omega)) hk]
  ·have ht : (ys ++ be4 (sumN xs)).take k = ys ++ (be4 (sumN xs)).take (k - ys.length) := by rw [List.take_append, List.take_of_length_le (by omega)]
   rw [ht]
   have := Yaq (zs := (be4 (sumN xs)).take (k - ys.length)) h hn
   unfold Y3b at this
   rw [this, if_pos (by rw [List.length_take, Y21]; omega)]
theorem Ytm {ys xs zs : List UInt8} (h : Tells ys xs) {n : Nat} (hn : xs.length = n) (hl : zs.length = 4) (hz : zs ≠ be4 (sumN xs)) : Y3j (Y3b ys zs) (n : Int) = .error 4 := by
 rw [Yaq h hn, if_neg (by omega), List.take_of_length_le (by omega), if_neg]
 intro e
 refine hz (Yji _ _ (by rw [hl, Y21]) ?_)
 rw [e, Yng _ (Ye0 xs)]
theorem Ymm (s i : Nat) (c : UInt8) (hi : i < 4) (hc : (be4 s)[i]? ≠ some c) : (be4 s).set i c ≠ be4 s := by
 intro e
 apply hc
 rw [← e, List.getElem?_set_self (by rw [Y21]; exact hi)]
theorem Yv3 (ys xs : List UInt8) (i : Nat) (c : UInt8) (hi : i < 4) : (Y0n ys xs).set ((Y0n ys xs).length - 1 - i) c = Y3b ys ((be4 (sumN xs)).set (3 - i) c) := by
 rw [Y11, show ys.length + 6 - 1 - i = (ys.length + (3 - i)) + 1 + 1 from by omega]
 unfold Y0n Y3b
 rw [List.set_cons_succ, List.set_cons_succ, List.set_append, if_neg (by omega), show ys.length + (3 - i) - ys.length = 3 - i from by omega]
end Go.Proofs.YtkkfkmoikcmhoaaGreat.Zl
namespace Go.Proofs.YtkkfkmoikcmhoaaGreat.Oct
open Go.RowKit
def Y3l (n : Int) : Bool := decide (n = 1 ∨ n = 2 ∨ n = 4 ∨ n = 8)
theorem Y42 (n : Int) (w : World) : Calls Tryz.prog 30 #[.int .i64 n] w fun e w' => e = .returned (.bool (Y3l n)) ∧ w = w' := by
 by_cases h1 : n = 1
 ·subst h1
  go_enter Tryz.func30, Tryz.ntmps30
  go_wp2
  go_ret
  exact ⟨rfl, rfl⟩
 ·by_cases h2 : n = 2
  ·subst h2
   go_enter Tryz.func30, Tryz.ntmps30
   go_wp2
   go_ret
   exact ⟨rfl, rfl⟩
  ·by_cases h4 : n = 4
   ·subst h4
    go_enter Tryz.func30, Tryz.ntmps30
    go_wp2
    go_ret
    exact ⟨rfl, rfl⟩
   ·by_cases h8 : n = 8
    ·subst h8
     go_enter Tryz.func30, Tryz.ntmps30
     go_wp2
     go_ret
     exact ⟨rfl, rfl⟩
    ·have e : Y3l n = false := by simp [Y3l, h1, h2, h4, h8]
     rw [e]; clear e
     have b1 : (n == 1) = false := by simpa using h1
     have b2 : (n == 2) = false := by simpa using h2
     have b4 : (n == 4) = false := by simpa using h4
     have b8 : (n == 8) = false := by simpa using h8
     go_enter Tryz.func30, Tryz.ntmps30
     go_wp2
     go_ret
     exact ⟨rfl, rfl⟩
theorem Yg8 (i size : Nat) (big : Bool) (w : World) (h : i < size) (h8 : size ≤ 8) :
  Calls Tryz.prog 32 #[.int .i64 (i : Int), .int .i64 (size : Int), .bool big] w fun e w' => e = .returned (.int .u64 ((shiftN i size big : Nat) : Int)) ∧ w = w' := by
 cases big
 ·have e : ((shiftN i size false : Nat) : Int) = 8 * (i : Int) := by simp [shiftN]
  rw [e]; clear e
  go_enter Tryz.func32, Tryz.ntmps32
  go_wp2
  go_ret
  exact ⟨rfl, rfl⟩
 ·have e : ((shiftN i size true : Nat) : Int) = 8 * ((size : Int) - 1 - (i : Int)) := by simp only [shiftN, if_true]; omega
  rw [e]; clear e
  go_enter Tryz.func32, Tryz.ntmps32
  go_wp2
  go_ret
  exact ⟨rfl, rfl⟩
def Y20 (len : Nat) (at_ n : Int) : Bool := decide (at_ + n ≤ (len : Int))
theorem Yce (p : Option Addr) (len cap : Nat) (at_ n : Int) (w : World) (hl : len ≤ maxLen) (ha : 0 ≤ at_) (ha' : at_ ≤ 18446744073709551615) (hb : 0 ≤ n) (hb' : n ≤ 18446744073709551615) :
  Calls Tryz.prog 31 #[.slice p len cap, .int .u64 at_, .int .u64 n] w fun e w' => e = .returned (.bool (Y20 len at_ n)) ∧ w = w' := by
 unfold maxLen at hl
 by_cases h : at_ + n ≤ (len : Int)
 ·have e : Y20 len at_ n = true := by simp [Y20, h]
  rw [e]; clear e
  have h1 : at_ ≤ (len : Int) := by omega
  have h2 : n ≤ (len : Int) - at_ := by omega
  go_enter Tryz.func31, Tryz.ntmps31
  go_wp2
  go_ret
  exact ⟨rfl, rfl⟩
 ·have e : Y20 len at_ n = false := by simp [Y20, h]
  rw [e]; clear e
  by_cases h1 : at_ ≤ (len : Int)
  ·have h2 : ¬ n ≤ (len : Int) - at_ := by omega
   have h3 : decide (n ≤ (len : Int) - at_) = false := by simpa using h2
   go_enter Tryz.func31, Tryz.ntmps31
   go_wp2
   go_ret
   exact ⟨rfl, rfl⟩
  ·have h3 : decide (at_ ≤ (len : Int)) = false := by simpa using h1
   go_enter Tryz.func31, Tryz.ntmps31
   go_wp2
   go_ret
   exact ⟨rfl, rfl⟩
end Go.Proofs.YtkkfkmoikcmhoaaGreat.Oct
namespace Go.Proofs.YtkkfkmoikcmhoaaGreat.Oct
def beB (n : Nat) : Nat → List UInt8
 | 0 => []
 | k + 1 => UInt8.ofNat (n / 256 ^ k % 256) :: beB n k
theorem Y7z (n k : Nat) : (beB n k).length = k := by
 induction k with
 | zero => rfl
 | succ k ih => simp [beB, ih]
theorem Ynh (n k i : Nat) (h : i < (beB n k).length) : (beB n k)[i] = UInt8.ofNat (n / 256 ^ (k - 1 - i) % 256) := by
 induction k generalizing i with
 | zero => simp [beB] at h
 | succ k ih =>
  rcases i with _ | i
  ·simp [beB]
  ·simp only [beB, List.getElem_cons_succ]
   rw [ih i (by simpa [Y7z] using h)]
   congr 3
   congr 1
   omega
theorem Yku (m : Nat) : (UInt8.ofNat (m % 256)).toNat = m % 256 := by simp
def Ybk (n k : Nat) (big : Bool) : List UInt8 := if big then beB n k else (beB n k).reverse
theorem Y1b (n k : Nat) (big : Bool) : (Ybk n k big).length = k := by cases big <;> simp [Ybk, Y7z]
theorem Yts (n k i : Nat) (big : Bool) (h : i < (Ybk n k big).length) : (Ybk n k big)[i] = UInt8.ofNat (n / 2 ^ shiftN i k big % 256) := by
 rw [Y1b] at h
 cases big
 ·simp only [Ybk, shiftN, pow8, Bool.false_eq_true, if_false]
  rw [List.getElem_reverse, Ynh]
  congr 3
  congr 1
  simp [Y7z]; omega
 ·simp only [Ybk, shiftN, pow8, if_true]
  rw [Ynh]
end Go.Proofs.YtkkfkmoikcmhoaaGreat.Oct
namespace Go.Proofs.YtkkfkmoikcmhoaaGreat.Oct
open Go.RowKit
def Ym4 (xs : List UInt8) (at_ size : Int) : Bool := Y3l size && Y20 xs.length at_ size
def Yoo (xs : List UInt8) (at_ size : Int) (big : Bool) : Int :=
 if Ym4 xs at_ size then ((numOf big ((xs.drop at_.toNat).take size.toNat) : Nat) : Int) else 0
def Yon (xs : List UInt8) (at_ size : Int) : Int :=
 if Y3l size then (if Y20 xs.length at_ size then 0 else 2) else 1
theorem Yc5 {n : Int} (h : Y3l n = true) : ∃ k : Nat, n = (k : Int) ∧ 1 ≤ k ∧ k ≤ 8 := by
 have h' := of_decide_eq_true h
 exact ⟨n.toNat, by omega, by omega, by omega⟩
theorem Yr3 (x : UInt8) (k sz : Nat) (big : Bool) (h : k < sz) (h8 : sz ≤ 8) : IntKind.u64.wrap ((x.toNat : Int) * 2 ^ min (shiftN k sz big) 64) = ((x.toNat * 2 ^ shiftN k sz big : Nat) : Int) := by
 have e : min (shiftN k sz big) 64 = shiftN k sz big := by
  apply Nat.min_eq_left
  cases big <;> simp [shiftN] <;> omega
 have ht := Yif x k sz big h h8
 rw [e]
 have e2 : ((x.toNat : Int) * 2 ^ shiftN k sz big) = ((x.toNat * 2 ^ shiftN k sz big : Nat) : Int) := by push_cast; rfl
 rw [e2, IntWalk.u64_in _ (by omega)]
set_option maxHeartbeats 1000000 in
theorem Ysv (b off len cap a sz : Nat) (big : Bool) (ys : List UInt8) (w : World) (hy : ys.length = sz) (h1 : 1 ≤ sz) (h8 : sz ≤ 8) (hw : a + sz ≤ len) (hl : len ≤ maxLen)
  (hc : ∀ i (h : i < ys.length), w.cell? ⟨b, off + (a + i), none⟩ = some (.int .u8 (ys[i].toNat : Int)))
  (hs : Y3l (sz : Int) = true) (hin : Y20 len (a : Int) (sz : Int) = true) :
  Calls Tryz.prog 15 #[.slice (some ⟨b, off, none⟩) len cap, .int .u64 (a : Int), .int .i64 (sz : Int), .bool big] w
   fun e w' => e = .returned (.tuple #[.int .u64 ((numOf big ys : Nat) : Int), .int .i64 0]) ∧ Drawn w w' := by
 have hl' := hl
 unfold maxLen at hl
 go_enter Tryz.func15, Tryz.ntmps15
 go_wp2_with fail
 refine (Y42 _ _).mono ?_
 rintro e w' ⟨rfl, rfl⟩
 rw [hs]
 go_wp2_with fail
 refine (Yce _ _ _ _ _ _ hl' (by omega) (by omega) (by omega) (by omega)).mono ?_
 rintro e w' ⟨rfl, rfl⟩
 rw [hin]
 clear hs hin
 have HC := Lib.hid hc; clear hc
 have HY := Lib.hid hy; clear hy
 go_wp2_with fail
 go_loopw [10, 11, 22] (fun n i c wr => ∃ k : Nat, k ≤ sz ∧ c = .int .i64 (k : Int) ∧ n = .int .u64 ((part big sz (ys.take k) : Nat) : Int) ∧ Drawn w wr) (fun _ _ c _ => sz - (intOf c).toNat)
 case atStart => exact ⟨0, by omega, rfl, by simp [Yjp], ⟨0, rfl⟩⟩
 case round =>
  obtain ⟨k, hk, rfl, rfl, hq⟩ := hrel
  by_cases hlt : k < sz
  ·have hky : k < ys.length := by rw [HY.out]; exact hlt
   have hcell : wr.cell? ⟨b, off + (a + k), none⟩ = some (.int .u8 (ys[k].toNat : Int)) := by
    obtain ⟨nq, rfl⟩ := hq; exact HC.out k hky
   have hx : ys[k].toNat < 256 := ys[k].toNat_lt
   have ht := Yif ys[k] k sz big hlt h8
   have hp := Yi0 big sz (ys.take k) (by rw [List.length_take]; omega) h8
   have HT0 : bits .or .u64 ((part big sz (ys.take k) : Nat) : Int) (((ys[k].toNat * 2 ^ shiftN k sz big : Nat)) : Int) = ((part big sz (ys.take (k + 1)) : Nat) : Int) := by
    rw [u64_or_nat _ _ hp ht, Y3e ys k hky]
    have hlen : (ys.take k).length = k := by rw [List.length_take]; omega
    have := Yg1 big sz (ys.take k) ys[k] (by omega) h8
    rw [hlen] at this
    rw [this]
   have HT := Lib.hid HT0
   clear HT0 ht hp
   go_wp2_with fail
   go_quiet ((go_at_call 32; exact quietly (Yg8 _ _ _ _ (by omega) (by omega))))
   go_wp2_with fail
   go_roundw
   case rel => exact ⟨k + 1, by omega, by go_num, by rw [Yr3 _ _ _ _ hlt h8, HT.out], hq.more _⟩
   case measure => simp [intOf]; omega
  ·have : k = sz := by omega
   subst this
   have hp := Yas big k ys HY.out
   rw [List.take_of_length_le (by rw [HY.out]; omega)]
   rw [hp]
   clear hp
   go_wp2_with fail
   go_ret2
   exact ⟨rfl, hq⟩
theorem Yoq (p : Option Addr) (len cap : Nat) (at_ size : Int) (big : Bool) (w : World) (hs : Y3l size = false) :
  Calls Tryz.prog 15 #[.slice p len cap, .int .u64 at_, .int .i64 size, .bool big] w fun e w' => e = .returned (.tuple #[.int .u64 0, .int .i64 1]) ∧ Drawn w w' := by
 go_enter Tryz.func15, Tryz.ntmps15
 go_wp2_with fail
 refine (Y42 _ _).mono ?_
 rintro e w' ⟨rfl, rfl⟩
 rw [hs]
 go_wp2_with fail
 go_ret2
 exact ⟨rfl, 0, rfl⟩
theorem Ywg (p : Option Addr) (len cap : Nat) (at_ : Int) (sz : Nat) (big : Bool) (w : World) (hl : len ≤ maxLen) (ha : 0 ≤ at_) (ha' : at_ ≤ 18446744073709551615) (h1 : 1 ≤ sz) (h8 : sz ≤ 8)
  (hs : Y3l (sz : Int) = true) (hin : Y20 len at_ (sz : Int) = false) :
  Calls Tryz.prog 15 #[.slice p len cap, .int .u64 at_, .int .i64 (sz : Int), .bool big] w fun e w' => e = .returned (.tuple #[.int .u64 0, .int .i64 2]) ∧ Drawn w w' := by
 have hl' := hl
 unfold maxLen at hl
 go_enter Tryz.func15, Tryz.ntmps15
 go_wp2_with fail
 refine (Y42 _ _).mono ?_
 rintro e w' ⟨rfl, rfl⟩
 rw [hs]
 go_wp2_with fail
 refine (Yce _ _ _ _ _ _ hl' (by omega) (by omega) (by omega) (by omega)).mono ?_
 rintro e w' ⟨rfl, rfl⟩
 rw [hin]
 go_wp2_with fail
 go_ret2
 exact ⟨rfl, 0, rfl⟩
theorem Yop (p : Option Addr) (len cap : Nat) (at_ size : Int) (big : Bool) (xs : List UInt8) (w : World) (hr : Row w p xs) (hx : xs.length = len) (hl : len ≤ maxLen) (ha : 0 ≤ at_) (ha' : at_ ≤ 18446744073709551615) :
  Calls Tryz.prog 15 #[.slice p len cap, .int .u64 at_, .int .i64 size, .bool big] w
   fun e w' => e = .returned (.tuple #[.int .u64 (Yoo xs at_ size big), .int .i64 (Yon xs at_ size)]) ∧ Drawn w w' := by
 by_cases hs : Y3l size = true
 ·obtain ⟨sz, rfl, h1, h8⟩ := Yc5 hs
  by_cases hin : Y20 len at_ (sz : Int) = true
  ·obtain ⟨a, rfl⟩ : ∃ a : Nat, at_ = (a : Int) := ⟨at_.toNat, by omega⟩
   have hw : a + sz ≤ len := by have := of_decide_eq_true hin; omega
   obtain ⟨b, off, rfl, hb, hc⟩ := hr (by omega)
   have e1 : Yoo xs (a : Int) (sz : Int) big = ((numOf big ((xs.drop a).take sz) : Nat) : Int) := by
    unfold Yoo Ym4
    rw [hx, hs, hin]; simp
   have e2 : Yon xs (a : Int) (sz : Int) = 0 := by
    unfold Yon
    rw [hx, hs, hin]; simp
   rw [e1, e2]
   refine Ysv b off len cap a sz big _ w (by simp; omega) h1 h8 hw hl ?_ hs hin
   intro i h
   have h' : a + i < xs.length := by simp at h; omega
   rw [hc (a + i) h']
   simp
  ·have hin' : Y20 len at_ (sz : Int) = false := by simpa using hin
   have e1 : Yoo xs at_ (sz : Int) big = 0 := by
    unfold Yoo Ym4
    rw [hx, hin']; simp
   have e2 : Yon xs at_ (sz : Int) = 2 := by
    unfold Yon
    rw [hx, hs, hin']; simp
   rw [e1, e2]
   exact Ywg p len cap at_ sz big w hl ha ha' h1 h8 hs hin'
 ·have hs' : Y3l size = false := by simpa using hs
  have e1 : Yoo xs at_ size big = 0 := by
   unfold Yoo Ym4
   rw [hs']; simp
  have e2 : Yon xs at_ size = 1 := by
   unfold Yon
   rw [hs']; simp
  rw [e1, e2]
  exact Yoq p len cap at_ size big w hs'
def Yrz (w : World) (xs : List UInt8) (er : Int) (e : Ending) (w' : World) : Prop :=
 Below w.heap.size w w' ∧ ((er = 0 ∧ e = .returned (.tuple #[.slice (some ⟨w.heap.size, 0, none⟩) xs.length xs.length, .int .i64 0]) ∧ Blk w' w.heap.size xs) ∨ (er ≠ 0 ∧ xs = [] ∧ e = .returned (.tuple #[.slice none 0 0, .int .i64 er])))
def Ya1 (n : Int) (sz : Nat) : Bool := decide (n < 256 ^ sz)
def Ytt (n size : Int) (big : Bool) : List UInt8 := if Y3l size && Ya1 n size.toNat then Ybk n.toNat size.toNat big else []
def Ytr (n size : Int) : Int := if Y3l size then (if Ya1 n size.toNat then 0 else 7) else 1
theorem Yi7 {n : Int} (h : Y3l n = true) : n = 1 ∨ n = 2 ∨ n = 4 ∨ n = 8 := of_decide_eq_true h
theorem Yj2 (n size : Int) (w : World) (hn : 0 ≤ n) (hn' : n ≤ 18446744073709551615) (hs : Y3l size = true) :
  Calls Tryz.prog 49 #[.int .u64 n, .int .i64 size] w fun e w' => e = .returned (.bool (Ya1 n size.toNat)) ∧ w = w' := by
 have key : ∀ k : Nat, k = 1 ∨ k = 2 ∨ k = 4 ∨ k = 8 → (n / 2 ^ (8 * k) == 0) = Ya1 n k := by
  intro k hk
  rw [Bool.eq_iff_iff]
  unfold Ya1
  simp only [beq_iff_eq, decide_eq_true_eq]
  rcases hk with rfl | rfl | rfl | rfl <;> simp <;> omega
 rcases Yi7 hs with rfl | rfl | rfl | rfl
 ·have h := key 1 (by simp)
  rw [show ((1 : Int).toNat) = 1 from rfl, ← h]
  clear key h hs
  go_enter Tryz.func49, Tryz.ntmps49
  go_wp2
  go_ret
  exact ⟨rfl, rfl⟩
 ·have h := key 2 (by simp)
  rw [show ((2 : Int).toNat) = 2 from rfl, ← h]
  clear key h hs
  go_enter Tryz.func49, Tryz.ntmps49
  go_wp2
  go_ret
  exact ⟨rfl, rfl⟩
 ·have h := key 4 (by simp)
  rw [show ((4 : Int).toNat) = 4 from rfl, ← h]
  clear key h hs
  go_enter Tryz.func49, Tryz.ntmps49
  go_wp2
  go_ret
  exact ⟨rfl, rfl⟩
 ·have h := key 8 (by simp)
  rw [show ((8 : Int).toNat) = 8 from rfl, ← h]
  clear key h hs
  go_enter Tryz.func49, Tryz.ntmps49
  go_wp2
  go_ret
  exact ⟨rfl, rfl⟩
theorem Yy0 (n : Nat) (k sz : Nat) (big : Bool) (h : k < sz) (h8 : sz ≤ 8) (hk : k < (Ybk n sz big).length) : IntKind.u8.wrap ((n : Int) / 2 ^ min (shiftN k sz big) 64) = (((Ybk n sz big)[k].toNat : Nat) : Int) := by
 have e : min (shiftN k sz big) 64 = shiftN k sz big := by
  apply Nat.min_eq_left
  cases big <;> simp [shiftN] <;> omega
 rw [Yts, Yku, e, IntKind.wrap_u8]
 have : ((n : Int) / 2 ^ shiftN k sz big) = ((n / 2 ^ shiftN k sz big : Nat) : Int) := by simp
 rw [this]; omega
def Yyx (g : Nat) (w : World) (ps : List UInt8) (k : Nat) (wr : World) : Prop := Below g w wr ∧ Blk wr g (Y69 ps k)
theorem Yyx.step {g : Nat} {w wr : World} {n sz k : Nat} {big : Bool} (h : Yyx g w (Ybk n sz big) k wr) (hk : k < sz) (h8 : sz ≤ 8) :
  Yyx g w (Ybk n sz big) (k + 1) (wr.setCell ⟨g, k, none⟩ (.int .u8 (IntKind.u8.wrap ((n : Int) / 2 ^ min (shiftN k sz big) 64)))) := by
 have hl : k < (Ybk n sz big).length := by rw [Y1b]; exact hk
 refine ⟨h.1.setCell (Nat.le_refl _) _, ?_⟩
 rw [Yy0 n k sz big hk h8 hl, ← Ybq _ _ hl]
 exact h.2.set_ k _
set_option maxHeartbeats 1000000 in
theorem Yzg (n sz : Nat) (big : Bool) (w : World) (hn : (n : Int) ≤ 18446744073709551615) (h1 : 1 ≤ sz) (h8 : sz ≤ 8) (hs : Y3l (sz : Int) = true) (hf : Ya1 (n : Int) ((sz : Int).toNat) = true) :
  Calls Tryz.prog 21 #[.int .u64 (n : Int), .int .i64 (sz : Int), .bool big] w
   fun e w' => Below w.heap.size w w' ∧ e = .returned (.tuple #[.slice (some ⟨w.heap.size, 0, none⟩) sz sz, .int .i64 0]) ∧ Blk w' w.heap.size (Ybk n sz big) := by
 obtain ⟨i0, hi, hz0, hz1, hz2⟩ := info_parts Tryz.infoByte
 go_enter Tryz.func21, Tryz.ntmps21
 go_wp2_with fail
 refine (Y42 _ _).mono ?_
 rintro e w' ⟨rfl, rfl⟩
 rw [hs]
 go_wp2_with fail
 refine (Yj2 _ _ _ (by omega) hn hs).mono ?_
 rintro e w' ⟨rfl, rfl⟩
 rw [hf]
 clear hs hf
 go_wp2_with (at_make; refine wpList_make_full _ rfl _ _ 22 rfl w.heap.size 5 i0 (.int .u8 0) 1 Tryz.underlying22 hi hz0 hz1 .i64 .i64 (sz : Int) (sz : Int) sz rfl rfl rfl rfl ?c2 ?c3 ?c4 ?_)
 case c2 => rw [hz2]; omega
 case c3 => unfold maxLen; omega
 case c4 => omega
 intro w1 hown hgrow
 have hg0 := Y2j hown
 have hb1 : Below w.heap.size w w1 := (Below.refl _ _).grown hgrow (Nat.le_refl _) (fun k hk => by cases hk)
 have hP : Yyx w.heap.size w (Ybk n sz big) 0 w1 := ⟨hb1, by
  unfold Blk
  rw [Ybr, Y1b, ← Yfo]
  simpa using hg0⟩
 clear hown hgrow hg0 hb1
 go_wp2_with fail
 go_loopw [9, 21] (fun i c wr => ∃ k : Nat, k ≤ sz ∧ c = .int .i64 (k : Int) ∧ Yyx w.heap.size w (Ybk n sz big) k wr) (fun _ c _ => sz - (intOf c).toNat)
 case atStart => exact ⟨0, by omega, rfl, hP⟩
 case round =>
  obtain ⟨k, hk, rfl, hR⟩ := hrel
  by_cases hlt : k < sz
  ·have hc := hR.2.cell k (by rw [Y5i _ _ (by rw [Y1b]; omega), Y1b]; exact hlt)
   have hfz := hR.2.frozen k
   generalize ((Y69 (Ybk n sz big) k)[k]'(by rw [Y5i _ _ (by rw [Y1b]; omega), Y1b]; exact hlt)) = old at hc
   go_wp2_with (go_at_call 32; refine (Yg8 _ _ _ _ (by omega) (by omega)).mono ?_; rintro e w' ⟨rfl, rfl⟩)
   go_roundw
   case rel => exact ⟨k + 1, by omega, by go_num, hR.step hlt h8⟩
   case measure => simp [intOf]; omega
  ·have : k = sz := by omega
   subst this
   have hfull := hR.2
   have e : Y69 (Ybk n k big) k = Ybk n k big := by
    have := Yf0 (Ybk n k big)
    rwa [Y1b] at this
   rw [e] at hfull
   clear e
   go_wp2_with fail
   go_ret2
   exact ⟨hR.1, rfl, hfull⟩
theorem Ytw (n size : Int) (big : Bool) (w : World) (hs : Y3l size = false) :
  Calls Tryz.prog 21 #[.int .u64 n, .int .i64 size, .bool big] w fun e w' => e = .returned (.tuple #[.slice none 0 0, .int .i64 1]) ∧ w = w' := by
 go_enter Tryz.func21, Tryz.ntmps21
 go_wp2_with fail
 refine (Y42 _ _).mono ?_
 rintro e w' ⟨rfl, rfl⟩
 rw [hs]
 go_wp2_with fail
 go_ret2
 exact ⟨rfl, rfl⟩
theorem Ytv (n size : Int) (big : Bool) (w : World) (hn : 0 ≤ n) (hn' : n ≤ 18446744073709551615) (hs : Y3l size = true) (hf : Ya1 n size.toNat = false) :
  Calls Tryz.prog 21 #[.int .u64 n, .int .i64 size, .bool big] w fun e w' => e = .returned (.tuple #[.slice none 0 0, .int .i64 7]) ∧ w = w' := by
 go_enter Tryz.func21, Tryz.ntmps21
 go_wp2_with fail
 refine (Y42 _ _).mono ?_
 rintro e w' ⟨rfl, rfl⟩
 rw [hs]
 go_wp2_with fail
 refine (Yj2 _ _ _ hn hn' hs).mono ?_
 rintro e w' ⟨rfl, rfl⟩
 rw [hf]
 go_wp2_with fail
 go_ret2
 exact ⟨rfl, rfl⟩
theorem Yxp (n size : Int) (big : Bool) (w : World) (hn : 0 ≤ n) (hn' : n ≤ 18446744073709551615) :
  Calls Tryz.prog 21 #[.int .u64 n, .int .i64 size, .bool big] w (Yrz w (Ytt n size big) (Ytr n size)) := by
 by_cases hs : Y3l size = true
 ·by_cases hf : Ya1 n size.toNat = true
  ·obtain ⟨sz, rfl, h1, h8⟩ := Yc5 hs
   obtain ⟨m, rfl⟩ : ∃ m : Nat, n = (m : Int) := ⟨n.toNat, by omega⟩
   have e1 : Ytt (m : Int) (sz : Int) big = Ybk m sz big := by unfold Ytt; rw [hs, hf]; simp
   have e2 : Ytr (m : Int) (sz : Int) = 0 := by unfold Ytr; rw [hs, hf]; simp
   rw [e1, e2]
   refine (Yzg m sz big w hn' h1 h8 hs hf).mono fun e w' ⟨h1, h2, h3⟩ => ⟨h1, .inl ⟨rfl, ?_, h3⟩⟩
   rw [Y1b]; exact h2
  ·have hf' : Ya1 n size.toNat = false := by simpa using hf
   have e1 : Ytt n size big = [] := by unfold Ytt; rw [hs, hf']; simp
   have e2 : Ytr n size = 7 := by unfold Ytr; rw [hs, hf']; simp
   rw [e1, e2]
   exact (Ytv n size big w hn hn' hs hf').mono fun e w' ⟨h1, h2⟩ => ⟨by subst h2; exact Below.refl _ _, .inr ⟨by decide, rfl, h1⟩⟩
 ·have hs' : Y3l size = false := by simpa using hs
  have e1 : Ytt n size big = [] := by unfold Ytt; rw [hs']; simp
  have e2 : Ytr n size = 1 := by unfold Ytr; rw [hs']; simp
  rw [e1, e2]
  exact (Ytw n size big w hs').mono fun e w' ⟨h1, h2⟩ => ⟨by subst h2; exact Below.refl _ _, .inr ⟨by decide, rfl, h1⟩⟩
end Go.Proofs.YtkkfkmoikcmhoaaGreat.Oct
namespace Go.Proofs.YtkkfkmoikcmhoaaGreat.Adl
open Go.RowKit Oct
theorem Yvy (s : Nat) (hs : s < 4294967296) : bits .and .u32 (s : Int) 65535 = ((s % 65536 : Nat) : Int) := by
 rw [show (65535 : Int) = ((65535 : Nat) : Int) from rfl, u32_and_nat s 65535 hs (by omega)]
 congr 1
 exact Nat.and_two_pow_sub_one_eq_mod s 16
theorem Yps (u l : Nat) (hu : u < 65536) (hl : l < 65536) : bits .or .u32 ((u * 65536 : Nat) : Int) (l : Int) = ((u * 65536 + l : Nat) : Int) := by
 rw [u32_or_nat _ _ (by omega) (by omega)]
 congr 1
 exact nat_join 16 _ _ (by omega) (by omega)
theorem Yww (s : Nat) : (s : Int) % 65536 % 65521 = ((lo s : Nat) : Int) := by unfold lo; omega
theorem Yya (s : Nat) : (s : Int) / 65536 % 65521 = ((up s : Nat) : Int) := by unfold up; omega
theorem Ylj (s : Nat) (w : World) (hs : s < 4294967296) :
  Calls Tryz.prog 59 #[.int .u32 (s : Int)] w fun e w' => e = .returned (.tuple #[.int .u32 ((lo s : Nat) : Int), .int .u32 ((up s : Nat) : Int)]) ∧ w = w' := by
 rw [← Yww, ← Yya]
 have h1 := Yvy s hs
 go_enter Tryz.func59, Tryz.ntmps59
 go_wp2
 go_ret2
 exact ⟨rfl, rfl⟩
theorem Yrj (l u : Nat) (w : World) (hl : l < 65521) (hu : u < 65521) :
  Calls Tryz.prog 60 #[.int .u32 (l : Int), .int .u32 (u : Int)] w fun e w' => e = .returned (.int .u32 ((u * 65536 + l : Nat) : Int)) ∧ w = w' := by
 have h1 := Yps u l (by omega) (by omega)
 have e1 : ((u * 65536 : Nat) : Int) = (u : Int) * 65536 := by omega
 rw [e1] at h1
 rw [← h1]
 clear h1 e1
 go_enter Tryz.func60, Tryz.ntmps60
 go_wp2
 go_ret
 exact ⟨rfl, rfl⟩
set_option maxHeartbeats 400000 in
theorem Ymt (s : Nat) (p : Option Addr) (len cap : Nat) (xs : List UInt8) (w : World) (hs : s < 4294967296) (hr : Row w p xs) (hx : xs.length = len) (hl : len ≤ maxLen) :
  Calls Tryz.prog 33 #[.int .u32 (s : Int), .slice p len cap] w fun e w' => e = .returned (.int .u32 ((updN s xs : Nat) : Int)) ∧ w = w' := by
 unfold maxLen at hl
 have HX := Lib.hid hx
 clear hx
 go_enter Tryz.func33, Tryz.ntmps33
 go_wp2_with fail
 refine (Ylj _ _ hs).mono ?_
 rintro e w' ⟨rfl, rfl⟩
 go_wp2_with fail
 go_loop [5, 6, 8, 16] (fun a b _ i => ∃ k : Nat, k ≤ len ∧ i = .int .i64 (k : Int) ∧ a = .int .u32 ((loU s (xs.take k) : Nat) : Int) ∧ b = .int .u32 ((upU s (xs.take k) : Nat) : Int)) (fun _ _ _ i => len - (intOf i).toNat)
 case atStart => exact ⟨0, Nat.zero_le _, rfl, by rw [List.take_zero, Ywv], by rw [List.take_zero, Yy9]⟩
 case round =>
  obtain ⟨k, hk, rfl, rfl, rfl⟩ := hrel
  by_cases hlt : k < len
  ·have hkx : k < xs.length := by rw [HX.out]; exact hlt
   obtain ⟨b, off, rfl, hbl, hcs⟩ := hr (by omega)
   have hc := hcs k hkx
   have hb := xs[k].toNat_lt
   have e1 := Ywx s (xs.take k) xs[k]
   have e2 := Yyb s (xs.take k) xs[k]
   rw [← Y3e xs k hkx] at e1 e2
   have l1 := Yj8 s (xs.take k)
   have l2 := Yra s (xs.take k)
   have l3 := Yj8 s (xs.take (k + 1))
   obtain ⟨a0, ha0⟩ : ∃ a, a = loU s (xs.take k) := ⟨_, rfl⟩
   obtain ⟨b0, hb0⟩ : ∃ a, a = upU s (xs.take k) := ⟨_, rfl⟩
   obtain ⟨a1, ha1⟩ : ∃ a, a = loU s (xs.take (k + 1)) := ⟨_, rfl⟩
   obtain ⟨b1, hb1⟩ : ∃ a, a = upU s (xs.take (k + 1)) := ⟨_, rfl⟩
   rw [← ha0] at e1 l1 ⊢
   rw [← hb0] at e2 l2 ⊢
   rw [← ha1] at e1 e2 l3
   rw [← hb1] at e2
   have HA := Lib.hid ha1
   have HB := Lib.hid hb1
   generalize xs[k].toNat = x at hc hb e1
   have f1 : ((a0 : Int) + (x : Int)) % 65521 = (a1 : Int) := by omega
   have f2 : ((b0 : Int) + (a1 : Int)) % 65521 = (b1 : Int) := by omega
   clear hcs ha0 hb0 ha1 hb1 e1 e2
   go_wp2_with fail
   go_round
   case rel => exact ⟨k + 1, by omega, by go_num, by rw [← HA.out, ← f1], by rw [← HB.out, ← f2, ← f1]⟩
   case measure => simp [intOf]; omega
  ·have hkl : k = len := by omega
   subst hkl
   have e : xs.take k = xs := List.take_of_length_le (by rw [HX.out]; exact Nat.le_refl _)
   rw [e]
   clear e
   go_wp2_with fail
   refine (Yrj _ _ _ (Yj8 s xs) (Yra s xs)).mono ?_
   rintro e w' ⟨rfl, rfl⟩
   go_wp2_with fail
   go_ret
   exact ⟨rfl, rfl⟩
theorem Yqs (p : Option Addr) (len cap : Nat) (xs : List UInt8) (w : World) (hr : Row w p xs) (hx : xs.length = len) (hl : len ≤ maxLen) :
  Calls Tryz.prog 16 #[.slice p len cap] w fun e w' => e = .returned (.int .u32 ((sumN xs : Nat) : Int)) ∧ w = w' := by
 go_enter Tryz.func16, Tryz.ntmps16
 go_wp2_with fail
 refine (Ymt 1 p len cap xs w (by omega) hr hx hl).mono ?_
 rintro e w' ⟨rfl, rfl⟩
 go_wp2_with fail
 go_ret
 exact ⟨rfl, rfl⟩
theorem Yxs (w : World) (xs : List UInt8) (T : Nat) (fr : Nat × Nat) : Row (w.alloc (.cells (cellsOf xs).toArray T fr)) (some ⟨w.heap.size, 0, none⟩) xs := by
 intro _
 refine ⟨w.heap.size, 0, rfl, by simp, fun i h => ?_⟩
 rw [World.cell?_alloc_mark, Nat.zero_add]
 simp [cellsOf, h]
end Go.Proofs.YtkkfkmoikcmhoaaGreat.Adl
namespace Go.Proofs.YtkkfkmoikcmhoaaGreat.Adl
open Go.RowKit Oct
def Beg (w : World) (g : Nat) (xs : List UInt8) : Prop :=
 ∃ cur : Array Value, w.heap[g]? = some (.cells cur 5 (0, 0)) ∧ xs.length ≤ cur.size ∧ cur.toList.take xs.length = cellsOf xs
theorem Beg.of {w : World} {base n : Nat} {v : Value} {xs : List UInt8} (h : w.ownsRow base 5 1 v n (cellsOf xs)) (hn : xs.length = n) (hv : v ≠ .slice none 0 0) :
  ∃ g cap, v = .slice (some ⟨g, 0, none⟩) n cap ∧ n ≤ cap ∧ cap ≤ maxLen ∧ base ≤ g ∧ g < w.heap.size ∧ Beg w g xs := by
 have hl := fun k hk => h.lt k hk
 rcases h.2 with ⟨e, _⟩ | ⟨g, cap, cur, rfl, hb, hh, h1, h2, h3, h4⟩
 ·exact absurd e hv
 ·refine ⟨g, cap, rfl, h1, h2, hb, (hl g rfl).2, cur, hh, by omega, ?_⟩
  rw [hn]; simpa using h4
theorem Beg.lt {w : World} {g : Nat} {xs : List UInt8} (h : Beg w g xs) : g < w.heap.size := by
 obtain ⟨cur, hh, _⟩ := h
 rcases Nat.lt_or_ge g w.heap.size with hlt | hge
 ·exact hlt
 ·rw [Array.getElem?_eq_none hge] at hh; cases hh
theorem Beg.get {w : World} {g : Nat} {xs : List UInt8} (h : Beg w g xs) (i : Nat) (hi : i < xs.length) : w.cell? ⟨g, i, none⟩ = some (.int .u8 (xs[i].toNat : Int)) := by
 obtain ⟨cur, hh, hs, ht⟩ := h
 have h1 : cur.toList[i]? = (cellsOf xs)[i]? := by
  rw [← ht, List.getElem?_take_of_lt hi]
 simp [World.cell?, hh, cellsOf, hi] at h1 ⊢
 exact h1
theorem Beg.frozen {w : World} {g : Nat} {xs : List UInt8} (h : Beg w g xs) (i : Nat) : w.frozen? ⟨g, i, none⟩ = false := by
 obtain ⟨cur, hh, _⟩ := h
 simp [World.frozen?, hh]
theorem Beg.row {w : World} {g : Nat} {xs : List UInt8} (h : Beg w g xs) : Row w (some ⟨g, 0, none⟩) xs := by
 intro _
 exact ⟨g, 0, rfl, h.lt, fun i hi => by rw [Nat.zero_add]; exact h.get i hi⟩
theorem Beg.put {w : World} {g : Nat} {xs : List UInt8} (h : Beg w g xs) (i : Nat) (x : UInt8) : Beg (w.setCell ⟨g, i, none⟩ (.int .u8 (x.toNat : Int))) g (xs.set i x) := by
 obtain ⟨cur, hh, hs, ht⟩ := h
 refine ⟨cur.setIfInBounds i (.int .u8 (x.toNat : Int)), ?_, by simpa using hs, ?_⟩
 ·simp [World.setCell, Array.getElem?_modify, hh]
 ·rw [Array.toList_setIfInBounds, List.length_set, List.take_set, ht]
  simp [cellsOf, List.map_set]
theorem Yvl (x y : UInt8) (hy : y ≠ 0) : x ≠ x ^^^ y := by
 intro e
 apply hy
 have h1 : x ^^^ (x ^^^ y) = x ^^^ x := congrArg (x ^^^ ·) e.symm
 rw [← UInt8.xor_assoc, UInt8.xor_self, UInt8.zero_xor] at h1
 exact h1
end Go.Proofs.YtkkfkmoikcmhoaaGreat.Adl

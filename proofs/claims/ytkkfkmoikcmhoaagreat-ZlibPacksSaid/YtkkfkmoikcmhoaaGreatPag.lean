/- IfN, AdlM, ZlM, OctA, OctJ, OzK, AdlA: merged. -/
import Derived.Lib.SlBytesConst
import Derived.Test.YtkkfkmoikcmhoaaGreatPaa
import Derived.Test.YtkkfkmoikcmhoaaGreatPaf
set_option linter.unusedVariables false
set_option linter.unusedSimpArgs false
namespace Go.Proofs.YtkkfkmoikcmhoaaGreat.Inf
open Bit Hf
theorem Y0e {α β : Type} {x : R α} {f g : α → Nat → R β} (h : ∀ v a, x = .ok (v, a) → f v a = g v a) : x.then f = x.then g := by
 cases x with
 | error e => rfl
 | ok v => exact h v.1 v.2 rfl
theorem Y30 {β : Type} {x : Except Nat (List (List Bool))} {f g : List (List Bool) → R β} (h : ∀ W, f W = g W) : withW x f = withW x g := by
 cases x with
 | error e => rfl
 | ok v => exact h v
theorem Hon.le {α : Type} {at_ : Nat} {p : List Bool → R α} (h : Hon at_ p) {L : List Bool} (hL : at_ ≤ L.length) {v : α} {a : Nat} (e : p L = .ok (v, a)) : at_ ≤ a ∧ a ≤ L.length := (h L hL).1 v a e
theorem Y2t (A B : List (List Bool)) (L : List Bool) (most : Nat) : ∀ (f g at_ : Nat) (out : List UInt8), at_ ≤ L.length → L.length < f + at_ → L.length < g + at_ → Y5h A B L most f at_ out = Y5h A B L most g at_ out
 | 0, g, at_, out, h, hf, hg => by omega
 | f + 1, 0, at_, out, h, hf, hg => by omega
 | f + 1, g + 1, at_, out, h, hf, hg => by
  rw [Y5h, Y5h]
  refine Y0e fun v a hv => ?_
  have h1 := Yqa hv
  have h2 := (Y45 A at_).le h hv
  split
  ·rfl
  ·split
   ·split
    ·rfl
    ·exact Y2t A B L most f g a _ h2.2 (by omega) (by omega)
   ·refine Y0e fun n b hb => ?_
    have h3 := (Y3j false _ a).le h2.2 hb
    refine Y0e fun k c hc => ?_
    have h4 := (Y45 B b).le h3.2 hc
    refine Y0e fun d e he => ?_
    have h5 := (Y3j true k c).le h4.2 he
    split
    ·rfl
    ·split
     ·rfl
     ·exact Y2t A B L most f g e _ h5.2 (by omega) (by omega)
theorem Yww {L : List Bool} {at_ n v a : Nat} (h : Y1k L at_ n = .ok (v, a)) : a = at_ + n := by
 unfold Y1k at h
 split at h
 ·cases h; rfl
 ·cases h
theorem Yuv (L : List Bool) (most f g h at_ : Nat) (out : List UInt8) (ha : at_ ≤ L.length) (hf : L.length < f + at_) (hg : L.length < g + at_) : Yyn L most f h at_ out = Yyn L most g h at_ out := by
 unfold Yyn
 split
 ·rfl
 ·split
  ·exact Y2t _ _ L most f g at_ out ha hf hg
  ·split
   ·unfold Yw8
    refine Y0e fun n a hn => ?_
    have h1 := (Yaj at_).le ha hn
    split
    ·rfl
    ·refine Y0e fun l b hb => ?_
     have h2 := (Y9j _ 0 a _).le h1.2 hb
     refine Y30 fun W => Y0e fun all c hc => ?_
     have h3 := (Y9i W _ _ b []).le h2.2 hc
     split
     ·rfl
     ·exact Y30 fun A => Y30 fun B => Y2t A B L most f g c out h3.2 (by omega) (by omega)
   ·rfl
theorem Yak (L : List Bool) (most g1 g2 : Nat) (hg1 : L.length < g1) (hg2 : L.length < g2) : ∀ (f g at_ : Nat) (out : List UInt8), at_ ≤ L.length → L.length < f + at_ → L.length < g + at_ → Y9c L most g1 f at_ out = Y9c L most g2 g at_ out
 | 0, g, at_, out, h, hf, hg => by omega
 | f + 1, 0, at_, out, h, hf, hg => by omega
 | f + 1, g + 1, at_, out, h, hf, hg => by
  rw [Y9c, Y9c]
  refine Y0e fun v a hv => ?_
  have h1 := Yww hv
  have h2 := (Y70 at_ 3).le h hv
  rw [Yuv L most g1 g2 v a out h2.2 (by omega) (by omega)]
  refine Y0e fun o b hb => ?_
  have h3 := (Yai most g2 v a out).le h2.2 hb
  split
  ·rfl
  ·exact Yak L most g1 g2 hg1 hg2 f g b o h3.2 (by omega) (by omega)
theorem Yhu {xs : List UInt8} {most F : Nat} (hF : 8 * xs.length < F) : Y9c (Y02 true xs) most (8 * xs.length + 1) (8 * xs.length + 1) 0 [] = Y9c (Y02 true xs) most F F 0 [] :=
 Yak _ most _ _ (by rw [Y03]; omega) (by rw [Y03]; omega) _ _ 0 [] (by omega) (by rw [Y03]; omega) (by rw [Y03]; omega)
theorem Yfd {xs : List UInt8} {most k : Nat} {o : List UInt8} (h : inflate xs most = .ok (o, k)) (ys : List UInt8) : k ≤ xs.length ∧ inflate (xs ++ ys) most = .ok (o, k) := by
 have hF : 8 * xs.length < 8 * (xs ++ ys).length + 1 := by simp; omega
 unfold inflate at *
 rw [Yhu hF] at h
 have hh := Yjl most (8 * (xs ++ ys).length + 1) (8 * (xs ++ ys).length + 1) 0 [] (Y02 true xs) (by omega)
 rw [Y0o]
 rcases hh.2 (Y02 true ys) with e | e
 ·simp only [] at e; rw [e] at h; cases h
 ·simp only [] at e
  rw [e]
  refine ⟨?_, h⟩
  revert h
  cases hx : Y9c (Y02 true xs) most (8 * (xs ++ ys).length + 1) (8 * (xs ++ ys).length + 1) 0 [] with
  | error e => intro h; cases h
  | ok v =>
   intro h
   cases h
   have := (hh.1 v.1 v.2 hx).2
   rw [Y03] at this
   omega
end Go.Proofs.YtkkfkmoikcmhoaaGreat.Inf
namespace Go.Proofs.YtkkfkmoikcmhoaaGreat.Adl
def sS : List UInt8 → Nat
 | [] => 0
 | x :: l => x.toNat + sS l
def sT : List UInt8 → Nat
 | [] => 0
 | x :: l => (l.length + 1) * x.toNat + sT l
theorem Yrh (l r : List UInt8) : sS (l ++ r) = sS l + sS r := by
 induction l with
 | nil => simp [sS]
 | cons x l ih => simp [sS, ih]; omega
theorem Yri (l r : List UInt8) : sT (l ++ r) = sT l + r.length * sS l + sT r := by
 induction l with
 | nil => simp [sT, sS]
 | cons x l ih =>
  simp only [List.cons_append, sT, sS, ih, List.length_append]
  have e1 : (l.length + r.length + 1) * x.toNat = (l.length + 1) * x.toNat + r.length * x.toNat := by rw [← Nat.add_mul]; congr 1; omega
  have e2 : r.length * (x.toNat + sS l) = r.length * x.toNat + r.length * sS l := Nat.mul_add _ _ _
  omega
theorem Yio (l : List UInt8) (x : UInt8) : sS (l ++ [x]) = sS l + x.toNat := by rw [Yrh]; simp [sS]
theorem Yza (l : List UInt8) (x : UInt8) : sT (l ++ [x]) = sT l + sS l + x.toNat := by rw [Yri]; simp [sT]
theorem X12 (l : List UInt8) : sS l ≤ 255 * l.length := by
 induction l with
 | nil => simp [sS]
 | cons x l ih => have := x.toNat_lt; simp [sS]; omega
def lo (s : Nat) : Nat := s % 65536 % 65521
def up (s : Nat) : Nat := s / 65536 % 65521
theorem Yya (s : Nat) : lo s < 65521 := Nat.mod_lt _ (by omega)
theorem X16 (s : Nat) : up s < 65521 := Nat.mod_lt _ (by omega)
def loU (s : Nat) (xs : List UInt8) : Nat := (lo s + sS xs) % 65521
def upU (s : Nat) (xs : List UInt8) : Nat := (up s + xs.length * lo s + sT xs) % 65521
def updN (s : Nat) (xs : List UInt8) : Nat := upU s xs * 65536 + loU s xs
def sumN (xs : List UInt8) : Nat := updN 1 xs
theorem Yjo (s : Nat) (xs : List UInt8) : loU s xs < 65521 := Nat.mod_lt _ (by omega)
theorem Ysc (s : Nat) (xs : List UInt8) : upU s xs < 65521 := Nat.mod_lt _ (by omega)
theorem Yy9 (s : Nat) : loU s [] = lo s := by unfold loU; simp [sS]; exact Yya s
theorem Yzl (s : Nat) : upU s [] = up s := by unfold upU; simp [sT]; exact X16 s
theorem Yyb (s : Nat) (l : List UInt8) (x : UInt8) : (loU s l + x.toNat) % 65521 = loU s (l ++ [x]) := by
 unfold loU; rw [Yio]; omega
theorem Yzm (s : Nat) (l : List UInt8) (x : UInt8) : (upU s l + loU s (l ++ [x])) % 65521 = upU s (l ++ [x]) := by
 unfold upU loU
 rw [Yio, Yza, List.length_append, List.length_singleton, Nat.add_mul, Nat.one_mul]
 generalize l.length * lo s = m
 omega
theorem Yzn (s : Nat) (xs : List UInt8) : updN s xs < 4294967296 := by
 have := Yjo s xs; have := Ysc s xs; unfold updN; omega
def X0q (a : Nat) : Nat := (lo a + 65520) % 65521
theorem Yup (a : Nat) : X0q a < 65521 := Nat.mod_lt _ (by omega)
theorem prod_lt (a n : Nat) : n % 65521 * X0q a < 18446744073709551616 := by
 have h1 := Yup a
 have h2 : n % 65521 < 65521 := Nat.mod_lt _ (by omega)
 exact Nat.lt_trans (Nat.mul_lt_mul'' h2 h1) (by decide)
theorem Yoo (xs : List UInt8) (k : Nat) (h : k < xs.length) : sT (xs.drop k) = (xs.length - k) * xs[k].toNat + sT (xs.drop (k + 1)) := by
 rw [List.drop_eq_getElem_cons h]
 simp only [sT, List.length_drop]
 congr 2
 omega
theorem Ys3 (xs : List UInt8) (k : Nat) (h : k < xs.length) : sS (xs.take (k + 1)) = sS (xs.take k) + xs[k].toNat := by
 rw [List.take_succ_eq_append_getElem h, Yio]
theorem Yr6 (s : Nat) (xs : List UInt8) : ((up s + xs.length % 65521 * lo s) % 65521 + sT xs) % 65521 = upU s xs := by
 have h : (xs.length % 65521 * lo s) % 65521 = (xs.length * lo s) % 65521 := by
  rw [Nat.mul_mod, Nat.mod_mod, ← Nat.mul_mod]
 unfold upU
 generalize xs.length % 65521 * lo s = p at h ⊢
 generalize xs.length * lo s = q at h ⊢
 omega
theorem Yvb (xs : List UInt8) (k b t : Nat) (h : k < xs.length) (hb : (b + sT (xs.drop k)) % 65521 = t) :
  ((b + (xs.length - k) % 65521 * xs[k].toNat) % 65521 + sT (xs.drop (k + 1))) % 65521 = t := by
 rw [Yoo xs k h] at hb
 have h : ((xs.length - k) % 65521 * xs[k].toNat) % 65521 = ((xs.length - k) * xs[k].toNat) % 65521 := by
  rw [Nat.mul_mod, Nat.mod_mod, ← Nat.mul_mod]
 generalize (xs.length - k) % 65521 * xs[k].toNat = p at h ⊢
 generalize (xs.length - k) * xs[k].toNat = q at h hb
 omega
theorem Yva (n : Nat) (x : UInt8) : n % 65521 * x.toNat ≤ 65520 * 255 := by
 have := x.toNat_lt
 have h2 : n % 65521 < 65521 := Nat.mod_lt _ (by omega)
 exact Nat.mul_le_mul (by omega) (by omega)
theorem Yr5 (n s : Nat) : n % 65521 * lo s ≤ 65520 * 65520 := by
 have := Yya s
 have h2 : n % 65521 < 65521 := Nat.mod_lt _ (by omega)
 exact Nat.mul_le_mul (by omega) (by omega)
end Go.Proofs.YtkkfkmoikcmhoaaGreat.Adl
namespace Go.Proofs.YtkkfkmoikcmhoaaGreat.Zl
open Bit Hf Oct Inf Adl
set_option maxRecDepth 100000
def be4 (n : Nat) : List UInt8 := [UInt8.ofNat (n / 16777216), UInt8.ofNat (n / 65536), UInt8.ofNat (n / 256), UInt8.ofNat n]
theorem Y6g (n : Nat) : (be4 n).length = 4 := rfl
theorem Yxf (n : Nat) (h : n < 4294967296) : Oct.Y3h (be4 n) = n := by
 have e1 : (UInt8.ofNat (n / 16777216)).toNat = n / 16777216 := by rw [UInt8.toNat_ofNat']; omega
 have e2 : (UInt8.ofNat (n / 65536)).toNat = n / 65536 % 256 := by rw [UInt8.toNat_ofNat']
 have e3 : (UInt8.ofNat (n / 256)).toNat = n / 256 % 256 := by rw [UInt8.toNat_ofNat']
 have e4 : (UInt8.ofNat n).toNat = n % 256 := by rw [UInt8.toNat_ofNat']
 unfold be4 Oct.Y3h
 simp only [List.foldl_cons, List.foldl_nil, e1, e2, e3, e4]
 omega
theorem Ye9 (xs : List UInt8) : sumN xs < 4294967296 := Yzn 1 xs
def Y5j (x y : Nat) : Bool := decide (x % 16 = 8) && (decide (x ≤ 127) && (decide ((x * 256 + y) % 31 = 0) && decide (y / 32 % 2 = 0)))
def Y7s (xs : List UInt8) (most : Int) : Except Nat (List UInt8 × Nat) :=
 if most < 0 then .error 1
 else if xs.length < 2 then .error 2
 else if Y5j (xs.getD 0 0).toNat (xs.getD 1 0).toNat = false then .error 3
 else match inflate (xs.drop 2) most.toNat with
  | .error e => .error e
  | .ok (o, n) => if xs.length < n + 6 then .error 2 else if Oct.Y3h ((xs.drop (2 + n)).take 4) = sumN o then .ok (o, n + 6) else .error 4
def Yh2 (ys zs : List UInt8) : List UInt8 := 120 :: 1 :: (ys ++ zs)
def Y40 (ys xs : List UInt8) : List UInt8 := Yh2 ys (be4 (sumN xs))
theorem Y4i (ys xs : List UInt8) : (Y40 ys xs).length = ys.length + 6 := by simp [Y40, Yh2, be4]
theorem Ylw (l : List UInt8) : ¬ Y5j ((120 :: 1 :: l : List UInt8).getD 0 0).toNat ((120 :: 1 :: l : List UInt8).getD 1 0).toNat = false := by
 show ¬ Y5j (120 : UInt8).toNat (1 : UInt8).toNat = false
 decide
def Tells (ys xs : List UInt8) : Prop := ∀ most, xs.length ≤ most → inflate ys most = .ok (xs, ys.length)
theorem Yqn {ys xs zs : List UInt8} (h : Tells ys xs) {n : Nat} (hn : xs.length = n) : Y7s (Yh2 ys zs) (n : Int) =
  if zs.length < 4 then .error 2 else if Oct.Y3h (zs.take 4) = sumN xs then .ok (xs, ys.length + 6) else .error 4 := by
 have hi := (Yfd (h n (by omega)) zs).2
 unfold Y7s Yh2
 rw [if_neg (by omega), if_neg (by simp), if_neg (Ylw _)]
 have e : (120 :: 1 :: (ys ++ zs) : List UInt8).drop 2 = ys ++ zs := rfl
 rw [e, Int.toNat_natCast, hi]
 have e2 : (120 :: 1 :: (ys ++ zs) : List UInt8).drop (2 + ys.length) = zs := by
  rw [Nat.add_comm]
  show (ys ++ zs).drop ys.length = zs
  simp
 show (if (120 :: 1 :: (ys ++ zs) : List UInt8).length < ys.length + 6 then _ else _) = _
 rw [e2]
 have e3 : ((120 :: 1 :: (ys ++ zs) : List UInt8).length < ys.length + 6) ↔ zs.length < 4 := by simp only [List.length_cons, List.length_append]; omega
 by_cases hz : zs.length < 4
 ·rw [if_pos (e3.2 hz), if_pos hz]
 ·rw [if_neg (fun q => hz (e3.1 q)), if_neg hz]
theorem Yqm {ys xs : List UInt8} (h : Tells ys xs) {n : Nat} (hn : xs.length = n) (ts : List UInt8) : Y7s (Y40 ys xs ++ ts) (n : Int) = .ok (xs, (Y40 ys xs).length) := by
 have e : Y40 ys xs ++ ts = Yh2 ys (be4 (sumN xs) ++ ts) := by simp [Y40, Yh2]
 rw [e, Yqn h hn, if_neg (by rw [List.length_append, Y6g]; omega), List.take_left' (Y6g _), if_pos (Yxf _ (Ye9 xs)), Y4i]
end Go.Proofs.YtkkfkmoikcmhoaaGreat.Zl
namespace Go.Proofs.YtkkfkmoikcmhoaaGreat.Oct
open Go.RowKit
def Y2m (n : Int) : Bool := decide (n = 1 ∨ n = 2 ∨ n = 4 ∨ n = 8)
theorem Y4e (n : Int) (w : World) : Calls Tryz.prog 30 #[.int .i64 n] w fun e w' => e = .returned (.bool (Y2m n)) ∧ w = w' := by
 by_cases h1 : n = 1
 ·subst h1
  go_enter Tryz.func30, Tryz.ntmps30
  go_wp2
  go_ret
  exact ⟨rfl, rfl⟩
 ·by_cases h2 : n = 2
  ·subst h2
   go_enter Tryz.func30, Tryz.ntmps30
   go_wp2
   go_ret
   exact ⟨rfl, rfl⟩
  ·by_cases h4 : n = 4
   ·subst h4
    go_enter Tryz.func30, Tryz.ntmps30
    go_wp2
    go_ret
    exact ⟨rfl, rfl⟩
   ·by_cases h8 : n = 8
    ·subst h8
     go_enter Tryz.func30, Tryz.ntmps30
     go_wp2
     go_ret
     exact ⟨rfl, rfl⟩
    ·have e : Y2m n = false := by simp [Y2m, h1, h2, h4, h8]
     rw [e]; clear e
     have b1 : (n == 1) = false := by simpa using h1
     have b2 : (n == 2) = false := by simpa using h2
     have b4 : (n == 4) = false := by simpa using h4
     have b8 : (n == 8) = false := by simpa using h8
     go_enter Tryz.func30, Tryz.ntmps30
     go_wp2
     go_ret
     exact ⟨rfl, rfl⟩
theorem Ygd (n : Int) (w : World) : Calls Tryz.prog 51 #[.int .i64 n] w fun e w' => e = .returned (.bool (Y2m n)) ∧ w = w' := by
 by_cases h1 : n = 1
 ·subst h1
  go_enter Tryz.func51, Tryz.ntmps51
  go_wp2
  go_ret
  exact ⟨rfl, rfl⟩
 ·by_cases h2 : n = 2
  ·subst h2
   go_enter Tryz.func51, Tryz.ntmps51
   go_wp2
   go_ret
   exact ⟨rfl, rfl⟩
  ·by_cases h4 : n = 4
   ·subst h4
    go_enter Tryz.func51, Tryz.ntmps51
    go_wp2
    go_ret
    exact ⟨rfl, rfl⟩
   ·by_cases h8 : n = 8
    ·subst h8
     go_enter Tryz.func51, Tryz.ntmps51
     go_wp2
     go_ret
     exact ⟨rfl, rfl⟩
    ·have e : Y2m n = false := by simp [Y2m, h1, h2, h4, h8]
     rw [e]; clear e
     have b1 : (n == 1) = false := by simpa using h1
     have b2 : (n == 2) = false := by simpa using h2
     have b4 : (n == 4) = false := by simpa using h4
     have b8 : (n == 8) = false := by simpa using h8
     go_enter Tryz.func51, Tryz.ntmps51
     go_wp2
     go_ret
     exact ⟨rfl, rfl⟩
theorem Ygg (i size : Nat) (big : Bool) (w : World) (h : i < size) (h8 : size ≤ 8) :
  Calls Tryz.prog 32 #[.int .i64 (i : Int), .int .i64 (size : Int), .bool big] w fun e w' => e = .returned (.int .u64 ((shiftN i size big : Nat) : Int)) ∧ w = w' := by
 cases big
 ·have e : ((shiftN i size false : Nat) : Int) = 8 * (i : Int) := by simp [shiftN]
  rw [e]; clear e
  go_enter Tryz.func32, Tryz.ntmps32
  go_wp2
  go_ret
  exact ⟨rfl, rfl⟩
 ·have e : ((shiftN i size true : Nat) : Int) = 8 * ((size : Int) - 1 - (i : Int)) := by simp only [shiftN, if_true]; omega
  rw [e]; clear e
  go_enter Tryz.func32, Tryz.ntmps32
  go_wp2
  go_ret
  exact ⟨rfl, rfl⟩
def Y28 (len : Nat) (at_ n : Int) : Bool := decide (at_ + n ≤ (len : Int))
theorem Ycv (p : Option Addr) (len cap : Nat) (at_ n : Int) (w : World) (hl : len ≤ maxLen) (ha : 0 ≤ at_) (ha' : at_ ≤ 18446744073709551615) (hb : 0 ≤ n) (hb' : n ≤ 18446744073709551615) :
  Calls Tryz.prog 31 #[.slice p len cap, .int .u64 at_, .int .u64 n] w fun e w' => e = .returned (.bool (Y28 len at_ n)) ∧ w = w' := by
 unfold maxLen at hl
 by_cases h : at_ + n ≤ (len : Int)
 ·have e : Y28 len at_ n = true := by simp [Y28, h]
  rw [e]; clear e
  have h1 : at_ ≤ (len : Int) := by omega
  have h2 : n ≤ (len : Int) - at_ := by omega
  go_enter Tryz.func31, Tryz.ntmps31
  go_wp2
  go_ret
  exact ⟨rfl, rfl⟩
 ·have e : Y28 len at_ n = false := by simp [Y28, h]
  rw [e]; clear e
  by_cases h1 : at_ ≤ (len : Int)
  ·have h2 : ¬ n ≤ (len : Int) - at_ := by omega
   have h3 : decide (n ≤ (len : Int) - at_) = false := by simpa using h2
   go_enter Tryz.func31, Tryz.ntmps31
   go_wp2
   go_ret
   exact ⟨rfl, rfl⟩
  ·have h3 : decide (at_ ≤ (len : Int)) = false := by simpa using h1
   go_enter Tryz.func31, Tryz.ntmps31
   go_wp2
   go_ret
   exact ⟨rfl, rfl⟩
end Go.Proofs.YtkkfkmoikcmhoaaGreat.Oct
namespace Go.Proofs.YtkkfkmoikcmhoaaGreat.Oct
def beB (n : Nat) : Nat → List UInt8
 | 0 => []
 | k + 1 => UInt8.ofNat (n / 256 ^ k % 256) :: beB n k
theorem Y4n (n k : Nat) : (beB n k).length = k := by
 induction k with
 | zero => rfl
 | succ k ih => simp [beB, ih]
theorem Yo2 (n k i : Nat) (h : i < (beB n k).length) : (beB n k)[i] = UInt8.ofNat (n / 256 ^ (k - 1 - i) % 256) := by
 induction k generalizing i with
 | zero => simp [beB] at h
 | succ k ih =>
  rcases i with _ | i
  ·simp [beB]
  ·simp only [beB, List.getElem_cons_succ]
   rw [ih i (by simpa [Y4n] using h)]
   congr 3
   congr 1
   omega
theorem Yla (m : Nat) : (UInt8.ofNat (m % 256)).toNat = m % 256 := by simp
def Ybp (n k : Nat) (big : Bool) : List UInt8 := if big then beB n k else (beB n k).reverse
theorem Y1f (n k : Nat) (big : Bool) : (Ybp n k big).length = k := by cases big <;> simp [Ybp, Y4n]
theorem Yv5 (n k i : Nat) (big : Bool) (h : i < (Ybp n k big).length) : (Ybp n k big)[i] = UInt8.ofNat (n / 2 ^ shiftN i k big % 256) := by
 rw [Y1f] at h
 cases big
 ·simp only [Ybp, shiftN, pow8, Bool.false_eq_true, if_false]
  rw [List.getElem_reverse, Yo2]
  congr 3
  congr 1
  simp [Y4n]; omega
 ·simp only [Ybp, shiftN, pow8, if_true]
  rw [Yo2]
theorem Ytb (n k : Nat) : UInt8.ofNat (n / 256 ^ k % 256) :: beB n k = beB n (k + 1) := rfl
theorem Ytw (n k : Nat) : n / 256 ^ k / 256 = n / 256 ^ (k + 1) := by rw [Nat.div_div_eq_div_mul, Nat.pow_succ]
theorem Yf3 (n k : Nat) : n / 256 ^ k = 0 ↔ n < 256 ^ k := by
 rw [Nat.div_eq_zero_iff]
 have : 0 < 256 ^ k := Nat.pow_pos (by omega)
 constructor
 ·rintro (h | h)
  ·omega
  ·exact h
 ·exact Or.inr
end Go.Proofs.YtkkfkmoikcmhoaaGreat.Oct
namespace Go.Proofs.YtkkfkmoikcmhoaaGreat.Oct
open Go.RowKit
def Ymg (xs : List UInt8) (at_ size : Int) : Bool := Y2m size && Y28 xs.length at_ size
def Ype (xs : List UInt8) (at_ size : Int) (big : Bool) : Int :=
 if Ymg xs at_ size then ((numOf big ((xs.drop at_.toNat).take size.toNat) : Nat) : Int) else 0
def Ypd (xs : List UInt8) (at_ size : Int) : Int :=
 if Y2m size then (if Y28 xs.length at_ size then 0 else 2) else 1
theorem Y8v {n : Int} (h : Y2m n = true) : ∃ k : Nat, n = (k : Int) ∧ 1 ≤ k ∧ k ≤ 8 := by
 have h' := of_decide_eq_true h
 exact ⟨n.toNat, by omega, by omega, by omega⟩
theorem Ys6 (x : UInt8) (k sz : Nat) (big : Bool) (h : k < sz) (h8 : sz ≤ 8) : IntKind.u64.wrap ((x.toNat : Int) * 2 ^ min (shiftN k sz big) 64) = ((x.toNat * 2 ^ shiftN k sz big : Nat) : Int) := by
 have e : min (shiftN k sz big) 64 = shiftN k sz big := by
  apply Nat.min_eq_left
  cases big <;> simp [shiftN] <;> omega
 have ht := Yiy x k sz big h h8
 rw [e]
 have e2 : ((x.toNat : Int) * 2 ^ shiftN k sz big) = ((x.toNat * 2 ^ shiftN k sz big : Nat) : Int) := by push_cast; rfl
 rw [e2, IntWalk.u64_in _ (by omega)]
set_option maxHeartbeats 1000000 in
theorem Yu7 (b off len cap a sz : Nat) (big : Bool) (ys : List UInt8) (w : World) (hy : ys.length = sz) (h1 : 1 ≤ sz) (h8 : sz ≤ 8) (hw : a + sz ≤ len) (hl : len ≤ maxLen)
  (hc : ∀ i (h : i < ys.length), w.cell? ⟨b, off + (a + i), none⟩ = some (.int .u8 (ys[i].toNat : Int)))
  (hs : Y2m (sz : Int) = true) (hin : Y28 len (a : Int) (sz : Int) = true) :
  Calls Tryz.prog 15 #[.slice (some ⟨b, off, none⟩) len cap, .int .u64 (a : Int), .int .i64 (sz : Int), .bool big] w
   fun e w' => e = .returned (.tuple #[.int .u64 ((numOf big ys : Nat) : Int), .int .i64 0]) ∧ Drawn w w' := by
 have hl' := hl
 unfold maxLen at hl
 go_enter Tryz.func15, Tryz.ntmps15
 go_wp2_with fail
 refine (Y4e _ _).mono ?_
 rintro e w' ⟨rfl, rfl⟩
 rw [hs]
 go_wp2_with fail
 refine (Ycv _ _ _ _ _ _ hl' (by omega) (by omega) (by omega) (by omega)).mono ?_
 rintro e w' ⟨rfl, rfl⟩
 rw [hin]
 clear hs hin
 have HC := Lib.hid hc; clear hc
 have HY := Lib.hid hy; clear hy
 go_wp2_with fail
 go_loopw [10, 11, 22] (fun n i c wr => ∃ k : Nat, k ≤ sz ∧ c = .int .i64 (k : Int) ∧ n = .int .u64 ((part big sz (ys.take k) : Nat) : Int) ∧ Drawn w wr) (fun _ _ c _ => sz - (intOf c).toNat)
 case atStart => exact ⟨0, by omega, rfl, by simp [Yk5], ⟨0, rfl⟩⟩
 case round =>
  obtain ⟨k, hk, rfl, rfl, hq⟩ := hrel
  by_cases hlt : k < sz
  ·have hky : k < ys.length := by rw [HY.out]; exact hlt
   have hcell : wr.cell? ⟨b, off + (a + k), none⟩ = some (.int .u8 (ys[k].toNat : Int)) := by
    obtain ⟨nq, rfl⟩ := hq; exact HC.out k hky
   have hx : ys[k].toNat < 256 := ys[k].toNat_lt
   have ht := Yiy ys[k] k sz big hlt h8
   have hp := Yid big sz (ys.take k) (by rw [List.length_take]; omega) h8
   have HT0 : bits .or .u64 ((part big sz (ys.take k) : Nat) : Int) (((ys[k].toNat * 2 ^ shiftN k sz big : Nat)) : Int) = ((part big sz (ys.take (k + 1)) : Nat) : Int) := by
    rw [u64_or_nat _ _ hp ht, Y1x ys k hky]
    have hlen : (ys.take k).length = k := by rw [List.length_take]; omega
    have := Yg1 big sz (ys.take k) ys[k] (by omega) h8
    rw [hlen] at this
    rw [this]
   have HT := Lib.hid HT0
   clear HT0 ht hp
   go_wp2_with fail
   go_quiet ((go_at_call 32; exact quietly (Ygg _ _ _ _ (by omega) (by omega))))
   go_wp2_with fail
   go_roundw
   case rel => exact ⟨k + 1, by omega, by go_num, by rw [Ys6 _ _ _ _ hlt h8, HT.out], hq.more _⟩
   case measure => simp [intOf]; omega
  ·have : k = sz := by omega
   subst this
   have hp := Yb1 big k ys HY.out
   rw [List.take_of_length_le (by rw [HY.out]; omega)]
   rw [hp]
   clear hp
   go_wp2_with fail
   go_ret2
   exact ⟨rfl, hq⟩
theorem Ypg (p : Option Addr) (len cap : Nat) (at_ size : Int) (big : Bool) (w : World) (hs : Y2m size = false) :
  Calls Tryz.prog 15 #[.slice p len cap, .int .u64 at_, .int .i64 size, .bool big] w fun e w' => e = .returned (.tuple #[.int .u64 0, .int .i64 1]) ∧ Drawn w w' := by
 go_enter Tryz.func15, Tryz.ntmps15
 go_wp2_with fail
 refine (Y4e _ _).mono ?_
 rintro e w' ⟨rfl, rfl⟩
 rw [hs]
 go_wp2_with fail
 go_ret2
 exact ⟨rfl, 0, rfl⟩
theorem Yxv (p : Option Addr) (len cap : Nat) (at_ : Int) (sz : Nat) (big : Bool) (w : World) (hl : len ≤ maxLen) (ha : 0 ≤ at_) (ha' : at_ ≤ 18446744073709551615) (h1 : 1 ≤ sz) (h8 : sz ≤ 8)
  (hs : Y2m (sz : Int) = true) (hin : Y28 len at_ (sz : Int) = false) :
  Calls Tryz.prog 15 #[.slice p len cap, .int .u64 at_, .int .i64 (sz : Int), .bool big] w fun e w' => e = .returned (.tuple #[.int .u64 0, .int .i64 2]) ∧ Drawn w w' := by
 have hl' := hl
 unfold maxLen at hl
 go_enter Tryz.func15, Tryz.ntmps15
 go_wp2_with fail
 refine (Y4e _ _).mono ?_
 rintro e w' ⟨rfl, rfl⟩
 rw [hs]
 go_wp2_with fail
 refine (Ycv _ _ _ _ _ _ hl' (by omega) (by omega) (by omega) (by omega)).mono ?_
 rintro e w' ⟨rfl, rfl⟩
 rw [hin]
 go_wp2_with fail
 go_ret2
 exact ⟨rfl, 0, rfl⟩
theorem Ypf (p : Option Addr) (len cap : Nat) (at_ size : Int) (big : Bool) (xs : List UInt8) (w : World) (hr : Row w p xs) (hx : xs.length = len) (hl : len ≤ maxLen) (ha : 0 ≤ at_) (ha' : at_ ≤ 18446744073709551615) :
  Calls Tryz.prog 15 #[.slice p len cap, .int .u64 at_, .int .i64 size, .bool big] w
   fun e w' => e = .returned (.tuple #[.int .u64 (Ype xs at_ size big), .int .i64 (Ypd xs at_ size)]) ∧ Drawn w w' := by
 by_cases hs : Y2m size = true
 ·obtain ⟨sz, rfl, h1, h8⟩ := Y8v hs
  by_cases hin : Y28 len at_ (sz : Int) = true
  ·obtain ⟨a, rfl⟩ : ∃ a : Nat, at_ = (a : Int) := ⟨at_.toNat, by omega⟩
   have hw : a + sz ≤ len := by have := of_decide_eq_true hin; omega
   obtain ⟨b, off, rfl, hb, hc⟩ := hr (by omega)
   have e1 : Ype xs (a : Int) (sz : Int) big = ((numOf big ((xs.drop a).take sz) : Nat) : Int) := by
    unfold Ype Ymg
    rw [hx, hs, hin]; simp
   have e2 : Ypd xs (a : Int) (sz : Int) = 0 := by
    unfold Ypd
    rw [hx, hs, hin]; simp
   rw [e1, e2]
   refine Yu7 b off len cap a sz big _ w (by simp; omega) h1 h8 hw hl ?_ hs hin
   intro i h
   have h' : a + i < xs.length := by simp at h; omega
   rw [hc (a + i) h']
   simp
  ·have hin' : Y28 len at_ (sz : Int) = false := by simpa using hin
   have e1 : Ype xs at_ (sz : Int) big = 0 := by
    unfold Ype Ymg
    rw [hx, hin']; simp
   have e2 : Ypd xs at_ (sz : Int) = 2 := by
    unfold Ypd
    rw [hx, hs, hin']; simp
   rw [e1, e2]
   exact Yxv p len cap at_ sz big w hl ha ha' h1 h8 hs hin'
 ·have hs' : Y2m size = false := by simpa using hs
  have e1 : Ype xs at_ size big = 0 := by
   unfold Ype Ymg
   rw [hs']; simp
  have e2 : Ypd xs at_ size = 1 := by
   unfold Ypd
   rw [hs']; simp
  rw [e1, e2]
  exact Ypg p len cap at_ size big w hs'
def Yt7 (w : World) (xs : List UInt8) (er : Int) (e : Ending) (w' : World) : Prop :=
 Below w.heap.size w w' ∧ ((er = 0 ∧ e = .returned (.tuple #[.slice (some ⟨w.heap.size, 0, none⟩) xs.length xs.length, .int .i64 0]) ∧ Blk w' w.heap.size xs) ∨ (er ≠ 0 ∧ xs = [] ∧ e = .returned (.tuple #[.slice none 0 0, .int .i64 er])))
set_option maxHeartbeats 400000 in
theorem Yw9 (xs : List UInt8) (w : World) (hs : xs.length ≤ 4611686018427387903) :
  Calls Tryz.prog 41 #[.string (bs xs)] w fun e w' => e = .returned (.string (bs xs.reverse)) ∧ w = w' := by
 have hsz := Y13 xs
 go_enter Tryz.func41, Tryz.ntmps41
 go_wp2
 go_loop [3, 4] (fun n i => ∃ k : Nat, k ≤ xs.length ∧ i = .int .i64 k ∧ n = .string (bs (xs.take k).reverse)) (fun _ i => xs.length - (intOf i).toNat)
 case atStart => exact ⟨0, Nat.zero_le _, rfl, rfl⟩
 case round =>
  obtain ⟨k, hk, rfl, rfl⟩ := hrel
  by_cases hlt : k < xs.length
  ·have e1 := Y6h xs k (k + 1)
   have h1 := Yjz xs k hlt
   rw [h1] at e1
   have hz1 : (bs [xs[k]]).size = 1 := by simp [Y13]
   have hz2 : (bs (xs.take k).reverse).size = k := by simp [Y13]; omega
   clear h1
   have hk1 : (k : Int) + 1 ≤ (xs.length : Int) := by omega
   have ht1 : ((k : Int) + 1).toNat = k + 1 := by omega
   go_wp2
   go_round
   case rel => exact ⟨k + 1, by omega, by go_num, by rw [Y3p, Y1x xs k hlt, List.reverse_append]; rfl⟩
   case measure => simp [intOf]; omega
  ·have : k = xs.length := by omega
   subst this
   rw [List.take_length]
   go_wp2
   go_ret
   exact ⟨rfl, rfl⟩
def Y6y (n : Int) (sz : Nat) : Bool := decide (n < 256 ^ sz)
def Yg5 (n size : Int) (big : Bool) : List UInt8 := if Y2m size && Y6y n size.toNat then Ybp n.toNat size.toNat big else []
def Yg3 (n size : Int) : Int := if Y2m size then (if Y6y n size.toNat then 0 else 7) else 1
theorem Yip {n : Int} (h : Y2m n = true) : n = 1 ∨ n = 2 ∨ n = 4 ∨ n = 8 := of_decide_eq_true h
theorem Yjj (n size : Int) (w : World) (hn : 0 ≤ n) (hn' : n ≤ 18446744073709551615) (hs : Y2m size = true) :
  Calls Tryz.prog 49 #[.int .u64 n, .int .i64 size] w fun e w' => e = .returned (.bool (Y6y n size.toNat)) ∧ w = w' := by
 have key : ∀ k : Nat, k = 1 ∨ k = 2 ∨ k = 4 ∨ k = 8 → (n / 2 ^ (8 * k) == 0) = Y6y n k := by
  intro k hk
  rw [Bool.eq_iff_iff]
  unfold Y6y
  simp only [beq_iff_eq, decide_eq_true_eq]
  rcases hk with rfl | rfl | rfl | rfl <;> simp <;> omega
 rcases Yip hs with rfl | rfl | rfl | rfl
 ·have h := key 1 (by simp)
  rw [show ((1 : Int).toNat) = 1 from rfl, ← h]
  clear key h hs
  go_enter Tryz.func49, Tryz.ntmps49
  go_wp2
  go_ret
  exact ⟨rfl, rfl⟩
 ·have h := key 2 (by simp)
  rw [show ((2 : Int).toNat) = 2 from rfl, ← h]
  clear key h hs
  go_enter Tryz.func49, Tryz.ntmps49
  go_wp2
  go_ret
  exact ⟨rfl, rfl⟩
 ·have h := key 4 (by simp)
  rw [show ((4 : Int).toNat) = 4 from rfl, ← h]
  clear key h hs
  go_enter Tryz.func49, Tryz.ntmps49
  go_wp2
  go_ret
  exact ⟨rfl, rfl⟩
 ·have h := key 8 (by simp)
  rw [show ((8 : Int).toNat) = 8 from rfl, ← h]
  clear key h hs
  go_enter Tryz.func49, Tryz.ntmps49
  go_wp2
  go_ret
  exact ⟨rfl, rfl⟩
theorem Yzd (n : Nat) (k sz : Nat) (big : Bool) (h : k < sz) (h8 : sz ≤ 8) (hk : k < (Ybp n sz big).length) : IntKind.u8.wrap ((n : Int) / 2 ^ min (shiftN k sz big) 64) = (((Ybp n sz big)[k].toNat : Nat) : Int) := by
 have e : min (shiftN k sz big) 64 = shiftN k sz big := by
  apply Nat.min_eq_left
  cases big <;> simp [shiftN] <;> omega
 rw [Yv5, Yla, e, IntKind.wrap_u8]
 have : ((n : Int) / 2 ^ shiftN k sz big) = ((n / 2 ^ shiftN k sz big : Nat) : Int) := by simp
 rw [this]; omega
def X0a (g : Nat) (w : World) (ps : List UInt8) (k : Nat) (wr : World) : Prop := Below g w wr ∧ Blk wr g (Y6q ps k)
theorem X0a.step {g : Nat} {w wr : World} {n sz k : Nat} {big : Bool} (h : X0a g w (Ybp n sz big) k wr) (hk : k < sz) (h8 : sz ≤ 8) :
  X0a g w (Ybp n sz big) (k + 1) (wr.setCell ⟨g, k, none⟩ (.int .u8 (IntKind.u8.wrap ((n : Int) / 2 ^ min (shiftN k sz big) 64)))) := by
 have hl : k < (Ybp n sz big).length := by rw [Y1f]; exact hk
 refine ⟨h.1.setCell (Nat.le_refl _) _, ?_⟩
 rw [Yzd n k sz big hk h8 hl, ← Yc2 _ _ hl]
 exact h.2.set_ k _
set_option maxHeartbeats 1000000 in
theorem X0z (n sz : Nat) (big : Bool) (w : World) (hn : (n : Int) ≤ 18446744073709551615) (h1 : 1 ≤ sz) (h8 : sz ≤ 8) (hs : Y2m (sz : Int) = true) (hf : Y6y (n : Int) ((sz : Int).toNat) = true) :
  Calls Tryz.prog 21 #[.int .u64 (n : Int), .int .i64 (sz : Int), .bool big] w
   fun e w' => Below w.heap.size w w' ∧ e = .returned (.tuple #[.slice (some ⟨w.heap.size, 0, none⟩) sz sz, .int .i64 0]) ∧ Blk w' w.heap.size (Ybp n sz big) := by
 obtain ⟨i0, hi, hz0, hz1, hz2⟩ := info_parts Tryz.infoByte
 go_enter Tryz.func21, Tryz.ntmps21
 go_wp2_with fail
 refine (Y4e _ _).mono ?_
 rintro e w' ⟨rfl, rfl⟩
 rw [hs]
 go_wp2_with fail
 refine (Yjj _ _ _ (by omega) hn hs).mono ?_
 rintro e w' ⟨rfl, rfl⟩
 rw [hf]
 clear hs hf
 go_wp2_with (at_make; refine wpList_make_full _ rfl _ _ 22 rfl w.heap.size 5 i0 (.int .u8 0) 1 Tryz.underlying22 hi hz0 hz1 .i64 .i64 (sz : Int) (sz : Int) sz rfl rfl rfl rfl ?c2 ?c3 ?c4 ?_)
 case c2 => rw [hz2]; omega
 case c3 => unfold maxLen; omega
 case c4 => omega
 intro w1 hown hgrow
 have hg0 := Y2s hown
 have hb1 : Below w.heap.size w w1 := (Below.refl _ _).grown hgrow (Nat.le_refl _) (fun k hk => by cases hk)
 have hP : X0a w.heap.size w (Ybp n sz big) 0 w1 := ⟨hb1, by
  unfold Blk
  rw [Yc3, Y1f, ← Yfp]
  simpa using hg0⟩
 clear hown hgrow hg0 hb1
 go_wp2_with fail
 go_loopw [9, 21] (fun i c wr => ∃ k : Nat, k ≤ sz ∧ c = .int .i64 (k : Int) ∧ X0a w.heap.size w (Ybp n sz big) k wr) (fun _ c _ => sz - (intOf c).toNat)
 case atStart => exact ⟨0, by omega, rfl, hP⟩
 case round =>
  obtain ⟨k, hk, rfl, hR⟩ := hrel
  by_cases hlt : k < sz
  ·have hc := hR.2.cell k (by rw [Y5y _ _ (by rw [Y1f]; omega), Y1f]; exact hlt)
   have hfz := hR.2.frozen k
   generalize ((Y6q (Ybp n sz big) k)[k]'(by rw [Y5y _ _ (by rw [Y1f]; omega), Y1f]; exact hlt)) = old at hc
   go_wp2_with (go_at_call 32; refine (Ygg _ _ _ _ (by omega) (by omega)).mono ?_; rintro e w' ⟨rfl, rfl⟩)
   go_roundw
   case rel => exact ⟨k + 1, by omega, by go_num, hR.step hlt h8⟩
   case measure => simp [intOf]; omega
  ·have : k = sz := by omega
   subst this
   have hfull := hR.2
   have e : Y6q (Ybp n k big) k = Ybp n k big := by
    have := Yf4 (Ybp n k big)
    rwa [Y1f] at this
   rw [e] at hfull
   clear e
   go_wp2_with fail
   go_ret2
   exact ⟨hR.1, rfl, hfull⟩
theorem Yv8 (n size : Int) (big : Bool) (w : World) (hs : Y2m size = false) :
  Calls Tryz.prog 21 #[.int .u64 n, .int .i64 size, .bool big] w fun e w' => e = .returned (.tuple #[.slice none 0 0, .int .i64 1]) ∧ w = w' := by
 go_enter Tryz.func21, Tryz.ntmps21
 go_wp2_with fail
 refine (Y4e _ _).mono ?_
 rintro e w' ⟨rfl, rfl⟩
 rw [hs]
 go_wp2_with fail
 go_ret2
 exact ⟨rfl, rfl⟩
theorem Yv7 (n size : Int) (big : Bool) (w : World) (hn : 0 ≤ n) (hn' : n ≤ 18446744073709551615) (hs : Y2m size = true) (hf : Y6y n size.toNat = false) :
  Calls Tryz.prog 21 #[.int .u64 n, .int .i64 size, .bool big] w fun e w' => e = .returned (.tuple #[.slice none 0 0, .int .i64 7]) ∧ w = w' := by
 go_enter Tryz.func21, Tryz.ntmps21
 go_wp2_with fail
 refine (Y4e _ _).mono ?_
 rintro e w' ⟨rfl, rfl⟩
 rw [hs]
 go_wp2_with fail
 refine (Yjj _ _ _ hn hn' hs).mono ?_
 rintro e w' ⟨rfl, rfl⟩
 rw [hf]
 go_wp2_with fail
 go_ret2
 exact ⟨rfl, rfl⟩
theorem Yz2 (n size : Int) (big : Bool) (w : World) (hn : 0 ≤ n) (hn' : n ≤ 18446744073709551615) :
  Calls Tryz.prog 21 #[.int .u64 n, .int .i64 size, .bool big] w (Yt7 w (Yg5 n size big) (Yg3 n size)) := by
 by_cases hs : Y2m size = true
 ·by_cases hf : Y6y n size.toNat = true
  ·obtain ⟨sz, rfl, h1, h8⟩ := Y8v hs
   obtain ⟨m, rfl⟩ : ∃ m : Nat, n = (m : Int) := ⟨n.toNat, by omega⟩
   have e1 : Yg5 (m : Int) (sz : Int) big = Ybp m sz big := by unfold Yg5; rw [hs, hf]; simp
   have e2 : Yg3 (m : Int) (sz : Int) = 0 := by unfold Yg3; rw [hs, hf]; simp
   rw [e1, e2]
   refine (X0z m sz big w hn' h1 h8 hs hf).mono fun e w' ⟨h1, h2, h3⟩ => ⟨h1, .inl ⟨rfl, ?_, h3⟩⟩
   rw [Y1f]; exact h2
  ·have hf' : Y6y n size.toNat = false := by simpa using hf
   have e1 : Yg5 n size big = [] := by unfold Yg5; rw [hs, hf']; simp
   have e2 : Yg3 n size = 7 := by unfold Yg3; rw [hs, hf']; simp
   rw [e1, e2]
   exact (Yv7 n size big w hn hn' hs hf').mono fun e w' ⟨h1, h2⟩ => ⟨by subst h2; exact Below.refl _ _, .inr ⟨by decide, rfl, h1⟩⟩
 ·have hs' : Y2m size = false := by simpa using hs
  have e1 : Yg5 n size big = [] := by unfold Yg5; rw [hs']; simp
  have e2 : Yg3 n size = 1 := by unfold Yg3; rw [hs']; simp
  rw [e1, e2]
  exact (Yv8 n size big w hs').mono fun e w' ⟨h1, h2⟩ => ⟨by subst h2; exact Below.refl _ _, .inr ⟨by decide, rfl, h1⟩⟩
theorem Yyo (w : World) (q : Nat) : Row (w.alloc (.cells #[.int .u8 ((q : Int) % 256)] 5)) (some ⟨w.heap.size, 0, none⟩) [UInt8.ofNat (q % 256)] := by
 intro _
 refine ⟨w.heap.size, 0, rfl, by simp, fun i hi => ?_⟩
 have : i = 0 := by simpa using hi
 subst this
 simp
def Fresh (w w' : World) : Prop := Below w.heap.size w w'
set_option maxHeartbeats 1000000 in
theorem Yra (n sz : Nat) (big : Bool) (w : World) (hn : (n : Int) ≤ 18446744073709551615) (h1 : 1 ≤ sz) (h8 : sz ≤ 8) (hs : Y2m (sz : Int) = true) :
  Calls Tryz.prog 23 #[.int .u64 (n : Int), .int .i64 (sz : Int), .bool big] w
   fun e w' => e = .returned (.tuple #[.string (bs (Yg5 n sz big)), .int .i64 (Yg3 n sz)]) ∧ Below w.heap.size w w' := by
 have hs' := hs
 go_enter Tryz.func23, Tryz.ntmps23
 go_wp2_with fail
 refine (Ygd _ _).mono ?_
 rintro e w' ⟨rfl, rfl⟩
 rw [hs]
 have HS := Lib.hid hs'
 clear hs hs'
 go_wp2_with fail
 go_loopw [0, 8, 9] (fun m s i wr => ∃ k : Nat, k ≤ sz ∧ i = .int .i64 (k : Int) ∧ m = .int .u64 ((n / 256 ^ k : Nat) : Int) ∧ s = .string (bs (beB n k)) ∧ Fresh w wr) (fun _ _ c _ => sz - (intOf c).toNat)
 case atStart => exact ⟨0, by omega, rfl, by simp, rfl, Below.refl _ _⟩
 case round =>
  obtain ⟨k, hk, rfl, rfl, rfl, hF⟩ := hrel
  by_cases hlt : k < sz
  ·obtain ⟨q, hq⟩ : ∃ q, q = n / 256 ^ k := ⟨_, rfl⟩
   have hqn : q ≤ n := by rw [hq]; exact Nat.div_le_self _ _
   rw [← hq]
   have HQ := Lib.hid hq
   clear hq
   have cv := Y31 1 1 (Yyo wr q) rfl
   have hz1 : (bs [UInt8.ofNat (q % 256)]).size = 1 := by simp [Y13]
   have hz2 : (bs (beB n k)).size = k := by simp [Y13, Y4n]
   go_wp2_with fail
   go_roundw
   case rel =>
    refine ⟨k + 1, by omega, by go_num, ?_, ?_, ?_⟩
    ·rw [← Ytw, ← HQ.out]; go_num
    ·rw [Y3p, ← Ytb, ← HQ.out]; rfl
    ·exact Below.alloc hF (Below.size hF) _
   case measure => simp [intOf]; omega
  ·have : k = sz := by omega
   subst this
   obtain ⟨q, hq⟩ : ∃ q, q = n / 256 ^ k := ⟨_, rfl⟩
   rw [← hq]
   have hiff := Yf3 n k
   rw [← hq] at hiff
   have hp : ((256 : Int) ^ k) = ((256 ^ k : Nat) : Int) := by simp
   by_cases h0 : q = 0
   ·have hf : Y6y (n : Int) ((k : Int).toNat) = true := by
     unfold Y6y; rw [Int.toNat_natCast, hp]
     have := hiff.1 h0
     simp; omega
    have e1 : Yg5 (n : Int) (k : Int) big = Ybp n k big := by unfold Yg5; rw [HS.out, hf]; simp
    have e2 : Yg3 (n : Int) (k : Int) = 0 := by unfold Yg3; rw [HS.out, hf]; simp
    have E1 := Lib.hid e1
    have E2 := Lib.hid e2
    clear e1 e2 hf hiff hp hq HS
    subst h0
    cases big
    ·go_wp2_with fail
     refine (Yw9 _ _ (by rw [Y4n]; omega)).mono ?_
     rintro e w' ⟨rfl, rfl⟩
     go_wp2_with fail
     go_ret2
     exact ⟨by rw [E1.out, E2.out]; rfl, hF⟩
    ·go_wp2_with fail
     go_ret2
     exact ⟨by rw [E1.out, E2.out]; rfl, hF⟩
   ·have hf : Y6y (n : Int) ((k : Int).toNat) = false := by
     unfold Y6y; rw [Int.toNat_natCast, hp]
     have := mt hiff.2 h0
     simp; omega
    have e1 : Yg5 (n : Int) (k : Int) big = [] := by unfold Yg5; rw [HS.out, hf]; simp
    have e2 : Yg3 (n : Int) (k : Int) = 7 := by unfold Yg3; rw [HS.out, hf]; simp
    have E1 := Lib.hid e1
    have E2 := Lib.hid e2
    clear e1 e2 hf hiff hp hq HS
    have hne : ((q : Int) != 0) = true := by simpa using h0
    go_wp2_with fail
    go_ret2
    exact ⟨by rw [E1.out, E2.out]; rfl, hF⟩
theorem Yvm (n size : Int) (big : Bool) (w : World) (hn : 0 ≤ n) (hn' : n ≤ 18446744073709551615) :
  Calls Tryz.prog 23 #[.int .u64 n, .int .i64 size, .bool big] w
   fun e w' => e = .returned (.tuple #[.string (bs (Yg5 n size big)), .int .i64 (Yg3 n size)]) ∧ Below w.heap.size w w' := by
 by_cases hs : Y2m size = true
 ·obtain ⟨sz, rfl, h1, h8⟩ := Y8v hs
  obtain ⟨m, rfl⟩ : ∃ m : Nat, n = (m : Int) := ⟨n.toNat, by omega⟩
  exact Yra m sz big w hn' h1 h8 hs
 ·have hs' : Y2m size = false := by simpa using hs
  have e1 : Yg5 n size big = [] := by unfold Yg5; rw [hs']; simp
  have e2 : Yg3 n size = 1 := by unfold Yg3; rw [hs']; simp
  rw [e1, e2]
  clear e1 e2 hs
  go_enter Tryz.func23, Tryz.ntmps23
  go_wp2_with fail
  refine (Ygd _ _).mono ?_
  rintro e w' ⟨rfl, rfl⟩
  rw [hs']
  go_wp2_with fail
  go_ret2
  exact ⟨rfl, Below.refl _ _⟩
end Go.Proofs.YtkkfkmoikcmhoaaGreat.Oct
namespace Go.Proofs.YtkkfkmoikcmhoaaGreat.Adl
open Go.RowKit Oct
theorem Yxc (s : Nat) (hs : s < 4294967296) : bits .and .u32 (s : Int) 65535 = ((s % 65536 : Nat) : Int) := by
 rw [show (65535 : Int) = ((65535 : Nat) : Int) from rfl, u32_and_nat s 65535 hs (by omega)]
 congr 1
 exact Nat.and_two_pow_sub_one_eq_mod s 16
theorem Yqo (u l : Nat) (hu : u < 65536) (hl : l < 65536) : bits .or .u32 ((u * 65536 : Nat) : Int) (l : Int) = ((u * 65536 + l : Nat) : Int) := by
 rw [u32_or_nat _ _ (by omega) (by omega)]
 congr 1
 exact nat_join 16 _ _ (by omega) (by omega)
theorem Yq0 (s : Nat) : (s : Int) % 65536 % 65521 = ((lo s : Nat) : Int) := by unfold lo; omega
theorem Ysd (s : Nat) : (s : Int) / 65536 % 65521 = ((up s : Nat) : Int) := by unfold up; omega
theorem Ylu (s : Nat) (w : World) (hs : s < 4294967296) :
  Calls Tryz.prog 59 #[.int .u32 (s : Int)] w fun e w' => e = .returned (.tuple #[.int .u32 ((lo s : Nat) : Int), .int .u32 ((up s : Nat) : Int)]) ∧ w = w' := by
 rw [← Yq0, ← Ysd]
 have h1 := Yxc s hs
 go_enter Tryz.func59, Tryz.ntmps59
 go_wp2
 go_ret2
 exact ⟨rfl, rfl⟩
theorem Ysp (l u : Nat) (w : World) (hl : l < 65521) (hu : u < 65521) :
  Calls Tryz.prog 60 #[.int .u32 (l : Int), .int .u32 (u : Int)] w fun e w' => e = .returned (.int .u32 ((u * 65536 + l : Nat) : Int)) ∧ w = w' := by
 have h1 := Yqo u l (by omega) (by omega)
 have e1 : ((u * 65536 : Nat) : Int) = (u : Int) * 65536 := by omega
 rw [e1] at h1
 rw [← h1]
 clear h1 e1
 go_enter Tryz.func60, Tryz.ntmps60
 go_wp2
 go_ret
 exact ⟨rfl, rfl⟩
set_option maxHeartbeats 400000 in
theorem Yna (s : Nat) (p : Option Addr) (len cap : Nat) (xs : List UInt8) (w : World) (hs : s < 4294967296) (hr : Row w p xs) (hx : xs.length = len) (hl : len ≤ maxLen) :
  Calls Tryz.prog 33 #[.int .u32 (s : Int), .slice p len cap] w fun e w' => e = .returned (.int .u32 ((updN s xs : Nat) : Int)) ∧ w = w' := by
 unfold maxLen at hl
 have HX := Lib.hid hx
 clear hx
 go_enter Tryz.func33, Tryz.ntmps33
 go_wp2_with fail
 refine (Ylu _ _ hs).mono ?_
 rintro e w' ⟨rfl, rfl⟩
 go_wp2_with fail
 go_loop [5, 6, 8, 16] (fun a b _ i => ∃ k : Nat, k ≤ len ∧ i = .int .i64 (k : Int) ∧ a = .int .u32 ((loU s (xs.take k) : Nat) : Int) ∧ b = .int .u32 ((upU s (xs.take k) : Nat) : Int)) (fun _ _ _ i => len - (intOf i).toNat)
 case atStart => exact ⟨0, Nat.zero_le _, rfl, by rw [List.take_zero, Yy9], by rw [List.take_zero, Yzl]⟩
 case round =>
  obtain ⟨k, hk, rfl, rfl, rfl⟩ := hrel
  by_cases hlt : k < len
  ·have hkx : k < xs.length := by rw [HX.out]; exact hlt
   obtain ⟨b, off, rfl, hbl, hcs⟩ := hr (by omega)
   have hc := hcs k hkx
   have hb := xs[k].toNat_lt
   have e1 := Yyb s (xs.take k) xs[k]
   have e2 := Yzm s (xs.take k) xs[k]
   rw [← Y1x xs k hkx] at e1 e2
   have l1 := Yjo s (xs.take k)
   have l2 := Ysc s (xs.take k)
   have l3 := Yjo s (xs.take (k + 1))
   obtain ⟨a0, ha0⟩ : ∃ a, a = loU s (xs.take k) := ⟨_, rfl⟩
   obtain ⟨b0, hb0⟩ : ∃ a, a = upU s (xs.take k) := ⟨_, rfl⟩
   obtain ⟨a1, ha1⟩ : ∃ a, a = loU s (xs.take (k + 1)) := ⟨_, rfl⟩
   obtain ⟨b1, hb1⟩ : ∃ a, a = upU s (xs.take (k + 1)) := ⟨_, rfl⟩
   rw [← ha0] at e1 l1 ⊢
   rw [← hb0] at e2 l2 ⊢
   rw [← ha1] at e1 e2 l3
   rw [← hb1] at e2
   have HA := Lib.hid ha1
   have HB := Lib.hid hb1
   generalize xs[k].toNat = x at hc hb e1
   have f1 : ((a0 : Int) + (x : Int)) % 65521 = (a1 : Int) := by omega
   have f2 : ((b0 : Int) + (a1 : Int)) % 65521 = (b1 : Int) := by omega
   clear hcs ha0 hb0 ha1 hb1 e1 e2
   go_wp2_with fail
   go_round
   case rel => exact ⟨k + 1, by omega, by go_num, by rw [← HA.out, ← f1], by rw [← HB.out, ← f2, ← f1]⟩
   case measure => simp [intOf]; omega
  ·have hkl : k = len := by omega
   subst hkl
   have e : xs.take k = xs := List.take_of_length_le (by rw [HX.out]; exact Nat.le_refl _)
   rw [e]
   clear e
   go_wp2_with fail
   refine (Ysp _ _ _ (Yjo s xs) (Ysc s xs)).mono ?_
   rintro e w' ⟨rfl, rfl⟩
   go_wp2_with fail
   go_ret
   exact ⟨rfl, rfl⟩
theorem Yrv (p : Option Addr) (len cap : Nat) (xs : List UInt8) (w : World) (hr : Row w p xs) (hx : xs.length = len) (hl : len ≤ maxLen) :
  Calls Tryz.prog 16 #[.slice p len cap] w fun e w' => e = .returned (.int .u32 ((sumN xs : Nat) : Int)) ∧ w = w' := by
 go_enter Tryz.func16, Tryz.ntmps16
 go_wp2_with fail
 refine (Yna 1 p len cap xs w (by omega) hr hx hl).mono ?_
 rintro e w' ⟨rfl, rfl⟩
 go_wp2_with fail
 go_ret
 exact ⟨rfl, rfl⟩
theorem w64 (n : Nat) (h : n < 9223372036854775808) : wrap64 (n : Int) = (n : Int) := by
 rw [wrap64]; omega
theorem Ykb (c n y : Nat) (hc : c < 65521) (hp : n * y ≤ 65520 * 65520) : (wrap64 ((c : Int) + wrap64 ((n : Int) * (y : Int)))).tmod 65521 = (((c + n * y) % 65521 : Nat) : Int) := by
 have e : (n : Int) * (y : Int) = ((n * y : Nat) : Int) := (Int.natCast_mul n y).symm
 rw [e]
 generalize n * y = p at hp ⊢
 rw [w64 p (by omega), ← Int.natCast_add, w64 (c + p) (by omega), Int.tmod_eq_emod_of_nonneg (by omega)]
 omega
set_option maxHeartbeats 400000 in
theorem Yin (s : Nat) (xs : List UInt8) (w : World) (hs : s < 4294967296) (hl : xs.length ≤ 100000) :
  Calls Tryz.prog 42 #[.int .u32 (s : Int), .string (bs xs)] w fun e w' => e = .returned (.int .u32 ((updN s xs : Nat) : Int)) ∧ w = w' := by
 have hsz := Y13 xs
 have hs0 : ((up s : Nat) + xs.length % 65521 * lo s) % 65521 < 65521 := Nat.mod_lt _ (by omega)
 have hpr := Yr5 xs.length s
 have HST := Lib.hid (Yr6 s xs)
 have l1 := Yya s
 have l2 := X16 s
 have e1 : ((s : Int) % 65536 % 65521) = ((lo s : Nat) : Int) := Yq0 s
 have e2 : ((s : Int) / 65536 % 65521) = ((up s : Nat) : Int) := Ysd s
 go_enter Tryz.func42, Tryz.ntmps42
 go_wp2_with fail
 go_loop [5, 6, 8] (fun a b i => ∃ k c : Nat, k ≤ xs.length ∧ i = .int .i64 (k : Int) ∧ a = .int .i64 ((lo s + sS (xs.take k) : Nat) : Int) ∧ b = .int .i64 (c : Int) ∧ c < 65521 ∧ Hid ((c + sT (xs.drop k)) % 65521 = upU s xs)) (fun _ _ i => xs.length - (intOf i).toNat)
 case atStart =>
  refine ⟨0, _, Nat.zero_le _, rfl, ?_, ?_, hs0, HST.out⟩
  ·rw [e1, List.take_zero]; rfl
  ·rw [show ((xs.length : Int) % 65521) = ((xs.length % 65521 : Nat) : Int) by omega, Ykb _ _ _ l2 hpr]
 case round =>
  obtain ⟨k, c, hk, rfl, rfl, rfl, hc, hH⟩ := hrel
  by_cases hlt : k < xs.length
  ·have hg : ∀ h, (bs xs)[k]'h = xs[k] := fun h => Yby xs k h hlt
   have HT := Lib.hid (Ys3 xs k hlt)
   have HR := Lib.hid (Yvb xs k c _ hlt hH.out)
   have hp := Yva (xs.length - k) xs[k]
   have hle := X12 (xs.take k)
   rw [List.length_take] at hle
   generalize sS (xs.take k) = m at hle HT ⊢
   have hb := xs[k].toNat_lt
   go_wp2_with fail
   go_round
   case rel =>
    generalize xs[k].toNat = x at hb hp HT HR ⊢
    refine ⟨k + 1, _, hlt, by go_num, ?_, ?_, Nat.mod_lt _ (by omega), HR.out⟩
    ·rw [HT.out]; congr 1; omega
    ·rw [show ((xs.length : Int) - (k : Int)) % 65521 = (((xs.length - k) % 65521 : Nat) : Int) by omega, Ykb _ _ _ hc (by omega)]
   case measure => simp [intOf]; omega
  ·have hkl : k = xs.length := by omega
   subst hkl
   have hc' : upU s xs = c := by have := hH.out; rw [List.drop_length] at this; simp only [sT] at this; omega
   have hu : updN s xs = c * 65536 + (lo s + sS xs) % 65521 := by unfold updN loU; rw [hc']
   have HU := Lib.hid hu
   have hle := X12 xs
   rw [List.take_length]
   clear hu hc'
   generalize sS xs = m at hle HU ⊢
   go_wp2_with fail
   go_ret
   exact ⟨by rw [HU.out]; exact congrArg (fun z => Ending.returned (Value.int .u32 z)) (by omega), rfl⟩
theorem Yvo (xs : List UInt8) (w : World) (hl : xs.length ≤ 100000) :
  Calls Tryz.prog 19 #[.string (bs xs)] w fun e w' => e = .returned (.int .u32 ((sumN xs : Nat) : Int)) ∧ w = w' := by
 go_enter Tryz.func19, Tryz.ntmps19
 go_wp2_with fail
 refine (Yin 1 xs w (by omega) hl).mono ?_
 rintro e w' ⟨rfl, rfl⟩
 go_wp2_with fail
 go_ret
 exact ⟨rfl, rfl⟩
theorem Yz5 (w : World) (xs : List UInt8) (T : Nat) (fr : Nat × Nat) : Row (w.alloc (.cells (cellsOf xs).toArray T fr)) (some ⟨w.heap.size, 0, none⟩) xs := by
 intro _
 refine ⟨w.heap.size, 0, rfl, by simp, fun i h => ?_⟩
 rw [World.cell?_alloc_mark, Nat.zero_add]
 simp [cellsOf, h]
end Go.Proofs.YtkkfkmoikcmhoaaGreat.Adl

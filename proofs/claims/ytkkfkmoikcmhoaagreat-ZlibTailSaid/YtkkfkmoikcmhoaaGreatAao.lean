/- DfO, DfP, HfC, DfC: merged. -/
import Derived.Deep.MidRow
import Derived.Laws.ResultCell
import Derived.Test.YtkkfkmoikcmhoaaGreatAaf
import Derived.Test.YtkkfkmoikcmhoaaGreatAai
import Derived.Test.YtkkfkmoikcmhoaaGreatAan
set_option linter.unusedVariables false
set_option linter.unusedSimpArgs false
namespace Go.Proofs.YtkkfkmoikcmhoaaGreat.Df
open Bit Hf Oct Inf
theorem Y09 (L : List Nat) (k : Nat) (h : ∀ n ∈ L, n ≤ k) (i : Nat) : ((Y03 L).getD i []).length ≤ k := by
 rw [List.getD_eq_getElem?_getD]
 by_cases hi : i < L.length
 ·have hi' : i < (Y03 L).length := by rw [Y0e]; exact hi
  rw [List.getElem?_eq_getElem hi']
  show ((Y03 L)[i]).length ≤ k
  rw [Y4b L i hi' hi]
  exact h _ (List.getElem_mem hi)
 ·rw [List.getElem?_eq_none (by rw [Y0e]; omega)]
  exact Nat.zero_le _
theorem Yag (n : Nat) : (Y4w false n).length ≤ 5 := by
 have h1 : ∀ i, i < 29 → (extras false).getD i 0 ≤ 5 := by decide
 have h2 := Y16 false n
 unfold Y4w
 rw [Y00]
 exact h1 _ h2
theorem Ytd : (Y4w true 1).length = 0 := by decide
theorem Yb5 {A B : List (List Bool)} {k : Nat} : ∀ (l : List Tok), (∀ t ∈ l, (Yec A B t).length ≤ k) → (Y1y A B l).length ≤ k * l.length + (A.getD 256 []).length
 | [], h => by simp [Y1y]
 | t :: l, h => by
  have h1 := Yb5 l (fun t ht => h t (List.mem_cons_of_mem _ ht))
  have h2 := h t List.mem_cons_self
  rw [Y1y, List.length_append, List.length_cons, Nat.mul_add]
  omega
theorem Ybo {A B : List (List Bool)} (hA : ∀ i, (A.getD i []).length ≤ 15) (hB : ∀ i, (B.getD i []).length ≤ 15) (c : UInt8) (n : Nat) :
  (Y1y A B ((Lzt.Y0k c n).map conv)).length ≤ 35 * ((n + 256) / 258 + 2) + 15 := by
 have h1 := Yb5 (A := A) (B := B) (k := 35) ((Lzt.Y0k c n).map conv) (fun t ht => by
  obtain ⟨u, hu, rfl⟩ := List.mem_map.1 ht
  rcases Lzt.Ys2 c n u hu with rfl | ⟨m, m1, m2, rfl⟩
  ·have := hA c.toNat
   unfold Yec conv
   rw [if_pos rfl]
   exact Nat.le_trans this (by decide)
  ·have e1 := hA (257 + placeN false m)
   have e2 := hB (placeN true 1)
   have e3 := Yag m
   have e4 := Ytd
   unfold Yec conv
   rw [if_neg (by show ¬ (m : Int) = 0; omega)]
   show (A.getD (257 + placeN false ((m : Int).toNat)) [] ++ (Y4w false ((m : Int).toNat) ++ (B.getD (placeN true ((1 : Int).toNat)) [] ++ Y4w true ((1 : Int).toNat)))).length ≤ 35
   rw [Int.toNat_natCast, show ((1 : Int).toNat) = 1 from rfl]
   simp only [List.length_append]
   omega)
 rw [List.length_map] at h1
 have h2 := Lzt.Y9g c n
 have h3 := hA 256
 have h4 := Nat.mul_le_mul_left 35 h2
 omega
set_option maxRecDepth 20000 in
theorem Y1k : (∀ n ∈ Y0l, n ≤ 15) ∧ (∀ n ∈ Y0s, n ≤ 15) := by decide +kernel
theorem Yoh (c : UInt8) (n : Nat) (hn : n ≤ 100000) : (Y0m true (Y07 true 3 3 ++ Y1y (Y03 Y0l) (Y03 Y0s) ((Lzt.Y0k c n).map conv))).length ≤ 40 + n / 32 := by
 rw [Y0a, List.length_append, Y00]
 have h := Ybo (Y09 Y0l 15 Y1k.1) (Y09 Y0s 15 Y1k.2) c n
 omega
theorem Ypz {LA LB m : List Nat} {k : Nat} {ops : List (Nat × Nat)} (hA : ∀ n ∈ LA, n ≤ 15) (hB : ∀ n ∈ LB, n ≤ 15) (c : UInt8) (n : Nat) (hk : k ≤ 19) (hn : n ≤ 100000) (ho : (ops.flatMap (Yeb (Y03 m))).length ≤ 500) :
  (Y0m true (Y07 true 5 3 ++ Yjl LA LB m k ops ((Lzt.Y0k c n).map conv))).length ≤ 100 + n / 32 := by
 have hml : (Y5r ((order.take k).map fun s => m.getD s 0)).length ≤ 57 := by
  rw [Y1m, List.length_map, List.length_take]
  omega
 have h := Ybo (Y09 LA 15 hA) (Y09 LB 15 hB) c n
 rw [Y0a, List.length_append, Y00]
 unfold Yjl
 simp only [List.length_append, Y00]
 omega
end Go.Proofs.YtkkfkmoikcmhoaaGreat.Df
namespace Go.Proofs.YtkkfkmoikcmhoaaGreat.Df
open Bit Hf Oct Inf
def Ymb (l : List Nat) (n : Nat) : Nat := if n < l.length ∧ l.getD n 0 = l.getD 0 0 then Ymb l (n + 1) else n
termination_by l.length - n
theorem Yqc {l : List Nat} {n : Nat} (h : n < l.length) (h2 : l.getD n 0 = l.getD 0 0) : Ymb l n = Ymb l (n + 1) := by
 rw [Ymb, if_pos ⟨h, h2⟩]
theorem Y98 {l : List Nat} {n : Nat} (h : ¬ (n < l.length ∧ l.getD n 0 = l.getD 0 0)) : Ymb l n = n := by
 rw [Ymb, if_neg h]
def runN (l : List Nat) : Nat := Ymb l 1
theorem Yqd (l : List Nat) : ∀ (k n : Nat), l.length - n ≤ k → n ≤ l.length → (∀ i, i < n → l.getD i 0 = l.getD 0 0) →
  n ≤ Ymb l n ∧ Ymb l n ≤ l.length ∧ (∀ i, i < Ymb l n → l.getD i 0 = l.getD 0 0) ∧ (Ymb l n < l.length → l.getD (Ymb l n) 0 ≠ l.getD 0 0)
 | 0, n, hk, hn, h => by
  rw [Y98 (by omega)]
  exact ⟨Nat.le_refl _, hn, h, fun e => by omega⟩
 | k + 1, n, hk, hn, h => by
  by_cases hc : n < l.length ∧ l.getD n 0 = l.getD 0 0
  ·rw [Yqc hc.1 hc.2]
   have ih := Yqd l k (n + 1) (by omega) (by omega) (fun i hi => by
    by_cases e : i = n
    ·rw [e]; exact hc.2
    ·exact h i (by omega))
   exact ⟨by omega, ih.2.1, ih.2.2.1, ih.2.2.2⟩
  ·rw [Y98 hc]
   exact ⟨Nat.le_refl _, hn, h, fun e e2 => hc ⟨e, e2⟩⟩
theorem Yxv (l : List Nat) (h : 0 < l.length) : 1 ≤ runN l ∧ runN l ≤ l.length ∧ (∀ i, i < runN l → l.getD i 0 = l.getD 0 0) ∧ (runN l < l.length → l.getD (runN l) 0 ≠ l.getD 0 0) :=
 Yqd l _ 1 (Nat.le_refl _) h fun i hi => by rw [show i = 0 from by omega]
theorem Y5h (l : List Nat) (a i : Nat) : (l.drop a).getD i 0 = l.getD (a + i) 0 := by
 rw [List.getD_eq_getElem?_getD, List.getD_eq_getElem?_getD, List.getElem?_drop]
def Y0p (l : List Nat) (a : Nat) : (Nat × Nat) × Nat :=
 if l.getD a 0 = 0 ∧ 11 ≤ runN (l.drop a) then ((18, min (runN (l.drop a)) 138 - 11), min (runN (l.drop a)) 138)
 else if l.getD a 0 = 0 ∧ 3 ≤ runN (l.drop a) then ((17, runN (l.drop a) - 3), runN (l.drop a))
 else if 0 < a ∧ l.getD a 0 = l.getD (a - 1) 0 ∧ 3 ≤ runN (l.drop a) then ((16, min (runN (l.drop a)) 6 - 3), min (runN (l.drop a)) 6)
 else ((l.getD a 0, 0), 1)
theorem Y8u {l : List Nat} {a : Nat} (h : a < l.length) : 1 ≤ runN (l.drop a) ∧ a + runN (l.drop a) ≤ l.length ∧ (∀ i, i < runN (l.drop a) → l.getD (a + i) 0 = l.getD a 0) ∧ (a + runN (l.drop a) < l.length → l.getD (a + runN (l.drop a)) 0 ≠ l.getD a 0) := by
 have hl : (l.drop a).length = l.length - a := List.length_drop
 obtain ⟨h1, h2, h3, h4⟩ := Yxv (l.drop a) (by omega)
 rw [hl] at h2 h4
 refine ⟨h1, by omega, fun i hi => ?_, fun hi => ?_⟩
 ·have := h3 i hi
  rw [Y5h, Y5h] at this
  exact this
 ·have := h4 (by omega)
  rw [Y5h, Y5h] at this
  exact this
theorem Y5q {l : List Nat} {a : Nat} (h : a < l.length) : 1 ≤ (Y0p l a).2 ∧ a + (Y0p l a).2 ≤ l.length := by
 obtain ⟨h1, h2, _⟩ := Y8u h
 unfold Y0p
 split
 ·dsimp only; omega
 ·split
  ·dsimp only; omega
  ·split
   ·dsimp only; omega
   ·dsimp only; omega
def Y17 (l : List Nat) (a : Nat) : List (Nat × Nat) := if h : a < l.length then (Y0p l a).1 :: Y17 l (a + (Y0p l a).2) else []
termination_by l.length - a
decreasing_by have := Y5q h; omega
theorem Y31 {l : List Nat} {a : Nat} (h : a < l.length) : Y17 l a = (Y0p l a).1 :: Y17 l (a + (Y0p l a).2) := by rw [Y17, dif_pos h]
theorem Y26 {l : List Nat} {a : Nat} (h : ¬ a < l.length) : Y17 l a = [] := by rw [Y17, dif_neg h]
theorem Y7t (l : List Nat) (v a : Nat) : ∀ k, a + k ≤ l.length → (∀ i, i < k → l.getD (a + i) 0 = v) → l.take a ++ List.replicate k v = l.take (a + k)
 | 0, h, hv => by simp
 | k + 1, h, hv => by
  have ih := Y7t l v a k (by omega) fun i hi => hv i (by omega)
  have h1 := hv k (by omega)
  have hlt : a + k < l.length := by omega
  rw [List.replicate_succ', ← List.append_assoc, ih, ← Nat.add_assoc, List.take_succ_eq_append_getElem hlt]
  rw [List.getD_eq_getElem?_getD, List.getElem?_eq_getElem hlt] at h1
  have h1 : l[a + k] = v := h1
  rw [h1]
theorem Yp2 (l : List Nat) (a : Nat) (h0 : 0 < a) (h : a ≤ l.length) : (l.take a).getLastD 0 = l.getD (a - 1) 0 := by
 rw [List.getLastD_eq_getLast?, List.getLast?_take, if_neg (by omega), List.getD_eq_getElem?_getD]
 have hlt : a - 1 < l.length := by omega
 rw [List.getElem?_eq_getElem hlt]
 rfl
theorem Yhp {l : List Nat} {a : Nat} (h : a < l.length) (h15 : l.getD a 0 ≤ 15) :
  Yrv (l.take a) (Y0p l a).1 = l.take (a + (Y0p l a).2) ∧ (Y0p l a).1.1 < 19 ∧ (Y0p l a).1.2 < 2 ^ wideV (Y0p l a).1.1 ∧ ((Y0p l a).1.1 = 16 → 0 < a) := by
 obtain ⟨h1, h2, h3, h4⟩ := Y8u h
 unfold Y0p
 split
 ·rename_i hc
  refine ⟨?_, by dsimp only; omega, by show _ < 2 ^ 7; dsimp only; omega, fun e => absurd (show (18 : Nat) = 16 from e) (by decide)⟩
  show l.take a ++ List.replicate (11 + (min (runN (l.drop a)) 138 - 11)) 0 = _
  rw [show 11 + (min (runN (l.drop a)) 138 - 11) = min (runN (l.drop a)) 138 from by omega]
  exact Y7t l 0 a _ (by omega) fun i hi => by rw [h3 i (by omega)]; exact hc.1
 ·split
  ·rename_i hn hc
   have : runN (l.drop a) < 11 := by
    rcases Nat.lt_or_ge (runN (l.drop a)) 11 with hlt | hge
    ·exact hlt
    ·exact absurd ⟨hc.1, hge⟩ hn
   refine ⟨?_, by dsimp only; omega, by show _ < 2 ^ 3; dsimp only; omega, fun e => absurd (show (17 : Nat) = 16 from e) (by decide)⟩
   show l.take a ++ List.replicate (3 + (runN (l.drop a) - 3)) 0 = _
   rw [show 3 + (runN (l.drop a) - 3) = runN (l.drop a) from by omega]
   exact Y7t l 0 a _ (by omega) fun i hi => by rw [h3 i (by omega)]; exact hc.1
  ·split
   ·rename_i hn1 hn2 hc
    refine ⟨?_, by dsimp only; omega, by show _ < 2 ^ 2; dsimp only; omega, fun e => hc.1⟩
    show l.take a ++ List.replicate (3 + (min (runN (l.drop a)) 6 - 3)) ((l.take a).getLastD 0) = _
    rw [show 3 + (min (runN (l.drop a)) 6 - 3) = min (runN (l.drop a)) 6 from by omega, Yp2 l a hc.1 (by omega), ← hc.2.1]
    exact Y7t l _ a _ (by omega) fun i hi => by rw [h3 i (by omega)]
   ·have e16 : l.getD a 0 ≠ 16 := by omega
    have e17 : l.getD a 0 ≠ 17 := by omega
    have e18 : l.getD a 0 ≠ 18 := by omega
    have w0 : wideV (l.getD a 0) = 0 := by unfold wideV; rw [if_neg e16, if_neg e17, if_neg e18]
    have t0 : timesV (l.getD a 0) = 1 := by unfold timesV; rw [if_neg e16, if_neg e17, if_neg e18]
    have v0 : valueV (l.getD a 0) (l.take a) = l.getD a 0 := by unfold valueV; rw [if_neg e16, if_neg e17, if_neg e18]
    refine ⟨?_, by dsimp only; omega, by dsimp only; rw [w0]; decide, fun e => absurd e e16⟩
    unfold Yrv
    dsimp only
    rw [t0, v0]
    exact Y7t l _ a 1 (by omega) fun i hi => by rw [show a + i = a from by omega]
theorem Yjf {l : List Nat} (h15 : ∀ x ∈ l, x ≤ 15) : ∀ (k a : Nat), l.length - a ≤ k → a ≤ l.length → Y5x (Y17 l a) (l.take a) = l ∧ ∀ op ∈ Y17 l a, op.1 < 19 ∧ op.2 < 2 ^ wideV op.1
 | 0, a, hk, ha => by
  rw [Y26 (by omega), Y5x]
  exact ⟨List.take_of_length_le (by omega), fun op h => by cases h⟩
 | k + 1, a, hk, ha => by
  by_cases h : a < l.length
  ·have hx : l.getD a 0 ≤ 15 := by
    rw [List.getD_eq_getElem?_getD, List.getElem?_eq_getElem h]
    exact h15 _ (List.getElem_mem h)
   obtain ⟨m1, m2, m3, _⟩ := Yhp h hx
   obtain ⟨p1, p2⟩ := Y5q h
   obtain ⟨i1, i2⟩ := Yjf h15 k (a + (Y0p l a).2) (by omega) (by omega)
   rw [Y31 h, Y5x, m1, i1]
   refine ⟨rfl, fun op ho => ?_⟩
   rcases List.mem_cons.1 ho with e | e
   ·rw [e]; exact ⟨m2, m3⟩
   ·exact i2 op e
  ·rw [Y26 h, Y5x]
   exact ⟨List.take_of_length_le (by omega), fun op h => by cases h⟩
theorem Yae {l : List Nat} (h15 : ∀ x ∈ l, x ≤ 15) : Y5x (Y17 l 0) [] = l ∧ ∀ op ∈ Y17 l 0, op.1 < 19 ∧ op.2 < 2 ^ wideV op.1 := by
 have := Yjf h15 l.length 0 (by omega) (by omega)
 rwa [List.take_zero] at this
theorem Yta {l : List Nat} (h15 : ∀ x ∈ l, x ≤ 15) : ∀ op r, Y17 l 0 = op :: r → op.1 ≠ 16 := by
 intro op r h e
 by_cases h0 : 0 < l.length
 ·rw [Y31 h0] at h
  injection h with h1 h2
  have hx : l.getD 0 0 ≤ 15 := by
   rw [List.getD_eq_getElem?_getD, List.getElem?_eq_getElem h0]
   exact h15 _ (List.getElem_mem h0)
  have := (Yhp h0 hx).2.2.2 (by rw [h1]; exact e)
  omega
 ·rw [Y26 h0] at h
  cases h
theorem Yk7 (s : Nat) (h16 : s ≠ 16) : ∀ (ops : List (Nat × Nat)) (all : List Nat), (∀ op ∈ ops, op.1 = s) → (∀ x ∈ all, x = valueV s []) → ∀ x ∈ Y5x ops all, x = valueV s []
 | [], all, h, ha => ha
 | op :: ops, all, h, ha => by
  rw [Y5x]
  refine Yk7 s h16 ops _ (fun o ho => h o (List.mem_cons_of_mem _ ho)) fun x hx => ?_
  unfold Yrv at hx
  rcases List.mem_append.1 hx with e | e
  ·exact ha x e
  ·have e1 := (List.mem_replicate.1 e).2
   rw [e1, h op List.mem_cons_self]
   unfold valueV
   rw [if_neg h16, if_neg h16]
theorem Ypf {l : List Nat} (h15 : ∀ x ∈ l, x ≤ 15) (h4 : 4 ≤ l.length) (hn : ∃ x ∈ l, x ≠ 0) : ∃ p ∈ Y17 l 0, ∃ q ∈ Y17 l 0, p.1 ≠ q.1 := by
 refine Classical.byContradiction fun hno => ?_
 have h0 : 0 < l.length := by omega
 have hx0 : l.getD 0 0 ≤ 15 := by
  rw [List.getD_eq_getElem?_getD, List.getElem?_eq_getElem h0]
  exact h15 _ (List.getElem_mem h0)
 have hm := Y31 h0
 have hall : ∀ q ∈ Y17 l 0, q.1 = (Y0p l 0).1.1 := fun q hq => Classical.byContradiction fun hne => hno ⟨(Y0p l 0).1, by rw [hm]; exact List.mem_cons_self, q, hq, fun e => hne e.symm⟩
 have h16 : (Y0p l 0).1.1 ≠ 16 := fun e => by
  have := (Yhp h0 hx0).2.2.2 e
  omega
 have hv := Yk7 _ h16 (Y17 l 0) [] hall (fun x hx => by cases hx)
 rw [(Yae h15).1] at hv
 obtain ⟨r1, r2, r3, r4⟩ := Y8u h0
 rw [Nat.zero_add] at r2 r4
 have heq : ∀ i, i < l.length → l.getD i 0 = valueV (Y0p l 0).1.1 [] := fun i hi => by
  rw [List.getD_eq_getElem?_getD, List.getElem?_eq_getElem hi]
  exact hv _ (List.getElem_mem hi)
 have hrun : runN (l.drop 0) = l.length := by
  rcases Nat.lt_or_ge (runN (l.drop 0)) l.length with hlt | hge
  ·exact absurd ((heq _ hlt).trans (heq 0 h0).symm) (r4 hlt)
  ·omega
 by_cases hz : l.getD 0 0 = 0
 ·obtain ⟨x, hx, hne⟩ := hn
  exact hne ((hv x hx).trans ((heq 0 h0).symm.trans hz))
 ·have hm0 : Y0p l 0 = ((l.getD 0 0, 0), 1) := by
   unfold Y0p
   rw [if_neg (fun h => hz h.1), if_neg (fun h => hz h.1), if_neg (fun h => by omega)]
  have h1 : 1 < l.length := by omega
  obtain ⟨q1, q2, q3, q4⟩ := Y8u h1
  have hrun1 : 1 + runN (l.drop 1) = l.length := by
   rcases Nat.lt_or_ge (1 + runN (l.drop 1)) l.length with hlt | hge
   ·exact absurd ((heq _ hlt).trans (heq 1 h1).symm) (q4 hlt)
   ·omega
  have e10 : l.getD 1 0 = l.getD 0 0 := (heq 1 h1).trans (heq 0 h0).symm
  have hm1 : (Y0p l 1).1.1 = 16 := by
   unfold Y0p
   rw [if_neg (fun h => hz (e10 ▸ h.1)), if_neg (fun h => hz (e10 ▸ h.1)), if_pos ⟨by omega, e10, by omega⟩]
  have hin : (Y0p l 1).1 ∈ Y17 l 0 := by
   rw [hm, hm0, Y31 (show 0 + 1 < l.length from h1)]
   exact List.mem_cons_of_mem _ List.mem_cons_self
  have := hall _ hin
  rw [hm1, hm0] at this
  dsimp only at this
  omega
end Go.Proofs.YtkkfkmoikcmhoaaGreat.Df
namespace Go.Proofs.YtkkfkmoikcmhoaaGreat.Hf
open Go.RowKit Oct Bit
set_option maxRecDepth 20000
theorem Yg7 (n : Nat) (w : World) (h : n ≤ 30) : Calls Tryz.prog 139 #[.int .i64 (n : Int)] w fun e w' => e = .returned (.int .u64 ((share n : Nat) : Int)) ∧ w = w' := by
 have e : (1073741824 : Int) / 2 ^ n = ((share n : Nat) : Int) := by
  have : (1073741824 : Int) = ((2 ^ n * share n : Nat) : Int) := by rw [Y7n n h]; rfl
  rw [this, Int.natCast_mul]
  have h2 : (2 : Int) ^ n = ((2 ^ n : Nat) : Int) := by simp
  rw [h2]
  exact Int.mul_ediv_cancel_left _ (by have : 0 < 2 ^ n := Nat.pow_pos (by omega); omega)
 rw [← e]; clear e
 go_enter Tryz.func139, Tryz.ntmps139
 go_wp2
 go_ret
 exact ⟨rfl, rfl⟩
def Yba (f : Nat → Nat) : Array Value := ((List.range 31).map fun j => Value.int .i64 (f j : Int)).toArray
def Y9b (f : Nat → Nat) : Array Value := ((List.range 31).map fun j => Value.int .u64 (f j : Int)).toArray
theorem Yrc (f : Nat → Nat) : (Yba f).size = 31 := by simp [Yba]
theorem Yb8 (f : Nat → Nat) : (Y9b f).size = 31 := by simp [Y9b]
theorem Yrd : Yba (fun _ => 0) = Array.replicate 31 (.int .i64 0) := by rfl
theorem Yre : Y9b (fun _ => 0) = Array.replicate 31 (.int .u64 0) := by rfl
theorem Ykc (f : Nat → Nat) : (Y9b f).all (·.oneCell') = true := by
 refine all_oneCell_toArray fun v hv => ?_
 simp at hv
 obtain ⟨_, _, rfl⟩ := hv
 rfl
theorem Yrf {V : Nat → Value} (f : Nat → Nat) (j v : Nat) : ((List.range 31).map fun i => V (f i)).set j (V v) = (List.range 31).map fun i => V (if i = j then v else f i) := by
 apply List.ext_getElem
 ·simp
 ·intro i h1 h2
  rw [List.getElem_set]
  simp
  by_cases h : j = i
  ·simp [h]
  ·rw [if_neg h, if_neg (fun e => h e.symm)]
theorem Yux (f : Nat → Nat) (j v : Nat) : (Yba f).setIfInBounds j (.int .i64 (v : Int)) = Yba (fun i => if i = j then v else f i) := by
 unfold Yba
 rw [List.setIfInBounds_toArray]
 congr 1
 exact Yrf (V := fun n => .int .i64 (n : Int)) f j v
theorem Ykd (f : Nat → Nat) (j v : Nat) : (Y9b f).setIfInBounds j (.int .u64 (v : Int)) = Y9b (fun i => if i = j then v else f i) := by
 unfold Y9b
 rw [List.setIfInBounds_toArray]
 congr 1
 exact Yrf (V := fun n => .int .u64 (n : Int)) f j v
theorem Y2k {W : World} {d : Nat} {cs : Array Value} {T : TypeId} (h : W.heap[d]? = some (.cells cs T (0, 0))) (i : Nat) (v : Value) : (W.setCell ⟨d, i, none⟩ v).heap[d]? = some (.cells (cs.setIfInBounds i v) T (0, 0)) := by
 simp [World.setCell, Array.getElem?_modify, h]
theorem Y4p {W : World} {d e : Nat} {x : Option Obj} (h : W.heap[d]? = x) (hne : e ≠ d) (i : Nat) (v : Value) : (W.setCell ⟨e, i, none⟩ v).heap[d]? = x := by
 rw [← h]
 exact Below.heap_setCell _ _ _ _ (fun e' => hne e'.symm)
theorem Y23 {W : World} {d : Nat} {cs : Array Value} {T : TypeId} (h : W.heap[d]? = some (.cells cs T (0, 0))) (i : Nat) : W.frozen? ⟨d, i, none⟩ = false := by
 simp [World.frozen?, h]
theorem Ygn {W : World} {d : Nat} {f : Nat → Nat} {T : TypeId} (h : W.heap[d]? = some (.cells (Yba f) T (0, 0))) (j : Nat) (hj : j < 31) : W.cell? ⟨d, j, none⟩ = some (.int .i64 (f j : Int)) := by
 simp [World.cell?, h, Yba, hj]
theorem Yb7 {W : World} {d : Nat} {f : Nat → Nat} {T : TypeId} (h : W.heap[d]? = some (.cells (Y9b f) T (0, 0))) (j : Nat) (hj : j < 31) : W.cell? ⟨d, j, none⟩ = some (.int .u64 (f j : Int)) := by
 simp [World.cell?, h, Y9b, hj]
theorem Yei {W : World} {d : Nat} {cs : Array Value} {T : TypeId} (h : W.heap[d]? = some (.cells cs T (0, 0))) : W.rangeAt d 0 cs.toList := by
 intro j v hv
 rw [Nat.zero_add]
 simp at hv
 simp [World.cell?, h, hv]
theorem Yga (L : List Nat) (k : Nat) : startN L k ≤ k * (L.length * 1073741824) := by
 induction k with
 | zero => simp [startN]
 | succ k ih =>
  have h1 : L.count k ≤ L.length := List.count_le_length
  have h2 : share k ≤ 1073741824 := by unfold share; exact Nat.pow_le_pow_right (n := 2) (by omega) (show 30 - k ≤ 30 by omega)
  have h3 : L.count k * share k ≤ L.length * 1073741824 := Nat.mul_le_mul h1 h2
  rw [Nat.add_mul]
  simp only [startN]
  split <;> omega
def Y32 (L : List Nat) (k j : Nat) : Nat := if j < k then startN L j else 0
theorem Ymj (L : List Nat) (k : Nat) : (fun i => if i = k then startN L k else Y32 L k i) = Y32 L (k + 1) := by
 funext i
 unfold Y32
 by_cases h : i = k
 ·subst h; simp
 ·by_cases h2 : i < k
  ·rw [if_neg h, if_pos h2, if_pos (by omega)]
  ·rw [if_neg h, if_neg h2, if_neg (by omega)]
theorem Ymi (L : List Nat) : Y32 L 1 = fun _ => 0 := by
 funext j
 unfold Y32
 split
 ·rename_i h
  rw [show j = 0 by omega]
  rfl
 ·rfl
theorem Y9j {B b : Nat} (hb : B ≤ b) : ∀ (vs : List Value) (o : Nat) (w w' : World), Below B w w' → Below B w (w'.setCells b o vs)
 | [], _, _, _, h => h
 | v :: vs, o, w, w', h => Y9j hb vs (o + 1) w _ (h.setCell (p := ⟨b, o, none⟩) hb v)
theorem Ynm {W : World} {d : Nat} {cs : Array Value} {T : TypeId} (h : W.heap[d]? = some (.cells cs T (0, 0))) : W.there d 0 cs.size := by
 intro j hj
 rw [Nat.zero_add]
 exact ⟨by simp [World.cell?, h, hj], Y23 h j⟩
structure StM (W : World) (n : Nat) (L : List Nat) (k : Nat) : Prop where
 b0 : W.heap[n]? = some (.cells (Yba (fun j => L.count j)) 201 (0, 0))
 b1 : W.heap[n + 1]? = some (.cells (Y9b (Y32 L k)) 202 (0, 0))
theorem StM.put {W : World} {n k : Nat} {L : List Nat} (h : StM W n L k) : StM (W.setCell ⟨n + 1, k, none⟩ (.int .u64 ((startN L k : Nat) : Int))) n L (k + 1) := by
 refine ⟨Y4p h.b0 (by omega) _ _, ?_⟩
 rw [Y2k h.b1, Ykd, Ymj]
theorem Tryz.size31u : (Tryz.prog.info? 202).map (·.size) = some 31 := by kernel_rfl
theorem Tryz.size31 : (Tryz.prog.info? 201).map (·.size) = some 31 := by kernel_rfl
def Yvv (w : World) (L : List Nat) (e : Ending) (w' : World) : Prop := e = .returned (.tuple #[.agg (Y9b (Y32 L 31)), .int .u64 ((startN L 31 : Nat) : Int)]) ∧ Below w.heap.size w w'
set_option maxHeartbeats 1000000 in
theorem Yml (L : List Nat) (w : World) (h : L.length ≤ 100000) : Calls Tryz.prog 137 #[.agg (Yba (fun j => L.count j))] w (Yvv w L) := by
 have hB0 : Below w.heap.size w ((w.alloc (.cells (Yba (fun j => L.count j)) 201)).alloc (.cells (Y9b (Y32 L 1)) 202)) := ((Below.refl _ w).alloc (Nat.le_refl _) _).alloc (by simp) _
 have hM0 : StM ((w.alloc (.cells (Yba (fun j => L.count j)) 201)).alloc (.cells (Y9b (Y32 L 1)) 202)) w.heap.size L 1 := ⟨by
  show ((w.heap.push _).push _)[w.heap.size]? = _
  simp [Array.getElem?_push], by
  show ((w.heap.push _).push _)[w.heap.size + 1]? = _
  rw [show w.heap.size + 1 = (w.heap.push (.cells (Yba (fun j => L.count j)) 201 (0, 0))).size from by simp, Array.getElem?_push_size]⟩
 rw [Ymi, Yre] at hB0 hM0
 simp only [show Array.replicate 31 (Value.int .u64 0) = #[Value.int .u64 0, .int .u64 0, .int .u64 0, .int .u64 0, .int .u64 0, .int .u64 0, .int .u64 0, .int .u64 0, .int .u64 0, .int .u64 0, .int .u64 0, .int .u64 0, .int .u64 0, .int .u64 0, .int .u64 0, .int .u64 0, .int .u64 0, .int .u64 0, .int .u64 0, .int .u64 0, .int .u64 0, .int .u64 0, .int .u64 0, .int .u64 0, .int .u64 0, .int .u64 0, .int .u64 0, .int .u64 0, .int .u64 0, .int .u64 0, .int .u64 0] from rfl] at hB0 hM0
 have HB0 := Lib.hid hB0
 have HM0 := Lib.hid hM0
 obtain ⟨cs, hcs⟩ : ∃ cs, cs = Yba (fun j => L.count j) := ⟨_, rfl⟩
 rw [← hcs] at HB0 HM0 ⊢
 have HCS := Lib.hid hcs
 clear hB0 hM0 hcs
 go_enter Tryz.func137, Tryz.ntmps137
 go_wp2_with fail
 go_loopw [3, 4] (fun t n wr => ∃ k : Nat, 1 ≤ k ∧ k ≤ 31 ∧ n = .int .i64 (k : Int) ∧ t = .int .u64 ((startN L k : Nat) : Int) ∧ Hid (StM wr w.heap.size L k) ∧ Hid (Below w.heap.size w wr)) (fun _ n _ => 31 - (intOf n).toNat)
 case atStart => exact ⟨1, by omega, by omega, rfl, by rw [Y66]; rfl, HM0, HB0⟩
 case round =>
  obtain ⟨k, hk1, hk2, rfl, rfl, HM, HB⟩ := hrel
  by_cases hlt : k ≤ 30
  ·have hd : decide ((k : Int) ≤ 30) = true := by simp; omega
   have i0 : (0 : Int) ≤ (k : Int) := by omega
   have i1 : (k : Int) < 31 := by omega
   have c1 := Yb7 HM.out.b1 k (by omega)
   have f1 := Y23 HM.out.b1 k
   have HM2 := Lib.hid HM.out.put
   have HB2 := Lib.hid (HB.out.setCell (p := ⟨w.heap.size + 1, k, none⟩) (by simp) (.int .u64 ((startN L k : Nat) : Int)))
   generalize Y32 L k k = old at c1
   go_wp2_with fail
   have c2 := Ygn HM2.out.b0 k (by omega)
   have hs := fun j => Yg7 k ((wr.setCell ⟨w.heap.size + 1, k, none⟩ (.int .u64 ((startN L k : Nat) : Int))).drewN j) hlt
   have HS := Lib.hid hs
   have hbd : startN L (k + 1) ≤ 31 * (100000 * 1073741824) := Nat.le_trans (Yga L (k + 1)) (Nat.mul_le_mul (by omega) (Nat.mul_le_mul_right _ h))
   have hsc := Y3m L k (by omega)
   have hcc : L.count k ≤ L.length := List.count_le_length
   have HE := Lib.hid (show (startN L k : Int) + ((L.count k * share k : Nat) : Int) = ((startN L (k + 1) : Nat) : Int) by rw [hsc]; simp)
   have hp : ((L.count k : Nat) : Int) * ((share k : Nat) : Int) = ((L.count k * share k : Nat) : Int) := by simp
   have hpb : L.count k * share k ≤ 4000000000000000 := by omega
   have hsb : startN L k ≤ 4000000000000000 := by omega
   generalize L.count k * share k = p at hp hpb hsc HE
   generalize hc : L.count k = c at c2 hp hcc
   generalize share k = sh at HS hp
   generalize hst : startN L k = st at *
   clear hs hbd hsc
   go_quiet ((go_at_call 139; exact quietly (HS.out _)))
   go_wp2_with fail
   go_roundw
   case rel => exact ⟨k + 1, by omega, by omega, by go_num, by rw [HE.out], Lib.hid ⟨HM2.out.b0, HM2.out.b1⟩, Lib.hid ((Below.trans HB2.out ⟨rfl, rfl, rfl, Nat.le_refl _, fun _ _ => rfl⟩))⟩
   case measure => simp [intOf]; omega
  ·have hke : k = 31 := by omega
   subst hke
   have hd : decide ((31 : Int) ≤ 30) = false := by simp
   obtain ⟨fs, hfs⟩ : ∃ fs, fs = Y9b (Y32 L 31) := ⟨_, rfl⟩
   have hfz : fs.size = 31 := by rw [hfs, Yb8]
   have hb1 := HM.out.b1
   have hf1 : fs.all (·.oneCell') = true := by rw [hfs]; exact Ykc _
   rw [← hfs] at hb1
   have HFS := Lib.hid hfs
   have hr := Yei hb1
   have ht := Ynm hb1
   have HR2 := Lib.hid (World.rangeAt_setCells_same wr (w.heap.size + 1) 0 fs.toList (by simpa using ht))
   have HB2 := Lib.hid (Y9j (Nat.le_succ w.heap.size) fs.toList 0 w wr HB.out)
   have hi1 : (Tryz.prog.info? 202).map (·.size) = some fs.toList.length := by rw [Tryz.size31u, Array.length_toList, hfz]
   have hi2 : (Tryz.prog.info? 202).map (·.size) = some fs.size := by rw [Tryz.size31u, hfz]
   have HT := Lib.hid ht
   have HR := Lib.hid hr
   have HF1 := Lib.hid hf1
   have HI1 := Lib.hid hi1
   have HI2 := Lib.hid hi2
   clear ht hr hfs hb1 hfz hf1 hi1 hi2
   go_wp2_with (first | (refine wpList_load_mid rfl 202 _ rfl (w.heap.size + 1) 0 rfl fs.toList _ HR.out Tryz.underlying202 rfl HI1.out ?_) | (refine wpList_store_mid rfl 202 _ _ rfl (w.heap.size + 1) 0 fs rfl rfl HT.out HI2.out HF1.out ?_))
   refine bodyPost_ret (v := .tuple #[.agg fs, .int .u64 ((startN L 31 : Nat) : Int)]) ?_ rfl ⟨by rw [HFS.out], HB2.out⟩
   have hld := run_loadVar_mid (P := Tryz.prog) (wr.setCells (w.heap.size + 1) 0 fs.toList) (w.heap.size + 1) 0 202 fs.toList _ HR2.out Tryz.underlying202 rfl HI1.out
   rw [results_cell_tmp rfl]
   have ha : ∀ W : World, (asAddr (.pointer (some ⟨w.heap.size + 1, 0, none⟩))).run Tryz.prog W = .ok ⟨w.heap.size + 1, 0, none⟩ W := fun _ => rfl
   refine Eq.trans (congrArg (fun r : Result Addr => r.andThen _) (ha _)) ?_
   show (Sem.run Tryz.prog (loadVar 202 ⟨w.heap.size + 1, 0, none⟩) (wr.setCells (w.heap.size + 1) 0 fs.toList)).andThen _ = _
   rw [hld]
   rfl
theorem Yv1 (v k i : Nat) (h : i < (word v k).length) : (word v k)[i] = (v / 2 ^ (k - 1 - i) % 2 == 1) := by
 induction k generalizing i with
 | zero => simp [word] at h
 | succ k ih =>
  rcases i with _ | i
  ·simp [word]
  ·simp only [word, List.getElem_cons_succ]
   rw [ih i (by simpa [word] using h), show k + 1 - 1 - (i + 1) = k - 1 - i by omega]
theorem Ymv (p n i : Nat) (hn : n ≤ 30) (h : i < (Y1g p n).length) : (Y1g p n)[i] = (p / 2 ^ (29 - i) % 2 == 1) := by
 have hi : i < n := by rwa [Y0h] at h
 refine (Yv1 (p / share n) n i (by rw [Y15]; exact hi)).trans ?_
 rw [Nat.div_div_eq_div_mul]
 unfold share
 rw [← Nat.pow_add, show 30 - n + (n - 1 - i) = 29 - i by omega]
theorem Yw1 (p i : Nat) (b : Bool) (hb : b = (p / 2 ^ (29 - i) % 2 == 1)) (hp : p < 18446744073709551616) : (48 + bits .and .u64 ((p : Int) / 2 ^ (29 - i)) 1) % 256 = ((dig b).toNat : Int) := by
 have e : ((p : Int) / 2 ^ (29 - i)) = ((p / 2 ^ (29 - i) : Nat) : Int) := by push_cast; rfl
 have hq : p / 2 ^ (29 - i) ≤ p := Nat.div_le_self _ _
 rw [e, Yey, hb, Yeg, show (1 : Int) = ((1 : Nat) : Int) from rfl, u64_and_nat _ _ (by omega) (by omega), Nat.and_one_is_mod]
 omega
set_option maxHeartbeats 1000000 in
theorem Yct (p n : Nat) (w : World) (hn : n ≤ 30) (hp : p < 18446744073709551616) : Calls Tryz.prog 138 #[.int .u64 (p : Int), .int .i64 (n : Int)] w fun e w' => e = .returned (.string (ds (Y1g p n))) ∧ Below w.heap.size w w' := by
 obtain ⟨i0, hi, hz0, hz1, hz2⟩ := info_parts Tryz.infoByte
 obtain ⟨ps, hps⟩ : ∃ ps, ps = (Y1g p n).map dig := ⟨_, rfl⟩
 have hpl : ps.length = n := by rw [hps, List.length_map, Y0h]
 have HPS := Lib.hid hps
 have HPL := Lib.hid hpl
 clear hps hpl
 go_enter Tryz.func138, Tryz.ntmps138
 go_wp2_with (at_make; refine wpList_make_full _ rfl _ _ 22 rfl w.heap.size 5 i0 (.int .u8 0) 1 Tryz.underlying22 hi hz0 hz1 .i64 .i64 (n : Int) (n : Int) n rfl rfl rfl rfl ?c2 ?c3 ?c4 ?_)
 case c2 => rw [hz2]; omega
 case c3 => unfold maxLen; omega
 case c4 => omega
 intro w1 hown hgrow
 have hg0 := Y2j hown
 have hb1 : Below w.heap.size w w1 := (Below.refl _ _).grown hgrow (Nat.le_refl _) (fun k hk => by cases hk)
 have hP : Blk w1 w.heap.size (Y69 ps 0) := by
  unfold Blk
  rw [Ybr, HPL.out, ← Yfo]
  simpa using hg0
 have HP := Lib.hid hP
 have HB1 := Lib.hid hb1
 clear hown hgrow hg0 hb1 hP
 go_wp2_with fail
 go_loopw [6, 10] (fun u i wr => ∃ k : Nat, k ≤ n ∧ i = .int .i64 (k : Int) ∧ Hid (Blk wr w.heap.size (Y69 ps k)) ∧ Hid (Below w.heap.size w wr)) (fun _ i _ => n - (intOf i).toNat)
 case atStart => exact ⟨0, by omega, rfl, HP, HB1⟩
 case round =>
  obtain ⟨k, hk, rfl, HP, HB⟩ := hrel
  by_cases hlt : k < n
  ·have hd : decide ((k : Int) < (n : Int)) = true := by simp; omega
   have i0' : (0 : Int) ≤ (k : Int) := by omega
   have i1' : (k : Int) < (n : Int) := by omega
   have hlen : k < ps.length := by rw [HPL.out]; exact hlt
   have hfl : k < (Y69 ps k).length := by rw [Y5i _ _ (by omega)]; exact hlen
   have hc := HP.out.cell k hfl
   have hfz := HP.out.frozen k
   generalize (Y69 ps k)[k] = old at hc
   have hbit := Yw1 p k ((Y1g p n)[k]'(by rw [Y0h]; exact hlt)) (Ymv p n k hn _) hp
   have hpk : dig ((Y1g p n)[k]'(by rw [Y0h]; exact hlt)) = ps[k] := by
    have : ∀ h, ps[k]'h = dig ((Y1g p n)[k]'(by rw [Y0h]; exact hlt)) := by rw [HPS.out]; intro h; simp
    exact (this hlen).symm
   rw [hpk] at hbit
   have hs1 : (29 : Int) - (k : Int) = ((29 - k : Nat) : Int) := by omega
   have hs2 : 29 - k < 64 := by omega
   have HBIT := Lib.hid hbit
   have HS := Lib.hid (HP.out.set_ k ps[k])
   rw [Ybq _ _ hlen] at HS
   have HB2 := Lib.hid (HB.out.setCell (p := ⟨w.heap.size, k, none⟩) (Nat.le_refl _) (.int .u8 (ps[k].toNat : Int)))
   clear hpk hbit hfl
   go_wp2_with fail
   rw [HBIT.out]
   go_roundw
   case rel => exact ⟨k + 1, by omega, by go_num, HS, HB2⟩
   case measure => simp [intOf]; omega
  ·have hke : k = n := by omega
   subst hke
   have hd : decide ((k : Int) < (k : Int)) = false := by simp
   have HPZ := HP.out.row
   rw [← HPL.out, Yf0] at HPZ
   have hcv := Y5y k k HPZ HPL.out
   rw [HPS.out] at hcv
   have HCV := Lib.hid hcv
   clear hcv HPZ
   have hcv : (convert 22 9 (.slice (some ⟨w.heap.size, 0, none⟩) k k)).run Tryz.prog wr = .ok (.string (ds (Y1g p k))) wr := HCV.out
   go_wp2_with fail
   go_ret
   exact ⟨rfl, HB.out⟩
end Go.Proofs.YtkkfkmoikcmhoaaGreat.Hf
namespace Go.Proofs.YtkkfkmoikcmhoaaGreat.Df
open Go.RowKit Oct Bit Hf Inf
set_option maxRecDepth 100000
theorem Ywr (F : List Nat) (n s : Nat) (hs : s < F.length) (h1 : F.getD s 0 ≤ n) (h2 : ∀ i, s < i → i < F.length → n < F.getD i 0) : Y3h F n (F.length - 1) = s := by
 have hgo : ∀ k, s ≤ k → k < F.length → Y3h F n k = s := by
  intro k
  induction k with
  | zero => intro hk _; rw [Y3h]; omega
  | succ k ih =>
   intro hk hl
   rw [Y3h]
   by_cases hq : s = k + 1
   ·subst hq
    rw [if_neg (by omega)]
   ·rw [if_pos (h2 (k + 1) (by omega) hl)]
    exact ih (by omega) (by omega)
 exact hgo _ (by omega) (by omega)
theorem Y0q (x : Int) (h1 : -9223372036854775808 ≤ x) (h2 : x < 9223372036854775808) : wrap64 x = x := by
 unfold wrap64
 omega
theorem Y29 {w w1 w2 : World} (h : Drawn w w1) (h2 : Drawn w1 w2) : Drawn w w2 := by
 obtain ⟨n, rfl⟩ := h2
 exact h.more n
theorem Yn7 (W : World) (g1 g2 b n cap i F v : Nat) (h1 : W.cell? ⟨g1, 0, none⟩ = some (.slice (some ⟨b, 0, none⟩) n cap)) (h2 : W.cell? ⟨g2, 0, none⟩ = some (.int .i64 (v : Int)))
  (hf : W.cell? ⟨b, i * 2, none⟩ = some (.int .i64 (F : Int))) (hi : i < n) :
  Calls Tryz.prog 135 #[.int .i64 (i : Int), .pointer (some ⟨g1, 0, none⟩), .pointer (some ⟨g2, 0, none⟩)] W fun e w' => e = .returned (.bool (decide (v < F))) ∧ Drawn W w' := by
 have i0 : (0 : Int) ≤ (i : Int) := by omega
 have i1 : (i : Int) < (n : Int) := by omega
 have hd : decide ((v : Int) < (F : Int)) = decide (v < F) := by rw [decide_eq_decide]; omega
 have HD := Lib.hid hd
 clear hd hi
 go_enter Tryz.func135, Tryz.ntmps135
 go_wp2_with fail
 go_quiet (fail)
 go_wp2_with fail
 go_ret
 exact ⟨rfl, ⟨_, rfl⟩⟩
structure Srch (far : Bool) (v lo hi : Nat) : Prop where
 le : lo ≤ hi
 top : hi ≤ (froms far).length
 lo1 : ∀ i, i < lo → (froms far).getD i 0 ≤ v
 hi1 : ∀ i, hi ≤ i → i < (froms far).length → v < (froms far).getD i 0
theorem Ybs : ∀ far : Bool, ∀ i, i < (froms far).length → ∀ j, j < i → (froms far).getD j 0 ≤ (froms far).getD i 0 := by decide +kernel
theorem Srch.up {far : Bool} {v lo hi m : Nat} (h : Srch far v lo hi) (hm : lo ≤ m ∧ m < hi) (hf : ¬ v < (froms far).getD m 0) : Srch far v (m + 1) hi :=
 ⟨by omega, h.top, fun i hi2 => by
  by_cases e : i = m
  ·rw [e]; omega
  ·have := Ybs far m (by have := h.top; omega) i (by omega)
   omega, h.hi1⟩
theorem Srch.down {far : Bool} {v lo hi m : Nat} (h : Srch far v lo hi) (hm : lo ≤ m ∧ m < hi) (hf : v < (froms far).getD m 0) : Srch far v lo m :=
 ⟨hm.1, by have := h.top; omega, h.lo1, fun i h1 h2 => by
  by_cases e : i = m
  ·rw [e]; exact hf
  ·have := Ybs far i h2 m (by omega)
   omega⟩
theorem Srch.done {far : Bool} {v s : Nat} (h : Srch far v s s) (h0 : least1 far ≤ v) : s = placeN far v + 1 := by
 have hl : 0 < (froms far).length := by cases far <;> decide
 have hs : s ≠ 0 := fun e => by
  have := h.hi1 0 (by omega) hl
  have hz : (froms far).getD 0 0 = least1 far := by cases far <;> rfl
  omega
 have := Ywr (froms far) v (s - 1) (by have := h.top; omega) (h.lo1 _ (by omega)) (fun i h1 h2 => h.hi1 i (by omega) h2)
 unfold placeN
 omega
set_option maxHeartbeats 1000000 in
theorem Ymc (W : World) (g1 g2 b n cap v : Nat) (far : Bool) (h1 : W.cell? ⟨g1, 0, none⟩ = some (.slice (some ⟨b, 0, none⟩) n cap)) (h2 : W.cell? ⟨g2, 0, none⟩ = some (.int .i64 (v : Int))) (ht : Ymz W b far) (hn : n = (froms far).length) (h0 : least1 far ≤ v) (s : Nat) (hs : s = placeN far v + 1) :
  Calls Tryz.prog 136 #[.int .i64 (n : Int), .func (.func 135) #[] #[.pointer (some ⟨g1, 0, none⟩), .pointer (some ⟨g2, 0, none⟩)]] W fun e w' => e = .returned (.int .i64 (s : Int)) ∧ Drawn W w' := by
 have HF : Hid (∀ (W' : World) (i : Nat), Drawn W W' → i < n → Calls Tryz.prog 135 #[.int .i64 (i : Int), .pointer (some ⟨g1, 0, none⟩), .pointer (some ⟨g2, 0, none⟩)] W' fun e w' => e = .returned (.bool (decide (v < (froms far).getD i 0))) ∧ Drawn W' w') :=
  Lib.hid fun W' i hd hi => by
   obtain ⟨k, rfl⟩ := hd
   exact Yn7 _ g1 g2 b n cap i _ v h1 h2 ((ht i (by omega)).1) hi
 have HI : Hid (Srch far v 0 n) := Lib.hid ⟨Nat.zero_le _, by omega, fun i hi => by omega, fun i hi hl => by omega⟩
 have HDN := Lib.hid (fun t (h : Srch far v t t) => (h.done h0).trans hs.symm)
 have hn30 : n ≤ 30 := by rw [hn]; cases far <;> decide
 clear h1 h2 ht hn h0 hs
 go_enter Tryz.func136, Tryz.ntmps136
 go_wp2_with fail
 go_loopw [5, 6] (fun s5 s6 wr => ∃ lo hi : Nat, s5 = .int .i64 (lo : Int) ∧ s6 = .int .i64 (hi : Int) ∧ lo ≤ hi ∧ hi ≤ n ∧ Hid (Srch far v lo hi) ∧ Drawn W wr) (fun s5 s6 _ => (intOf s6).toNat - (intOf s5).toNat)
 case atStart => exact ⟨0, n, rfl, rfl, by omega, by omega, HI, ⟨0, rfl⟩⟩
 case round =>
  obtain ⟨lo, hi, rfl, rfl, hlh, hhn, HS, hdr⟩ := hrel
  clear HI
  by_cases hlt : lo < hi
  ·have hlz : (lo : Int) < (hi : Int) := by omega
   have hc := HF.out wr ((lo + hi) / 2) hdr (by omega)
   rw [show (((lo + hi) / 2 : Nat) : Int) = ((lo : Int) + (hi : Int)) / 2 by omega] at hc
   by_cases hp : v < (froms far).getD ((lo + hi) / 2) 0
   ·have HS2 := Lib.hid (HS.out.down ⟨by omega, by omega⟩ hp)
    rw [decide_eq_true hp] at hc
    have HDR := Lib.hid hdr
    clear hp hdr
    go_wp2_with fail
    refine hc.mono ?_
    rintro e w' ⟨rfl, hd2⟩
    have HD2 := Lib.hid (Y29 HDR.out hd2)
    clear hc hd2
    go_wp2_with fail
    go_roundw
    case rel => exact ⟨lo, (lo + hi) / 2, rfl, by first | rfl | (congr 1; omega), by omega, by omega, HS2, HD2.out⟩
    case measure => simp [intOf]; omega
   ·have HS2 := Lib.hid (HS.out.up (m := (lo + hi) / 2) ⟨by omega, by omega⟩ hp)
    rw [decide_eq_false hp] at hc
    have HDR := Lib.hid hdr
    clear hp hdr
    go_wp2_with fail
    refine hc.mono ?_
    rintro e w' ⟨rfl, hd2⟩
    have HD2 := Lib.hid (Y29 HDR.out hd2)
    clear hc hd2
    go_wp2_with fail
    go_roundw
    case rel => exact ⟨(lo + hi) / 2 + 1, hi, by first | rfl | (congr 1; omega), rfl, by omega, by omega, HS2, HD2.out⟩
    case measure => simp [intOf]; omega
  ·have hlz : ¬ (lo : Int) < (hi : Int) := by omega
   have hhl : hi = lo := by omega
   subst hhl
   have hfin := HDN.out _ HS.out
   subst hfin
   have HDR := Lib.hid hdr
   clear hdr
   go_wp2_with fail
   go_ret
   exact ⟨rfl, HDR.out⟩
def Mk (w : World) (d : Nat) (x y z : Value) : Prop := w.heap[d]? = some (.cells #[x, y, z] 166 (0, 0))
section
variable {w w' : World} {d : Nat} {x y z : Value}
theorem Mk.c0 (h : Mk w d x y z) : w.cell? ⟨d, 0, none⟩ = some x := by unfold Mk at h; simp [World.cell?, h]
theorem Mk.c1 (h : Mk w d x y z) : w.cell? ⟨d, 1, none⟩ = some y := by unfold Mk at h; simp [World.cell?, h]
theorem Mk.c2 (h : Mk w d x y z) : w.cell? ⟨d, 2, none⟩ = some z := by unfold Mk at h; simp [World.cell?, h]
theorem Mk.fz (h : Mk w d x y z) (j : Nat) : w.frozen? ⟨d, j, none⟩ = false := by unfold Mk at h; simp [World.frozen?, h]
theorem Mk.put (h : Mk w d x y z) (a b c : Value) : Mk (((w.setCell ⟨d, 0, none⟩ a).setCell ⟨d, 1, none⟩ b).setCell ⟨d, 2, none⟩ c) d a b c := Y2k (Y2k (Y2k h 0 a) 1 b) 2 c
theorem Mk.below {B : Nat} (h : Mk w d x y z) (hb : Below B w w') (hd : d < B) : Mk w' d x y z := (hb.block d hd).trans h
theorem Mk.lt (h : Mk w d x y z) : d < w.heap.size := by
 rcases Nat.lt_or_ge d w.heap.size with hlt | hge
 ·exact hlt
 ·unfold Mk at h; rw [Array.getElem?_eq_none hge] at h; cases h
end
theorem Y1n {w w' : World} {B d : Nat} (hb : Below B w w') (hd : B ≤ d) (a b c : Value) : Below B w (((w'.setCell ⟨d, 0, none⟩ a).setCell ⟨d, 1, none⟩ b).setCell ⟨d, 2, none⟩ c) := ((hb.setCell hd _).setCell hd _).setCell hd _
theorem Ytz {Q : Ending → World → Prop} {act : Act} {F : World} {d : Nat} {x y z : Value} (hm : Mk F d x y z) (h4 : act.tmps[4]?.getD undef = .pointer (some ⟨d, 0, none⟩)) (hd : act.defers = [])
  (h : Q (.returned (.agg #[x, y, z])) F) : bodyPost Tryz.prog Tryz.f105 Q .ret act F := by
 have q0 := hm.c0
 have q1 := hm.c1
 have q2 := hm.c2
 refine bodyPost_ret (v := .agg #[x, y, z]) ?_ hd h
 simp [results, Tryz.results105, go_sem, h4, q0, q1, q2]
def Ypd (far : Bool) (v : Nat) : Value := .agg #[.int .i64 (placeN far v : Int), .int .i64 ((v - (froms far).getD (placeN far v) 0 : Nat) : Int), .int .i64 (((extras far).getD (placeN far v) 0 : Nat) : Int)]
def MarkP (w : World) (far : Bool) (v : Nat) (e : Ending) (w' : World) : Prop := e = .returned (Ypd far v) ∧ Below w.heap.size w w'
set_option maxHeartbeats 1000000 in
theorem Y61 (w : World) (b n cap v : Nat) (far : Bool) (ht : Ymz w b far) (hb : b < w.heap.size) (hn : n = (froms far).length) (h0 : least1 far ≤ v) (hv : v ≤ 100000) :
  Calls Tryz.prog 105 #[.slice (some ⟨b, 0, none⟩) n cap, .int .i64 (v : Int)] w (MarkP w far v) := by
 have hp := Y16 far v
 have hlow := Yat far v h0
 obtain ⟨wa, hwa⟩ : ∃ wa, wa = w.alloc (.cells #[.slice (some ⟨b, 0, none⟩) n cap] 53) := ⟨_, rfl⟩
 obtain ⟨wb, hwb⟩ : ∃ wb, wb = wa.alloc (.cells #[.int .i64 (v : Int)] 3) := ⟨_, rfl⟩
 obtain ⟨w3, hw3⟩ : ∃ w3, w3 = wb.alloc (.cells #[.int .i64 0, .int .i64 0, .int .i64 0] 166) := ⟨_, rfl⟩
 have za : wa.heap.size = w.heap.size + 1 := by rw [hwa]; simp
 have zb : wb.heap.size = w.heap.size + 2 := by rw [hwb]; simp [za]
 have hz : w3.heap.size = w.heap.size + 3 := by rw [hw3]; simp [zb]
 have ba : Below w.heap.size w wa := by rw [hwa]; exact (Below.refl _ w).alloc (Nat.le_refl _) _
 have bb : Below wa.heap.size wa wb := by rw [hwb]; exact (Below.refl _ wa).alloc (Nat.le_refl _) _
 have b3 : Below wb.heap.size wb w3 := by rw [hw3]; exact (Below.refl _ wb).alloc (Nat.le_refl _) _
 have hb3 : Below w.heap.size w w3 := (ba.trans (bb.mono (by omega))).trans (b3.mono (by omega))
 have ht3 := Y7r ht (hb3.block b hb)
 have o1 : wa.heap[w.heap.size]? = some (.cells #[.slice (some ⟨b, 0, none⟩) n cap] 53 (0, 0)) := by rw [hwa]; exact Array.getElem?_push_size
 have o2 : wb.heap[w.heap.size + 1]? = some (.cells #[.int .i64 (v : Int)] 3 (0, 0)) := by rw [← za, hwb]; exact Array.getElem?_push_size
 have hblk : w3.heap[w.heap.size + 2]? = some (.cells #[.int .i64 0, .int .i64 0, .int .i64 0] 166 (0, 0)) := by rw [← zb, hw3]; exact Array.getElem?_push_size
 have o1' : w3.heap[w.heap.size]? = some (.cells #[.slice (some ⟨b, 0, none⟩) n cap] 53 (0, 0)) := (b3.block _ (by omega)).trans ((bb.block _ (by omega)).trans o1)
 have o2' : w3.heap[w.heap.size + 1]? = some (.cells #[.int .i64 (v : Int)] 3 (0, 0)) := (b3.block _ (by omega)).trans o2
 have k1 : w3.cell? ⟨w.heap.size, 0, none⟩ = some (.slice (some ⟨b, 0, none⟩) n cap) := by simp [World.cell?, o1']
 have k2 : w3.cell? ⟨w.heap.size + 1, 0, none⟩ = some (.int .i64 (v : Int)) := by simp [World.cell?, o2']
 rw [hwb, hwa] at hw3
 clear hwa hwb za zb ba bb b3 o1 o2 o1' o2'
 obtain ⟨s, hs⟩ : ∃ s, s = placeN far v + 1 := ⟨_, rfl⟩
 obtain ⟨i, hi⟩ : ∃ i, i = placeN far v := ⟨_, rfl⟩
 have hse : (s : Int) - 1 = (i : Int) := by omega
 obtain ⟨f1, f2⟩ := ht3 i (by omega)
 have HSR := Lib.hid (Ymc w3 w.heap.size (w.heap.size + 1) b n cap v far k1 k2 ht3 hn h0 s hs)
 have i0 : (0 : Int) ≤ (i : Int) := by omega
 have i1 : (i : Int) < (n : Int) := by omega
 have hwi : wrap64 (i : Int) = (i : Int) := Y0q _ (by omega) (by have : (froms far).length ≤ 30 := (by cases far <;> decide); omega)
 have hwv : wrap64 ((v : Int) - (((froms far).getD i 0 : Nat) : Int)) = (v : Int) - (((froms far).getD i 0 : Nat) : Int) := Y0q _ (by rw [hi]; omega) (by omega)
 rw [← hi] at hlow
 have hRES : Ypd far v = .agg #[.int .i64 (i : Int), .int .i64 ((v : Int) - (((froms far).getD i 0 : Nat) : Int)), .int .i64 (((extras far).getD i 0 : Nat) : Int)] := by
  unfold Ypd
  rw [← hi, Int.natCast_sub hlow]
 have hF : (froms far).getD i 0 ≤ 100000 := by omega
 have HRES := Lib.hid hRES
 have HB3 := Lib.hid hb3
 have HW3 := Lib.hid hw3
 generalize (froms far).getD i 0 = F at f1 hRES HRES hF hwv
 generalize (extras far).getD i 0 = X at f2 hRES HRES
 clear hRES ht3 ht hn hp hlow h0 hs hi hb3 hw3
 go_enter Tryz.func105, Tryz.ntmps105
 go_wp2_with fail
 rw [← HW3.out]
 refine HSR.out.mono ?_
 rintro e w' ⟨rfl, k, rfl⟩
 have f1' : (w3.drewN k).cell? ⟨b, i * 2, none⟩ = some (.int .i64 (F : Int)) := f1
 have f2' : (w3.drewN k).cell? ⟨b, i * 2 + 1, none⟩ = some (.int .i64 (X : Int)) := f2
 have k1' : (w3.drewN k).cell? ⟨w.heap.size, 0, none⟩ = some (.slice (some ⟨b, 0, none⟩) n cap) := k1
 have k2' : (w3.drewN k).cell? ⟨w.heap.size + 1, 0, none⟩ = some (.int .i64 (v : Int)) := k2
 have hblk' : (w3.drewN k).heap[w.heap.size + 2]? = some (.cells #[.int .i64 0, .int .i64 0, .int .i64 0] 166 (0, 0)) := hblk
 have hz' : (w3.drewN k).heap.size = w.heap.size + 3 := hz
 have HB' := Lib.hid (HB3.out.trans ((show Drawn w3 (w3.drewN k) from ⟨k, rfl⟩).below _))
 generalize w3.drewN k = W at *
 have hmk : Mk W (w.heap.size + 1 + 1) (.int .i64 0) (.int .i64 0) (.int .i64 0) := hblk'
 have r0 := hmk.c0
 have r1 := hmk.c1
 have r2 := hmk.c2
 have rf := fun j => hmk.fz j
 have hp3 := hmk.put (.int .i64 (i : Int)) (.int .i64 ((v : Int) - (F : Int))) (.int .i64 (X : Int))
 have hbp := Y1n HB'.out (show w.heap.size ≤ w.heap.size + 1 + 1 by omega) (.int .i64 (i : Int)) (.int .i64 ((v : Int) - (F : Int))) (.int .i64 (X : Int))
 have HP := Lib.hid (hp3.below ((Below.refl _ _).alloc (Nat.le_refl _) (.cells #[.int .i64 (F : Int), .int .i64 (X : Int)] 102)) hp3.lt)
 have HBP := Lib.hid (hbp.alloc hbp.size (.cells #[.int .i64 (F : Int), .int .i64 (X : Int)] 102))
 clear hmk hp3 hbp hblk'
 clear k1 k2 f1 f2 hblk HSR HW3 HB3
 go_wp2_with fail
 refine Ytz HP.out rfl rfl ⟨?_, HBP.out⟩
 rw [HRES.out]
end Go.Proofs.YtkkfkmoikcmhoaaGreat.Df

/- IfQ, DfM, ZlV, ZlD, BitA, BitC, BitD: merged. -/
import Derived.Lib.SliceRun
import Derived.Test.YtkkfkmoikcmhoaaGreatPaa
import Derived.Test.YtkkfkmoikcmhoaaGreatPab
import Derived.Test.YtkkfkmoikcmhoaaGreatPag
import Derived.Test.YtkkfkmoikcmhoaaGreatPah
set_option linter.unusedVariables false
set_option linter.unusedSimpArgs false
namespace Go.Proofs.YtkkfkmoikcmhoaaGreat.Inf
open Bit Hf
def Y1d (A B : List (List Bool)) (L : List Bool) (most at_ : Nat) (out : List UInt8) : R (List UInt8) := Y5h A B L most (L.length + 1 - at_) at_ out
theorem Yep (A B : List (List Bool)) (L : List Bool) (most f at_ : Nat) (out : List UInt8) (h : at_ ≤ L.length) (hf : L.length < f + at_) : Y5h A B L most f at_ out = Y1d A B L most at_ out :=
 Y2t A B L most f _ at_ out h hf (by omega)
theorem Y5s (A B : List (List Bool)) (L : List Bool) (most at_ : Nat) (out : List UInt8) (h : at_ ≤ L.length) : Y1d A B L most at_ out = (Y1p A L at_).then fun v a =>
  if v = 256 then .ok (out, a)
  else if v < 256 then (if most ≤ out.length then .error 8 else Y1d A B L most a (out ++ [UInt8.ofNat v]))
  else (Y1r false L (v - 257) a).then fun n a => (Y1p B L a).then fun k a => (Y1r true L k a).then fun d a =>
   if out.length < d then .error 3 else if most < out.length + n then .error 8 else Y1d A B L most a (Y2e out d n) := by
 unfold Y1d
 rw [show L.length + 1 - at_ = (L.length - at_) + 1 from by omega, Y5h]
 refine Y0e fun v a hv => ?_
 have h1 := Yqa hv
 have h2 := (Y45 A at_).le h hv
 split
 ·rfl
 ·split
  ·split
   ·rfl
   ·exact Y2t A B L most _ _ a _ h2.2 (by omega) (by omega)
  ·refine Y0e fun n b hb => ?_
   have h3 := (Y3j false _ a).le h2.2 hb
   refine Y0e fun k c hc => ?_
   have h4 := (Y45 B b).le h3.2 hc
   refine Y0e fun d e he => ?_
   have h5 := (Y3j true k c).le h4.2 he
   split
   ·rfl
   ·split
    ·rfl
    ·exact Y2t A B L most _ _ e _ h5.2 (by omega) (by omega)
theorem Yfj (W : List (List Bool)) (n : Nat) (L : List Bool) : ∀ (f g at_ : Nat) (all : List Nat), n < f + all.length → n < g + all.length → 1 ≤ f → 1 ≤ g → Yan W n L f at_ all = Yan W n L g at_ all
 | 0, g, at_, all, hf, hg, h1, h2 => by omega
 | f + 1, 0, at_, all, hf, hg, h1, h2 => by omega
 | f + 1, g + 1, at_, all, hf, hg, h1, h2 => by
  rw [Yan, Yan]
  by_cases hn : n ≤ all.length
  ·rw [if_pos hn, if_pos hn]
  ·rw [if_neg hn, if_neg hn]
   refine Y0e fun v a hv => ?_
   split
   ·rfl
   ·refine Y0e fun m b hb => Yfj W n L f g b _ ?_ ?_ (by omega) (by omega)
    ·have := Y3n v
     simp
     omega
    ·have := Y3n v
     simp
     omega
def Y66 (W : List (List Bool)) (n : Nat) (L : List Bool) (at_ : Nat) (all : List Nat) : R (List Nat) := Yan W n L (n + 1 - all.length) at_ all
theorem Yfh (W : List (List Bool)) (n : Nat) (L : List Bool) (at_ : Nat) (all : List Nat) (h : all.length = n) : Y66 W n L at_ all = .ok (all, at_) := by
 unfold Y66
 rw [show n + 1 - all.length = 0 + 1 from by omega, Yan, if_pos (by omega), if_pos h]
theorem Yjn (W : List (List Bool)) (n : Nat) (L : List Bool) (at_ : Nat) (all : List Nat) (h : all.length < n) : Y66 W n L at_ all = (Y1p W L at_).then fun v a =>
  if v = 16 ∧ all = [] then .error 3
  else (Y1k L a (wideV v)).then fun more a =>
   if n < all.length + (Y3v v + more) then .error 3 else Y66 W n L a (all ++ List.replicate (Y3v v + more) (Y4h v all)) := by
 unfold Y66
 rw [show n + 1 - all.length = (n - all.length) + 1 from by omega, Yan, if_neg (by omega)]
 refine Y0e fun v a hv => ?_
 split
 ·rfl
 ·refine Y0e fun m b hb => ?_
  have := Y3n v
  split
  ·rename_i hc
   rw [show n - all.length = (n - all.length - 1) + 1 from by omega, Yan, if_pos (by simp; omega), if_neg (by simp; omega)]
  ·exact Yfj W n L _ _ b _ (by simp; omega) (by simp; omega) (by omega) (by simp; omega)
def Ygr (L : List Bool) (most at_ : Nat) (out : List UInt8) : R (List UInt8) :=
 (Y6e L at_).then fun n a =>
  if n.1 > 286 ∨ n.2.1 > 30 then .error 3
  else (Y8q L n.2.2 0 a (List.replicate 19 0)).then fun l a => withW (Y1z l false) fun W =>
   (Y66 W (n.1 + n.2.1) L a []).then fun all a =>
    if all.getD 256 0 = 0 then .error 3
    else withW (Y1z (all.take n.1) false) fun A => withW (Y1z (all.drop n.1) true) fun B => Y1d A B L most a out
def Yce (L : List Bool) (most h at_ : Nat) (out : List UInt8) : R (List UInt8) :=
 if h / 2 = 0 then Y25 L most at_ out
 else if h / 2 = 1 then Y1d (Y04 Y0l) (Y04 Y0m) L most at_ out
 else if h / 2 = 2 then Ygr L most at_ out
 else .error 3
theorem Yia (L : List Bool) (most f h at_ : Nat) (out : List UInt8) (ha : at_ ≤ L.length) (hf : L.length < f) : Yyn L most f h at_ out = Yce L most h at_ out := by
 unfold Yyn Yce
 split
 ·rfl
 ·split
  ·exact Yep _ _ L most f at_ out ha (by omega)
  ·split
   ·unfold Yw8 Ygr
    refine Y0e fun n a hn => ?_
    have h1 := (Yaj at_).le ha hn
    split
    ·rfl
    ·refine Y0e fun l b hb => ?_
     have h2 := (Y9j _ 0 a _).le h1.2 hb
     refine Y30 fun W => Y0e fun all c hc => ?_
     have h3 := (Y9i W _ _ b []).le h2.2 hc
     split
     ·rfl
     ·exact Y30 fun A => Y30 fun B => Yep A B L most f c out h3.2 (by omega)
   ·rfl
def Y2v (L : List Bool) (most at_ : Nat) (out : List UInt8) : R (List UInt8) := Y9c L most (L.length + 1) (L.length + 1 - at_) at_ out
theorem Y9k (L : List Bool) (most at_ : Nat) (out : List UInt8) (h : at_ ≤ L.length) : Y2v L most at_ out = (Y1k L at_ 3).then fun v a => (Yce L most v a out).then fun o a =>
  if v % 2 = 1 then .ok (o, a) else Y2v L most a o := by
 unfold Y2v
 rw [show L.length + 1 - at_ = (L.length - at_) + 1 from by omega, Y9c]
 refine Y0e fun v a hv => ?_
 have h1 := Yww hv
 have h2 := (Y70 at_ 3).le h hv
 rw [← Yia L most (L.length + 1) v a out h2.2 (by omega)]
 refine Y0e fun o b hb => ?_
 have h3 := (Yai most (L.length + 1) v a out).le h2.2 hb
 split
 ·rfl
 ·exact Yak L most _ _ (by omega) (by omega) _ _ b o h3.2 (by omega) (by omega)
theorem Y3k (xs : List UInt8) (most : Nat) : inflate xs most = (match Y2v (Y02 true xs) most 0 [] with
  | .ok (o, a) => .ok (o, (a + 7) / 8)
  | .error e => .error e) := by
 unfold inflate Y2v
 rw [Y03, Nat.sub_zero]
 rfl
end Go.Proofs.YtkkfkmoikcmhoaaGreat.Inf
namespace Go.Proofs.YtkkfkmoikcmhoaaGreat.Df
open Bit Hf Oct Inf
def conv (t : Lzt.Tok) : Tok := ⟨t.lit, t.len, t.dist⟩
theorem Yez (d : Nat) : ∀ (n : Nat) (out : List UInt8), Lzt.Y2e out d n = Y2e out d n
 | 0, out => rfl
 | n + 1, out => by rw [Lzt.Y2e, Y2e]; exact Yez d n _
theorem Yb6 {most : Int} {lim : Nat} (hl : most ≤ (lim : Int)) : ∀ (l : List Lzt.Tok) (out o : List UInt8), Lzt.Y8l most l out = .ok o → Y2k lim (l.map conv) out = some o
 | [], out, o, h => by cases h; rfl
 | t :: l, out, o, h => by
  rcases hs : Lzt.Y5d most t out with e | o1
  ·rw [Lzt.Yad hs] at h; cases h
  ·rw [Lzt.Yae hs] at h
   have ih := Yb6 hl l o1 o h
   have h2 := Lzt.Yis hs
   unfold Lzt.Y5d at hs
   rw [List.map_cons, Y2k]
   by_cases h0 : t.len = 0
   ·rw [if_pos h0] at hs
    rw [if_pos (show (conv t).len = 0 from h0)]
    split at hs
    ·cases hs
    ·cases hs; exact ih
   ·rw [if_neg h0] at hs
    rw [if_neg (show ¬ (conv t).len = 0 from h0)]
    split at hs
    ·cases hs
    ·rename_i hc
     split at hs
     ·cases hs
     ·rename_i hd
      split at hs
      ·cases hs
      ·cases hs
       rw [if_neg (by show ¬ (t.len < 3 ∨ 258 < t.len ∨ t.dist < 1 ∨ (out.length : Int) < t.dist ∨ 32768 < t.dist ∨ lim < out.length); omega)]
       rw [Yez] at ih
       exact ih
theorem Ylb (L : List Nat) (h30 : ∀ n ∈ L, n ≤ 30) (hT : startN L 31 ≤ 1073741824) (i : Nat) (hi : i < L.length) (h1 : 1 ≤ L[i]) : Fre (Y04 L) i := by
 have hi' : i < (Y04 L).length := by rw [Y0c]; exact hi
 have hg : (Y04 L).getD i [] = (Y04 L)[i] := by rw [List.getD_eq_getElem?_getD, List.getElem?_eq_getElem hi']; rfl
 have hl := Y2a L i hi' hi
 have h30' : ∀ j (h : j < L.length), L[j] ≤ 30 := fun j h => h30 _ (List.getElem_mem h)
 refine ⟨?_, fun j v hj hp hv => ?_⟩
 ·rw [hg]
  intro e
  rw [e] at hl
  simp at hl
  omega
 ·obtain ⟨hj1, hj2⟩ := List.getElem?_eq_some_iff.1 hj
  have hj3 : j < L.length := by rw [Y0c] at hj1; exact hj1
  have hlj := Y2a L j hj1 hj3
  have hj4 : 1 ≤ L[j] := by
   rw [← hlj, hj2]
   exact List.length_pos_iff.2 hv
  refine Classical.byContradiction fun hne => ?_
  refine Y8h L h30' hT j i hj3 hi hne (by omega) ?_
  rw [← Y2u L j hj1 hj3, ← Y2u L i hi' hi, hj2, ← hg]
  exact hp
def Ybw (A B : List (List Bool)) (t : Tok) : Prop := if t.len = 0 then Fre A t.lit.toNat else Fre A (257 + placeN false t.len.toNat) ∧ Fre B (placeN true t.dist.toNat)
theorem Y7e {A B : List (List Bool)} {L : List Bool} {most : Nat} {rest : List Bool} {o : List UInt8} {lim : Nat} (h256 : Fre A 256) (ho : o.length ≤ most) :
  ∀ (l : List Tok) (out : List UInt8) (a : Nat), (∀ t ∈ l, Ybw A B t) → Y2k lim l out = some o → L.drop a = Y26 A B l ++ rest → a ≤ L.length → Y1d A B L most a out = .ok (o, a + (Y26 A B l).length)
 | [], out, a, hu, hr, hd, ha => by
  cases hr
  rw [Y26] at hd
  rw [Y5s A B L most a _ ha, Yas h256 hd, R.then_ok, if_pos rfl, Y26]
 | t :: l, out, a, hu, hr, hd, ha => by
  have hu2 : ∀ t ∈ l, Ybw A B t := fun t' ht => hu t' (List.mem_cons_of_mem _ ht)
  have hut := hu t List.mem_cons_self
  unfold Ybw at hut
  rw [Y2k] at hr
  rw [Y26, List.append_assoc] at hd
  by_cases h0 : t.len = 0
  ·rw [if_pos h0] at hr hut
   have hg := Y2y l _ o hr
   simp at hg
   have hlt : t.lit.toNat < 256 := t.lit.toNat_lt
   rw [Yej, if_pos h0] at hd
   have hle := Y0t hd ha
   rw [Y5s A B L most a out ha, Yas hut hd, R.then_ok, if_neg (by omega), if_pos hlt, if_neg (by omega), UInt8.ofNat_toNat,
    Y7e h256 ho l _ _ hu2 hr (Y0j hd) hle, Y26, Yej, if_pos h0, List.length_append, Nat.add_assoc]
  ·rw [if_neg h0] at hr hut
   split at hr
   ·cases hr
   ·rename_i hc
    have hg := Y2y l _ o hr
    rw [Y1m] at hg
    rw [Yej, if_neg h0] at hd
    simp only [List.append_assoc] at hd
    have hp1 := Y16 false t.len.toNat
    have hp2 := Y16 true t.dist.toNat
    have e1 : (froms false).length = 29 := rfl
    have e2 : (froms true).length = 30 := rfl
    have a1 := Y0t hd ha
    have d1 := Y0j hd
    have a2 := Y0t d1 a1
    have d2 := Y0j d1
    have a3 := Y0t d2 a2
    have d3 := Y0j d2
    have a4 := Y0t d3 a3
    have d4 := Y0j d3
    rw [Y5s A B L most a out ha, Yas hut.1 hd, R.then_ok, if_neg (by omega), if_neg (by omega), Nat.add_sub_cancel_left,
     Yfr (far := false) (by show 3 ≤ _; omega) (by show _ ≤ 258; omega) d1 a1, R.then_ok, Yas hut.2 d2, R.then_ok,
     Yfr (far := true) (by show 1 ≤ _; omega) (by show _ ≤ 32768; omega) d3 a3, R.then_ok, if_neg (by omega), if_neg (by omega),
     Y7e h256 ho l _ _ hu2 hr d4 a4, Y26, Yej, if_neg h0]
    simp only [List.length_append, Nat.add_assoc]
theorem Yda {L r : List Bool} {most a h b : Nat} {out o : List UInt8} (hd : L.drop a = Y07 true h 3 ++ r) (ha : a ≤ L.length) (h8 : h < 8) (hone : Yce L most h (a + 3) out = .ok (o, b)) :
  Y2v L most a out = if h % 2 = 1 then .ok (o, b) else Y2v L most b o := by
 rw [Y9k L most a out ha, Yfq hd ha h8, R.then_ok, hone, R.then_ok]
def Ynl (last : Bool) (ys : List UInt8) : List UInt8 := [if last then 1 else 0, UInt8.ofNat ys.length, UInt8.ofNat (ys.length / 256), UInt8.ofNat (65535 - ys.length), UInt8.ofNat ((65535 - ys.length) / 256)] ++ ys
theorem Y1u (last : Bool) (ys : List UInt8) : (Ynl last ys).length = ys.length + 5 := by simp [Ynl]
theorem Ybg (last : Bool) (ys : List UInt8) (h : ys.length < 65536) : Y02 true (Ynl last ys) = Y07 true (if last then 1 else 0) 3 ++ (zs 5 ++ (Y07 true ys.length 16 ++ (Y07 true (65535 - ys.length) 16 ++ Y02 true ys))) := by
 have e : Ynl last ys = [if last then 1 else 0] ++ [UInt8.ofNat ys.length, UInt8.ofNat (ys.length / 256)] ++ [UInt8.ofNat (65535 - ys.length), UInt8.ofNat ((65535 - ys.length) / 256)] ++ ys := rfl
 rw [e, Y0o, Y0o, Y0o, word16 _ h, word16 (65535 - ys.length) (by omega)]
 simp only [List.append_assoc]
 cases last <;> rfl
theorem Yit {L r : List Bool} {most k : Nat} {last : Bool} {ys out : List UInt8} (hd : L.drop (8 * k) = Y02 true (Ynl last ys) ++ r) (ha : 8 * k ≤ L.length) (hy : ys.length < 65536) (hm : out.length + ys.length ≤ most) :
  Y2v L most (8 * k) out = if last then .ok (out ++ ys, 8 * (k + (ys.length + 5))) else Y2v L most (8 * (k + (ys.length + 5))) (out ++ ys) := by
 rw [Ybg last ys hy] at hd
 simp only [List.append_assoc] at hd
 have a1 := Y0t hd ha
 have d1 := Y0j hd
 rw [Y00] at a1 d1
 have a2 := Y0t d1 a1
 have d2 := Y0j d1
 rw [Y0a] at a2 d2
 have a3 := Y0t d2 a2
 have d3 := Y0j d2
 rw [Y00] at a3 d3
 have a4 := Y0t d3 a3
 have d4 := Y0j d3
 rw [Y00] at a4 d4
 have ha8 : (8 * k + 3 + 7) / 8 * 8 = 8 * k + 3 + 5 := by omega
 have hst : Y25 L most (8 * k + 3) out = .ok (out ++ ys, 8 * (k + (ys.length + 5))) := by
  unfold Y25
  rw [X14 (n := ys.length) (m := 65535 - ys.length) (by rw [ha8]; exact d2) (by rw [ha8]; exact a2) hy (by omega), R.then_ok, if_pos (by show ys.length + (65535 - ys.length) = 65535; omega), ha8]
  rw [Yj7 ys _ out (by rw [show 8 * k + 3 + 5 + 32 = 8 * k + 3 + 5 + 16 + 16 from by omega]; exact d4) (by omega) hm]
  congr 2
  omega
 rw [Yda hd ha (by cases last <;> decide) (b := 8 * (k + (ys.length + 5))) (o := out ++ ys) (by
  unfold Yce
  rw [if_pos (by cases last <;> rfl)]
  exact hst)]
 cases last <;> rfl
def Y97 (xs : List UInt8) : List UInt8 :=
 if h : xs.length ≤ 65535 then Ynl true xs else Ynl false (xs.take 65535) ++ Y97 (xs.drop 65535)
termination_by xs.length
decreasing_by simp; omega
theorem Y2z (xs : List UInt8) (h : xs.length ≤ 65535) : Y97 xs = Ynl true xs := by rw [Y97, dif_pos h]
theorem Yvt (xs : List UInt8) (h : ¬ xs.length ≤ 65535) : ∃ K, K < 65536 ∧ 1 ≤ K ∧ K < xs.length ∧ Y97 xs = Ynl false (xs.take K) ++ Y97 (xs.drop K) :=
 ⟨65535, by decide, by decide, by omega, by rw [Y97, dif_neg h]⟩
theorem Yrq {L r : List Bool} {most : Nat} : ∀ (n : Nat) (xs : List UInt8) (k : Nat) (out : List UInt8), xs.length ≤ n → L.drop (8 * k) = Y02 true (Y97 xs) ++ r → 8 * k ≤ L.length → out.length + xs.length ≤ most →
  Y2v L most (8 * k) out = .ok (out ++ xs, 8 * (k + (Y97 xs).length))
 | 0, xs, k, out, hn, hd, ha, hm => by
  have hx : xs.length ≤ 65535 := by omega
  rw [Y2z xs hx] at hd ⊢
  rw [Yit hd ha (by omega) hm, if_pos rfl, Y1u]
 | n + 1, xs, k, out, hn, hd, ha, hm => by
  by_cases hx : xs.length ≤ 65535
  ·rw [Y2z xs hx] at hd ⊢
   rw [Yit hd ha (by omega) hm, if_pos rfl, Y1u]
  ·obtain ⟨K, hK1, hK2, hK3, hK⟩ := Yvt xs hx
   clear hx
   rw [hK] at hd ⊢
   have hl : (xs.take K).length = K := by rw [List.length_take]; omega
   have hm2 : (out ++ xs.take K).length + (xs.drop K).length ≤ most := by
    rw [List.length_append, hl, List.length_drop]
    omega
   have hn2 : (xs.drop K).length ≤ n := by
    rw [List.length_drop]
    omega
   have hy : (xs.take K).length < 65536 := by rw [hl]; exact hK1
   have hm1 : out.length + (xs.take K).length ≤ most := by rw [hl]; omega
   rw [Y0o, List.append_assoc] at hd
   have a1 := Y0t hd ha
   have d1 := Y0j hd
   rw [Y03, Y1u, hl] at a1 d1
   have e : 8 * k + 8 * (K + 5) = 8 * (k + (K + 5)) := by omega
   rw [e] at a1 d1
   have ih := Yrq n (xs.drop K) (k + (K + 5)) (out ++ xs.take K) hn2 d1 a1 hm2
   have h1 := Yit hd ha hy hm1
   rw [if_neg Bool.false_ne_true, hl] at h1
   rw [h1, ih, List.append_assoc, List.take_append_drop, List.length_append, Y1u, hl]
   congr 2
   omega
theorem Ygl (xs : List UInt8) (most : Nat) (hm : xs.length ≤ most) : inflate (Y97 xs) most = .ok (xs, (Y97 xs).length) := by
 rw [Y3k]
 have h := Yrq (L := Y02 true (Y97 xs)) (r := []) (most := most) xs.length xs 0 [] (Nat.le_refl _) (by rw [Nat.mul_zero, List.drop_zero, List.append_nil]) (Nat.zero_le _) (by rw [List.length_nil, Nat.zero_add]; exact hm)
 rw [show 8 * 0 = 0 from rfl] at h
 rw [h]
 simp only [List.nil_append, Nat.zero_add]
 congr 2
 omega
end Go.Proofs.YtkkfkmoikcmhoaaGreat.Df
namespace Go.Proofs.YtkkfkmoikcmhoaaGreat.Zl
open Go.RowKit Oct Inf
open Adl (sumN Beg Beg.of)
set_option maxRecDepth 100000
def X0d (w : World) (e : Ending) (w' : World) : Prop := e = .returned (.bool true) ∧ Below w.heap.size w w'
theorem Yki : Df.Y97 [] = [1, 0, 0, 255, 255] := by
 rw [Df.Y2z [] (by decide)]
 rfl
theorem Yn7 : Tells [1, 0, 0, 255, 255] [] := by
 intro most hm
 have := Df.Ygl [] most hm
 rwa [Yki] at this
theorem Yuz {fr : Bool} {w w' : World} {xs o : List UInt8} {most : Int} {e : Ending} {k n : Nat} (h : Y9q fr w xs most e w') (hz : Y7s xs most = .ok (o, k)) (hn : o.length = n) :
  Below w.heap.size w w' ∧ ∃ q c, e = .returned (.tuple #[.slice q n c, .int .i64 (k : Int), .int .i64 0]) ∧ Row w' q o ∧ (q = none → c = 0) ∧ n ≤ c ∧ c ≤ maxLen ∧ (fr = true → ∀ a, q = some a → w.heap.size ≤ a.block) := by
 subst hn
 rcases h.2 with ⟨o', k', q, c, h1, h2, h3, h4, h5, h6, _, h7⟩ | ⟨c, h1, _⟩
 ·rw [hz] at h1
  cases h1
  exact ⟨h.1, q, c, h2, h3, h4, h5, h6, h7⟩
 ·rw [hz] at h1; cases h1
theorem Yv2 {X : List UInt8 → Nat → List UInt8 → Prop} {w w' : World} {xs : List UInt8} {k : Nat} {e : Ending} (hk : k ≤ 2) (h : Y9r X w xs (k : Int) e w') :
  Below w.heap.size w w' ∧ ∃ ys g c N, N = ys.length + 6 ∧ X xs k ys ∧ e = .returned (.tuple #[.slice (some ⟨g, 0, none⟩) N c, .int .i64 0]) ∧ Beg w' g (Y40 ys xs) ∧ N ≤ c ∧ c ≤ maxLen ∧ w.heap.size ≤ g := by
 obtain ⟨hb, h | ⟨j, ys, g, c, N, hj, hj2, hX, hN, he, hr, h1, h2, h3⟩⟩ := h
 ·omega
 ·have : j = k := by omega
  subst this
  exact ⟨hb, ys, g, c, N, hN, hX, he, hr, h1, h2, h3⟩
theorem Yh3 : Y40 [1, 0, 0, 255, 255] [] = [120, 1, 1, 0, 0, 255, 255, 0, 0, 0, 1] := rfl
set_option maxHeartbeats 2000000 in
theorem Yuj (fr : Bool) (X : List UInt8 → Nat → List UInt8 → Prop) (w : World) (hX : ∀ ys, X [] 0 ys → ys = [1, 0, 0, 255, 255]) (hP : ∀ W : World, Calls Tryz.prog 10 #[.slice none 0 0, .int .i64 0] W (Y9r X W [] 0))
  (hO : ∀ (W : World) (g c : Nat), Row W (some ⟨g, 0, none⟩) [120, 1, 1, 0, 0, 255, 255, 0, 0, 0, 1] → 11 ≤ c → Calls Tryz.prog 8 #[.slice (some ⟨g, 0, none⟩) 11 c, .int .i64 0] W (Y9q fr W [120, 1, 1, 0, 0, 255, 255, 0, 0, 0, 1] 0)) :
  Calls Tryz.prog 7 #[] w (X0d w) := by
 have HP := Lib.hid hP
 have HO := Lib.hid hO
 have HX := Lib.hid hX
 have HT : Hid (Y7s [120, 1, 1, 0, 0, 255, 255, 0, 0, 0, 1] 0 = .ok ([], 11)) := Lib.hid (by
  have := Yqm (n := 0) Yn7 rfl []
  rw [Yh3] at this
  exact this)
 clear hP hO hX
 go_enter Tryz.func7, Tryz.ntmps7
 go_wp2_with fail
 refine (HP.out _).mono ?_
 rintro e w1 hres
 obtain ⟨hb1, ys, g, c, N, hN, hY, rfl, hbeg, h1, h2, h3⟩ := Yv2 (k := 0) (by omega) hres
 have hys := HX.out _ hY
 subst hys
 have hN11 : N = 11 := hN
 subst hN11
 have hrow := hbeg.row
 rw [Yh3] at hrow
 have HI := Lib.hid (HO.out w1 g c hrow h1)
 have HR := Lib.hid hrow
 have HB1 := Lib.hid hb1
 unfold maxLen at h2
 clear hrow hbeg hb1 hres hN hY HP HO
 go_wp2_with fail
 refine HI.out.mono ?_
 rintro e w2 hres
 obtain ⟨hb2, q2, c2, rfl, hr2, _⟩ := Yuz hres HT.out rfl
 have hconv := Y31 11 c (HR.out.below hb2) rfl
 have hbs : bs [120, 1, 1, 0, 0, 255, 255, 0, 0, 0, 1] = { data := #[120, 1, 1, 0, 0, 255, 255, 0, 0, 0, 1] } := rfl
 rw [hbs] at hconv
 have HB2 := Lib.hid (HB1.out.trans (hb2.mono HB1.out.size))
 clear hb2 hres hbs hr2 HI
 go_wp2_with fail
 go_ret
 exact ⟨rfl, HB2.out⟩
end Go.Proofs.YtkkfkmoikcmhoaaGreat.Zl
namespace Go.Proofs.YtkkfkmoikcmhoaaGreat.Zl
open Go.RowKit Oct Inf
open Adl (sumN Beg Beg.of)
set_option maxRecDepth 100000
theorem Yrg (ys xs : List UInt8) (w : World) (hx : xs.length ≤ 100000) (hy : ys.length ≤ 1000000) :
  Calls Tryz.prog 11 #[.string (bs [120, 1]), .string (bs ys), .string (bs xs)] w fun e w' => e = .returned (.string (bs (Y40 ys xs))) ∧ Below w.heap.size w w' := by
 have HS := Lib.hid (Adl.Yvo xs w hx)
 have hs := Ye9 xs
 obtain ⟨s, hss⟩ : ∃ s, s = sumN xs := ⟨_, rfl⟩
 have HSS := Lib.hid hss
 rw [← hss] at HS hs
 have HP := Lib.hid (Yr9 s w hs)
 have hall : bs [120, 1] ++ bs ys ++ bs (be4 s) = bs (Y40 ys xs) := by
  rw [Y3p, Y3p, hss]
  simp [Y40, Yh2]
 have z1 : (bs [120, 1]).size = 2 := rfl
 have z2 : (bs ys).size = ys.length := Y13 ys
 have z3 : (bs (be4 s)).size = 4 := Y13 _
 have z4 : (bs [120, 1] ++ bs ys).size = 2 + ys.length := by rw [Y3p, Y13]; simp; omega
 have HALL := Lib.hid hall
 clear hss hall
 generalize bs (be4 s) = S at *
 generalize bs [120, 1] = H at *
 generalize bs ys = Y at *
 generalize bs (Y40 ys xs) = W at *
 go_enter Tryz.func11, Tryz.ntmps11
 go_wp2_with fail
 refine HS.out.mono ?_
 rintro e w1 ⟨rfl, rfl⟩
 go_wp2_with fail
 refine HP.out.mono ?_
 rintro e w1 ⟨rfl, hb⟩
 have HB := Lib.hid hb
 clear hb
 go_wp2_with fail
 go_ret
 rw [HALL.out]
 exact ⟨rfl, HB.out⟩
end Go.Proofs.YtkkfkmoikcmhoaaGreat.Zl
namespace Go.Proofs.YtkkfkmoikcmhoaaGreat.Bit
open Go.RowKit Oct
def Only (S : Nat → Prop) (w w' : World) : Prop :=
 w'.os = w.os ∧ w'.tape = w.tape ∧ w'.output = w.output ∧ w.heap.size ≤ w'.heap.size ∧ ∀ k, k < w.heap.size → ¬ S k → w'.heap[k]? = w.heap[k]?
theorem Only.refl (S : Nat → Prop) (w : World) : Only S w w := ⟨rfl, rfl, rfl, Nat.le_refl _, fun _ _ _ => rfl⟩
theorem Only.trans {S : Nat → Prop} {a b c : World} (h : Only S a b) (k : Only S b c) : Only S a c :=
 ⟨k.1.trans h.1, k.2.1.trans h.2.1, k.2.2.1.trans h.2.2.1, Nat.le_trans h.2.2.2.1 k.2.2.2.1, fun i hi hs => (k.2.2.2.2 i (by have := h.2.2.2.1; omega) hs).trans (h.2.2.2.2 i hi hs)⟩
theorem Only.below {S : Nat → Prop} {B : Nat} {w w' : World} (h : Only S w w') (hB : B ≤ w.heap.size) (hS : ∀ k, k < B → ¬ S k) : Below B w w' :=
 ⟨h.1, h.2.1, h.2.2.1, h.2.2.2.1, fun k hk => h.2.2.2.2 k (by omega) (hS k hk)⟩
theorem Only.of_below {S : Nat → Prop} {w w' : World} (h : Below w.heap.size w w') : Only S w w' := ⟨h.os, h.tape, h.output, h.size, fun k hk _ => h.block k hk⟩
theorem Only.drawn (S : Nat → Prop) {w w' : World} (h : Drawn w w') : Only S w w' := by
 obtain ⟨n, rfl⟩ := h
 exact ⟨rfl, rfl, rfl, Nat.le_refl _, fun _ _ _ => rfl⟩
theorem Only.setCell {S : Nat → Prop} {w : World} {p : Addr} (hp : S p.block) (u : Value) : Only S w (w.setCell p u) :=
 ⟨rfl, rfl, rfl, by simp [World.setCell], fun k hk hs => Below.heap_setCell _ _ _ _ (fun e => hs (e ▸ hp))⟩
theorem Only.mono {S S' : Nat → Prop} {w w' : World} (h : Only S w w') (hs : ∀ k, k < w.heap.size → S k → S' k) : Only S' w w' :=
 ⟨h.1, h.2.1, h.2.2.1, h.2.2.2.1, fun k hk hn => h.2.2.2.2 k hk (fun e => hn (hs k hk e))⟩
def RowB (w : World) (g : Nat) (p : Option Addr) (xs : List UInt8) : Prop :=
 0 < xs.length → ∃ b off, p = some ⟨b, off, none⟩ ∧ b < g ∧ ∀ i (h : i < xs.length), w.cell? ⟨b, off + i, none⟩ = some (.int .u8 (xs[i].toNat : Int))
def Rd (w : World) (g : Nat) (p : Option Addr) (cap : Nat) (xs : List UInt8) (at_ : Nat) (low : Bool) : Prop :=
 w.heap[g]? = some (.cells #[.slice p xs.length cap, .int .i64 (at_ : Int), .bool low] 99 (0, 0)) ∧ RowB w g p xs ∧ at_ ≤ 8 * xs.length ∧ 8 * xs.length ≤ 2000000000000000
theorem Rd.c0 {w : World} {g : Nat} {p : Option Addr} {cap : Nat} {xs : List UInt8} {at_ : Nat} {low : Bool} (h : Rd w g p cap xs at_ low) : w.cell? ⟨g, 0, none⟩ = some (.slice p xs.length cap) := by
 simp [World.cell?, h.1]
theorem Rd.c1 {w : World} {g : Nat} {p : Option Addr} {cap : Nat} {xs : List UInt8} {at_ : Nat} {low : Bool} (h : Rd w g p cap xs at_ low) : w.cell? ⟨g, 1, none⟩ = some (.int .i64 (at_ : Int)) := by
 simp [World.cell?, h.1]
theorem Rd.c2 {w : World} {g : Nat} {p : Option Addr} {cap : Nat} {xs : List UInt8} {at_ : Nat} {low : Bool} (h : Rd w g p cap xs at_ low) : w.cell? ⟨g, 2, none⟩ = some (.bool low) := by
 simp [World.cell?, h.1]
theorem Rd.fz {w : World} {g : Nat} {p : Option Addr} {cap : Nat} {xs : List UInt8} {at_ : Nat} {low : Bool} (h : Rd w g p cap xs at_ low) (i : Nat) : w.frozen? ⟨g, i, none⟩ = false := by
 simp [World.frozen?, h.1]
theorem Rd.drawn {w w' : World} {g : Nat} {p : Option Addr} {cap : Nat} {xs : List UInt8} {at_ : Nat} {low : Bool} (h : Rd w g p cap xs at_ low) (hd : Drawn w w') : Rd w' g p cap xs at_ low := by
 obtain ⟨n, rfl⟩ := hd
 exact h
theorem Rd.lt {w : World} {g : Nat} {p : Option Addr} {cap : Nat} {xs : List UInt8} {at_ : Nat} {low : Bool} (h : Rd w g p cap xs at_ low) : g < w.heap.size := by
 rcases Nat.lt_or_ge g w.heap.size with hlt | hge
 ·exact hlt
 ·have := h.1; rw [Array.getElem?_eq_none hge] at this; cases this
theorem Rd.below {w w' : World} {B g : Nat} {p : Option Addr} {cap : Nat} {xs : List UInt8} {at_ : Nat} {low : Bool} (h : Rd w g p cap xs at_ low) (hb : Below B w w') (hg : g < B) : Rd w' g p cap xs at_ low := by
 refine ⟨(hb.block g hg).trans h.1, fun h0 => ?_, h.2.2⟩
 obtain ⟨b, off, e, hlt, hc⟩ := h.2.1 h0
 exact ⟨b, off, e, hlt, fun i hi => (hb.cell (p := ⟨b, off + i, none⟩) (by show b < B; omega)).trans (hc i hi)⟩
theorem Rd.put {w : World} {g : Nat} {p : Option Addr} {cap : Nat} {xs : List UInt8} {at_ : Nat} {low : Bool} (h : Rd w g p cap xs at_ low) (k : Nat) (hk : k ≤ 8 * xs.length) :
  Rd (w.setCell ⟨g, 1, none⟩ (.int .i64 (k : Int))) g p cap xs k low := by
 refine ⟨?_, fun h0 => ?_, hk, h.2.2.2⟩
 ·have := h.1
  simp [World.setCell, Array.getElem?_modify, this]
 ·obtain ⟨b, off, e, hlt, hc⟩ := h.2.1 h0
  refine ⟨b, off, e, hlt, fun i hi => ?_⟩
  rw [← hc i hi]
  exact World.cell?_of_block (w := w) (Below.heap_setCell _ _ _ _ (by show b ≠ g; omega))
def Y8j (n : Int) : Bool := decide (0 ≤ n ∧ n ≤ 32)
theorem Y37 (n : Int) (w : World) : Calls Tryz.prog 86 #[.int .i64 n] w fun e w' => e = .returned (.bool (Y8j n)) ∧ w = w' := by
 by_cases h0 : 0 ≤ n
 ·by_cases h1 : n ≤ 32
  ·have e : Y8j n = true := by simp [Y8j, h0, h1]
   rw [e]; clear e
   go_enter Tryz.func86, Tryz.ntmps86
   go_wp2
   go_ret
   exact ⟨rfl, rfl⟩
  ·have e : Y8j n = false := by simp [Y8j, h1]
   rw [e]; clear e
   have hd : decide (n ≤ 32) = false := by simpa using h1
   go_enter Tryz.func86, Tryz.ntmps86
   go_wp2
   go_ret
   exact ⟨rfl, rfl⟩
 ·have e : Y8j n = false := by simp [Y8j, h0]
  rw [e]; clear e
  have hd : decide (0 ≤ n) = false := by simpa using h0
  go_enter Tryz.func86, Tryz.ntmps86
  go_wp2
  go_ret
  exact ⟨rfl, rfl⟩
theorem Y35 (n : Nat) (w : World) (h : n ≤ 4000000000000000) : Calls Tryz.prog 99 #[.int .i64 (n : Int)] w fun e w' => e = .returned (.int .i64 (((n + 7) / 8 : Nat) : Int)) ∧ w = w' := by
 have e : (((n + 7) / 8 : Nat) : Int) = ((n : Int) + 7) / 8 := by omega
 rw [e]; clear e
 go_enter Tryz.func99, Tryz.ntmps99
 go_wp2
 go_ret
 exact ⟨rfl, rfl⟩
theorem Y7i (i count : Nat) (low : Bool) (w : World) (h : i < count) (hc : count ≤ 5) :
  Calls Tryz.prog 118 #[.int .i64 (i : Int), .int .i64 (count : Int), .bool low] w fun e w' => e = .returned (.int .i64 ((gsh low (8 * i) 8 (8 * count) : Nat) : Int)) ∧ w = w' := by
 cases low
 ·have e : ((gsh false (8 * i) 8 (8 * count) : Nat) : Int) = 8 * ((count : Int) - 1 - (i : Int)) := by simp only [gsh, Bool.false_eq_true, if_false]; omega
  rw [e]; clear e
  go_enter Tryz.func118, Tryz.ntmps118
  go_wp2
  go_ret
  exact ⟨rfl, rfl⟩
 ·have e : ((gsh true (8 * i) 8 (8 * count) : Nat) : Int) = 8 * (i : Int) := by simp [gsh]
  rw [e]; clear e
  go_enter Tryz.func118, Tryz.ntmps118
  go_wp2
  go_ret
  exact ⟨rfl, rfl⟩
theorem Y6s (ahead n : Nat) (low : Bool) (w : World) (ha : ahead < 8) (hn : n ≤ 32) :
  Calls Tryz.prog 119 #[.int .i64 (ahead : Int), .int .i64 (n : Int), .bool low] w fun e w' => e = .returned (.int .i64 ((gsh low ahead n (8 * cnt ahead n) : Nat) : Int)) ∧ w = w' := by
 cases low
 ·have e : ((gsh false ahead n (8 * cnt ahead n) : Nat) : Int) = 8 * (((cnt ahead n : Nat)) : Int) - (ahead : Int) - (n : Int) := by
   simp only [gsh, cnt, Bool.false_eq_true, if_false]; omega
  have hcn : cnt ahead n ≤ 5 := by unfold cnt; omega
  rw [e]; clear e
  go_enter Tryz.func119, Tryz.ntmps119
  go_wp2_with fail
  have e2 : (ahead : Int) + (n : Int) = ((ahead + n : Nat) : Int) := by omega
  rw [e2]
  refine (Y35 _ _ (by omega)).mono ?_
  rintro e w' ⟨rfl, rfl⟩
  have e3 : (ahead + n + 7) / 8 = cnt ahead n := rfl
  rw [e3]
  clear e2 e3
  go_wp2
  go_ret
  exact ⟨rfl, rfl⟩
 ·have e : ((gsh true ahead n (8 * cnt ahead n) : Nat) : Int) = (ahead : Int) := by simp [gsh]
  rw [e]; clear e
  go_enter Tryz.func119, Tryz.ntmps119
  go_wp2
  go_ret
  exact ⟨rfl, rfl⟩
theorem Yl9 (g : Nat) (p : Option Addr) (cap : Nat) (xs : List UInt8) (at_ : Nat) (low : Bool) (w : World) (i : Nat) (hR : Rd w g p cap xs at_ low) (hi : i ≤ 4000000000000000) :
  Calls Tryz.prog 117 #[.pointer (some ⟨g, 0, none⟩), .int .i64 (i : Int)] w fun e w' => e = .returned (.int .u8 ((xs.getD i 0).toNat : Int)) ∧ w = w' := by
 have h0 := hR.c0
 by_cases h : i < xs.length
 ·obtain ⟨b, off, rfl, _, hc⟩ := hR.2.1 (by omega)
  have hc' := hc i h
  have hx : xs[i].toNat < 256 := xs[i].toNat_lt
  have hd : decide ((xs.length : Int) ≤ (i : Int)) = false := by simp; omega
  have e : (xs.getD i 0).toNat = xs[i].toNat := by simp [List.getD, List.getElem?_eq_getElem h]
  have hl := hR.2.2.2
  rw [e]
  clear hR hc e
  go_enter Tryz.func117, Tryz.ntmps117
  go_wp2
  go_ret
  exact ⟨rfl, rfl⟩
 ·have e : (((xs.getD i 0).toNat : Nat) : Int) = 0 := by simp [List.getD, List.getElem?_eq_none (Nat.le_of_not_lt h)]
  have hd : decide ((xs.length : Int) ≤ (i : Int)) = true := by simp; omega
  have hl := hR.2.2.2
  rw [e]
  clear hR e
  go_enter Tryz.func117, Tryz.ntmps117
  go_wp2
  go_ret
  exact ⟨rfl, rfl⟩
theorem Ywr (g : Nat) (p : Option Addr) (cap : Nat) (xs : List UInt8) (at_ : Nat) (low : Bool) (w : World) (hR : Rd w g p cap xs at_ low) :
  Calls Tryz.prog 29 #[.pointer (some ⟨g, 0, none⟩)] w fun e w' => e = .returned (.int .i64 (at_ : Int)) ∧ w = w' := by
 have h1 := hR.c1
 clear hR
 go_enter Tryz.func29, Tryz.ntmps29
 go_wp2
 go_ret
 exact ⟨rfl, rfl⟩
theorem Yjm (g : Nat) (p : Option Addr) (cap : Nat) (xs : List UInt8) (at_ : Nat) (low : Bool) (w : World) (hR : Rd w g p cap xs at_ low) :
  Calls Tryz.prog 87 #[.pointer (some ⟨g, 0, none⟩)] w fun e w' => e = .returned (.int .i64 ((8 * xs.length - at_ : Nat) : Int)) ∧ Drawn w w' := by
 have h0 := hR.c0
 have h1 := hR.c1
 have hl := hR.2.2.1
 have hm := hR.2.2.2
 have e : (((8 * xs.length - at_ : Nat)) : Int) = 8 * (xs.length : Int) - (at_ : Int) := by omega
 rw [e]
 clear hR e
 go_enter Tryz.func87, Tryz.ntmps87
 go_wp2_with fail
 go_quiet (fail)
 go_wp2_with fail
 go_ret
 exact ⟨rfl, ⟨_, rfl⟩⟩
end Go.Proofs.YtkkfkmoikcmhoaaGreat.Bit
namespace Go.Proofs.YtkkfkmoikcmhoaaGreat.Bit
open Go.RowKit Oct
theorem Yu8 (low : Bool) (i c : Nat) (h : i < c) : gsh low (8 * i) 8 (8 * c) = shiftN i c (!low) := by
 cases low <;> simp [gsh, shiftN] <;> omega
theorem Yz3 {k : IntKind} {a b : Int} (h : a = b) : Ending.returned (.int k a) = .returned (.int k b) := by rw [h]
theorem Yyt (xs : List UInt8) (c k : Nat) (low : Bool) (x : UInt8) (hk : k < c) (hc : c ≤ 5) (hx : k < xs.length) (hl : xs.length = c) (hxx : xs[k] = x) :
  bits .or .u64 ((Oct.part (!low) c (xs.take k) : Nat) : Int) (IntKind.u64.wrap (IntKind.u64.wrap (x.toNat : Int) * 2 ^ min (gsh low (8 * k) 8 (8 * c)) 64)) = ((Oct.part (!low) c (xs.take (k + 1)) : Nat) : Int) := by
 subst hxx
 have hb : xs[k].toNat < 256 := xs[k].toNat_lt
 have ht := Yiy xs[k] k c (!low) hk (by omega)
 have hp := Yid (!low) c (xs.take k) (by rw [List.length_take]; omega) (by omega)
 have e0 : min (gsh low (8 * k) 8 (8 * c)) 64 = shiftN k c (!low) := by
  rw [Yu8 low k c hk]
  apply Nat.min_eq_left
  cases low <;> simp [shiftN] <;> omega
 have e1 : IntKind.u64.wrap ((xs[k].toNat : Int) * 2 ^ shiftN k c (!low)) = ((xs[k].toNat * 2 ^ shiftN k c (!low) : Nat) : Int) := by
  have e2 : ((xs[k].toNat : Int) * 2 ^ shiftN k c (!low)) = ((xs[k].toNat * 2 ^ shiftN k c (!low) : Nat) : Int) := by push_cast; rfl
  rw [e2, IntWalk.u64_in _ (by omega)]
 rw [e0, IntWalk.u64_in ((xs[k].toNat : Int)) (by omega), e1, u64_or_nat _ _ hp ht, Y1x xs k hx]
 have hlen : (xs.take k).length = k := by rw [List.length_take]; omega
 have := Yg1 (!low) c (xs.take k) xs[k] (by omega) (by omega)
 rw [hlen] at this
 rw [this]
theorem Yuo (G s n : Nat) (hG : G < 18446744073709551616) (hn : n ≤ 32) (hs : s ≤ 40) :
  bits .and .u64 ((G : Int) / 2 ^ min s 64) (IntKind.u64.wrap (IntKind.u64.wrap (2 ^ n) - 1)) % 4294967296 = ((G / 2 ^ s % 2 ^ n : Nat) : Int) := by
 rw [Nat.min_eq_left (by omega)]
 have h32 : (2 : Nat) ^ n ≤ 2 ^ 32 := Nat.pow_le_pow_right (by omega) hn
 have hpos : 0 < (2 : Nat) ^ n := Nat.pow_pos (by omega)
 have e1 : ((2 : Int) ^ n) = ((2 ^ n : Nat) : Int) := by push_cast; rfl
 have e2 : ((G : Int) / 2 ^ s) = ((G / 2 ^ s : Nat) : Int) := by push_cast; rfl
 have hle : G / 2 ^ s ≤ G := Nat.div_le_self _ _
 have hlt : G / 2 ^ s % 2 ^ n < 2 ^ n := Nat.mod_lt _ hpos
 rw [e1, e2, IntWalk.u64_in ((2 ^ n : Nat) : Int) (by omega)]
 have e3 : (((2 ^ n : Nat) : Int) - 1) = ((2 ^ n - 1 : Nat) : Int) := by omega
 rw [e3, IntWalk.u64_in _ (by omega), u64_and_nat _ _ (by omega) (by omega), Nat.and_two_pow_sub_one_eq_mod]
 omega
set_option maxHeartbeats 1000000 in
theorem Ydn (g : Nat) (p : Option Addr) (cap : Nat) (xs : List UInt8) (at_ : Nat) (low : Bool) (w : World) (n : Nat) (hR : Rd w g p cap xs at_ low) (hn : n ≤ 32) :
  Calls Tryz.prog 88 #[.pointer (some ⟨g, 0, none⟩), .int .i64 (n : Int)] w fun e w' => e = .returned (.int .u32 ((nextV low xs at_ n : Nat) : Int)) ∧ Drawn w w' := by
 have h1 := hR.c1
 have hl := hR.2.2.1
 have hm := hR.2.2.2
 have hgl := Y93 xs at_ n hl hn
 have hnx := Ymd low xs at_ n hl hn
 obtain ⟨c, hc⟩ : ∃ c, c = cnt (at_ % 8) n := ⟨_, rfl⟩
 have hc5 : c ≤ 5 := by rw [hc]; unfold cnt; omega
 have HN := Lib.hid hnx
 have HGL := Lib.hid hgl
 have HC := Lib.hid hc
 clear hnx hgl hc
 go_enter Tryz.func88, Tryz.ntmps88
 go_wp2_with fail
 have e2 : ((at_ : Int) % 8) + (n : Int) = ((at_ % 8 + n : Nat) : Int) := by omega
 rw [e2]
 refine (Y35 _ _ (by omega)).mono ?_
 rintro e w' ⟨rfl, rfl⟩
 rw [show (at_ % 8 + n + 7) / 8 = c from HC.out.symm]
 clear e2
 go_wp2_with fail
 have HR := Lib.hid hR
 clear hR
 go_loopw [7, 8, 19] (fun v i k wr => ∃ j : Nat, j ≤ c ∧ k = .int .i64 (j : Int) ∧ v = .int .u64 ((Oct.part (!low) c ((group xs at_ c).take j) : Nat) : Int) ∧ Drawn w wr) (fun _ _ k _ => c - (intOf k).toNat)
 case atStart => exact ⟨0, by omega, rfl, by simp [Yk5], ⟨0, rfl⟩⟩
 case round =>
  obtain ⟨j, hj, rfl, rfl, hq⟩ := hrel
  have hRr : Rd wr g p cap xs at_ low := HR.out.drawn hq
  have c1 := hRr.c1
  have c2 := hRr.c2
  by_cases hlt : j < c
  ·have hjl : j < (group xs at_ c).length := by rw [HC.out, HGL.out, ← HC.out]; exact hlt
   have hor := Yyt (group xs at_ c) c j low (xs[at_ / 8 + j]?.getD 0) hlt hc5 hjl (by rw [HC.out]; exact HGL.out) (by rw [Ypi, List.getD_eq_getElem?_getD])
   have HO := Lib.hid hor
   clear hor
   have s1 : IntKind.i64.wrap ((at_ : Int) / 8 + (j : Int)) = (at_ : Int) / 8 + (j : Int) := IntWalk.i64_in _ (by omega)
   have s2 : ((at_ : Int) / 8 + (j : Int)) = ((at_ / 8 + j : Nat) : Int) := by omega
   have s3 : at_ / 8 + j ≤ 4000000000000000 := by omega
   have S2 := Lib.hid s2
   clear s2
   go_wp2_with fail
   go_quiet (first | (go_at_call 117; rw [S2.out]; exact quietly (Yl9 _ _ _ _ _ _ _ _ (by exact hRr) (by omega))) | (go_at_call 118; exact quietly (Y7i _ _ _ _ hlt hc5)))
   go_wp2_with fail
   go_roundw
   case rel => exact ⟨j + 1, by omega, by go_num, by rw [HO.out], hq.more _⟩
   case measure => simp [intOf]; omega
  ·have hj' : j = c := by omega
   subst hj'
   have hfull := Yb1 (!low) j (group xs at_ j) (by rw [HC.out]; exact HGL.out)
   rw [List.take_of_length_le (by rw [HC.out, HGL.out]; omega), hfull]
   clear hfull
   obtain ⟨G, hG⟩ : ∃ G, G = numOf (!low) (group xs at_ j) := ⟨_, rfl⟩
   have hGl : G < 18446744073709551616 := by
    have h1 := Yid (!low) j (group xs at_ j) (by rw [HC.out, HGL.out]; omega) (by omega)
    rw [Yb1 (!low) j (group xs at_ j) (by rw [HC.out]; exact HGL.out)] at h1
    omega
   rw [← hG]
   have HG := Lib.hid hG
   clear hG
   have e2 : (at_ : Int) % 8 = ((at_ % 8 : Nat) : Int) := by omega
   have E2 := Lib.hid e2
   clear e2
   go_wp2_with fail
   rw [E2.out]
   refine (Y6s _ _ _ _ (by omega) hn).mono ?_
   rintro e w' ⟨rfl, rfl⟩
   have hsb : gsh low (at_ % 8) n (8 * cnt (at_ % 8) n) ≤ 40 := by
    have : cnt (at_ % 8) n ≤ 5 := by unfold cnt; omega
    cases low <;> simp [gsh] <;> omega
   have hmv := Yuo G (gsh low (at_ % 8) n (8 * cnt (at_ % 8) n)) n hGl hn hsb
   rw [HG.out] at hmv
   have hN := HN.out
   rw [← HC.out] at hN hmv
   rw [hN, ← HG.out] at hmv
   rw [← HC.out]
   have HM := Lib.hid hmv
   clear hmv hN hsb
   generalize gsh low (at_ % 8) n (8 * j) = s at HM ⊢
   go_wp2_with fail
   go_ret
   exact ⟨Yz3 HM.out, hq⟩
def Ydy (n : Int) : Int := if Y8j n then 0 else 1
def okR (n : Int) (len at_ : Nat) : Bool := Y8j n && decide ((at_ : Int) + n ≤ (len : Int))
def Ye2 (n : Int) (low : Bool) (xs : List UInt8) (at_ : Nat) : Int := if okR n (8 * xs.length) at_ then ((nextV low xs at_ n.toNat : Nat) : Int) else 0
def Y5l (n : Int) (len at_ : Nat) : Int := if okR n len at_ then 0 else if Y8j n then 2 else 1
def Y5k (n : Int) (len at_ : Nat) : Nat := if okR n len at_ then at_ + n.toNat else at_
def ReadP (g : Nat) (p : Option Addr) (cap : Nat) (xs : List UInt8) (at_ : Nat) (low : Bool) (w : World) (n : Int) (e : Ending) (w' : World) : Prop :=
 e = .returned (.tuple #[.int .u32 (Ye2 n low xs at_), .int .i64 (Y5l n (8 * xs.length) at_)]) ∧ Rd w' g p cap xs (Y5k n (8 * xs.length) at_) low ∧ Only (· = g) w w' ∧ w'.heap.size = w.heap.size
theorem Yv9 (g : Nat) (p : Option Addr) (cap : Nat) (xs : List UInt8) (at_ : Nat) (low : Bool) (w : World) (n : Int) (hR : Rd w g p cap xs at_ low) :
  Calls Tryz.prog 55 #[.pointer (some ⟨g, 0, none⟩), .int .i64 n] w (ReadP g p cap xs at_ low w n) := by
 have hl := hR.2.2.1
 have hm := hR.2.2.2
 by_cases hc : Y8j n = true
 ·have hb := of_decide_eq_true hc
  obtain ⟨k, rfl⟩ : ∃ k : Nat, n = (k : Int) := ⟨n.toNat, by omega⟩
  by_cases hk : at_ + k ≤ 8 * xs.length
  ·have ho : okR (k : Int) (8 * xs.length) at_ = true := by unfold okR; rw [hc]; simp; omega
   have e1 : Ye2 (k : Int) low xs at_ = ((nextV low xs at_ k : Nat) : Int) := by unfold Ye2; rw [ho]; rfl
   have e2 : Y5l (k : Int) (8 * xs.length) at_ = 0 := by unfold Y5l; rw [ho]; rfl
   have e3 : Y5k (k : Int) (8 * xs.length) at_ = at_ + k := by unfold Y5k; rw [ho]; rfl
   have HC := Lib.hid hc
   have E1 := Lib.hid e1
   have E2 := Lib.hid e2
   have E3 := Lib.hid e3
   clear e1 e2 e3 hc ho
   go_enter Tryz.func55, Tryz.ntmps55
   go_wp2_with fail
   refine (Y37 _ _).mono ?_
   rintro e w' ⟨rfl, rfl⟩
   rw [HC.out]
   go_wp2_with fail
   refine (Yjm _ _ _ _ _ _ _ hR).mono ?_
   rintro e w1 ⟨rfl, hd1⟩
   have hR1 := hR.drawn hd1
   have hdec : decide (8 * xs.length - at_ < k) = false := by simp; omega
   go_wp2_with fail
   refine (Ydn _ _ _ _ _ _ _ _ hR1 (by omega)).mono ?_
   rintro e w2 ⟨rfl, hd2⟩
   have hR2 := hR1.drawn hd2
   have c1 := hR2.c1
   have hf := hR2.fz 1
   clear hdec
   go_wp2_with fail
   go_ret2
   have hp := hR2.put (at_ + k) hk
   have es : (((at_ + k : Nat)) : Int) = (at_ : Int) + (k : Int) := by omega
   rw [es] at hp
   refine ⟨by rw [E1.out, E2.out]; rfl, by rw [E3.out]; exact hp, (((Only.drawn _ hd1).trans (Only.drawn _ hd2)).trans (Only.setCell (S := (· = g)) (p := ⟨g, 1, none⟩) (by rfl) _)), ?_⟩
   obtain ⟨_, rfl⟩ := hd1
   obtain ⟨_, rfl⟩ := hd2
   simp [World.setCell]
  ·have ho : okR (k : Int) (8 * xs.length) at_ = false := by unfold okR; rw [hc]; simp; omega
   have e1 : Ye2 (k : Int) low xs at_ = 0 := by unfold Ye2; rw [ho]; rfl
   have e2 : Y5l (k : Int) (8 * xs.length) at_ = 2 := by unfold Y5l; rw [ho, hc]; rfl
   have e3 : Y5k (k : Int) (8 * xs.length) at_ = at_ := by unfold Y5k; rw [ho]; rfl
   have HC := Lib.hid hc
   have E1 := Lib.hid e1
   have E2 := Lib.hid e2
   have E3 := Lib.hid e3
   clear e1 e2 e3 hc ho
   go_enter Tryz.func55, Tryz.ntmps55
   go_wp2_with fail
   refine (Y37 _ _).mono ?_
   rintro e w' ⟨rfl, rfl⟩
   rw [HC.out]
   go_wp2_with fail
   refine (Yjm _ _ _ _ _ _ _ hR).mono ?_
   rintro e w1 ⟨rfl, hd1⟩
   have hR1 := hR.drawn hd1
   have hdec : decide (8 * xs.length - at_ < k) = true := by simp; omega
   go_wp2_with fail
   go_ret2
   refine ⟨by rw [E1.out, E2.out]; rfl, by rw [E3.out]; exact hR1, Only.drawn _ hd1, ?_⟩
   obtain ⟨_, rfl⟩ := hd1
   rfl
 ·have hc' : Y8j n = false := by simpa using hc
  have ho : okR n (8 * xs.length) at_ = false := by unfold okR; rw [hc']; simp
  have e1 : Ye2 n low xs at_ = 0 := by unfold Ye2; rw [ho]; rfl
  have e2 : Y5l n (8 * xs.length) at_ = 1 := by unfold Y5l; rw [ho, hc']; rfl
  have e3 : Y5k n (8 * xs.length) at_ = at_ := by unfold Y5k; rw [ho]; rfl
  have HC := Lib.hid hc'
  have E1 := Lib.hid e1
  have E2 := Lib.hid e2
  have E3 := Lib.hid e3
  clear e1 e2 e3 hc hc' ho
  go_enter Tryz.func55, Tryz.ntmps55
  go_wp2_with fail
  refine (Y37 _ _).mono ?_
  rintro e w' ⟨rfl, rfl⟩
  rw [HC.out]
  go_wp2_with fail
  go_ret2
  exact ⟨by rw [E1.out, E2.out]; rfl, by rw [E3.out]; exact hR, Only.refl _ _, rfl⟩
def X00 (g : Nat) (p : Option Addr) (cap : Nat) (xs : List UInt8) (at_ : Nat) (low : Bool) (w : World) (e : Ending) (w' : World) : Prop :=
 e = .returned (.tuple #[]) ∧ Rd w' g p cap xs (8 * ((at_ + 7) / 8)) low ∧ Only (· = g) w w' ∧ w'.heap.size = w.heap.size
theorem Ynx (g : Nat) (p : Option Addr) (cap : Nat) (xs : List UInt8) (at_ : Nat) (low : Bool) (w : World) (hR : Rd w g p cap xs at_ low) :
  Calls Tryz.prog 89 #[.pointer (some ⟨g, 0, none⟩)] w (X00 g p cap xs at_ low w) := by
 have hl := hR.2.2.1
 have hm := hR.2.2.2
 have c1 := hR.c1
 have hf := hR.fz 1
 go_enter Tryz.func89, Tryz.ntmps89
 go_wp2_with fail
 refine (Y35 _ _ (by omega)).mono ?_
 rintro e w' ⟨rfl, rfl⟩
 go_wp2_with fail
 go_end0
 have hp := hR.put (8 * ((at_ + 7) / 8)) (by omega)
 rw [Int.natCast_mul] at hp
 exact ⟨rfl, hp, Only.setCell (S := (· = g)) (p := ⟨g, 1, none⟩) (by rfl) _, by simp [World.setCell]⟩
end Go.Proofs.YtkkfkmoikcmhoaaGreat.Bit
namespace Go.Proofs.YtkkfkmoikcmhoaaGreat.Bit
open Go.RowKit Oct
def Ywo (w : World) (xs : List UInt8) (e : Ending) (w' : World) : Prop :=
 Below w.heap.size w w' ∧ ∃ q cap, e = .returned (.slice q xs.length cap) ∧ Row w' q xs ∧ xs.length ≤ cap ∧ cap ≤ maxLen ∧ (q = none → cap = 0) ∧ ∀ a, q = some a → w.heap.size ≤ a.block
theorem Yer (p : Option Addr) (len cap : Nat) (xs : List UInt8) (w : World) (hr : Row w p xs) (hx : xs.length = len) (hnil : p = none → cap = 0) (h47 : len ≤ 140737488355328) :
  Calls Tryz.prog 53 #[.slice p len cap] w (Ywo w xs) := by
 rcases p with _ | ad
 ·have hxs : xs = [] := by
   rcases xs with _ | ⟨x, xs⟩
   ·rfl
   ·obtain ⟨b, off, he, _⟩ := hr (by simp)
    cases he
  subst hxs
  simp at hx
  subst hx
  have hcap := hnil rfl
  subst hcap
  clear hnil
  have heq : ∀ w' : World, (binOp .eql 22 (.slice none 0 0) (.slice none 0 0)).run Tryz.prog w' = .ok (.bool true) w' := fun w' => Lib.run_eql_slice_nil (P := Tryz.prog) w' 22 5 none 0 0 0 0 Tryz.underlying22
  go_enter Tryz.func53, Tryz.ntmps53
  go_wp2_with fail
  go_ret
  exact ⟨Below.refl _ _, none, 0, rfl, fun h => absurd h (by simp), by simp, by simp [maxLen], fun _ => rfl, (fun a h => by cases h)⟩
 ·have hown := World.ownsRow_made (base := w.heap.size) (e := 5) (size := 1) w #[] 0 (Nat.le_refl _) (by simp [maxLen]) rfl
  have hr2 := hr.below ((Below.refl _ w).alloc (Nat.le_refl _) (.cells #[] 5))
  have HX := Lib.hid hx
  clear hx hnil
  have heq : ∀ w' : World, (binOp .eql 22 (.slice (some ad) len cap) (.slice none 0 0)).run Tryz.prog w' = .ok (.bool false) w' := fun w' => Lib.run_eql_slice_nil (P := Tryz.prog) w' 22 5 (some ad) len cap 0 0 Tryz.underlying22
  go_enter Tryz.func53, Tryz.ntmps53
  go_wp2_with (at_builtin; refine Y3y rfl _ _ rfl w.heap.size _ 0 [] rfl hown (some ad) len cap xs rfl hr2 HX.out (fun h => by cases h) (by omega) (by simp) ?_)
  intro v' w2 hown' hgrow hv
  obtain ⟨g, cap2, hv', hgc, hgm, hgb, hgl, hrow2⟩ := Y7t hown' hv
  rw [hv']
  have hb12 : Below w.heap.size w w2 := ((Below.refl _ w).alloc (Nat.le_refl _) _).grown hgrow (by simp) (fun k hk => by
   simp [Value.ownBlock] at hk; omega)
  clear hown hr2 hown' hgrow hv hv'
  go_wp2_with fail
  go_ret
  exact ⟨hb12, some ⟨g, 0, none⟩, cap2, by rw [HX.out]; simp, hrow2, by rw [HX.out]; omega, hgm, (fun h => by cases h), (fun a h => by injection h with h; subst h; exact hgb)⟩
def NewP (w : World) (xs : List UInt8) (low : Bool) (e : Ending) (w' : World) : Prop :=
 Below w.heap.size w w' ∧ ∃ g q cap, e = .returned (.pointer (some ⟨g, 0, none⟩)) ∧ w.heap.size ≤ g ∧ Rd w' g q cap xs 0 low ∧ ∀ a, q = some a → w.heap.size ≤ a.block
theorem Ydk (p : Option Addr) (len cap : Nat) (xs : List UInt8) (low : Bool) (w : World) (hr : Row w p xs) (hx : xs.length = len) (hnil : p = none → cap = 0) (h47 : len ≤ 140737488355328) :
  Calls Tryz.prog 25 #[.slice p len cap, .bool low] w (NewP w xs low) := by
 go_enter Tryz.func25, Tryz.ntmps25
 go_wp2_with fail
 refine (Yer _ _ _ xs _ hr hx hnil h47).mono ?_
 rintro e w1 ⟨hb, q, cap1, rfl, hr1, hc1, hc2, _, hqb⟩
 have HX := Lib.hid hx
 clear hx hnil
 go_wp2_with fail
 go_ret
 refine ⟨hb.alloc hb.size _, w1.heap.size, q, cap1, rfl, hb.size, ⟨?_, ?_, by omega, ?_⟩, hqb⟩
 ·show (w1.heap.push _)[w1.heap.size]? = _
  simp
 ·intro h0
  obtain ⟨b, off, e, hlt, hc⟩ := hr1 h0
  refine ⟨b, off, e, hlt, fun i hi => ?_⟩
  rw [← hc i hi]
  exact World.cell?_of_block (w := w1) (Below.heap_alloc _ _ _ hlt)
 ·rw [HX.out]; omega
theorem Yr8 (w : World) (x : UInt8) (T : Nat) : Row (w.alloc (.cells #[.int .u8 (x.toNat : Int)] T)) (some ⟨w.heap.size, 0, none⟩) [x] := by
 intro _
 refine ⟨w.heap.size, 0, rfl, by simp, fun i h => ?_⟩
 match i, h with
 | 0, _ => simp
end Go.Proofs.YtkkfkmoikcmhoaaGreat.Bit

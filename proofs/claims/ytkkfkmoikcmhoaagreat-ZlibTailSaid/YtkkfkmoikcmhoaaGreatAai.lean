/- IfQ, DfM, ZlV, BitA, BitC, BitD, BitE: merged. -/
import Derived.Lib.SliceRun
import Derived.Test.YtkkfkmoikcmhoaaGreatAaa
import Derived.Test.YtkkfkmoikcmhoaaGreatAab
import Derived.Test.YtkkfkmoikcmhoaaGreatAag
import Derived.Test.YtkkfkmoikcmhoaaGreatAah
set_option linter.unusedVariables false
set_option linter.unusedSimpArgs false
namespace Go.Proofs.YtkkfkmoikcmhoaaGreat.Inf
open Bit Hf
def Y1s (A B : List (List Bool)) (L : List Bool) (most at_ : Nat) (out : List UInt8) : R (List UInt8) := Y3t A B L most (L.length + 1 - at_) at_ out
theorem Yej (A B : List (List Bool)) (L : List Bool) (most f at_ : Nat) (out : List UInt8) (h : at_ ≤ L.length) (hf : L.length < f + at_) : Y3t A B L most f at_ out = Y1s A B L most at_ out :=
 Y2l A B L most f _ at_ out h hf (by omega)
theorem Y5b (A B : List (List Bool)) (L : List Bool) (most at_ : Nat) (out : List UInt8) (h : at_ ≤ L.length) : Y1s A B L most at_ out = (Y1r A L at_).then fun v a =>
  if v = 256 then .ok (out, a)
  else if v < 256 then (if most ≤ out.length then .error 8 else Y1s A B L most a (out ++ [UInt8.ofNat v]))
  else (Y1x false L (v - 257) a).then fun n a => (Y1r B L a).then fun k a => (Y1x true L k a).then fun d a =>
   if out.length < d then .error 3 else if most < out.length + n then .error 8 else Y1s A B L most a (Y2g out d n) := by
 unfold Y1s
 rw [show L.length + 1 - at_ = (L.length - at_) + 1 from by omega, Y3t]
 refine Y0b fun v a hv => ?_
 have h1 := Yht hv
 have h2 := (Y2t A at_).le h hv
 split
 ·rfl
 ·split
  ·split
   ·rfl
   ·exact Y2l A B L most _ _ a _ h2.2 (by omega) (by omega)
  ·refine Y0b fun n b hb => ?_
   have h3 := (Y24 false _ a).le h2.2 hb
   refine Y0b fun k c hc => ?_
   have h4 := (Y2t B b).le h3.2 hc
   refine Y0b fun d e he => ?_
   have h5 := (Y24 true k c).le h4.2 he
   split
   ·rfl
   ·split
    ·rfl
    ·exact Y2l A B L most _ _ e _ h5.2 (by omega) (by omega)
theorem Yfg (W : List (List Bool)) (n : Nat) (L : List Bool) : ∀ (f g at_ : Nat) (all : List Nat), n < f + all.length → n < g + all.length → 1 ≤ f → 1 ≤ g → Yab W n L f at_ all = Yab W n L g at_ all
 | 0, g, at_, all, hf, hg, h1, h2 => by omega
 | f + 1, 0, at_, all, hf, hg, h1, h2 => by omega
 | f + 1, g + 1, at_, all, hf, hg, h1, h2 => by
  rw [Yab, Yab]
  by_cases hn : n ≤ all.length
  ·rw [if_pos hn, if_pos hn]
  ·rw [if_neg hn, if_neg hn]
   refine Y0b fun v a hv => ?_
   split
   ·rfl
   ·refine Y0b fun m b hb => Yfg W n L f g b _ ?_ ?_ (by omega) (by omega)
    ·have := Y3f v
     simp
     omega
    ·have := Y3f v
     simp
     omega
def Y6l (W : List (List Bool)) (n : Nat) (L : List Bool) (at_ : Nat) (all : List Nat) : R (List Nat) := Yab W n L (n + 1 - all.length) at_ all
theorem Yfe (W : List (List Bool)) (n : Nat) (L : List Bool) (at_ : Nat) (all : List Nat) (h : all.length = n) : Y6l W n L at_ all = .ok (all, at_) := by
 unfold Y6l
 rw [show n + 1 - all.length = 0 + 1 from by omega, Yab, if_pos (by omega), if_pos h]
theorem Yj7 (W : List (List Bool)) (n : Nat) (L : List Bool) (at_ : Nat) (all : List Nat) (h : all.length < n) : Y6l W n L at_ all = (Y1r W L at_).then fun v a =>
  if v = 16 ∧ all = [] then .error 3
  else (Y36 L a (wideV v)).then fun more a =>
   if n < all.length + (timesV v + more) then .error 3 else Y6l W n L a (all ++ List.replicate (timesV v + more) (valueV v all)) := by
 unfold Y6l
 rw [show n + 1 - all.length = (n - all.length) + 1 from by omega, Yab, if_neg (by omega)]
 refine Y0b fun v a hv => ?_
 split
 ·rfl
 ·refine Y0b fun m b hb => ?_
  have := Y3f v
  split
  ·rename_i hc
   rw [show n - all.length = (n - all.length - 1) + 1 from by omega, Yab, if_pos (by simp; omega), if_neg (by simp; omega)]
  ·exact Yfg W n L _ _ b _ (by simp; omega) (by simp; omega) (by omega) (by simp; omega)
def Ye4 (L : List Bool) (most at_ : Nat) (out : List UInt8) : R (List UInt8) :=
 (Y54 L at_).then fun n a =>
  if n.1 > 286 ∨ n.2.1 > 30 then .error 3
  else (Y6m L n.2.2 0 a (List.replicate 19 0)).then fun l a => withW (Y1h l false) fun W =>
   (Y6l W (n.1 + n.2.1) L a []).then fun all a =>
    if all.getD 256 0 = 0 then .error 3
    else withW (Y1h (all.take n.1) false) fun A => withW (Y1h (all.drop n.1) true) fun B => Y1s A B L most a out
def Yal (L : List Bool) (most h at_ : Nat) (out : List UInt8) : R (List UInt8) :=
 if h / 2 = 0 then Y3n L most at_ out
 else if h / 2 = 1 then Y1s (Y03 Y0l) (Y03 Y0s) L most at_ out
 else if h / 2 = 2 then Ye4 L most at_ out
 else .error 3
theorem Ypq (L : List Bool) (most f h at_ : Nat) (out : List UInt8) (ha : at_ ≤ L.length) (hf : L.length < f) : Yti L most f h at_ out = Yal L most h at_ out := by
 unfold Yti Yal
 split
 ·rfl
 ·split
  ·exact Yej _ _ L most f at_ out ha (by omega)
  ·split
   ·unfold Yut Ye4
    refine Y0b fun n a hn => ?_
    have h1 := (Ya6 at_).le ha hn
    split
    ·rfl
    ·refine Y0b fun l b hb => ?_
     have h2 := (Y95 _ 0 a _).le h1.2 hb
     refine Y2s fun W => Y0b fun all c hc => ?_
     have h3 := (Y94 W _ _ b []).le h2.2 hc
     split
     ·rfl
     ·exact Y2s fun A => Y2s fun B => Yej A B L most f c out h3.2 (by omega)
   ·rfl
def Y4t (L : List Bool) (most at_ : Nat) (out : List UInt8) : R (List UInt8) := Y6a L most (L.length + 1) (L.length + 1 - at_) at_ out
theorem Ycx (L : List Bool) (most at_ : Nat) (out : List UInt8) (h : at_ ≤ L.length) : Y4t L most at_ out = (Y36 L at_ 3).then fun v a => (Yal L most v a out).then fun o a =>
  if v % 2 = 1 then .ok (o, a) else Y4t L most a o := by
 unfold Y4t
 rw [show L.length + 1 - at_ = (L.length - at_) + 1 from by omega, Y6a]
 refine Y0b fun v a hv => ?_
 have h1 := Yvf hv
 have h2 := (Y6j at_ 3).le h hv
 rw [← Ypq L most (L.length + 1) v a out h2.2 (by omega)]
 refine Y0b fun o b hb => ?_
 have h3 := (Ycw most (L.length + 1) v a out).le h2.2 hb
 split
 ·rfl
 ·exact Ya7 L most _ _ (by omega) (by omega) _ _ b o h3.2 (by omega) (by omega)
theorem Y4f (xs : List UInt8) (most : Nat) : inflate xs most = (match Y4t (Y01 true xs) most 0 [] with
  | .ok (o, a) => .ok (o, (a + 7) / 8)
  | .error e => .error e) := by
 unfold inflate Y4t
 rw [Y04, Nat.sub_zero]
 rfl
end Go.Proofs.YtkkfkmoikcmhoaaGreat.Inf
namespace Go.Proofs.YtkkfkmoikcmhoaaGreat.Df
open Bit Hf Oct Inf
def conv (t : Lzt.Tok) : Tok := ⟨t.lit, t.len, t.dist⟩
theorem Yev (d : Nat) : ∀ (n : Nat) (out : List UInt8), Lzt.Y2g out d n = Y2g out d n
 | 0, out => rfl
 | n + 1, out => by rw [Lzt.Y2g, Y2g]; exact Yev d n _
theorem Yax {most : Int} {lim : Nat} (hl : most ≤ (lim : Int)) : ∀ (l : List Lzt.Tok) (out o : List UInt8), Lzt.Y83 most l out = .ok o → Y2d lim (l.map conv) out = some o
 | [], out, o, h => by cases h; rfl
 | t :: l, out, o, h => by
  rcases hs : Lzt.Y51 most t out with e | o1
  ·rw [Lzt.Y9z hs] at h; cases h
  ·rw [Lzt.Ya0 hs] at h
   have ih := Yax hl l o1 o h
   have h2 := Lzt.Yia hs
   unfold Lzt.Y51 at hs
   rw [List.map_cons, Y2d]
   by_cases h0 : t.len = 0
   ·rw [if_pos h0] at hs
    rw [if_pos (show (conv t).len = 0 from h0)]
    split at hs
    ·cases hs
    ·cases hs; exact ih
   ·rw [if_neg h0] at hs
    rw [if_neg (show ¬ (conv t).len = 0 from h0)]
    split at hs
    ·cases hs
    ·rename_i hc
     split at hs
     ·cases hs
     ·rename_i hd
      split at hs
      ·cases hs
      ·cases hs
       rw [if_neg (by show ¬ (t.len < 3 ∨ 258 < t.len ∨ t.dist < 1 ∨ (out.length : Int) < t.dist ∨ 32768 < t.dist ∨ lim < out.length); omega)]
       rw [Yev] at ih
       exact ih
theorem Ykx (L : List Nat) (h30 : ∀ n ∈ L, n ≤ 30) (hT : startN L 31 ≤ 1073741824) (i : Nat) (hi : i < L.length) (h1 : 1 ≤ L[i]) : Fre (Y03 L) i := by
 have hi' : i < (Y03 L).length := by rw [Y0e]; exact hi
 have hg : (Y03 L).getD i [] = (Y03 L)[i] := by rw [List.getD_eq_getElem?_getD, List.getElem?_eq_getElem hi']; rfl
 have hl := Y4b L i hi' hi
 have h30' : ∀ j (h : j < L.length), L[j] ≤ 30 := fun j h => h30 _ (List.getElem_mem h)
 refine ⟨?_, fun j v hj hp hv => ?_⟩
 ·rw [hg]
  intro e
  rw [e] at hl
  simp at hl
  omega
 ·obtain ⟨hj1, hj2⟩ := List.getElem?_eq_some_iff.1 hj
  have hj3 : j < L.length := by rw [Y0e] at hj1; exact hj1
  have hlj := Y4b L j hj1 hj3
  have hj4 : 1 ≤ L[j] := by
   rw [← hlj, hj2]
   exact List.length_pos_iff.2 hv
  refine Classical.byContradiction fun hne => ?_
  refine Y80 L h30' hT j i hj3 hi hne (by omega) ?_
  rw [← Y2m L j hj1 hj3, ← Y2m L i hi' hi, hj2, ← hg]
  exact hp
def Ybl (A B : List (List Bool)) (t : Tok) : Prop := if t.len = 0 then Fre A t.lit.toNat else Fre A (257 + placeN false t.len.toNat) ∧ Fre B (placeN true t.dist.toNat)
theorem Y70 {A B : List (List Bool)} {L : List Bool} {most : Nat} {rest : List Bool} {o : List UInt8} {lim : Nat} (h256 : Fre A 256) (ho : o.length ≤ most) :
  ∀ (l : List Tok) (out : List UInt8) (a : Nat), (∀ t ∈ l, Ybl A B t) → Y2d lim l out = some o → L.drop a = Y1y A B l ++ rest → a ≤ L.length → Y1s A B L most a out = .ok (o, a + (Y1y A B l).length)
 | [], out, a, hu, hr, hd, ha => by
  cases hr
  rw [Y1y] at hd
  rw [Y5b A B L most a _ ha, Yah h256 hd, R.then_ok, if_pos rfl, Y1y]
 | t :: l, out, a, hu, hr, hd, ha => by
  have hu2 : ∀ t ∈ l, Ybl A B t := fun t' ht => hu t' (List.mem_cons_of_mem _ ht)
  have hut := hu t List.mem_cons_self
  unfold Ybl at hut
  rw [Y2d] at hr
  rw [Y1y, List.append_assoc] at hd
  by_cases h0 : t.len = 0
  ·rw [if_pos h0] at hr hut
   have hg := Y2q l _ o hr
   simp at hg
   have hlt : t.lit.toNat < 256 := t.lit.toNat_lt
   rw [Yec, if_pos h0] at hd
   have hle := Y0o hd ha
   rw [Y5b A B L most a out ha, Yah hut hd, R.then_ok, if_neg (by omega), if_pos hlt, if_neg (by omega), UInt8.ofNat_toNat,
    Y70 h256 ho l _ _ hu2 hr (Y0f hd) hle, Y1y, Yec, if_pos h0, List.length_append, Nat.add_assoc]
  ·rw [if_neg h0] at hr hut
   split at hr
   ·cases hr
   ·rename_i hc
    have hg := Y2q l _ o hr
    rw [Y19] at hg
    rw [Yec, if_neg h0] at hd
    simp only [List.append_assoc] at hd
    have hp1 := Y16 false t.len.toNat
    have hp2 := Y16 true t.dist.toNat
    have e1 : (froms false).length = 29 := rfl
    have e2 : (froms true).length = 30 := rfl
    have a1 := Y0o hd ha
    have d1 := Y0f hd
    have a2 := Y0o d1 a1
    have d2 := Y0f d1
    have a3 := Y0o d2 a2
    have d3 := Y0f d2
    have a4 := Y0o d3 a3
    have d4 := Y0f d3
    rw [Y5b A B L most a out ha, Yah hut.1 hd, R.then_ok, if_neg (by omega), if_neg (by omega), Nat.add_sub_cancel_left,
     Yfq (far := false) (by show 3 ≤ _; omega) (by show _ ≤ 258; omega) d1 a1, R.then_ok, Yah hut.2 d2, R.then_ok,
     Yfq (far := true) (by show 1 ≤ _; omega) (by show _ ≤ 32768; omega) d3 a3, R.then_ok, if_neg (by omega), if_neg (by omega),
     Y70 h256 ho l _ _ hu2 hr d4 a4, Y1y, Yec, if_neg h0]
    simp only [List.length_append, Nat.add_assoc]
theorem Ycy {L r : List Bool} {most a h b : Nat} {out o : List UInt8} (hd : L.drop a = Y07 true h 3 ++ r) (ha : a ≤ L.length) (h8 : h < 8) (hone : Yal L most h (a + 3) out = .ok (o, b)) :
  Y4t L most a out = if h % 2 = 1 then .ok (o, b) else Y4t L most b o := by
 rw [Ycx L most a out ha, Yfp hd ha h8, R.then_ok, hone, R.then_ok]
def Yn1 (last : Bool) (ys : List UInt8) : List UInt8 := [if last then 1 else 0, UInt8.ofNat ys.length, UInt8.ofNat (ys.length / 256), UInt8.ofNat (65535 - ys.length), UInt8.ofNat ((65535 - ys.length) / 256)] ++ ys
theorem Y1o (last : Bool) (ys : List UInt8) : (Yn1 last ys).length = ys.length + 5 := by simp [Yn1]
theorem Yb2 (last : Bool) (ys : List UInt8) (h : ys.length < 65536) : Y01 true (Yn1 last ys) = Y07 true (if last then 1 else 0) 3 ++ (zs 5 ++ (Y07 true ys.length 16 ++ (Y07 true (65535 - ys.length) 16 ++ Y01 true ys))) := by
 have e : Yn1 last ys = [if last then 1 else 0] ++ [UInt8.ofNat ys.length, UInt8.ofNat (ys.length / 256)] ++ [UInt8.ofNat (65535 - ys.length), UInt8.ofNat ((65535 - ys.length) / 256)] ++ ys := rfl
 rw [e, Y0u, Y0u, Y0u, word16 _ h, word16 (65535 - ys.length) (by omega)]
 simp only [List.append_assoc]
 cases last <;> rfl
theorem Yib {L r : List Bool} {most k : Nat} {last : Bool} {ys out : List UInt8} (hd : L.drop (8 * k) = Y01 true (Yn1 last ys) ++ r) (ha : 8 * k ≤ L.length) (hy : ys.length < 65536) (hm : out.length + ys.length ≤ most) :
  Y4t L most (8 * k) out = if last then .ok (out ++ ys, 8 * (k + (ys.length + 5))) else Y4t L most (8 * (k + (ys.length + 5))) (out ++ ys) := by
 rw [Yb2 last ys hy] at hd
 simp only [List.append_assoc] at hd
 have a1 := Y0o hd ha
 have d1 := Y0f hd
 rw [Y00] at a1 d1
 have a2 := Y0o d1 a1
 have d2 := Y0f d1
 rw [Y0g] at a2 d2
 have a3 := Y0o d2 a2
 have d3 := Y0f d2
 rw [Y00] at a3 d3
 have a4 := Y0o d3 a3
 have d4 := Y0f d3
 rw [Y00] at a4 d4
 have ha8 : (8 * k + 3 + 7) / 8 * 8 = 8 * k + 3 + 5 := by omega
 have hst : Y3n L most (8 * k + 3) out = .ok (out ++ ys, 8 * (k + (ys.length + 5))) := by
  unfold Y3n
  rw [Yzk (n := ys.length) (m := 65535 - ys.length) (by rw [ha8]; exact d2) (by rw [ha8]; exact a2) hy (by omega), R.then_ok, if_pos (by show ys.length + (65535 - ys.length) = 65535; omega), ha8]
  rw [Yiq ys _ out (by rw [show 8 * k + 3 + 5 + 32 = 8 * k + 3 + 5 + 16 + 16 from by omega]; exact d4) (by omega) hm]
  congr 2
  omega
 rw [Ycy hd ha (by cases last <;> decide) (b := 8 * (k + (ys.length + 5))) (o := out ++ ys) (by
  unfold Yal
  rw [if_pos (by cases last <;> rfl)]
  exact hst)]
 cases last <;> rfl
def Y8v (xs : List UInt8) : List UInt8 :=
 if h : xs.length ≤ 65535 then Yn1 true xs else Yn1 false (xs.take 65535) ++ Y8v (xs.drop 65535)
termination_by xs.length
decreasing_by simp; omega
theorem Y2r (xs : List UInt8) (h : xs.length ≤ 65535) : Y8v xs = Yn1 true xs := by rw [Y8v, dif_pos h]
theorem Yua (xs : List UInt8) (h : ¬ xs.length ≤ 65535) : ∃ K, K < 65536 ∧ 1 ≤ K ∧ K < xs.length ∧ Y8v xs = Yn1 false (xs.take K) ++ Y8v (xs.drop K) :=
 ⟨65535, by decide, by decide, by omega, by rw [Y8v, dif_neg h]⟩
theorem Yqo {L r : List Bool} {most : Nat} : ∀ (n : Nat) (xs : List UInt8) (k : Nat) (out : List UInt8), xs.length ≤ n → L.drop (8 * k) = Y01 true (Y8v xs) ++ r → 8 * k ≤ L.length → out.length + xs.length ≤ most →
  Y4t L most (8 * k) out = .ok (out ++ xs, 8 * (k + (Y8v xs).length))
 | 0, xs, k, out, hn, hd, ha, hm => by
  have hx : xs.length ≤ 65535 := by omega
  rw [Y2r xs hx] at hd ⊢
  rw [Yib hd ha (by omega) hm, if_pos rfl, Y1o]
 | n + 1, xs, k, out, hn, hd, ha, hm => by
  by_cases hx : xs.length ≤ 65535
  ·rw [Y2r xs hx] at hd ⊢
   rw [Yib hd ha (by omega) hm, if_pos rfl, Y1o]
  ·obtain ⟨K, hK1, hK2, hK3, hK⟩ := Yua xs hx
   clear hx
   rw [hK] at hd ⊢
   have hl : (xs.take K).length = K := by rw [List.length_take]; omega
   have hm2 : (out ++ xs.take K).length + (xs.drop K).length ≤ most := by
    rw [List.length_append, hl, List.length_drop]
    omega
   have hn2 : (xs.drop K).length ≤ n := by
    rw [List.length_drop]
    omega
   have hy : (xs.take K).length < 65536 := by rw [hl]; exact hK1
   have hm1 : out.length + (xs.take K).length ≤ most := by rw [hl]; omega
   rw [Y0u, List.append_assoc] at hd
   have a1 := Y0o hd ha
   have d1 := Y0f hd
   rw [Y04, Y1o, hl] at a1 d1
   have e : 8 * k + 8 * (K + 5) = 8 * (k + (K + 5)) := by omega
   rw [e] at a1 d1
   have ih := Yqo n (xs.drop K) (k + (K + 5)) (out ++ xs.take K) hn2 d1 a1 hm2
   have h1 := Yib hd ha hy hm1
   rw [if_neg Bool.false_ne_true, hl] at h1
   rw [h1, ih, List.append_assoc, List.take_append_drop, List.length_append, Y1o, hl]
   congr 2
   omega
theorem Ygd (xs : List UInt8) (most : Nat) (hm : xs.length ≤ most) : inflate (Y8v xs) most = .ok (xs, (Y8v xs).length) := by
 rw [Y4f]
 have h := Yqo (L := Y01 true (Y8v xs)) (r := []) (most := most) xs.length xs 0 [] (Nat.le_refl _) (by rw [Nat.mul_zero, List.drop_zero, List.append_nil]) (Nat.zero_le _) (by rw [List.length_nil, Nat.zero_add]; exact hm)
 rw [show 8 * 0 = 0 from rfl] at h
 rw [h]
 simp only [List.nil_append, Nat.zero_add]
 congr 2
 omega
end Go.Proofs.YtkkfkmoikcmhoaaGreat.Df
namespace Go.Proofs.YtkkfkmoikcmhoaaGreat.Zl
open Go.RowKit Oct Inf
open Adl (sumN Beg Beg.of)
set_option maxRecDepth 100000
def YesP (w : World) (e : Ending) (w' : World) : Prop := e = .returned (.bool true) ∧ Below w.heap.size w w'
theorem Yk1 : Df.Y8v [] = [1, 0, 0, 255, 255] := by
 rw [Df.Y2r [] (by decide)]
 rfl
theorem Ymq : Tells [1, 0, 0, 255, 255] [] := by
 intro most hm
 have := Df.Ygd [] most hm
 rwa [Yk1] at this
theorem Ydi {fr : Bool} {w w' : World} {xs o : List UInt8} {most : Int} {e : Ending} {k n : Nat} (h : Y6d fr w xs most e w') (hz : Y3j xs most = .ok (o, k)) (hn : o.length = n) :
  Below w.heap.size w w' ∧ ∃ q c, e = .returned (.tuple #[.slice q n c, .int .i64 (k : Int), .int .i64 0]) ∧ Row w' q o ∧ (q = none → c = 0) ∧ n ≤ c ∧ c ≤ maxLen ∧ (fr = true → ∀ a, q = some a → w.heap.size ≤ a.block) := by
 subst hn
 rcases h.2 with ⟨o', k', q, c, h1, h2, h3, h4, h5, h6, _, h7⟩ | ⟨c, h1, _⟩
 ·rw [hz] at h1
  cases h1
  exact ⟨h.1, q, c, h2, h3, h4, h5, h6, h7⟩
 ·rw [hz] at h1; cases h1
theorem Yao {fr : Bool} {w w' : World} {xs : List UInt8} {most : Int} {e : Ending} {c : Nat} (h : Y6d fr w xs most e w') (hz : Y3j xs most = .error c) :
  Below w.heap.size w w' ∧ e = .returned (.tuple #[.slice none 0 0, .int .i64 0, .int .i64 (c : Int)]) := by
 rcases h.2 with ⟨o', k', q, c', h1, _⟩ | ⟨c', h1, _, h2⟩
 ·rw [hz] at h1; cases h1
 ·rw [hz] at h1
  cases h1
  exact ⟨h.1, h2⟩
theorem Ydo {X : List UInt8 → Nat → List UInt8 → Prop} {w w' : World} {xs : List UInt8} {k : Nat} {e : Ending} (hk : k ≤ 2) (h : Y8w X w xs (k : Int) e w') :
  Below w.heap.size w w' ∧ ∃ ys g c N, N = ys.length + 6 ∧ X xs k ys ∧ e = .returned (.tuple #[.slice (some ⟨g, 0, none⟩) N c, .int .i64 0]) ∧ Beg w' g (Y0n ys xs) ∧ N ≤ c ∧ c ≤ maxLen ∧ w.heap.size ≤ g := by
 obtain ⟨hb, h | ⟨j, ys, g, c, N, hj, hj2, hX, hN, he, hr, h1, h2, h3⟩⟩ := h
 ·omega
 ·have : j = k := by omega
  subst this
  exact ⟨hb, ys, g, c, N, hN, hX, he, hr, h1, h2, h3⟩
theorem Ygu : Y0n [1, 0, 0, 255, 255] [] = [120, 1, 1, 0, 0, 255, 255, 0, 0, 0, 1] := rfl
set_option maxHeartbeats 2000000 in
theorem Yt7 (fr : Bool) (X : List UInt8 → Nat → List UInt8 → Prop) (w : World) (hX : ∀ ys, X [] 0 ys → ys = [1, 0, 0, 255, 255]) (hP : ∀ W : World, Calls Tryz.prog 10 #[.slice none 0 0, .int .i64 0] W (Y8w X W [] 0))
  (hO : ∀ (W : World) (g c : Nat), Row W (some ⟨g, 0, none⟩) [120, 1, 1, 0, 0, 255, 255, 0, 0, 0, 1] → 11 ≤ c → Calls Tryz.prog 8 #[.slice (some ⟨g, 0, none⟩) 11 c, .int .i64 0] W (Y6d fr W [120, 1, 1, 0, 0, 255, 255, 0, 0, 0, 1] 0)) :
  Calls Tryz.prog 7 #[] w (YesP w) := by
 have HP := Lib.hid hP
 have HO := Lib.hid hO
 have HX := Lib.hid hX
 have HT : Hid (Y3j [120, 1, 1, 0, 0, 255, 255, 0, 0, 0, 1] 0 = .ok ([], 11)) := Lib.hid (by
  have := Yan (n := 0) Ymq rfl []
  rw [Ygu] at this
  exact this)
 clear hP hO hX
 go_enter Tryz.func7, Tryz.ntmps7
 go_wp2_with fail
 refine (HP.out _).mono ?_
 rintro e w1 hres
 obtain ⟨hb1, ys, g, c, N, hN, hY, rfl, hbeg, h1, h2, h3⟩ := Ydo (k := 0) (by omega) hres
 have hys := HX.out _ hY
 subst hys
 have hN11 : N = 11 := hN
 subst hN11
 have hrow := hbeg.row
 rw [Ygu] at hrow
 have HI := Lib.hid (HO.out w1 g c hrow h1)
 have HR := Lib.hid hrow
 have HB1 := Lib.hid hb1
 unfold maxLen at h2
 clear hrow hbeg hb1 hres hN hY HP HO
 go_wp2_with fail
 refine HI.out.mono ?_
 rintro e w2 hres
 obtain ⟨hb2, q2, c2, rfl, hr2, _⟩ := Ydi hres HT.out rfl
 have hconv := Y5y 11 c (HR.out.below hb2) rfl
 have hbs : bs [120, 1, 1, 0, 0, 255, 255, 0, 0, 0, 1] = { data := #[120, 1, 1, 0, 0, 255, 255, 0, 0, 0, 1] } := rfl
 rw [hbs] at hconv
 have HB2 := Lib.hid (HB1.out.trans (hb2.mono HB1.out.size))
 clear hb2 hres hbs hr2 HI
 go_wp2_with fail
 go_ret
 exact ⟨rfl, HB2.out⟩
end Go.Proofs.YtkkfkmoikcmhoaaGreat.Zl
namespace Go.Proofs.YtkkfkmoikcmhoaaGreat.Bit
open Go.RowKit Oct
def Only (S : Nat → Prop) (w w' : World) : Prop :=
 w'.os = w.os ∧ w'.tape = w.tape ∧ w'.output = w.output ∧ w.heap.size ≤ w'.heap.size ∧ ∀ k, k < w.heap.size → ¬ S k → w'.heap[k]? = w.heap[k]?
theorem Only.refl (S : Nat → Prop) (w : World) : Only S w w := ⟨rfl, rfl, rfl, Nat.le_refl _, fun _ _ _ => rfl⟩
theorem Only.trans {S : Nat → Prop} {a b c : World} (h : Only S a b) (k : Only S b c) : Only S a c :=
 ⟨k.1.trans h.1, k.2.1.trans h.2.1, k.2.2.1.trans h.2.2.1, Nat.le_trans h.2.2.2.1 k.2.2.2.1, fun i hi hs => (k.2.2.2.2 i (by have := h.2.2.2.1; omega) hs).trans (h.2.2.2.2 i hi hs)⟩
theorem Only.below {S : Nat → Prop} {B : Nat} {w w' : World} (h : Only S w w') (hB : B ≤ w.heap.size) (hS : ∀ k, k < B → ¬ S k) : Below B w w' :=
 ⟨h.1, h.2.1, h.2.2.1, h.2.2.2.1, fun k hk => h.2.2.2.2 k (by omega) (hS k hk)⟩
theorem Only.of_below {S : Nat → Prop} {w w' : World} (h : Below w.heap.size w w') : Only S w w' := ⟨h.os, h.tape, h.output, h.size, fun k hk _ => h.block k hk⟩
theorem Only.drawn (S : Nat → Prop) {w w' : World} (h : Drawn w w') : Only S w w' := by
 obtain ⟨n, rfl⟩ := h
 exact ⟨rfl, rfl, rfl, Nat.le_refl _, fun _ _ _ => rfl⟩
theorem Only.setCell {S : Nat → Prop} {w : World} {p : Addr} (hp : S p.block) (u : Value) : Only S w (w.setCell p u) :=
 ⟨rfl, rfl, rfl, by simp [World.setCell], fun k hk hs => Below.heap_setCell _ _ _ _ (fun e => hs (e ▸ hp))⟩
theorem Only.mono {S S' : Nat → Prop} {w w' : World} (h : Only S w w') (hs : ∀ k, k < w.heap.size → S k → S' k) : Only S' w w' :=
 ⟨h.1, h.2.1, h.2.2.1, h.2.2.2.1, fun k hk hn => h.2.2.2.2 k hk (fun e => hn (hs k hk e))⟩
def RowB (w : World) (g : Nat) (p : Option Addr) (xs : List UInt8) : Prop :=
 0 < xs.length → ∃ b off, p = some ⟨b, off, none⟩ ∧ b < g ∧ ∀ i (h : i < xs.length), w.cell? ⟨b, off + i, none⟩ = some (.int .u8 (xs[i].toNat : Int))
def Rd (w : World) (g : Nat) (p : Option Addr) (cap : Nat) (xs : List UInt8) (at_ : Nat) (low : Bool) : Prop :=
 w.heap[g]? = some (.cells #[.slice p xs.length cap, .int .i64 (at_ : Int), .bool low] 99 (0, 0)) ∧ RowB w g p xs ∧ at_ ≤ 8 * xs.length ∧ 8 * xs.length ≤ 2000000000000000
theorem Rd.c0 {w : World} {g : Nat} {p : Option Addr} {cap : Nat} {xs : List UInt8} {at_ : Nat} {low : Bool} (h : Rd w g p cap xs at_ low) : w.cell? ⟨g, 0, none⟩ = some (.slice p xs.length cap) := by
 simp [World.cell?, h.1]
theorem Rd.c1 {w : World} {g : Nat} {p : Option Addr} {cap : Nat} {xs : List UInt8} {at_ : Nat} {low : Bool} (h : Rd w g p cap xs at_ low) : w.cell? ⟨g, 1, none⟩ = some (.int .i64 (at_ : Int)) := by
 simp [World.cell?, h.1]
theorem Rd.c2 {w : World} {g : Nat} {p : Option Addr} {cap : Nat} {xs : List UInt8} {at_ : Nat} {low : Bool} (h : Rd w g p cap xs at_ low) : w.cell? ⟨g, 2, none⟩ = some (.bool low) := by
 simp [World.cell?, h.1]
theorem Rd.fz {w : World} {g : Nat} {p : Option Addr} {cap : Nat} {xs : List UInt8} {at_ : Nat} {low : Bool} (h : Rd w g p cap xs at_ low) (i : Nat) : w.frozen? ⟨g, i, none⟩ = false := by
 simp [World.frozen?, h.1]
theorem Rd.drawn {w w' : World} {g : Nat} {p : Option Addr} {cap : Nat} {xs : List UInt8} {at_ : Nat} {low : Bool} (h : Rd w g p cap xs at_ low) (hd : Drawn w w') : Rd w' g p cap xs at_ low := by
 obtain ⟨n, rfl⟩ := hd
 exact h
theorem Rd.lt {w : World} {g : Nat} {p : Option Addr} {cap : Nat} {xs : List UInt8} {at_ : Nat} {low : Bool} (h : Rd w g p cap xs at_ low) : g < w.heap.size := by
 rcases Nat.lt_or_ge g w.heap.size with hlt | hge
 ·exact hlt
 ·have := h.1; rw [Array.getElem?_eq_none hge] at this; cases this
theorem Rd.below {w w' : World} {B g : Nat} {p : Option Addr} {cap : Nat} {xs : List UInt8} {at_ : Nat} {low : Bool} (h : Rd w g p cap xs at_ low) (hb : Below B w w') (hg : g < B) : Rd w' g p cap xs at_ low := by
 refine ⟨(hb.block g hg).trans h.1, fun h0 => ?_, h.2.2⟩
 obtain ⟨b, off, e, hlt, hc⟩ := h.2.1 h0
 exact ⟨b, off, e, hlt, fun i hi => (hb.cell (p := ⟨b, off + i, none⟩) (by show b < B; omega)).trans (hc i hi)⟩
theorem Rd.put {w : World} {g : Nat} {p : Option Addr} {cap : Nat} {xs : List UInt8} {at_ : Nat} {low : Bool} (h : Rd w g p cap xs at_ low) (k : Nat) (hk : k ≤ 8 * xs.length) :
  Rd (w.setCell ⟨g, 1, none⟩ (.int .i64 (k : Int))) g p cap xs k low := by
 refine ⟨?_, fun h0 => ?_, hk, h.2.2.2⟩
 ·have := h.1
  simp [World.setCell, Array.getElem?_modify, this]
 ·obtain ⟨b, off, e, hlt, hc⟩ := h.2.1 h0
  refine ⟨b, off, e, hlt, fun i hi => ?_⟩
  rw [← hc i hi]
  exact World.cell?_of_block (w := w) (Below.heap_setCell _ _ _ _ (by show b ≠ g; omega))
def Ybe (n : Int) : Bool := decide (0 ≤ n ∧ n ≤ 32)
theorem Y30 (n : Int) (w : World) : Calls Tryz.prog 86 #[.int .i64 n] w fun e w' => e = .returned (.bool (Ybe n)) ∧ w = w' := by
 by_cases h0 : 0 ≤ n
 ·by_cases h1 : n ≤ 32
  ·have e : Ybe n = true := by simp [Ybe, h0, h1]
   rw [e]; clear e
   go_enter Tryz.func86, Tryz.ntmps86
   go_wp2
   go_ret
   exact ⟨rfl, rfl⟩
  ·have e : Ybe n = false := by simp [Ybe, h1]
   rw [e]; clear e
   have hd : decide (n ≤ 32) = false := by simpa using h1
   go_enter Tryz.func86, Tryz.ntmps86
   go_wp2
   go_ret
   exact ⟨rfl, rfl⟩
 ·have e : Ybe n = false := by simp [Ybe, h0]
  rw [e]; clear e
  have hd : decide (0 ≤ n) = false := by simpa using h0
  go_enter Tryz.func86, Tryz.ntmps86
  go_wp2
  go_ret
  exact ⟨rfl, rfl⟩
theorem Y2y (n : Nat) (w : World) (h : n ≤ 4000000000000000) : Calls Tryz.prog 99 #[.int .i64 (n : Int)] w fun e w' => e = .returned (.int .i64 (((n + 7) / 8 : Nat) : Int)) ∧ w = w' := by
 have e : (((n + 7) / 8 : Nat) : Int) = ((n : Int) + 7) / 8 := by omega
 rw [e]; clear e
 go_enter Tryz.func99, Tryz.ntmps99
 go_wp2
 go_ret
 exact ⟨rfl, rfl⟩
theorem Y73 (i count : Nat) (low : Bool) (w : World) (h : i < count) (hc : count ≤ 5) :
  Calls Tryz.prog 118 #[.int .i64 (i : Int), .int .i64 (count : Int), .bool low] w fun e w' => e = .returned (.int .i64 ((gsh low (8 * i) 8 (8 * count) : Nat) : Int)) ∧ w = w' := by
 cases low
 ·have e : ((gsh false (8 * i) 8 (8 * count) : Nat) : Int) = 8 * ((count : Int) - 1 - (i : Int)) := by simp only [gsh, Bool.false_eq_true, if_false]; omega
  rw [e]; clear e
  go_enter Tryz.func118, Tryz.ntmps118
  go_wp2
  go_ret
  exact ⟨rfl, rfl⟩
 ·have e : ((gsh true (8 * i) 8 (8 * count) : Nat) : Int) = 8 * (i : Int) := by simp [gsh]
  rw [e]; clear e
  go_enter Tryz.func118, Tryz.ntmps118
  go_wp2
  go_ret
  exact ⟨rfl, rfl⟩
theorem Y6c (ahead n : Nat) (low : Bool) (w : World) (ha : ahead < 8) (hn : n ≤ 32) :
  Calls Tryz.prog 119 #[.int .i64 (ahead : Int), .int .i64 (n : Int), .bool low] w fun e w' => e = .returned (.int .i64 ((gsh low ahead n (8 * cnt ahead n) : Nat) : Int)) ∧ w = w' := by
 cases low
 ·have e : ((gsh false ahead n (8 * cnt ahead n) : Nat) : Int) = 8 * (((cnt ahead n : Nat)) : Int) - (ahead : Int) - (n : Int) := by
   simp only [gsh, cnt, Bool.false_eq_true, if_false]; omega
  have hcn : cnt ahead n ≤ 5 := by unfold cnt; omega
  rw [e]; clear e
  go_enter Tryz.func119, Tryz.ntmps119
  go_wp2_with fail
  have e2 : (ahead : Int) + (n : Int) = ((ahead + n : Nat) : Int) := by omega
  rw [e2]
  refine (Y2y _ _ (by omega)).mono ?_
  rintro e w' ⟨rfl, rfl⟩
  have e3 : (ahead + n + 7) / 8 = cnt ahead n := rfl
  rw [e3]
  clear e2 e3
  go_wp2
  go_ret
  exact ⟨rfl, rfl⟩
 ·have e : ((gsh true ahead n (8 * cnt ahead n) : Nat) : Int) = (ahead : Int) := by simp [gsh]
  rw [e]; clear e
  go_enter Tryz.func119, Tryz.ntmps119
  go_wp2
  go_ret
  exact ⟨rfl, rfl⟩
theorem Ykt (g : Nat) (p : Option Addr) (cap : Nat) (xs : List UInt8) (at_ : Nat) (low : Bool) (w : World) (i : Nat) (hR : Rd w g p cap xs at_ low) (hi : i ≤ 4000000000000000) :
  Calls Tryz.prog 117 #[.pointer (some ⟨g, 0, none⟩), .int .i64 (i : Int)] w fun e w' => e = .returned (.int .u8 ((xs.getD i 0).toNat : Int)) ∧ w = w' := by
 have h0 := hR.c0
 by_cases h : i < xs.length
 ·obtain ⟨b, off, rfl, _, hc⟩ := hR.2.1 (by omega)
  have hc' := hc i h
  have hx : xs[i].toNat < 256 := xs[i].toNat_lt
  have hd : decide ((xs.length : Int) ≤ (i : Int)) = false := by simp; omega
  have e : (xs.getD i 0).toNat = xs[i].toNat := by simp [List.getD, List.getElem?_eq_getElem h]
  have hl := hR.2.2.2
  rw [e]
  clear hR hc e
  go_enter Tryz.func117, Tryz.ntmps117
  go_wp2
  go_ret
  exact ⟨rfl, rfl⟩
 ·have e : (((xs.getD i 0).toNat : Nat) : Int) = 0 := by simp [List.getD, List.getElem?_eq_none (Nat.le_of_not_lt h)]
  have hd : decide ((xs.length : Int) ≤ (i : Int)) = true := by simp; omega
  have hl := hR.2.2.2
  rw [e]
  clear hR e
  go_enter Tryz.func117, Tryz.ntmps117
  go_wp2
  go_ret
  exact ⟨rfl, rfl⟩
theorem Yvb (g : Nat) (p : Option Addr) (cap : Nat) (xs : List UInt8) (at_ : Nat) (low : Bool) (w : World) (hR : Rd w g p cap xs at_ low) :
  Calls Tryz.prog 29 #[.pointer (some ⟨g, 0, none⟩)] w fun e w' => e = .returned (.int .i64 (at_ : Int)) ∧ w = w' := by
 have h1 := hR.c1
 clear hR
 go_enter Tryz.func29, Tryz.ntmps29
 go_wp2
 go_ret
 exact ⟨rfl, rfl⟩
theorem Yj6 (g : Nat) (p : Option Addr) (cap : Nat) (xs : List UInt8) (at_ : Nat) (low : Bool) (w : World) (hR : Rd w g p cap xs at_ low) :
  Calls Tryz.prog 87 #[.pointer (some ⟨g, 0, none⟩)] w fun e w' => e = .returned (.int .i64 ((8 * xs.length - at_ : Nat) : Int)) ∧ Drawn w w' := by
 have h0 := hR.c0
 have h1 := hR.c1
 have hl := hR.2.2.1
 have hm := hR.2.2.2
 have e : (((8 * xs.length - at_ : Nat)) : Int) = 8 * (xs.length : Int) - (at_ : Int) := by omega
 rw [e]
 clear hR e
 go_enter Tryz.func87, Tryz.ntmps87
 go_wp2_with fail
 go_quiet (fail)
 go_wp2_with fail
 go_ret
 exact ⟨rfl, ⟨_, rfl⟩⟩
end Go.Proofs.YtkkfkmoikcmhoaaGreat.Bit
namespace Go.Proofs.YtkkfkmoikcmhoaaGreat.Bit
open Go.RowKit Oct
theorem Ysw (low : Bool) (i c : Nat) (h : i < c) : gsh low (8 * i) 8 (8 * c) = shiftN i c (!low) := by
 cases low <;> simp [gsh, shiftN] <;> omega
theorem Yxq {k : IntKind} {a b : Int} (h : a = b) : Ending.returned (.int k a) = .returned (.int k b) := by rw [h]
theorem Yxf (xs : List UInt8) (c k : Nat) (low : Bool) (x : UInt8) (hk : k < c) (hc : c ≤ 5) (hx : k < xs.length) (hl : xs.length = c) (hxx : xs[k] = x) :
  bits .or .u64 ((Oct.part (!low) c (xs.take k) : Nat) : Int) (IntKind.u64.wrap (IntKind.u64.wrap (x.toNat : Int) * 2 ^ min (gsh low (8 * k) 8 (8 * c)) 64)) = ((Oct.part (!low) c (xs.take (k + 1)) : Nat) : Int) := by
 subst hxx
 have hb : xs[k].toNat < 256 := xs[k].toNat_lt
 have ht := Yif xs[k] k c (!low) hk (by omega)
 have hp := Yi0 (!low) c (xs.take k) (by rw [List.length_take]; omega) (by omega)
 have e0 : min (gsh low (8 * k) 8 (8 * c)) 64 = shiftN k c (!low) := by
  rw [Ysw low k c hk]
  apply Nat.min_eq_left
  cases low <;> simp [shiftN] <;> omega
 have e1 : IntKind.u64.wrap ((xs[k].toNat : Int) * 2 ^ shiftN k c (!low)) = ((xs[k].toNat * 2 ^ shiftN k c (!low) : Nat) : Int) := by
  have e2 : ((xs[k].toNat : Int) * 2 ^ shiftN k c (!low)) = ((xs[k].toNat * 2 ^ shiftN k c (!low) : Nat) : Int) := by push_cast; rfl
  rw [e2, IntWalk.u64_in _ (by omega)]
 rw [e0, IntWalk.u64_in ((xs[k].toNat : Int)) (by omega), e1, u64_or_nat _ _ hp ht, Y3e xs k hx]
 have hlen : (xs.take k).length = k := by rw [List.length_take]; omega
 have := Yg1 (!low) c (xs.take k) xs[k] (by omega) (by omega)
 rw [hlen] at this
 rw [this]
theorem Ytc (G s n : Nat) (hG : G < 18446744073709551616) (hn : n ≤ 32) (hs : s ≤ 40) :
  bits .and .u64 ((G : Int) / 2 ^ min s 64) (IntKind.u64.wrap (IntKind.u64.wrap (2 ^ n) - 1)) % 4294967296 = ((G / 2 ^ s % 2 ^ n : Nat) : Int) := by
 rw [Nat.min_eq_left (by omega)]
 have h32 : (2 : Nat) ^ n ≤ 2 ^ 32 := Nat.pow_le_pow_right (by omega) hn
 have hpos : 0 < (2 : Nat) ^ n := Nat.pow_pos (by omega)
 have e1 : ((2 : Int) ^ n) = ((2 ^ n : Nat) : Int) := by push_cast; rfl
 have e2 : ((G : Int) / 2 ^ s) = ((G / 2 ^ s : Nat) : Int) := by push_cast; rfl
 have hle : G / 2 ^ s ≤ G := Nat.div_le_self _ _
 have hlt : G / 2 ^ s % 2 ^ n < 2 ^ n := Nat.mod_lt _ hpos
 rw [e1, e2, IntWalk.u64_in ((2 ^ n : Nat) : Int) (by omega)]
 have e3 : (((2 ^ n : Nat) : Int) - 1) = ((2 ^ n - 1 : Nat) : Int) := by omega
 rw [e3, IntWalk.u64_in _ (by omega), u64_and_nat _ _ (by omega) (by omega), Nat.and_two_pow_sub_one_eq_mod]
 omega
set_option maxHeartbeats 1000000 in
theorem Ydb (g : Nat) (p : Option Addr) (cap : Nat) (xs : List UInt8) (at_ : Nat) (low : Bool) (w : World) (n : Nat) (hR : Rd w g p cap xs at_ low) (hn : n ≤ 32) :
  Calls Tryz.prog 88 #[.pointer (some ⟨g, 0, none⟩), .int .i64 (n : Int)] w fun e w' => e = .returned (.int .u32 ((nextV low xs at_ n : Nat) : Int)) ∧ Drawn w w' := by
 have h1 := hR.c1
 have hl := hR.2.2.1
 have hm := hR.2.2.2
 have hgl := Y8q xs at_ n hl hn
 have hnx := Ym1 low xs at_ n hl hn
 obtain ⟨c, hc⟩ : ∃ c, c = cnt (at_ % 8) n := ⟨_, rfl⟩
 have hc5 : c ≤ 5 := by rw [hc]; unfold cnt; omega
 have HN := Lib.hid hnx
 have HGL := Lib.hid hgl
 have HC := Lib.hid hc
 clear hnx hgl hc
 go_enter Tryz.func88, Tryz.ntmps88
 go_wp2_with fail
 have e2 : ((at_ : Int) % 8) + (n : Int) = ((at_ % 8 + n : Nat) : Int) := by omega
 rw [e2]
 refine (Y2y _ _ (by omega)).mono ?_
 rintro e w' ⟨rfl, rfl⟩
 rw [show (at_ % 8 + n + 7) / 8 = c from HC.out.symm]
 clear e2
 go_wp2_with fail
 have HR := Lib.hid hR
 clear hR
 go_loopw [7, 8, 19] (fun v i k wr => ∃ j : Nat, j ≤ c ∧ k = .int .i64 (j : Int) ∧ v = .int .u64 ((Oct.part (!low) c ((group xs at_ c).take j) : Nat) : Int) ∧ Drawn w wr) (fun _ _ k _ => c - (intOf k).toNat)
 case atStart => exact ⟨0, by omega, rfl, by simp [Yjp], ⟨0, rfl⟩⟩
 case round =>
  obtain ⟨j, hj, rfl, rfl, hq⟩ := hrel
  have hRr : Rd wr g p cap xs at_ low := HR.out.drawn hq
  have c1 := hRr.c1
  have c2 := hRr.c2
  by_cases hlt : j < c
  ·have hjl : j < (group xs at_ c).length := by rw [HC.out, HGL.out, ← HC.out]; exact hlt
   have hor := Yxf (group xs at_ c) c j low (xs[at_ / 8 + j]?.getD 0) hlt hc5 hjl (by rw [HC.out]; exact HGL.out) (by rw [Yos, List.getD_eq_getElem?_getD])
   have HO := Lib.hid hor
   clear hor
   have s1 : IntKind.i64.wrap ((at_ : Int) / 8 + (j : Int)) = (at_ : Int) / 8 + (j : Int) := IntWalk.i64_in _ (by omega)
   have s2 : ((at_ : Int) / 8 + (j : Int)) = ((at_ / 8 + j : Nat) : Int) := by omega
   have s3 : at_ / 8 + j ≤ 4000000000000000 := by omega
   have S2 := Lib.hid s2
   clear s2
   go_wp2_with fail
   go_quiet (first | (go_at_call 117; rw [S2.out]; exact quietly (Ykt _ _ _ _ _ _ _ _ (by exact hRr) (by omega))) | (go_at_call 118; exact quietly (Y73 _ _ _ _ hlt hc5)))
   go_wp2_with fail
   go_roundw
   case rel => exact ⟨j + 1, by omega, by go_num, by rw [HO.out], hq.more _⟩
   case measure => simp [intOf]; omega
  ·have hj' : j = c := by omega
   subst hj'
   have hfull := Yas (!low) j (group xs at_ j) (by rw [HC.out]; exact HGL.out)
   rw [List.take_of_length_le (by rw [HC.out, HGL.out]; omega), hfull]
   clear hfull
   obtain ⟨G, hG⟩ : ∃ G, G = numOf (!low) (group xs at_ j) := ⟨_, rfl⟩
   have hGl : G < 18446744073709551616 := by
    have h1 := Yi0 (!low) j (group xs at_ j) (by rw [HC.out, HGL.out]; omega) (by omega)
    rw [Yas (!low) j (group xs at_ j) (by rw [HC.out]; exact HGL.out)] at h1
    omega
   rw [← hG]
   have HG := Lib.hid hG
   clear hG
   have e2 : (at_ : Int) % 8 = ((at_ % 8 : Nat) : Int) := by omega
   have E2 := Lib.hid e2
   clear e2
   go_wp2_with fail
   rw [E2.out]
   refine (Y6c _ _ _ _ (by omega) hn).mono ?_
   rintro e w' ⟨rfl, rfl⟩
   have hsb : gsh low (at_ % 8) n (8 * cnt (at_ % 8) n) ≤ 40 := by
    have : cnt (at_ % 8) n ≤ 5 := by unfold cnt; omega
    cases low <;> simp [gsh] <;> omega
   have hmv := Ytc G (gsh low (at_ % 8) n (8 * cnt (at_ % 8) n)) n hGl hn hsb
   rw [HG.out] at hmv
   have hN := HN.out
   rw [← HC.out] at hN hmv
   rw [hN, ← HG.out] at hmv
   rw [← HC.out]
   have HM := Lib.hid hmv
   clear hmv hN hsb
   generalize gsh low (at_ % 8) n (8 * j) = s at HM ⊢
   go_wp2_with fail
   go_ret
   exact ⟨Yxq HM.out, hq⟩
def okR (n : Int) (len at_ : Nat) : Bool := Ybe n && decide ((at_ : Int) + n ≤ (len : Int))
def Y8e (n : Int) (low : Bool) (xs : List UInt8) (at_ : Nat) : Int := if okR n (8 * xs.length) at_ then ((nextV low xs at_ n.toNat : Nat) : Int) else 0
def Y8d (n : Int) (len at_ : Nat) : Int := if okR n len at_ then 0 else if Ybe n then 2 else 1
def Y8c (n : Int) (len at_ : Nat) : Nat := if okR n len at_ then at_ + n.toNat else at_
def ReadP (g : Nat) (p : Option Addr) (cap : Nat) (xs : List UInt8) (at_ : Nat) (low : Bool) (w : World) (n : Int) (e : Ending) (w' : World) : Prop :=
 e = .returned (.tuple #[.int .u32 (Y8e n low xs at_), .int .i64 (Y8d n (8 * xs.length) at_)]) ∧ Rd w' g p cap xs (Y8c n (8 * xs.length) at_) low ∧ Only (· = g) w w' ∧ w'.heap.size = w.heap.size
theorem Yjt (g : Nat) (p : Option Addr) (cap : Nat) (xs : List UInt8) (at_ : Nat) (low : Bool) (w : World) (n : Int) (hR : Rd w g p cap xs at_ low) :
  Calls Tryz.prog 55 #[.pointer (some ⟨g, 0, none⟩), .int .i64 n] w (ReadP g p cap xs at_ low w n) := by
 have hl := hR.2.2.1
 have hm := hR.2.2.2
 by_cases hc : Ybe n = true
 ·have hb := of_decide_eq_true hc
  obtain ⟨k, rfl⟩ : ∃ k : Nat, n = (k : Int) := ⟨n.toNat, by omega⟩
  by_cases hk : at_ + k ≤ 8 * xs.length
  ·have ho : okR (k : Int) (8 * xs.length) at_ = true := by unfold okR; rw [hc]; simp; omega
   have e1 : Y8e (k : Int) low xs at_ = ((nextV low xs at_ k : Nat) : Int) := by unfold Y8e; rw [ho]; rfl
   have e2 : Y8d (k : Int) (8 * xs.length) at_ = 0 := by unfold Y8d; rw [ho]; rfl
   have e3 : Y8c (k : Int) (8 * xs.length) at_ = at_ + k := by unfold Y8c; rw [ho]; rfl
   have HC := Lib.hid hc
   have E1 := Lib.hid e1
   have E2 := Lib.hid e2
   have E3 := Lib.hid e3
   clear e1 e2 e3 hc ho
   go_enter Tryz.func55, Tryz.ntmps55
   go_wp2_with fail
   refine (Y30 _ _).mono ?_
   rintro e w' ⟨rfl, rfl⟩
   rw [HC.out]
   go_wp2_with fail
   refine (Yj6 _ _ _ _ _ _ _ hR).mono ?_
   rintro e w1 ⟨rfl, hd1⟩
   have hR1 := hR.drawn hd1
   have hdec : decide (8 * xs.length - at_ < k) = false := by simp; omega
   go_wp2_with fail
   refine (Ydb _ _ _ _ _ _ _ _ hR1 (by omega)).mono ?_
   rintro e w2 ⟨rfl, hd2⟩
   have hR2 := hR1.drawn hd2
   have c1 := hR2.c1
   have hf := hR2.fz 1
   clear hdec
   go_wp2_with fail
   go_ret2
   have hp := hR2.put (at_ + k) hk
   have es : (((at_ + k : Nat)) : Int) = (at_ : Int) + (k : Int) := by omega
   rw [es] at hp
   refine ⟨by rw [E1.out, E2.out]; rfl, by rw [E3.out]; exact hp, (((Only.drawn _ hd1).trans (Only.drawn _ hd2)).trans (Only.setCell (S := (· = g)) (p := ⟨g, 1, none⟩) (by rfl) _)), ?_⟩
   obtain ⟨_, rfl⟩ := hd1
   obtain ⟨_, rfl⟩ := hd2
   simp [World.setCell]
  ·have ho : okR (k : Int) (8 * xs.length) at_ = false := by unfold okR; rw [hc]; simp; omega
   have e1 : Y8e (k : Int) low xs at_ = 0 := by unfold Y8e; rw [ho]; rfl
   have e2 : Y8d (k : Int) (8 * xs.length) at_ = 2 := by unfold Y8d; rw [ho, hc]; rfl
   have e3 : Y8c (k : Int) (8 * xs.length) at_ = at_ := by unfold Y8c; rw [ho]; rfl
   have HC := Lib.hid hc
   have E1 := Lib.hid e1
   have E2 := Lib.hid e2
   have E3 := Lib.hid e3
   clear e1 e2 e3 hc ho
   go_enter Tryz.func55, Tryz.ntmps55
   go_wp2_with fail
   refine (Y30 _ _).mono ?_
   rintro e w' ⟨rfl, rfl⟩
   rw [HC.out]
   go_wp2_with fail
   refine (Yj6 _ _ _ _ _ _ _ hR).mono ?_
   rintro e w1 ⟨rfl, hd1⟩
   have hR1 := hR.drawn hd1
   have hdec : decide (8 * xs.length - at_ < k) = true := by simp; omega
   go_wp2_with fail
   go_ret2
   refine ⟨by rw [E1.out, E2.out]; rfl, by rw [E3.out]; exact hR1, Only.drawn _ hd1, ?_⟩
   obtain ⟨_, rfl⟩ := hd1
   rfl
 ·have hc' : Ybe n = false := by simpa using hc
  have ho : okR n (8 * xs.length) at_ = false := by unfold okR; rw [hc']; simp
  have e1 : Y8e n low xs at_ = 0 := by unfold Y8e; rw [ho]; rfl
  have e2 : Y8d n (8 * xs.length) at_ = 1 := by unfold Y8d; rw [ho, hc']; rfl
  have e3 : Y8c n (8 * xs.length) at_ = at_ := by unfold Y8c; rw [ho]; rfl
  have HC := Lib.hid hc'
  have E1 := Lib.hid e1
  have E2 := Lib.hid e2
  have E3 := Lib.hid e3
  clear e1 e2 e3 hc hc' ho
  go_enter Tryz.func55, Tryz.ntmps55
  go_wp2_with fail
  refine (Y30 _ _).mono ?_
  rintro e w' ⟨rfl, rfl⟩
  rw [HC.out]
  go_wp2_with fail
  go_ret2
  exact ⟨by rw [E1.out, E2.out]; rfl, by rw [E3.out]; exact hR, Only.refl _ _, rfl⟩
def Yyn (g : Nat) (p : Option Addr) (cap : Nat) (xs : List UInt8) (at_ : Nat) (low : Bool) (w : World) (e : Ending) (w' : World) : Prop :=
 e = .returned (.tuple #[]) ∧ Rd w' g p cap xs (8 * ((at_ + 7) / 8)) low ∧ Only (· = g) w w' ∧ w'.heap.size = w.heap.size
theorem Ync (g : Nat) (p : Option Addr) (cap : Nat) (xs : List UInt8) (at_ : Nat) (low : Bool) (w : World) (hR : Rd w g p cap xs at_ low) :
  Calls Tryz.prog 89 #[.pointer (some ⟨g, 0, none⟩)] w (Yyn g p cap xs at_ low w) := by
 have hl := hR.2.2.1
 have hm := hR.2.2.2
 have c1 := hR.c1
 have hf := hR.fz 1
 go_enter Tryz.func89, Tryz.ntmps89
 go_wp2_with fail
 refine (Y2y _ _ (by omega)).mono ?_
 rintro e w' ⟨rfl, rfl⟩
 go_wp2_with fail
 go_end0
 have hp := hR.put (8 * ((at_ + 7) / 8)) (by omega)
 rw [Int.natCast_mul] at hp
 exact ⟨rfl, hp, Only.setCell (S := (· = g)) (p := ⟨g, 1, none⟩) (by rfl) _, by simp [World.setCell]⟩
end Go.Proofs.YtkkfkmoikcmhoaaGreat.Bit
namespace Go.Proofs.YtkkfkmoikcmhoaaGreat.Bit
open Go.RowKit Oct
def Yv6 (w : World) (xs : List UInt8) (e : Ending) (w' : World) : Prop :=
 Below w.heap.size w w' ∧ ∃ q cap, e = .returned (.slice q xs.length cap) ∧ Row w' q xs ∧ xs.length ≤ cap ∧ cap ≤ maxLen ∧ (q = none → cap = 0) ∧ ∀ a, q = some a → w.heap.size ≤ a.block
theorem Yeo (p : Option Addr) (len cap : Nat) (xs : List UInt8) (w : World) (hr : Row w p xs) (hx : xs.length = len) (hnil : p = none → cap = 0) (h47 : len ≤ 140737488355328) :
  Calls Tryz.prog 53 #[.slice p len cap] w (Yv6 w xs) := by
 rcases p with _ | ad
 ·have hxs : xs = [] := by
   rcases xs with _ | ⟨x, xs⟩
   ·rfl
   ·obtain ⟨b, off, he, _⟩ := hr (by simp)
    cases he
  subst hxs
  simp at hx
  subst hx
  have hcap := hnil rfl
  subst hcap
  clear hnil
  have heq : ∀ w' : World, (binOp .eql 22 (.slice none 0 0) (.slice none 0 0)).run Tryz.prog w' = .ok (.bool true) w' := fun w' => Lib.run_eql_slice_nil (P := Tryz.prog) w' 22 5 none 0 0 0 0 Tryz.underlying22
  go_enter Tryz.func53, Tryz.ntmps53
  go_wp2_with fail
  go_ret
  exact ⟨Below.refl _ _, none, 0, rfl, fun h => absurd h (by simp), by simp, by simp [maxLen], fun _ => rfl, (fun a h => by cases h)⟩
 ·have hown := World.ownsRow_made (base := w.heap.size) (e := 5) (size := 1) w #[] 0 (Nat.le_refl _) (by simp [maxLen]) rfl
  have hr2 := hr.below ((Below.refl _ w).alloc (Nat.le_refl _) (.cells #[] 5))
  have HX := Lib.hid hx
  clear hx hnil
  have heq : ∀ w' : World, (binOp .eql 22 (.slice (some ad) len cap) (.slice none 0 0)).run Tryz.prog w' = .ok (.bool false) w' := fun w' => Lib.run_eql_slice_nil (P := Tryz.prog) w' 22 5 (some ad) len cap 0 0 Tryz.underlying22
  go_enter Tryz.func53, Tryz.ntmps53
  go_wp2_with (at_builtin; refine Y0j rfl _ _ rfl w.heap.size _ 0 [] rfl hown (some ad) len cap xs rfl hr2 HX.out (fun h => by cases h) (by omega) (by simp) ?_)
  intro v' w2 hown' hgrow hv
  obtain ⟨g, cap2, hv', hgc, hgm, hgb, hgl, hrow2⟩ := Ydl hown' hv
  rw [hv']
  have hb12 : Below w.heap.size w w2 := ((Below.refl _ w).alloc (Nat.le_refl _) _).grown hgrow (by simp) (fun k hk => by
   simp [Value.ownBlock] at hk; omega)
  clear hown hr2 hown' hgrow hv hv'
  go_wp2_with fail
  go_ret
  exact ⟨hb12, some ⟨g, 0, none⟩, cap2, by rw [HX.out]; simp, hrow2, by rw [HX.out]; omega, hgm, (fun h => by cases h), (fun a h => by injection h with h; subst h; exact hgb)⟩
def NewP (w : World) (xs : List UInt8) (low : Bool) (e : Ending) (w' : World) : Prop :=
 Below w.heap.size w w' ∧ ∃ g q cap, e = .returned (.pointer (some ⟨g, 0, none⟩)) ∧ w.heap.size ≤ g ∧ Rd w' g q cap xs 0 low ∧ ∀ a, q = some a → w.heap.size ≤ a.block
theorem Yd9 (p : Option Addr) (len cap : Nat) (xs : List UInt8) (low : Bool) (w : World) (hr : Row w p xs) (hx : xs.length = len) (hnil : p = none → cap = 0) (h47 : len ≤ 140737488355328) :
  Calls Tryz.prog 25 #[.slice p len cap, .bool low] w (NewP w xs low) := by
 go_enter Tryz.func25, Tryz.ntmps25
 go_wp2_with fail
 refine (Yeo _ _ _ xs _ hr hx hnil h47).mono ?_
 rintro e w1 ⟨hb, q, cap1, rfl, hr1, hc1, hc2, _, hqb⟩
 have HX := Lib.hid hx
 clear hx hnil
 go_wp2_with fail
 go_ret
 refine ⟨hb.alloc hb.size _, w1.heap.size, q, cap1, rfl, hb.size, ⟨?_, ?_, by omega, ?_⟩, hqb⟩
 ·show (w1.heap.push _)[w1.heap.size]? = _
  simp
 ·intro h0
  obtain ⟨b, off, e, hlt, hc⟩ := hr1 h0
  refine ⟨b, off, e, hlt, fun i hi => ?_⟩
  rw [← hc i hi]
  exact World.cell?_of_block (w := w1) (Below.heap_alloc _ _ _ hlt)
 ·rw [HX.out]; omega
theorem Yxu (w : World) (x : UInt8) (T : Nat) : Row (w.alloc (.cells #[.int .u8 (x.toNat : Int)] T)) (some ⟨w.heap.size, 0, none⟩) [x] := by
 intro _
 refine ⟨w.heap.size, 0, rfl, by simp, fun i h => ?_⟩
 match i, h with
 | 0, _ => simp
end Go.Proofs.YtkkfkmoikcmhoaaGreat.Bit
namespace Go.Proofs.YtkkfkmoikcmhoaaGreat.Bit
open Go.RowKit Oct
def dig (b : Bool) : UInt8 := if b then 49 else 48
def ds (l : List Bool) : ByteArray := bs (l.map dig)
theorem Yw8 (l : List Bool) : (ds l).size = l.length := by simp [ds, Yh0]
theorem Yz0 (l : List Bool) (k : Nat) (h : k < (ds l).size) (h' : k < l.length) : (ds l)[k] = dig l[k] := by
 have h2 := Ynq (l.map dig) k h (by simpa using h')
 rw [List.getElem_map] at h2
 exact h2
theorem Yey (b : Bool) : ((dig b).toNat : Int) = 48 + (b.toNat : Int) := by cases b <;> rfl
end Go.Proofs.YtkkfkmoikcmhoaaGreat.Bit

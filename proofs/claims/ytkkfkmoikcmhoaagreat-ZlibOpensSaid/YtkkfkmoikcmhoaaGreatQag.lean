/- IfP, IfQ, DfM, ZlV, ZlD, BitA: merged. -/
import Derived.Test.YtkkfkmoikcmhoaaGreatQaa
import Derived.Test.YtkkfkmoikcmhoaaGreatQab
import Derived.Test.YtkkfkmoikcmhoaaGreatQae
import Derived.Test.YtkkfkmoikcmhoaaGreatQaf
set_option linter.unusedVariables false
set_option linter.unusedSimpArgs false
namespace Go.Proofs.YtkkfkmoikcmhoaaGreat.Inf
open Bit Hf Oct
theorem Ybt {L r : List Bool} {most : Nat} : ∀ (ys : List UInt8) (a : Nat) (out : List UInt8), L.drop a = Y00 true ys ++ r → a ≤ L.length → out.length + ys.length ≤ most →
  Y1l L most ys.length a out = .ok (out ++ ys, a + 8 * ys.length)
 | [], a, out, h, ha, hm => by simp [Y1l]
 | y :: ys, a, out, h, ha, hm => by
  rw [Y11, List.append_assoc] at h
  have hle := Y36 h ha
  have hd := Y2i h
  rw [Y1j] at hle hd
  simp at hm
  rw [List.length_cons, Y1l, Yk7 h ha y.toNat_lt, R.then_ok, if_neg (by omega), UInt8.ofNat_toNat, Ybt ys _ _ hd hle (by simp; omega)]
  simp
  omega
theorem Yme {L r : List Bool} {at_ n m : Nat} (h : L.drop ((at_ + 7) / 8 * 8) = Y0f true n 16 ++ (Y0f true m 16 ++ r)) (ha : (at_ + 7) / 8 * 8 ≤ L.length) (hn : n < 65536) (hm : m < 65536) :
  Yjq L at_ = .ok ((n, m), (at_ + 7) / 8 * 8 + 32) := by
 have h1 := Y36 h ha
 have d1 := Y2i h
 have h2 := Y36 d1 h1
 rw [Y05] at h1 d1
 rw [Y05, Y05] at h2
 unfold Yjq
 rw [if_pos (by omega), h, List.take_left' (Y05 _ _ _), d1, List.take_left' (Y05 _ _ _), Y21 true n 16 (by omega), Y21 true m 16 (by omega)]
theorem word16 (n : Nat) (h : n < 65536) : Y00 true [UInt8.ofNat n, UInt8.ofNat (n / 256)] = Y0f true n 16 := by
 apply Yip true
 ·rw [Y02, Y05]; rfl
 ·rw [Y66, Y21 true n 16 (by omega)]
  simp [numOf, numB]
  omega
end Go.Proofs.YtkkfkmoikcmhoaaGreat.Inf
namespace Go.Proofs.YtkkfkmoikcmhoaaGreat.Inf
open Bit Hf
def Y0l (A B : List (List Bool)) (L : List Bool) (most at_ : Nat) (out : List UInt8) : R (List UInt8) := Y2n A B L most (L.length + 1 - at_) at_ out
theorem Y8x (A B : List (List Bool)) (L : List Bool) (most f at_ : Nat) (out : List UInt8) (h : at_ ≤ L.length) (hf : L.length < f + at_) : Y2n A B L most f at_ out = Y0l A B L most at_ out :=
 Y1z A B L most f _ at_ out h hf (by omega)
theorem Yeu (A B : List (List Bool)) (L : List Bool) (most at_ : Nat) (out : List UInt8) (h : at_ ≤ L.length) : Y0l A B L most at_ out = (Y10 A L at_).then fun v a =>
  if v = 256 then .ok (out, a)
  else if v < 256 then (if most ≤ out.length then .error 8 else Y0l A B L most a (out ++ [UInt8.ofNat v]))
  else (Y0x false L (v - 257) a).then fun n a => (Y10 B L a).then fun k a => (Y0x true L k a).then fun d a =>
   if out.length < d then .error 3 else if most < out.length + n then .error 8 else Y0l A B L most a (Y26 out d n) := by
 unfold Y0l
 rw [show L.length + 1 - at_ = (L.length - at_) + 1 from by omega, Y2n]
 refine Y09 fun v a hv => ?_
 have h1 := Yb7 hv
 have h2 := (Y2c A at_).le h hv
 split
 ·rfl
 ·split
  ·split
   ·rfl
   ·exact Y1z A B L most _ _ a _ h2.2 (by omega) (by omega)
  ·refine Y09 fun n b hb => ?_
   have h3 := (Y1n false _ a).le h2.2 hb
   refine Y09 fun k c hc => ?_
   have h4 := (Y2c B b).le h3.2 hc
   refine Y09 fun d e he => ?_
   have h5 := (Y1n true k c).le h4.2 he
   split
   ·rfl
   ·split
    ·rfl
    ·exact Y1z A B L most _ _ e _ h5.2 (by omega) (by omega)
theorem Y9e (W : List (List Bool)) (n : Nat) (L : List Bool) : ∀ (f g at_ : Nat) (all : List Nat), n < f + all.length → n < g + all.length → 1 ≤ f → 1 ≤ g → Y63 W n L f at_ all = Y63 W n L g at_ all
 | 0, g, at_, all, hf, hg, h1, h2 => by omega
 | f + 1, 0, at_, all, hf, hg, h1, h2 => by omega
 | f + 1, g + 1, at_, all, hf, hg, h1, h2 => by
  rw [Y63, Y63]
  by_cases hn : n ≤ all.length
  ·rw [if_pos hn, if_pos hn]
  ·rw [if_neg hn, if_neg hn]
   refine Y09 fun v a hv => ?_
   split
   ·rfl
   ·refine Y09 fun m b hb => Y9e W n L f g b _ ?_ ?_ (by omega) (by omega)
    ·have := Y34 v
     simp
     omega
    ·have := Y34 v
     simp
     omega
def Y2r (W : List (List Bool)) (n : Nat) (L : List Bool) (at_ : Nat) (all : List Nat) : R (List Nat) := Y63 W n L (n + 1 - all.length) at_ all
theorem Y9d (W : List (List Bool)) (n : Nat) (L : List Bool) (at_ : Nat) (all : List Nat) (h : all.length = n) : Y2r W n L at_ all = .ok (all, at_) := by
 unfold Y2r
 rw [show n + 1 - all.length = 0 + 1 from by omega, Y63, if_pos (by omega), if_pos h]
theorem Ybx (W : List (List Bool)) (n : Nat) (L : List Bool) (at_ : Nat) (all : List Nat) (h : all.length < n) : Y2r W n L at_ all = (Y10 W L at_).then fun v a =>
  if v = 16 ∧ all = [] then .error 3
  else (Y16 L a (wideV v)).then fun more a =>
   if n < all.length + (timesV v + more) then .error 3 else Y2r W n L a (all ++ List.replicate (timesV v + more) (valueV v all)) := by
 unfold Y2r
 rw [show n + 1 - all.length = (n - all.length) + 1 from by omega, Y63, if_neg (by omega)]
 refine Y09 fun v a hv => ?_
 split
 ·rfl
 ·refine Y09 fun m b hb => ?_
  have := Y34 v
  split
  ·rename_i hc
   rw [show n - all.length = (n - all.length - 1) + 1 from by omega, Y63, if_pos (by simp; omega), if_neg (by simp; omega)]
  ·exact Y9e W n L _ _ b _ (by simp; omega) (by simp; omega) (by omega) (by simp; omega)
def Ya8 (L : List Bool) (most at_ : Nat) (out : List UInt8) : R (List UInt8) :=
 (Y3e L at_).then fun n a =>
  if n.1 > 286 ∨ n.2.1 > 30 then .error 3
  else (Y3r L n.2.2 0 a (List.replicate 19 0)).then fun l a => withW (Y15 l false) fun W =>
   (Y2r W (n.1 + n.2.1) L a []).then fun all a =>
    if all.getD 256 0 = 0 then .error 3
    else withW (Y15 (all.take n.1) false) fun A => withW (Y15 (all.drop n.1) true) fun B => Y0l A B L most a out
def Y7j (L : List Bool) (most h at_ : Nat) (out : List UInt8) : R (List UInt8) :=
 if h / 2 = 0 then Y1w L most at_ out
 else if h / 2 = 1 then Y0l (Y06 Y0r) (Y06 Y0n) L most at_ out
 else if h / 2 = 2 then Ya8 L most at_ out
 else .error 3
theorem Ybb (L : List Bool) (most f h at_ : Nat) (out : List UInt8) (ha : at_ ≤ L.length) (hf : L.length < f) : Yir L most f h at_ out = Y7j L most h at_ out := by
 unfold Yir Y7j
 split
 ·rfl
 ·split
  ·exact Y8x _ _ L most f at_ out ha (by omega)
  ·split
   ·unfold Yjp Ya8
    refine Y09 fun n a hn => ?_
    have h1 := (Y5y at_).le ha hn
    split
    ·rfl
    ·refine Y09 fun l b hb => ?_
     have h2 := (Y5h _ 0 a _).le h1.2 hb
     refine Y24 fun W => Y09 fun all c hc => ?_
     have h3 := (Y5g W _ _ b []).le h2.2 hc
     split
     ·rfl
     ·exact Y24 fun A => Y24 fun B => Y8x A B L most f c out h3.2 (by omega)
   ·rfl
def Y30 (L : List Bool) (most at_ : Nat) (out : List UInt8) : R (List UInt8) := Y46 L most (L.length + 1) (L.length + 1 - at_) at_ out
theorem Y81 (L : List Bool) (most at_ : Nat) (out : List UInt8) (h : at_ ≤ L.length) : Y30 L most at_ out = (Y16 L at_ 3).then fun v a => (Y7j L most v a out).then fun o a =>
  if v % 2 = 1 then .ok (o, a) else Y30 L most a o := by
 unfold Y30
 rw [show L.length + 1 - at_ = (L.length - at_) + 1 from by omega, Y46]
 refine Y09 fun v a hv => ?_
 have h1 := Yk6 hv
 have h2 := (Y4d at_ 3).le h hv
 rw [← Ybb L most (L.length + 1) v a out h2.2 (by omega)]
 refine Y09 fun o b hb => ?_
 have h3 := (Y5x most (L.length + 1) v a out).le h2.2 hb
 split
 ·rfl
 ·exact Y5z L most _ _ (by omega) (by omega) _ _ b o h3.2 (by omega) (by omega)
theorem Y7d (xs : List UInt8) (most : Nat) : inflate xs most = (match Y30 (Y00 true xs) most 0 [] with
  | .ok (o, a) => .ok (o, (a + 7) / 8)
  | .error e => .error e) := by
 unfold inflate Y30
 rw [Y02, Nat.sub_zero]
 rfl
end Go.Proofs.YtkkfkmoikcmhoaaGreat.Inf
namespace Go.Proofs.YtkkfkmoikcmhoaaGreat.Df
open Bit Hf Oct Inf
def conv (t : Lzt.Tok) : Tok := ⟨t.lit, t.len, t.dist⟩
theorem Yif {L r : List Bool} {most a h b : Nat} {out o : List UInt8} (hd : L.drop a = Y0f true h 3 ++ r) (ha : a ≤ L.length) (h8 : h < 8) (hone : Y7j L most h (a + 3) out = .ok (o, b)) :
  Y30 L most a out = if h % 2 = 1 then .ok (o, b) else Y30 L most b o := by
 rw [Y81 L most a out ha, Yk7 hd ha h8, R.then_ok, hone, R.then_ok]
def Yeh (last : Bool) (ys : List UInt8) : List UInt8 := [if last then 1 else 0, UInt8.ofNat ys.length, UInt8.ofNat (ys.length / 256), UInt8.ofNat (65535 - ys.length), UInt8.ofNat ((65535 - ys.length) / 256)] ++ ys
theorem Y18 (last : Bool) (ys : List UInt8) : (Yeh last ys).length = ys.length + 5 := by simp [Yeh]
theorem Y6q (last : Bool) (ys : List UInt8) (h : ys.length < 65536) : Y00 true (Yeh last ys) = Y0f true (if last then 1 else 0) 3 ++ (zs 5 ++ (Y0f true ys.length 16 ++ (Y0f true (65535 - ys.length) 16 ++ Y00 true ys))) := by
 have e : Yeh last ys = [if last then 1 else 0] ++ [UInt8.ofNat ys.length, UInt8.ofNat (ys.length / 256)] ++ [UInt8.ofNat (65535 - ys.length), UInt8.ofNat ((65535 - ys.length) / 256)] ++ ys := rfl
 rw [e, Y0j, Y0j, Y0j, word16 _ h, word16 (65535 - ys.length) (by omega)]
 simp only [List.append_assoc]
 cases last <;> rfl
theorem Ybo {L r : List Bool} {most k : Nat} {last : Bool} {ys out : List UInt8} (hd : L.drop (8 * k) = Y00 true (Yeh last ys) ++ r) (ha : 8 * k ≤ L.length) (hy : ys.length < 65536) (hm : out.length + ys.length ≤ most) :
  Y30 L most (8 * k) out = if last then .ok (out ++ ys, 8 * (k + (ys.length + 5))) else Y30 L most (8 * (k + (ys.length + 5))) (out ++ ys) := by
 rw [Y6q last ys hy] at hd
 simp only [List.append_assoc] at hd
 have a1 := Y36 hd ha
 have d1 := Y2i hd
 rw [Y05] at a1 d1
 have a2 := Y36 d1 a1
 have d2 := Y2i d1
 rw [Y07] at a2 d2
 have a3 := Y36 d2 a2
 have d3 := Y2i d2
 rw [Y05] at a3 d3
 have a4 := Y36 d3 a3
 have d4 := Y2i d3
 rw [Y05] at a4 d4
 have ha8 : (8 * k + 3 + 7) / 8 * 8 = 8 * k + 3 + 5 := by omega
 have hst : Y1w L most (8 * k + 3) out = .ok (out ++ ys, 8 * (k + (ys.length + 5))) := by
  unfold Y1w
  rw [Yme (n := ys.length) (m := 65535 - ys.length) (by rw [ha8]; exact d2) (by rw [ha8]; exact a2) hy (by omega), R.then_ok, if_pos (by show ys.length + (65535 - ys.length) = 65535; omega), ha8]
  rw [Ybt ys _ out (by rw [show 8 * k + 3 + 5 + 32 = 8 * k + 3 + 5 + 16 + 16 from by omega]; exact d4) (by omega) hm]
  congr 2
  omega
 rw [Yif hd ha (by cases last <;> decide) (b := 8 * (k + (ys.length + 5))) (o := out ++ ys) (by
  unfold Y7j
  rw [if_pos (by cases last <;> rfl)]
  exact hst)]
 cases last <;> rfl
def Y5d (xs : List UInt8) : List UInt8 :=
 if h : xs.length ≤ 65535 then Yeh true xs else Yeh false (xs.take 65535) ++ Y5d (xs.drop 65535)
termination_by xs.length
decreasing_by simp; omega
theorem Y23 (xs : List UInt8) (h : xs.length ≤ 65535) : Y5d xs = Yeh true xs := by rw [Y5d, dif_pos h]
theorem Yjf (xs : List UInt8) (h : ¬ xs.length ≤ 65535) : ∃ K, K < 65536 ∧ 1 ≤ K ∧ K < xs.length ∧ Y5d xs = Yeh false (xs.take K) ++ Y5d (xs.drop K) :=
 ⟨65535, by decide, by decide, by omega, by rw [Y5d, dif_neg h]⟩
theorem Ygs {L r : List Bool} {most : Nat} : ∀ (n : Nat) (xs : List UInt8) (k : Nat) (out : List UInt8), xs.length ≤ n → L.drop (8 * k) = Y00 true (Y5d xs) ++ r → 8 * k ≤ L.length → out.length + xs.length ≤ most →
  Y30 L most (8 * k) out = .ok (out ++ xs, 8 * (k + (Y5d xs).length))
 | 0, xs, k, out, hn, hd, ha, hm => by
  have hx : xs.length ≤ 65535 := by omega
  rw [Y23 xs hx] at hd ⊢
  rw [Ybo hd ha (by omega) hm, if_pos rfl, Y18]
 | n + 1, xs, k, out, hn, hd, ha, hm => by
  by_cases hx : xs.length ≤ 65535
  ·rw [Y23 xs hx] at hd ⊢
   rw [Ybo hd ha (by omega) hm, if_pos rfl, Y18]
  ·obtain ⟨K, hK1, hK2, hK3, hK⟩ := Yjf xs hx
   clear hx
   rw [hK] at hd ⊢
   have hl : (xs.take K).length = K := by rw [List.length_take]; omega
   have hm2 : (out ++ xs.take K).length + (xs.drop K).length ≤ most := by
    rw [List.length_append, hl, List.length_drop]
    omega
   have hn2 : (xs.drop K).length ≤ n := by
    rw [List.length_drop]
    omega
   have hy : (xs.take K).length < 65536 := by rw [hl]; exact hK1
   have hm1 : out.length + (xs.take K).length ≤ most := by rw [hl]; omega
   rw [Y0j, List.append_assoc] at hd
   have a1 := Y36 hd ha
   have d1 := Y2i hd
   rw [Y02, Y18, hl] at a1 d1
   have e : 8 * k + 8 * (K + 5) = 8 * (k + (K + 5)) := by omega
   rw [e] at a1 d1
   have ih := Ygs n (xs.drop K) (k + (K + 5)) (out ++ xs.take K) hn2 d1 a1 hm2
   have h1 := Ybo hd ha hy hm1
   rw [if_neg Bool.false_ne_true, hl] at h1
   rw [h1, ih, List.append_assoc, List.take_append_drop, List.length_append, Y18, hl]
   congr 2
   omega
theorem Ya5 (xs : List UInt8) (most : Nat) (hm : xs.length ≤ most) : inflate (Y5d xs) most = .ok (xs, (Y5d xs).length) := by
 rw [Y7d]
 have h := Ygs (L := Y00 true (Y5d xs)) (r := []) (most := most) xs.length xs 0 [] (Nat.le_refl _) (by rw [Nat.mul_zero, List.drop_zero, List.append_nil]) (Nat.zero_le _) (by rw [List.length_nil, Nat.zero_add]; exact hm)
 rw [show 8 * 0 = 0 from rfl] at h
 rw [h]
 simp only [List.nil_append, Nat.zero_add]
 congr 2
 omega
end Go.Proofs.YtkkfkmoikcmhoaaGreat.Df
namespace Go.Proofs.YtkkfkmoikcmhoaaGreat.Zl
open Go.RowKit Oct Inf
open Adl (sumN Beg Beg.of)
set_option maxRecDepth 100000
def YesP (w : World) (e : Ending) (w' : World) : Prop := e = .returned (.bool true) ∧ Below w.heap.size w w'
theorem Ycl : Df.Y5d [] = [1, 0, 0, 255, 255] := by
 rw [Df.Y23 [] (by decide)]
 rfl
theorem Ye8 : Tells [1, 0, 0, 255, 255] [] := by
 intro most hm
 have := Df.Ya5 [] most hm
 rwa [Ycl] at this
theorem Yit {fr : Bool} {w w' : World} {xs o : List UInt8} {most : Int} {e : Ending} {k n : Nat} (h : Y4v fr w xs most e w') (hz : Y2s xs most = .ok (o, k)) (hn : o.length = n) :
  Below w.heap.size w w' ∧ ∃ q c, e = .returned (.tuple #[.slice q n c, .int .i64 (k : Int), .int .i64 0]) ∧ Row w' q o ∧ (q = none → c = 0) ∧ n ≤ c ∧ c ≤ maxLen ∧ (fr = true → ∀ a, q = some a → w.heap.size ≤ a.block) := by
 subst hn
 rcases h.2 with ⟨o', k', q, c, h1, h2, h3, h4, h5, h6, _, h7⟩ | ⟨c, h1, _⟩
 ·rw [hz] at h1
  cases h1
  exact ⟨h.1, q, c, h2, h3, h4, h5, h6, h7⟩
 ·rw [hz] at h1; cases h1
theorem Yix {X : List UInt8 → Nat → List UInt8 → Prop} {w w' : World} {xs : List UInt8} {k : Nat} {e : Ending} (hk : k ≤ 2) (h : Ycw X w xs (k : Int) e w') :
  Below w.heap.size w w' ∧ ∃ ys g c N, N = ys.length + 6 ∧ X xs k ys ∧ e = .returned (.tuple #[.slice (some ⟨g, 0, none⟩) N c, .int .i64 0]) ∧ Beg w' g (Y3i ys xs) ∧ N ≤ c ∧ c ≤ maxLen ∧ w.heap.size ≤ g := by
 obtain ⟨hb, h | ⟨j, ys, g, c, N, hj, hj2, hX, hN, he, hr, h1, h2, h3⟩⟩ := h
 ·omega
 ·have : j = k := by omega
  subst this
  exact ⟨hb, ys, g, c, N, hN, hX, he, hr, h1, h2, h3⟩
theorem Yai : Y3i [1, 0, 0, 255, 255] [] = [120, 1, 1, 0, 0, 255, 255, 0, 0, 0, 1] := rfl
set_option maxHeartbeats 2000000 in
theorem Yii (fr : Bool) (X : List UInt8 → Nat → List UInt8 → Prop) (w : World) (hX : ∀ ys, X [] 0 ys → ys = [1, 0, 0, 255, 255]) (hP : ∀ W : World, Calls Tryz.prog 10 #[.slice none 0 0, .int .i64 0] W (Ycw X W [] 0))
  (hO : ∀ (W : World) (g c : Nat), Row W (some ⟨g, 0, none⟩) [120, 1, 1, 0, 0, 255, 255, 0, 0, 0, 1] → 11 ≤ c → Calls Tryz.prog 8 #[.slice (some ⟨g, 0, none⟩) 11 c, .int .i64 0] W (Y4v fr W [120, 1, 1, 0, 0, 255, 255, 0, 0, 0, 1] 0)) :
  Calls Tryz.prog 7 #[] w (YesP w) := by
 have HP := Lib.hid hP
 have HO := Lib.hid hO
 have HX := Lib.hid hX
 have HT : Hid (Y2s [120, 1, 1, 0, 0, 255, 255, 0, 0, 0, 1] 0 = .ok ([], 11)) := Lib.hid (by
  have := Yfz (n := 0) Ye8 rfl []
  rw [Yai] at this
  exact this)
 clear hP hO hX
 go_enter Tryz.func7, Tryz.ntmps7
 go_wp2_with fail
 refine (HP.out _).mono ?_
 rintro e w1 hres
 obtain ⟨hb1, ys, g, c, N, hN, hY, rfl, hbeg, h1, h2, h3⟩ := Yix (k := 0) (by omega) hres
 have hys := HX.out _ hY
 subst hys
 have hN11 : N = 11 := hN
 subst hN11
 have hrow := hbeg.row
 rw [Yai] at hrow
 have HI := Lib.hid (HO.out w1 g c hrow h1)
 have HR := Lib.hid hrow
 have HB1 := Lib.hid hb1
 unfold maxLen at h2
 clear hrow hbeg hb1 hres hN hY HP HO
 go_wp2_with fail
 refine HI.out.mono ?_
 rintro e w2 hres
 obtain ⟨hb2, q2, c2, rfl, hr2, _⟩ := Yit hres HT.out rfl
 have hconv := Y1q 11 c (HR.out.below hb2) rfl
 have hbs : bs [120, 1, 1, 0, 0, 255, 255, 0, 0, 0, 1] = { data := #[120, 1, 1, 0, 0, 255, 255, 0, 0, 0, 1] } := rfl
 rw [hbs] at hconv
 have HB2 := Lib.hid (HB1.out.trans (hb2.mono HB1.out.size))
 clear hb2 hres hbs hr2 HI
 go_wp2_with fail
 go_ret
 exact ⟨rfl, HB2.out⟩
end Go.Proofs.YtkkfkmoikcmhoaaGreat.Zl
namespace Go.Proofs.YtkkfkmoikcmhoaaGreat.Zl
open Go.RowKit Oct Inf
open Adl (sumN Beg Beg.of)
set_option maxRecDepth 100000
theorem Ymb (ys xs : List UInt8) (w : World) (hx : xs.length ≤ 100000) (hy : ys.length ≤ 1000000) :
  Calls Tryz.prog 11 #[.string (bs [120, 1]), .string (bs ys), .string (bs xs)] w fun e w' => e = .returned (.string (bs (Y3i ys xs))) ∧ Below w.heap.size w w' := by
 have HS := Lib.hid (Adl.Yci xs w hx)
 have hs := Y6r xs
 obtain ⟨s, hss⟩ : ∃ s, s = sumN xs := ⟨_, rfl⟩
 have HSS := Lib.hid hss
 rw [← hss] at HS hs
 have HP := Lib.hid (Ygg s w hs)
 have hall : bs [120, 1] ++ bs ys ++ bs (be4 s) = bs (Y3i ys xs) := by
  rw [Y2g, Y2g, hss]
  simp [Y3i, Yah]
 have z1 : (bs [120, 1]).size = 2 := rfl
 have z2 : (bs ys).size = ys.length := Y12 ys
 have z3 : (bs (be4 s)).size = 4 := Y12 _
 have z4 : (bs [120, 1] ++ bs ys).size = 2 + ys.length := by rw [Y2g, Y12]; simp; omega
 have HALL := Lib.hid hall
 clear hss hall
 generalize bs (be4 s) = S at *
 generalize bs [120, 1] = H at *
 generalize bs ys = Y at *
 generalize bs (Y3i ys xs) = W at *
 go_enter Tryz.func11, Tryz.ntmps11
 go_wp2_with fail
 refine HS.out.mono ?_
 rintro e w1 ⟨rfl, rfl⟩
 go_wp2_with fail
 refine HP.out.mono ?_
 rintro e w1 ⟨rfl, hb⟩
 have HB := Lib.hid hb
 clear hb
 go_wp2_with fail
 go_ret
 rw [HALL.out]
 exact ⟨rfl, HB.out⟩
def Yly (w : World) (xs : List UInt8) (M : Nat) (e : Ending) (w' : World) : Prop :=
 Below w.heap.size w w' ∧ ((∃ o k, inflate xs M = .ok (o, k) ∧ e = .returned (.tuple #[.string (bs o), .int .i64 (k : Int), .int .i64 0])) ∨
  ∃ c : Nat, inflate xs M = .error c ∧ c ≤ 8 ∧ c ≠ 0 ∧ e = .returned (.tuple #[.string ByteArray.empty, .int .i64 0, .int .i64 (c : Int)]))
def Y3j (w : World) (xs : List UInt8) (most : Int) (e : Ending) (w' : World) : Prop :=
 Below w.heap.size w w' ∧ ((∃ o k, Y2s xs most = .ok (o, k) ∧ e = .returned (.tuple #[.string (bs o), .int .i64 (k : Int), .int .i64 0])) ∨
  ∃ c : Nat, Y2s xs most = .error c ∧ c ≤ 8 ∧ e = .returned (.tuple #[.string ByteArray.empty, .int .i64 0, .int .i64 (c : Int)]))
theorem Ydk {xs o : List UInt8} {M k : Nat} (h : inflate xs M = .ok (o, k)) : o.length ≤ M ∧ k ≤ xs.length := by
 constructor
 ·rcases Nat.lt_or_ge M o.length with hl | hl
  ·have := Y82 h hl (Nat.le_refl _)
   rw [h] at this
   cases this
  ·exact hl
 ·rcases Nat.lt_or_ge xs.length k with hl | hl
  ·have := Yb3 h hl
   rw [List.take_length, h] at this
   cases this
  ·exact hl
set_option maxHeartbeats 4000000 in
theorem Yj8 (xs : List UInt8) (most : Int) (w : World) (hx : xs.length ≤ 3000) (hm : most ≤ 20000) (hm0 : -9223372036854775808 ≤ most)
  (h : ∀ W : World, Calls Tryz.prog 17 #[.string (bs (xs.drop 2)), .int .i64 most] W (Yly W (xs.drop 2) most.toNat)) :
  Calls Tryz.prog 9 #[.string (bs xs), .int .i64 most] w (Y3j w xs most) := by
 by_cases hneg : most < 0
 ·have HRES : Hid (Y3j w xs most (.returned (.tuple #[.string ByteArray.empty, .int .i64 0, .int .i64 1])) w) := Lib.hid ⟨Below.refl _ _, .inr ⟨1, by unfold Y2s; rw [if_pos hneg], by decide, rfl⟩⟩
  clear h
  go_enter Tryz.func9, Tryz.ntmps9
  go_wp2_with fail
  go_ret3
  exact HRES.out
 ·have hneg' : ¬ most < 0 := hneg
  have hsz := Y12 xs
  obtain ⟨len, hlen⟩ : ∃ n, n = xs.length := ⟨_, rfl⟩
  rw [← hlen] at hsz hx
  by_cases h2 : len < 2
  ·have HRES : Hid (Y3j w xs most (.returned (.tuple #[.string ByteArray.empty, .int .i64 0, .int .i64 2])) w) := Lib.hid ⟨Below.refl _ _, .inr ⟨2, by unfold Y2s; rw [if_neg hneg, if_pos (by omega)], by decide, rfl⟩⟩
   have hd1 : (len : Int) < 2 := by omega
   clear h
   generalize bs xs = X at *
   go_enter Tryz.func9, Tryz.ntmps9
   go_wp2_with fail
   go_ret3
   exact HRES.out
  ·have hd1 : ¬ (len : Int) < 2 := by omega
   obtain ⟨x, hxx⟩ : ∃ x : Nat, x = (xs.getD 0 0).toNat := ⟨_, rfl⟩
   obtain ⟨y, hyy⟩ : ∃ x : Nat, x = (xs.getD 1 0).toNat := ⟨_, rfl⟩
   have hg0 : ∀ h, ((bs xs)[0]'h).toNat = x := fun h => (congrArg UInt8.toNat (Y5r xs 0 h (by omega))).trans (by rw [hxx, List.getD_eq_getElem?_getD, List.getElem?_eq_getElem (by omega)]; rfl)
   have hg1 : ∀ h, ((bs xs)[1]'h).toNat = y := fun h => (congrArg UInt8.toNat (Y5r xs 1 h (by omega))).trans (by rw [hyy, List.getD_eq_getElem?_getD, List.getElem?_eq_getElem (by omega)]; rfl)
   have hx8 : x < 256 := by rw [hxx]; exact UInt8.toNat_lt _
   have hy8 : y < 256 := by rw [hyy]; exact UInt8.toNat_lt _
   have hx2 : (bs xs).extract 2 len = bs (xs.drop 2) := by rw [Y2w, List.take_of_length_le (by rw [List.length_drop]; omega)]
   have i1 : (1 : Int) < (len : Int) := by omega
   have i0 : (0 : Int) < (len : Int) := by omega
   obtain ⟨a, ha⟩ : ∃ a : Nat, a = x % 16 := ⟨_, rfl⟩
   have ha' : (x : Int) % 16 = (a : Int) := by omega
   obtain ⟨r, hr⟩ : ∃ r : Nat, r = (x * 256 + y) % 31 := ⟨_, rfl⟩
   have hr' : ((x : Int) * 256 + (y : Int)) % 31 = (r : Int) := by omega
   obtain ⟨t, ht⟩ : ∃ t : Nat, t = y / 32 % 2 := ⟨_, rfl⟩
   have ht' : (y : Int) / 32 % 2 = (t : Int) := by omega
   have hbad : Y2a x y = false → Hid (∀ W, Drawn w W → Y3j w xs most (.returned (.tuple #[.string ByteArray.empty, .int .i64 0, .int .i64 3])) W) := fun q => Lib.hid fun W hW => ⟨hW.below _, .inr ⟨3, by
    unfold Y2s
    rw [if_neg hneg', if_neg (by omega), ← hxx, ← hyy, if_pos q], by decide, rfl⟩⟩
   by_cases c1 : a = 8
   ·subst c1
    by_cases c2 : x ≤ 127
    ·have d2 : (x : Int) ≤ 127 := by omega
     by_cases c3 : r = 0
     ·subst c3
      by_cases c4 : t = 0
      ·subst c4
       have hhead : Y2a (xs.getD 0 0).toNat (xs.getD 1 0).toNat = true := by
        rw [← hxx, ← hyy]
        unfold Y2a
        rw [← ha, ← hr, ← ht]
        simp [c2]
       have HH := Lib.hid hhead
       have HI := Lib.hid h
       have hl2 : ¬ xs.length < 2 := by omega
       have HL := Lib.hid (And.intro hlen hl2)
       clear hbad h hxx hyy ha hr ht hlen hhead hl2
       obtain ⟨X, hX⟩ : ∃ X, X = bs xs := ⟨_, rfl⟩
       obtain ⟨Y, hY⟩ : ∃ Y, Y = bs (xs.drop 2) := ⟨_, rfl⟩
       have HXY := Lib.hid (And.intro hX hY)
       rw [← hX] at hg0 hg1 hsz hx2
       rw [← hX]
       rw [← hY] at hx2 HI
       clear hX hY
       go_enter Tryz.func9, Tryz.ntmps9
       go_wp2_with fail
       go_quiet (fail)
       obtain ⟨w1, hw1⟩ : ∃ w1, w1 = w.drewN nq := ⟨_, rfl⟩
       have hb1 : Below w.heap.size w w1 := (show Drawn w w1 from ⟨nq, hw1⟩).below _
       rw [← hw1]
       have HB1 := Lib.hid hb1
       have HI1 := Lib.hid (HI.out w1)
       clear hw1 hb1 HI
       go_wp2_with fail
       refine HI1.out.mono ?_
       rintro e w2 ⟨hb2, ⟨o, k, ho, rfl⟩ | ⟨c, ho, hc, hc0, rfl⟩⟩
       ·have hbd := Ydk ho
        rw [List.length_drop, ← HL.out.1] at hbd
        have hk2 : k ≤ len - 2 := hbd.2
        have ho2 : o.length ≤ 100000 := by omega
        have HOK := Lib.hid (Yg0 (by omega) HL.out.2 HH.out ho)
        rw [← HL.out.1] at HOK
        have HB2 := Lib.hid (HB1.out.trans (hb2.mono HB1.out.size))
        by_cases hend : len < k + 6
        ·have HRES : Hid (Y3j w xs most (.returned (.tuple #[.string ByteArray.empty, .int .i64 0, .int .i64 2])) w2) := Lib.hid ⟨HB2.out, .inr ⟨2, by rw [HOK.out, if_pos hend], by decide, rfl⟩⟩
         have hd6 : (len : Int) < (k : Int) + 6 := by omega
         clear ho hbd hb2 HI1 hend
         go_wp2_with fail
         go_ret3
         exact HRES.out
        ·have hd6 : ¬ (len : Int) < (k : Int) + 6 := by omega
         have hN : ((xs.drop (2 + k)).take 4).length ≤ 8 := by rw [List.length_take]; omega
         have hx3 : X.extract (2 + k) (6 + k) = bs ((xs.drop (2 + k)).take 4) := by rw [HXY.out.1, Y2w, show 6 + k - (2 + k) = 4 from by omega]
         have HN := Lib.hid (fun W => Y0t ((xs.drop (2 + k)).take 4) W hN true)
         have HS := Lib.hid (fun W => Adl.Yci o W ho2)
         have hnum : numOf true ((xs.drop (2 + k)).take 4) = numB ((xs.drop (2 + k)).take 4) := rfl
         rw [hnum] at HN
         obtain ⟨v, hv⟩ : ∃ v, v = numB ((xs.drop (2 + k)).take 4) := ⟨_, rfl⟩
         obtain ⟨s, hs⟩ : ∃ s, s = sumN o := ⟨_, rfl⟩
         have hsl := Y6r o
         rw [← hv] at HN
         rw [← hs] at HS hsl
         by_cases hvs : v = s
         ·have HRES : Hid (Y3j w xs most (.returned (.tuple #[.string (bs o), .int .i64 ((k + 6 : Nat) : Int), .int .i64 0])) w2) := Lib.hid
           ⟨HB2.out, .inl ⟨o, k + 6, by rw [HOK.out, if_neg hend, ← hv, ← hs, if_pos hvs], rfl⟩⟩
          have hk6 : ((k + 6 : Nat) : Int) = (k : Int) + 6 := by omega
          rw [hk6] at HRES
          subst hvs
          clear hk6 ho hbd hb2 HI1 hN hnum hv hs ho2
          generalize bs ((xs.drop (2 + k)).take 4) = S at *
          generalize bs o = O at *
          go_wp2_with fail
          refine (HN.out _).mono ?_
          rintro e w3 ⟨rfl, rfl⟩
          go_wp2_with fail
          refine (HS.out _).mono ?_
          rintro e w3 ⟨rfl, rfl⟩
          go_wp2_with fail
          go_ret3
          exact HRES.out
         ·have HRES : Hid (Y3j w xs most (.returned (.tuple #[.string ByteArray.empty, .int .i64 0, .int .i64 4])) w2) := Lib.hid
           ⟨HB2.out, .inr ⟨4, by rw [HOK.out, if_neg hend, ← hv, ← hs, if_neg hvs], by decide, rfl⟩⟩
          have hne : ((v : Int) != (s : Int)) = true := by simp; omega
          clear ho hbd hb2 HI1 hN hnum hv hs ho2 hvs
          generalize bs ((xs.drop (2 + k)).take 4) = S at *
          generalize bs o = O at *
          go_wp2_with fail
          refine (HN.out _).mono ?_
          rintro e w3 ⟨rfl, rfl⟩
          go_wp2_with fail
          refine (HS.out _).mono ?_
          rintro e w3 ⟨rfl, rfl⟩
          go_wp2_with fail
          go_ret3
          exact HRES.out
       ·have HRES : Hid (Y3j w xs most (.returned (.tuple #[.string ByteArray.empty, .int .i64 0, .int .i64 (c : Int)])) w2) := Lib.hid
         ⟨HB1.out.trans (hb2.mono HB1.out.size), .inr ⟨c, Yc8 (by omega) HL.out.2 HH.out ho, hc, rfl⟩⟩
        have hcz : ((c : Int) != 0) = true := by simp; omega
        clear hc hc0 ho hb2 HI1
        go_wp2_with fail
        go_ret3
        exact HRES.out
      ·have c5 : t = 1 := by omega
       subst c5
       have HRES := hbad (by unfold Y2a; rw [← ht]; simp)
       clear hbad h hxx hyy ha hr ht hx2 hlen
       generalize bs xs = X at *
       go_enter Tryz.func9, Tryz.ntmps9
       go_wp2_with fail
       go_quiet (fail)
       go_wp2_with fail
       go_ret3
       exact HRES.out _ ⟨_, rfl⟩
     ·have HRES := hbad (by unfold Y2a; rw [← hr]; simp [c3])
      have d3 : ((r : Int) != 0) = true := by simp; omega
      clear hbad h hxx hyy ha hr ht hx2 hlen c3
      generalize bs xs = X at *
      go_enter Tryz.func9, Tryz.ntmps9
      go_wp2_with fail
      go_quiet (fail)
      go_wp2_with fail
      go_ret3
      exact HRES.out _ ⟨_, rfl⟩
    ·have HRES := hbad (by unfold Y2a; simp [c2])
     have d2 : ¬ (x : Int) ≤ 127 := by omega
     clear hbad h hxx hyy ha hr ht hx2 hlen c2
     generalize bs xs = X at *
     go_enter Tryz.func9, Tryz.ntmps9
     go_wp2_with fail
     go_quiet (fail)
     go_wp2_with fail
     go_ret3
     exact HRES.out _ ⟨_, rfl⟩
   ·have HRES := hbad (by unfold Y2a; rw [← ha]; simp [c1])
    have d1 : ((a : Int) != 8) = true := by simp; omega
    clear hbad h hxx hyy ha hr ht hx2 hlen c1
    generalize bs xs = X at *
    go_enter Tryz.func9, Tryz.ntmps9
    go_wp2_with fail
    go_quiet (fail)
    go_wp2_with fail
    go_ret3
    exact HRES.out _ ⟨_, rfl⟩
end Go.Proofs.YtkkfkmoikcmhoaaGreat.Zl
namespace Go.Proofs.YtkkfkmoikcmhoaaGreat.Bit
open Go.RowKit Oct
def Only (S : Nat → Prop) (w w' : World) : Prop :=
 w'.os = w.os ∧ w'.tape = w.tape ∧ w'.output = w.output ∧ w.heap.size ≤ w'.heap.size ∧ ∀ k, k < w.heap.size → ¬ S k → w'.heap[k]? = w.heap[k]?
theorem Only.refl (S : Nat → Prop) (w : World) : Only S w w := ⟨rfl, rfl, rfl, Nat.le_refl _, fun _ _ _ => rfl⟩
theorem Only.trans {S : Nat → Prop} {a b c : World} (h : Only S a b) (k : Only S b c) : Only S a c :=
 ⟨k.1.trans h.1, k.2.1.trans h.2.1, k.2.2.1.trans h.2.2.1, Nat.le_trans h.2.2.2.1 k.2.2.2.1, fun i hi hs => (k.2.2.2.2 i (by have := h.2.2.2.1; omega) hs).trans (h.2.2.2.2 i hi hs)⟩
theorem Only.below {S : Nat → Prop} {B : Nat} {w w' : World} (h : Only S w w') (hB : B ≤ w.heap.size) (hS : ∀ k, k < B → ¬ S k) : Below B w w' :=
 ⟨h.1, h.2.1, h.2.2.1, h.2.2.2.1, fun k hk => h.2.2.2.2 k (by omega) (hS k hk)⟩
theorem Only.of_below {S : Nat → Prop} {w w' : World} (h : Below w.heap.size w w') : Only S w w' := ⟨h.os, h.tape, h.output, h.size, fun k hk _ => h.block k hk⟩
theorem Only.drawn (S : Nat → Prop) {w w' : World} (h : Drawn w w') : Only S w w' := by
 obtain ⟨n, rfl⟩ := h
 exact ⟨rfl, rfl, rfl, Nat.le_refl _, fun _ _ _ => rfl⟩
theorem Only.setCell {S : Nat → Prop} {w : World} {p : Addr} (hp : S p.block) (u : Value) : Only S w (w.setCell p u) :=
 ⟨rfl, rfl, rfl, by simp [World.setCell], fun k hk hs => Below.heap_setCell _ _ _ _ (fun e => hs (e ▸ hp))⟩
theorem Only.mono {S S' : Nat → Prop} {w w' : World} (h : Only S w w') (hs : ∀ k, k < w.heap.size → S k → S' k) : Only S' w w' :=
 ⟨h.1, h.2.1, h.2.2.1, h.2.2.2.1, fun k hk hn => h.2.2.2.2 k hk (fun e => hn (hs k hk e))⟩
def RowB (w : World) (g : Nat) (p : Option Addr) (xs : List UInt8) : Prop :=
 0 < xs.length → ∃ b off, p = some ⟨b, off, none⟩ ∧ b < g ∧ ∀ i (h : i < xs.length), w.cell? ⟨b, off + i, none⟩ = some (.int .u8 (xs[i].toNat : Int))
def Rd (w : World) (g : Nat) (p : Option Addr) (cap : Nat) (xs : List UInt8) (at_ : Nat) (low : Bool) : Prop :=
 w.heap[g]? = some (.cells #[.slice p xs.length cap, .int .i64 (at_ : Int), .bool low] 99 (0, 0)) ∧ RowB w g p xs ∧ at_ ≤ 8 * xs.length ∧ 8 * xs.length ≤ 2000000000000000
theorem Rd.c0 {w : World} {g : Nat} {p : Option Addr} {cap : Nat} {xs : List UInt8} {at_ : Nat} {low : Bool} (h : Rd w g p cap xs at_ low) : w.cell? ⟨g, 0, none⟩ = some (.slice p xs.length cap) := by
 simp [World.cell?, h.1]
theorem Rd.c1 {w : World} {g : Nat} {p : Option Addr} {cap : Nat} {xs : List UInt8} {at_ : Nat} {low : Bool} (h : Rd w g p cap xs at_ low) : w.cell? ⟨g, 1, none⟩ = some (.int .i64 (at_ : Int)) := by
 simp [World.cell?, h.1]
theorem Rd.c2 {w : World} {g : Nat} {p : Option Addr} {cap : Nat} {xs : List UInt8} {at_ : Nat} {low : Bool} (h : Rd w g p cap xs at_ low) : w.cell? ⟨g, 2, none⟩ = some (.bool low) := by
 simp [World.cell?, h.1]
theorem Rd.fz {w : World} {g : Nat} {p : Option Addr} {cap : Nat} {xs : List UInt8} {at_ : Nat} {low : Bool} (h : Rd w g p cap xs at_ low) (i : Nat) : w.frozen? ⟨g, i, none⟩ = false := by
 simp [World.frozen?, h.1]
theorem Rd.drawn {w w' : World} {g : Nat} {p : Option Addr} {cap : Nat} {xs : List UInt8} {at_ : Nat} {low : Bool} (h : Rd w g p cap xs at_ low) (hd : Drawn w w') : Rd w' g p cap xs at_ low := by
 obtain ⟨n, rfl⟩ := hd
 exact h
theorem Rd.lt {w : World} {g : Nat} {p : Option Addr} {cap : Nat} {xs : List UInt8} {at_ : Nat} {low : Bool} (h : Rd w g p cap xs at_ low) : g < w.heap.size := by
 rcases Nat.lt_or_ge g w.heap.size with hlt | hge
 ·exact hlt
 ·have := h.1; rw [Array.getElem?_eq_none hge] at this; cases this
theorem Rd.below {w w' : World} {B g : Nat} {p : Option Addr} {cap : Nat} {xs : List UInt8} {at_ : Nat} {low : Bool} (h : Rd w g p cap xs at_ low) (hb : Below B w w') (hg : g < B) : Rd w' g p cap xs at_ low := by
 refine ⟨(hb.block g hg).trans h.1, fun h0 => ?_, h.2.2⟩
 obtain ⟨b, off, e, hlt, hc⟩ := h.2.1 h0
 exact ⟨b, off, e, hlt, fun i hi => (hb.cell (p := ⟨b, off + i, none⟩) (by show b < B; omega)).trans (hc i hi)⟩
theorem Rd.put {w : World} {g : Nat} {p : Option Addr} {cap : Nat} {xs : List UInt8} {at_ : Nat} {low : Bool} (h : Rd w g p cap xs at_ low) (k : Nat) (hk : k ≤ 8 * xs.length) :
  Rd (w.setCell ⟨g, 1, none⟩ (.int .i64 (k : Int))) g p cap xs k low := by
 refine ⟨?_, fun h0 => ?_, hk, h.2.2.2⟩
 ·have := h.1
  simp [World.setCell, Array.getElem?_modify, this]
 ·obtain ⟨b, off, e, hlt, hc⟩ := h.2.1 h0
  refine ⟨b, off, e, hlt, fun i hi => ?_⟩
  rw [← hc i hi]
  exact World.cell?_of_block (w := w) (Below.heap_setCell _ _ _ _ (by show b ≠ g; omega))
def Y4m (n : Int) : Bool := decide (0 ≤ n ∧ n ≤ 32)
theorem Y2y (n : Int) (w : World) : Calls Tryz.prog 86 #[.int .i64 n] w fun e w' => e = .returned (.bool (Y4m n)) ∧ w = w' := by
 by_cases h0 : 0 ≤ n
 ·by_cases h1 : n ≤ 32
  ·have e : Y4m n = true := by simp [Y4m, h0, h1]
   rw [e]; clear e
   go_enter Tryz.func86, Tryz.ntmps86
   go_wp2
   go_ret
   exact ⟨rfl, rfl⟩
  ·have e : Y4m n = false := by simp [Y4m, h1]
   rw [e]; clear e
   have hd : decide (n ≤ 32) = false := by simpa using h1
   go_enter Tryz.func86, Tryz.ntmps86
   go_wp2
   go_ret
   exact ⟨rfl, rfl⟩
 ·have e : Y4m n = false := by simp [Y4m, h0]
  rw [e]; clear e
  have hd : decide (0 ≤ n) = false := by simpa using h0
  go_enter Tryz.func86, Tryz.ntmps86
  go_wp2
  go_ret
  exact ⟨rfl, rfl⟩
theorem Y25 (n : Nat) (w : World) (h : n ≤ 4000000000000000) : Calls Tryz.prog 99 #[.int .i64 (n : Int)] w fun e w' => e = .returned (.int .i64 (((n + 7) / 8 : Nat) : Int)) ∧ w = w' := by
 have e : (((n + 7) / 8 : Nat) : Int) = ((n : Int) + 7) / 8 := by omega
 rw [e]; clear e
 go_enter Tryz.func99, Tryz.ntmps99
 go_wp2
 go_ret
 exact ⟨rfl, rfl⟩
theorem Y4l (i count : Nat) (low : Bool) (w : World) (h : i < count) (hc : count ≤ 5) :
  Calls Tryz.prog 118 #[.int .i64 (i : Int), .int .i64 (count : Int), .bool low] w fun e w' => e = .returned (.int .i64 ((gsh low (8 * i) 8 (8 * count) : Nat) : Int)) ∧ w = w' := by
 cases low
 ·have e : ((gsh false (8 * i) 8 (8 * count) : Nat) : Int) = 8 * ((count : Int) - 1 - (i : Int)) := by simp only [gsh, Bool.false_eq_true, if_false]; omega
  rw [e]; clear e
  go_enter Tryz.func118, Tryz.ntmps118
  go_wp2
  go_ret
  exact ⟨rfl, rfl⟩
 ·have e : ((gsh true (8 * i) 8 (8 * count) : Nat) : Int) = 8 * (i : Int) := by simp [gsh]
  rw [e]; clear e
  go_enter Tryz.func118, Tryz.ntmps118
  go_wp2
  go_ret
  exact ⟨rfl, rfl⟩
theorem Y47 (ahead n : Nat) (low : Bool) (w : World) (ha : ahead < 8) (hn : n ≤ 32) :
  Calls Tryz.prog 119 #[.int .i64 (ahead : Int), .int .i64 (n : Int), .bool low] w fun e w' => e = .returned (.int .i64 ((gsh low ahead n (8 * cnt ahead n) : Nat) : Int)) ∧ w = w' := by
 cases low
 ·have e : ((gsh false ahead n (8 * cnt ahead n) : Nat) : Int) = 8 * (((cnt ahead n : Nat)) : Int) - (ahead : Int) - (n : Int) := by
   simp only [gsh, cnt, Bool.false_eq_true, if_false]; omega
  have hcn : cnt ahead n ≤ 5 := by unfold cnt; omega
  rw [e]; clear e
  go_enter Tryz.func119, Tryz.ntmps119
  go_wp2_with fail
  have e2 : (ahead : Int) + (n : Int) = ((ahead + n : Nat) : Int) := by omega
  rw [e2]
  refine (Y25 _ _ (by omega)).mono ?_
  rintro e w' ⟨rfl, rfl⟩
  have e3 : (ahead + n + 7) / 8 = cnt ahead n := rfl
  rw [e3]
  clear e2 e3
  go_wp2
  go_ret
  exact ⟨rfl, rfl⟩
 ·have e : ((gsh true ahead n (8 * cnt ahead n) : Nat) : Int) = (ahead : Int) := by simp [gsh]
  rw [e]; clear e
  go_enter Tryz.func119, Tryz.ntmps119
  go_wp2
  go_ret
  exact ⟨rfl, rfl⟩
theorem Yd3 (g : Nat) (p : Option Addr) (cap : Nat) (xs : List UInt8) (at_ : Nat) (low : Bool) (w : World) (i : Nat) (hR : Rd w g p cap xs at_ low) (hi : i ≤ 4000000000000000) :
  Calls Tryz.prog 117 #[.pointer (some ⟨g, 0, none⟩), .int .i64 (i : Int)] w fun e w' => e = .returned (.int .u8 ((xs.getD i 0).toNat : Int)) ∧ w = w' := by
 have h0 := hR.c0
 by_cases h : i < xs.length
 ·obtain ⟨b, off, rfl, _, hc⟩ := hR.2.1 (by omega)
  have hc' := hc i h
  have hx : xs[i].toNat < 256 := xs[i].toNat_lt
  have hd : decide ((xs.length : Int) ≤ (i : Int)) = false := by simp; omega
  have e : (xs.getD i 0).toNat = xs[i].toNat := by simp [List.getD, List.getElem?_eq_getElem h]
  have hl := hR.2.2.2
  rw [e]
  clear hR hc e
  go_enter Tryz.func117, Tryz.ntmps117
  go_wp2
  go_ret
  exact ⟨rfl, rfl⟩
 ·have e : (((xs.getD i 0).toNat : Nat) : Int) = 0 := by simp [List.getD, List.getElem?_eq_none (Nat.le_of_not_lt h)]
  have hd : decide ((xs.length : Int) ≤ (i : Int)) = true := by simp; omega
  have hl := hR.2.2.2
  rw [e]
  clear hR e
  go_enter Tryz.func117, Tryz.ntmps117
  go_wp2
  go_ret
  exact ⟨rfl, rfl⟩
theorem Yk3 (g : Nat) (p : Option Addr) (cap : Nat) (xs : List UInt8) (at_ : Nat) (low : Bool) (w : World) (hR : Rd w g p cap xs at_ low) :
  Calls Tryz.prog 29 #[.pointer (some ⟨g, 0, none⟩)] w fun e w' => e = .returned (.int .i64 (at_ : Int)) ∧ w = w' := by
 have h1 := hR.c1
 clear hR
 go_enter Tryz.func29, Tryz.ntmps29
 go_wp2
 go_ret
 exact ⟨rfl, rfl⟩
theorem Ybw (g : Nat) (p : Option Addr) (cap : Nat) (xs : List UInt8) (at_ : Nat) (low : Bool) (w : World) (hR : Rd w g p cap xs at_ low) :
  Calls Tryz.prog 87 #[.pointer (some ⟨g, 0, none⟩)] w fun e w' => e = .returned (.int .i64 ((8 * xs.length - at_ : Nat) : Int)) ∧ Drawn w w' := by
 have h0 := hR.c0
 have h1 := hR.c1
 have hl := hR.2.2.1
 have hm := hR.2.2.2
 have e : (((8 * xs.length - at_ : Nat)) : Int) = 8 * (xs.length : Int) - (at_ : Int) := by omega
 rw [e]
 clear hR e
 go_enter Tryz.func87, Tryz.ntmps87
 go_wp2_with fail
 go_quiet (fail)
 go_wp2_with fail
 go_ret
 exact ⟨rfl, ⟨_, rfl⟩⟩
end Go.Proofs.YtkkfkmoikcmhoaaGreat.Bit

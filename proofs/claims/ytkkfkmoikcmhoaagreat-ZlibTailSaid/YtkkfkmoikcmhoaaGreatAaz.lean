/- DfL, DfW, DfX: merged. -/
import Derived.Test.YtkkfkmoikcmhoaaGreatAao
import Derived.Test.YtkkfkmoikcmhoaaGreatAaw
import Derived.Test.YtkkfkmoikcmhoaaGreatAay
set_option linter.unusedVariables false
set_option linter.unusedSimpArgs false
namespace Go.Proofs.YtkkfkmoikcmhoaaGreat.Df
open Go.RowKit Oct Bit Hf Inf
set_option maxRecDepth 100000
structure Und (w wr : World) (E0 : Ke) (v v' : Value) (l : List Bool) : Prop where
 en : En wr E0 v' l
 only : Only (Mine E0.gw v) w wr
 own : ∀ k, v'.ownBlock = some k → v.ownBlock = some k ∨ w.heap.size ≤ k
section
variable {w wr w2 : World} {E0 : Ke} {v v' : Value} {l l2 : List Bool}
theorem Und.start (h : En w E0 v l) : Und w w E0 v v l := ⟨h, Only.refl _ _, fun _ h => .inl h⟩
theorem Und.more (h : Und w wr E0 v v' l) (ht : EnT wr E0 v' l2 w2) : ∃ v2, Und w w2 E0 v v2 l2 := by
 obtain ⟨v2, a, b, c⟩ := EnT.more h.only h.own ht
 exact ⟨v2, a, b, c⟩
theorem Und.below (h : Und w wr E0 v v' l) (hb : Below wr.heap.size wr w2) : Und w w2 E0 v v' l := by
 have hz := h.only.2.2.2.1
 have hz2 := hb.size
 refine ⟨h.en.below hb, ?_, h.own⟩
 have ho := Only.of_below (S := fun _ => False) hb
 exact ⟨ho.1.trans h.only.1, ho.2.1.trans h.only.2.1, ho.2.2.1.trans h.only.2.2.1, Nat.le_trans hz hz2, fun k hk hn => (ho.2.2.2.2 k (by omega) (fun e => e)).trans (h.only.2.2.2.2 k hk hn)⟩
theorem Und.foot {F : Nat → Prop} {P : World → Prop} (h : Und w wr E0 v v' l) (hF : Foot F P w) (hf : Far E0 v F) : Foot F P wr := hF.ent hf h.only
theorem Und.far {F : Nat → Prop} {P : World → Prop} (h : Und w wr E0 v v' l) (hF : Foot F P w) (hf : Far E0 v F) : Far E0 v' F := Far.ent hF hf h.own
theorem Und.ent (h : Und w wr E0 v v' l) : EnT w E0 v l wr := ⟨v', h.en, h.only, h.own⟩
end
theorem Yrg {w : World} {C : Nat} {q : Option Addr} {vs : List Value} (h : VRow w C q vs) (j : Nat) (hj : j < vs.length) : ∃ b off, q = some ⟨b, off, none⟩ ∧ w.cell? ⟨b, off + j, none⟩ = some vs[j] := by
 obtain ⟨b, off, e, _, hc⟩ := h (by omega)
 exact ⟨b, off, e, hc j hj⟩
def Yxm (xs : List UInt8) (j : Nat) : List UInt8 := (xs.drop (j * 65535)).take 65535
theorem Y4y (xs : List UInt8) (j : Nat) : (Yxm xs j).length = min 65535 (xs.length - j * 65535) := by unfold Yxm; rw [List.length_take, List.length_drop]
theorem Yu5 {w : World} {p : Option Addr} {xs : List UInt8} (h : Row w p xs) (j : Nat) : Row w (shA p (j * 65535)) (Yxm xs j) := by
 intro hp
 rw [Y4y] at hp
 obtain ⟨b, off, rfl, hb, hc⟩ := h (by omega)
 refine ⟨b, off + j * 65535, Y65 _ _ _, hb, fun i hi => ?_⟩
 have hi2 := hi
 rw [Y4y] at hi2
 rw [Nat.add_assoc, hc (j * 65535 + i) (by omega)]
 simp [Yxm]
def Ygv (xs : List UInt8) : Nat → List UInt8
 | 0 => []
 | j + 1 => Ygv xs j ++ Yn1 (decide (j + 1 = Y2n xs.length)) (Yxm xs j)
theorem Ydy (xs : List UInt8) : ∀ j, (Ygv xs j).length ≤ j * 65540
 | 0 => Nat.zero_le _
 | j + 1 => by
  have h1 := Ydy xs j
  have h2 := Y4y xs j
  rw [Ygv, List.length_append, Y1o]
  omega
theorem Ygc (xs : List UInt8) (M : Nat) (hM : M = 65535) (h : ¬ xs.length ≤ M) : Y8v xs = Yn1 false (xs.take M) ++ Y8v (xs.drop M) := by
 subst hM
 rw [Y8v, dif_neg h]
theorem Yqn (xs : List UInt8) : ∀ j, j + 1 ≤ Y2n xs.length → Ygv xs j ++ Y8v (xs.drop (j * 65535)) = Y8v xs
 | 0, h => by rw [Nat.zero_mul, List.drop_zero, Ygv, List.nil_append]
 | j + 1, h => by
  have ih := Yqn xs j (by omega)
  unfold Y2n at h
  have hl : ¬ (xs.drop (j * 65535)).length ≤ 65535 := by rw [List.length_drop]; omega
  rw [← ih, Ygc _ 65535 rfl hl, Ygv, List.append_assoc, List.drop_drop, show decide (j + 1 = Y2n xs.length) = false from by unfold Y2n; exact decide_eq_false (by omega), show (j + 1) * 65535 = j * 65535 + 65535 from by omega]
  rfl
theorem Yjz (xs : List UInt8) : Ygv xs (Y2n xs.length) = Y8v xs := by
 obtain ⟨j, hj⟩ : ∃ j, Y2n xs.length = j + 1 := ⟨(xs.length - 1) / 65535, rfl⟩
 have h := Yqn xs j (by omega)
 unfold Y2n at hj
 have hl : (xs.drop (j * 65535)).length ≤ 65535 := by rw [List.length_drop]; omega
 rw [Y2r _ hl] at h
 rw [show Y2n xs.length = j + 1 from hj, Ygv, show decide (j + 1 = Y2n xs.length) = true from decide_eq_true hj.symm, ← h]
 unfold Yxm
 rw [List.take_of_length_le hl]
theorem Yub (l ys : List UInt8) (last : Bool) : Yyl (Y01 true l ++ Y07 true ((if last then 1 else 0) + 2 * 0) 3) = Y01 true l ++ (Y07 true (if last then 1 else 0) 3 ++ zs 5) := by
 unfold Yyl
 rw [List.length_append, Y00, Y04, show 8 * ((8 * l.length + 3 + 7) / 8) - (8 * l.length + 3) = 5 from by omega, Nat.mul_zero, Nat.add_zero, List.append_assoc]
theorem Yuc (ys : List UInt8) (k : Nat) (h : k < ys.length) : Y01 true (ys.take (k + 1)) = Y01 true (ys.take k) ++ Y07 true ys[k].toNat 8 := by
 rw [List.take_succ_eq_append_getElem h, Y0u]
 congr 1
set_option maxHeartbeats 4000000 in
theorem Y8j (w : World) (E0 : Ke) (v : Value) (FT : Nat → Prop) (p : Option Addr) (n cap : Nat) (xs : List UInt8) (h : En w E0 v [])
  (hr : Foot FT (fun w' => Row w' p xs) w) (hf : Far E0 v FT) (hx : xs.length = n) (hn : n ≤ 190000) (hc : n ≤ cap) (hc2 : cap ≤ maxLen) :
  Calls Tryz.prog 44 #[.pointer (some ⟨E0.e, 0, none⟩), .slice p n cap] w fun e w' => e = .returned (.tuple #[]) ∧ EnT w E0 v (Y01 true (Y8v xs)) w' := by
 have HSP := Lib.hid (Ymf w p n cap (fun hlt => by obtain ⟨b, off, e, _⟩ := hr.now (by omega); exact ⟨b, off, e⟩) (by omega) hc hc2)
 have H := Lib.hid h
 have HR := Lib.hid hr
 have HF := Lib.hid hf
 have HX := Lib.hid hx
 obtain ⟨K, hK⟩ : ∃ K, K = Y2n n := ⟨_, rfl⟩
 have hK1 : 1 ≤ K ∧ K ≤ 3 := by rw [hK]; unfold Y2n; omega
 have HK := Lib.hid hK
 clear h hr hf hx hK hc2
 go_enter Tryz.func44, Tryz.ntmps44
 go_wp2_with fail
 refine HSP.out.mono ?_
 rintro e w1 ⟨q, c, rfl, hb1, hq, hqn⟩
 rw [← HK.out] at hq ⊢
 have HB1 := Lib.hid hb1
 have HQ := Lib.hid hq
 have HU1 : Hid (Und w1 w1 E0 v v (Y01 true (Ygv xs 0))) := Lib.hid (Und.start (H.out.below hb1))
 have HQF : Hid (Far E0 v (At q)) := Lib.hid (Y2a H.out fun k ⟨a, e, hk⟩ => by rw [← hk]; exact hqn a e)
 have HR1 := Lib.hid (HR.out.below hb1)
 clear hb1 hq hqn HSP
 go_wp2_with fail
 go_loopw [13] (fun i wr => ∃ (j : Nat) (v' : Value), j ≤ K ∧ i = .int .i64 (j : Int) ∧ Hid (Und w1 wr E0 v v' (Y01 true (Ygv xs j)))) (fun i _ => K - (intOf i).toNat)
 case atStart => exact ⟨0, v, by omega, rfl, HU1⟩
 case round =>
  obtain ⟨j, v', hjK, rfl, HU⟩ := hrel
  clear HU1
  by_cases hlt : j < K
  ·have ql : decide ((j : Int) < (K : Int)) = true := decide_eq_true (by omega)
   obtain ⟨KM, hKM⟩ : ∃ KM, KM + 1 = K := ⟨K - 1, by omega⟩
   obtain ⟨lb, hlb⟩ : ∃ lb : Bool, lb = decide (j + 1 = K) := ⟨_, rfl⟩
   have qe1 : ((j : Int) == (K : Int) - 1) = lb := by rw [hlb, Bool.eq_iff_iff]; simp; omega
   have qe2 : ((j : Int) == (KM : Int)) = lb := by rw [hlb, Bool.eq_iff_iff]; simp; omega
   have hw1 : wrap64 ((K : Int) - 1) = (KM : Int) := (Y0q _ (by omega) (by omega)).trans (by omega)
   obtain ⟨qb, qo, hqe, hqc⟩ := Yrg (HU.out.foot HQ.out HQF.out).now j (by simp; omega)
   have hqe2 := hqe
   subst hqe2
   clear hqe
   rw [List.getElem_map, List.getElem_range] at hqc
   unfold Yjq at hqc
   obtain ⟨A, hA⟩ : ∃ A, A = shA p (j * 65535) := ⟨_, rfl⟩
   obtain ⟨r, hr⟩ : ∃ r, r = min 65535 (n - j * 65535) := ⟨_, rfl⟩
   obtain ⟨cc, hcc⟩ : ∃ cc, cc = cap - j * 65535 := ⟨_, rfl⟩
   rw [← hA, ← hr, ← hcc] at hqc
   obtain ⟨ys, hys⟩ : ∃ ys, ys = Yxm xs j := ⟨_, rfl⟩
   have hyl : ys.length = r := by rw [hys, Y4y, HX.out, hr]
   have hr65 : r ≤ 65535 := by omega
   have HRP : Hid (∀ W v2 l2, Und w1 W E0 v v2 l2 → Row W A ys) := Lib.hid fun W v2 l2 hu => by rw [hA, hys]; exact Yu5 (hu.foot HR1.out HF.out).now j
   have hsl := Ydy xs j
   have hbl : (Y01 true (Ygv xs j)).length ≤ 8 * (2 * 65540) := by rw [Y04]; omega
   have HST : Hid (Ygv xs (j + 1) = Ygv xs j ++ Yn1 lb ys) := Lib.hid (by rw [Ygv, hys, hlb, HX.out, HK.out])
   have HYL := Lib.hid hyl
   have j0 : (0 : Int) ≤ (j : Int) := by omega
   have j1 : (j : Int) < (K : Int) := by omega
   obtain ⟨T, hT⟩ : ∃ T, T = Ygv xs j := ⟨_, rfl⟩
   rw [← hT] at HU HST hbl
   have HBG := Lib.hid (Y9i wr E0 v' _ lb 0 HU.out.en (by omega) (by omega))
   have HJK := Lib.hid hlt
   clear hlb hA hr hcc hys hyl hsl hT hKM
   go_wp2_with fail
   refine HBG.out.mono ?_
   rintro e w2 ⟨rfl, ht⟩
   obtain ⟨v2, hU2⟩ := HU.out.more ht
   have HAL := Lib.hid (Ymu w2 E0.gw v2 _ true hU2.en.ws (by rw [List.length_append, Y00]; omega))
   have e0 := hU2.en.c0
   have HU2 := Lib.hid hU2
   clear ht hU2 HBG HU hqc
   go_wp2_with fail
   refine HAL.out.mono ?_
   rintro e w3 ⟨rfl, ht⟩
   rw [Yub T ys lb] at ht
   obtain ⟨v3, hU3⟩ := HU2.out.more (HU2.out.en.wst ht)
   have HN1 : Hid (Calls Tryz.prog 72 #[.pointer (some ⟨E0.e, 0, none⟩), .int .i64 (r : Int), .int .i64 16] w3 _) := Lib.hid (Y0r w3 E0 v3 _ r 16 hU3.en (by omega) (by omega) (by omega) (by simp only [List.length_append, Y00, Y0g]; omega))
   have HU3 := Lib.hid hU3
   clear ht hU3 HAL HU2 e0
   go_wp2_with fail
   refine HN1.out.mono ?_
   rintro e w4 ⟨rfl, ht⟩
   obtain ⟨v4, hU4⟩ := HU3.out.more ht
   obtain ⟨rr, hrr⟩ : ∃ rr, rr = 65535 - r := ⟨_, rfl⟩
   have hw2 : wrap64 (65535 - (r : Int)) = (rr : Int) := (Y0q _ (by omega) (by omega)).trans (by omega)
   have hrr2 : 65535 - (r : Int) = (rr : Int) := by omega
   have HN2 : Hid (Calls Tryz.prog 72 #[.pointer (some ⟨E0.e, 0, none⟩), .int .i64 (65535 - (r : Int)), .int .i64 16] w4 _) := Lib.hid (by rw [hrr2]; exact Y0r w4 E0 v4 _ rr 16 hU4.en (by omega) (by omega) (by omega) (by simp only [List.length_append, Y00, Y0g]; omega))
   have HRR := Lib.hid hrr
   have HU4 := Lib.hid hU4
   clear ht hU4 HN1 HU3 hw2 hrr hrr2
   go_wp2_with fail
   refine HN2.out.mono ?_
   rintro e w5 ⟨rfl, ht⟩
   obtain ⟨v5, hU5⟩ := HU4.out.more ht
   obtain ⟨l5, hl5⟩ : ∃ l5, l5 = Y01 true T ++ (Y07 true (if lb then 1 else 0) 3 ++ zs 5) ++ Y07 true r 16 ++ Y07 true rr 16 := ⟨_, rfl⟩
   rw [← hl5] at hU5
   have hl5l : l5.length ≤ 8 * (2 * 65540) + 40 := by rw [hl5]; simp only [List.length_append, Y00, Y0g]; omega
   have HL5 := Lib.hid hl5
   have HU50 : Hid (Und w1 w5 E0 v v5 (l5 ++ Y01 true (ys.take 0))) := Lib.hid (by rw [List.take_zero, Yko, List.append_nil]; exact hU5)
   clear ht hU5 HN2 HU4 hl5
   go_wp2_with fail
   obtain ⟨wA, hwA⟩ : ∃ wA, wA = wr := ⟨_, rfl⟩
   clear hwA
   go_loopw [41] (fun i wr => ∃ (k : Nat) (v' : Value), k ≤ r ∧ i = .int .i64 (k : Int) ∧ Hid (Und w1 wr E0 v v' (l5 ++ Y01 true (ys.take k)))) (fun i _ => r - (intOf i).toNat)
   case atStart => exact ⟨0, v5, by omega, rfl, HU50⟩
   case round =>
    obtain ⟨k, v6, hkr, rfl, HU6⟩ := hrel
    clear HU50
    by_cases hlt2 : k < r
    ·have ql2 : decide ((k : Int) < (r : Int)) = true := decide_eq_true (by omega)
     have hky : k < ys.length := by rw [HYL.out]; exact hlt2
     obtain ⟨b, off, hAe, _, hce⟩ := HRP.out _ _ _ HU6.out (by omega)
     subst hAe
     have hck := hce k hky
     have htk := Yuc ys k hky
     have hlen : (l5 ++ Y01 true (ys.take k)).length ≤ 2000000 := by rw [List.length_append, Y04, List.length_take]; omega
     generalize ys[k] = x at hck htk
     have hx8 : x.toNat < 256 := x.toNat_lt
     have HNK : Hid (∀ W v7, Und w1 W E0 v v7 (l5 ++ Y01 true (ys.take k)) → Calls Tryz.prog 72 #[.pointer (some ⟨E0.e, 0, none⟩), .int .i64 (x.toNat : Int), .int .i64 8] W (fun e w' => e = .returned (.tuple #[]) ∧ EnT W E0 v7 (l5 ++ Y01 true (ys.take k) ++ Y07 true x.toNat 8) w')) := Lib.hid fun W v7 hu => Y0r W E0 v7 _ x.toNat 8 hu.en (by omega) (by omega) (by omega) hlen
     have k0 : (0 : Int) ≤ (k : Int) := by omega
     have k1 : (k : Int) < (r : Int) := by omega
     have HTK := Lib.hid htk
     clear hce hky hlen htk
     go_wp2_with fail
     refine (HNK.out _ _ HU6.out).mono ?_
     rintro e w7 ⟨rfl, ht⟩
     obtain ⟨v7, hU7⟩ := HU6.out.more ht
     rw [List.append_assoc, ← HTK.out] at hU7
     have HU7 := Lib.hid hU7
     clear ht hU7 HNK HU6
     go_wp2_with fail
     go_roundw
     case rel => exact ⟨k + 1, v7, by omega, by first | rfl | (push_cast; rfl), HU7⟩
     case measure => simp [intOf]; omega
    ·have hkn : k = r := by omega
     have ql2 : decide ((k : Int) < (r : Int)) = false := decide_eq_false (by omega)
     have HU7 : Hid (Und w1 wr E0 v v6 (Y01 true (Ygv xs (j + 1)))) := Lib.hid (by
      have h6 := HU6.out
      have e := HYL.out
      rw [hkn, List.take_of_length_le (by omega)] at h6
      rw [HST.out, Y0u, Yb2 lb ys (by omega)]
      rw [HL5.out, HRR.out, ← e] at h6
      simp only [List.append_assoc] at h6 ⊢
      exact h6)
     clear hkn HU6
     go_wp2_with fail
     go_roundw
     case rel => exact ⟨j + 1, v6, by omega, by first | rfl | (push_cast; rfl), HU7⟩
     case measure => simp [intOf]; have := HJK.out; omega
  ·have hjn : j = K := by omega
   have ql : decide ((j : Int) < (K : Int)) = false := decide_eq_false (by omega)
   have h2 := HU.out
   rw [hjn, HK.out, ← HX.out, Yjz] at h2
   have HRES : Hid (EnT w E0 v (Y01 true (Y8v xs)) wr) := Lib.hid (EnT.more ((Only.of_below (S := fun _ => False) HB1.out).mono (fun _ _ e => False.elim e)) (fun _ e => .inl e) h2.ent)
   clear h2 hjn
   go_wp2_with fail
   go_end0
   exact ⟨rfl, HRES.out⟩
end Go.Proofs.YtkkfkmoikcmhoaaGreat.Df
namespace Go.Proofs.YtkkfkmoikcmhoaaGreat.Df
open Bit Hf Oct Inf
set_option maxRecDepth 100000
structure FineC (c : List Nat) (most : Nat) (ls : List Nat) : Prop where
 len : ls.length = c.length
 zero : ∀ i, i < c.length → c.getD i 0 = 0 → ls.getD i 0 = 0
 least : Lm.Least (Lm.come c) most (Lm.Y4d c ls)
theorem Y9u : ∀ (c l : List Nat), l.length = c.length → ∀ i, 0 < c.getD i 0 → l.getD i 0 ∈ Lm.Y4d c l
 | [], [], _, i, h => by simp at h
 | x :: c, y :: l, hl, i, h => by
  have hl' : l.length = c.length := by simpa using hl
  cases i with
  | zero =>
   have hx : 0 < x := by simpa using h
   simp [Lm.Y4d, hx]
  | succ i =>
   have ih := Y9u c l hl' i (by simpa using h)
   have e : (y :: l).getD (i + 1) 0 = l.getD i 0 := by simp
   rw [e]
   simp only [Lm.Y4d]
   split
   ·exact List.mem_cons_of_mem _ ih
   ·exact ih
 | [], y :: l, hl, _, _ => by simp at hl
 | x :: c, [], hl, _, _ => by simp at hl
theorem Y3v {L : List Nat} {i : Nat} (h : L.length ≤ i) : L.getD i 0 = 0 := by rw [List.getD_eq_getElem?_getD, List.getElem?_eq_none h]; rfl
theorem Y5n {L : List Nat} {i : Nat} (h : i < L.length) : L.getD i 0 = L[i] := by rw [List.getD_eq_getElem?_getD, List.getElem?_eq_getElem h]; rfl
section
variable {c ls : List Nat} {most : Nat}
theorem FineC.at_le (h : FineC c most ls) (i : Nat) : ls.getD i 0 ≤ most := by
 rcases Nat.eq_zero_or_pos (c.getD i 0) with e | e
 ·rcases Nat.lt_or_ge i c.length with hi | hi
  ·rw [h.zero i hi e]; exact Nat.zero_le _
  ·rw [Y3v (by rw [h.len]; exact hi)]; exact Nat.zero_le _
 ·exact h.least.ok.hi _ (Y9u c ls h.len i e)
theorem FineC.le (h : FineC c most ls) : ∀ x ∈ ls, x ≤ most := fun x hx => by
 obtain ⟨i, hi, rfl⟩ := List.getElem_of_mem hx
 rw [← Y5n hi]
 exact h.at_le i
theorem FineC.pos (h : FineC c most ls) (i : Nat) (hc : 0 < c.getD i 0) : 1 ≤ ls.getD i 0 := h.least.ok.lo _ (Y9u c ls h.len i hc)
theorem FineC.full (h : FineC c most ls) (hm : most ≤ 30) (h2 : 2 ≤ (Lm.come c).length) : startN ls 31 = 1073741824 :=
 Lm.Yol h.len h.zero h.least h2 hm fun x hx => Nat.le_trans (h.le x hx) hm
end
theorem Ydg : ∀ (c : List Nat) (i : Nat), 0 < c.getD i 0 → 1 ≤ (Lm.come c).length
 | [], i, h => by simp at h
 | x :: c, i, h => by
  unfold Lm.come
  rw [List.filter_cons]
  cases i with
  | zero =>
   have hx : 0 < x := by simpa using h
   rw [if_pos (by simpa using hx)]
   simp
  | succ i =>
   have ih := Ydg c i (by simpa using h)
   unfold Lm.come at ih
   split
   ·simp
   ·exact ih
theorem Y7u : ∀ (c : List Nat) (i j : Nat), i ≠ j → 0 < c.getD i 0 → 0 < c.getD j 0 → 2 ≤ (Lm.come c).length
 | [], i, j, _, h, _ => by simp at h
 | x :: c, i, j, hij, h1, h2 => by
  cases i with
  | zero =>
   have hx : 0 < x := by simpa using h1
   cases j with
   | zero => exact absurd rfl hij
   | succ j =>
    have := Ydg c j (by simpa using h2)
    unfold Lm.come at this ⊢
    rw [List.filter_cons, if_pos (by simpa using hx), List.length_cons]
    omega
  | succ i =>
   cases j with
   | zero =>
    have hx : 0 < x := by simpa using h2
    have := Ydg c i (by simpa using h1)
    unfold Lm.come at this ⊢
    rw [List.filter_cons, if_pos (by simpa using hx), List.length_cons]
    omega
   | succ j =>
    have ih := Y7u c i j (by omega) (by simpa using h1) (by simpa using h2)
    unfold Lm.come at ih ⊢
    rw [List.filter_cons]
    split
    ·rw [List.length_cons]; omega
    ·exact ih
theorem Y85 : ∀ L : List Nat, (L.filter (0 < ·)).sum = L.sum
 | [] => rfl
 | x :: L => by
  rw [List.filter_cons]
  split
  ·rw [List.sum_cons, List.sum_cons, Y85 L]
  ·rename_i h
   have : x = 0 := by simpa using h
   rw [List.sum_cons, Y85 L, this, Nat.zero_add]
theorem FineC.bare {c ls : List Nat} {most : Nat} (h : FineC c most ls) (hm : most ≤ 30) (h1 : 1 ≤ most) : startN ls 31 = 1073741824 ∨ (startN ls 31 < 1073741824 ∧ Inf.lone ls = true) := by
 by_cases h2 : 2 ≤ (Lm.come c).length
 ·exact .inl (h.full hm h2)
 ·right
  have hf := Lm.Y5f c ls h.len h.zero h.least.ok.lo
  have hl := h.least.ok.len
  rw [Lm.Yb1 ls (fun x hx => Nat.le_trans (h.le x hx) hm), ← hf]
  unfold Inf.lone
  have hcp : ls.countP (fun n => decide (0 < n)) = (Lm.Y4d c ls).length := by rw [hf, List.countP_eq_length_filter]
  have hsm : ls.sum = (Lm.Y4d c ls).sum := by rw [hf, Y85]
  rw [hcp, hsm]
  have hmin := h.least.min
  have hlo := h.least.ok.lo
  rcases hcc : Lm.come c with _ | ⟨f, r⟩
  ·rw [hcc] at hl
   have e : Lm.Y4d c ls = [] := List.eq_nil_of_length_eq_zero (by rw [hl]; rfl)
   rw [e]
   exact ⟨by decide, rfl⟩
  ·rw [hcc] at h2 hl hmin
   have hr : r = [] := List.eq_nil_of_length_eq_zero (by rw [List.length_cons] at h2; omega)
   subst hr
   rcases hLL : Lm.Y4d c ls with _ | ⟨y, q⟩
   ·rw [hLL] at hl; simp at hl
   ·rw [hLL] at hl hmin hlo
    have hq : q = [] := List.eq_nil_of_length_eq_zero (by rw [List.length_cons, List.length_cons, List.length_nil] at hl; omega)
    subst hq
    have hf1 : 1 ≤ f := Lm.Y92 c f (by rw [hcc]; exact List.mem_singleton.2 rfl)
    have hmn := hmin [1] ⟨rfl, fun x hx => by rw [List.mem_singleton.1 hx]; exact Nat.le_refl _, fun x hx => by rw [List.mem_singleton.1 hx]; exact h1, by decide⟩
    simp only [Lm.cost, Nat.add_zero, Nat.mul_one] at hmn
    have hy1 := hlo y (List.mem_singleton.2 rfl)
    have hy : y = 1 := by
     have : f * y ≤ f * 1 := by omega
     have := Nat.le_of_mul_le_mul_left this hf1
     omega
    subst hy
    exact ⟨by decide, rfl⟩
theorem Y43 (L : List Nat) (z : Nat) : ∀ n, startN (L ++ List.replicate z 0) n = startN L n
 | 0 => rfl
 | n + 1 => by
  by_cases hn : n = 0
  ·subst hn; rw [Y66, Y66]
  ·rw [Y3m _ _ hn, Y3m _ _ hn, Y43 L z n, List.count_append, List.count_replicate, if_neg (by simp; omega), Nat.add_zero]
theorem Y86 (L : List Nat) (z i : Nat) : (L ++ List.replicate z 0).getD i 0 = L.getD i 0 := by
 rcases Nat.lt_or_ge i L.length with h | h
 ·rw [List.getD_eq_getElem?_getD, List.getD_eq_getElem?_getD, List.getElem?_append_left h]
 ·rw [Y3v h, List.getD_eq_getElem?_getD, List.getElem?_append_right h, List.getElem?_replicate]
  split <;> rfl
theorem Y9n (L : List Nat) (i : Nat) : (Y03 L).getD i [] = if i < L.length then Y1g (pos L (L.getD i 0) i) (L.getD i 0) else [] := by
 split
 ·rename_i h
  have h2 : i < (Y03 L).length := by rw [Y0e]; exact h
  rw [List.getD_eq_getElem?_getD, List.getElem?_eq_getElem h2, Y5n h]
  exact Y2m L i h2 h
 ·rename_i h
  rw [List.getD_eq_getElem?_getD, List.getElem?_eq_none (by rw [Y0e]; omega)]
  rfl
theorem Y8o (L : List Nat) (z i : Nat) : (Y03 (L ++ List.replicate z 0)).getD i [] = (Y03 L).getD i [] := by
 rw [Y9n, Y9n, Y86]
 by_cases h : i < L.length
 ·rw [if_pos h, if_pos (by simp; omega)]
  unfold pos
  rw [Y43, List.take_append_of_le_length (by omega)]
 ·rw [if_neg h]
  split
  ·rw [Y3v (by omega)]
   exact List.length_eq_zero_iff.1 (Y0h _ _)
  ·rfl
theorem Y3q (l : List Nat) (few : Nat) : l.take (Y1z l few l.length) ++ List.replicate (l.length - Y1z l few l.length) 0 = l := by
 have e : l.drop (Y1z l few l.length) = List.replicate (l.length - Y1z l few l.length) 0 := by
  rw [List.eq_replicate_iff]
  refine ⟨List.length_drop, fun b hb => ?_⟩
  obtain ⟨j, hj, rfl⟩ := List.getElem_of_mem hb
  rw [List.length_drop] at hj
  have := Y8m l few l.length (Y1z l few l.length + j) (by omega) (by omega)
  rw [List.getElem_drop, ← Y5n (by omega)]
  exact this
 rw [← e, List.take_append_drop]
def tA (L : List Nat) : List Nat := L.take (Y1z L 257 L.length)
def tB (L : List Nat) : List Nat := L.take (Y1z L 1 L.length)
def kM (m : List Nat) : Nat := Y1z (Y56 m) 4 (Y56 m).length
def Yea (LA LB : List Nat) : List (Nat × Nat) := Y17 (tA LA ++ tB LB) 0
theorem Y6r (L : List Nat) (i : Nat) : (tA L).getD i 0 = L.getD i 0 := by
 conv => rhs; rw [← Y3q L 257]
 rw [Y86]
 rfl
theorem Yie (L : List Nat) (i : Nat) : (tB L).getD i 0 = L.getD i 0 := by
 conv => rhs; rw [← Y3q L 1]
 rw [Y86]
 rfl
theorem Ye2 (L : List Nat) (i : Nat) : (Y03 (tA L)).getD i [] = (Y03 L).getD i [] := by
 conv => rhs; rw [← Y3q L 257]
 rw [Y8o]
 rfl
theorem Yuk (L : List Nat) (i : Nat) : (Y03 (tB L)).getD i [] = (Y03 L).getD i [] := by
 conv => rhs; rw [← Y3q L 1]
 rw [Y8o]
 rfl
theorem Yui (L : List Nat) : startN (tA L) 31 = startN L 31 := by
 conv => rhs; rw [← Y3q L 257]
 rw [Y43]
 rfl
theorem Yuj (L : List Nat) : startN (tB L) 31 = startN L 31 := by
 conv => rhs; rw [← Y3q L 1]
 rw [Y43]
 rfl
theorem Ylu (L : List Nat) (z : Nat) : Inf.lone (L ++ List.replicate z 0) = Inf.lone L := by
 unfold Inf.lone
 have e1 : (L ++ List.replicate z 0).countP (fun n => decide (0 < n)) = L.countP (fun n => decide (0 < n)) := by
  rw [List.countP_append, List.countP_replicate]
  simp
 have e2 : (L ++ List.replicate z 0).sum = L.sum := by
  rw [List.sum_append]
  simp
 rw [e1, e2]
theorem Yy3 (L : List Nat) : Inf.lone (tB L) = Inf.lone L := by
 conv => rhs; rw [← Y3q L 1]
 rw [Ylu]
 rfl
theorem Ygm (LA LB : List Nat) : ∀ l : List Tok, Y1y (Y03 (tA LA)) (Y03 (tB LB)) l = Y1y (Y03 LA) (Y03 LB) l
 | [] => Ye2 LA 256
 | t :: l => by
  rw [Y1y, Y1y, Ygm LA LB l]
  unfold Yec
  rw [Ye2, Ye2, Yuk]
theorem Y72 (L : List Nat) (i j : Nat) : L.getD j 0 ≤ (bump L i).getD j 0 := by
 unfold bump
 rw [List.getD_eq_getElem?_getD (l := L.set i _), List.getElem?_set]
 split
 ·rename_i e
  subst e
  split
  ·exact Nat.le_succ _
  ·rename_i h
   rw [Y3v (by omega)]
   exact Nat.zero_le _
 ·rw [List.getD_eq_getElem?_getD]
  exact Nat.le_refl _
theorem Y91 (L : List Nat) (i : Nat) (h : i < L.length) : 0 < (bump L i).getD i 0 := by
 unfold bump
 rw [List.getD_eq_getElem?_getD (l := L.set i _), List.getElem?_set, if_pos rfl, if_pos h]
 exact Nat.succ_pos _
theorem Ysg (ops : List (Nat × Nat)) (h19 : ∀ op ∈ ops, op.1 < 19) : ∀ op ∈ ops, 0 < (Y8z ops).getD op.1 0 := by
 have key : ∀ (ops : List (Nat × Nat)) (L : List Nat), L.length = 19 → (∀ op ∈ ops, op.1 < 19) →
   (∀ j, L.getD j 0 ≤ (ops.foldl (fun c op => bump c op.1) L).getD j 0) ∧ ∀ op ∈ ops, 0 < (ops.foldl (fun c op => bump c op.1) L).getD op.1 0 := by
  intro ops
  induction ops with
  | nil => intro L _ _; exact ⟨fun j => Nat.le_refl _, fun op h => by cases h⟩
  | cons o ops ih =>
   intro L hL h
   obtain ⟨h1, h2⟩ := ih (bump L o.1) (by rw [Y1j]; exact hL) fun op hop => h op (List.mem_cons_of_mem _ hop)
   rw [List.foldl_cons]
   refine ⟨fun j => Nat.le_trans (Y72 L o.1 j) (h1 j), fun op hop => ?_⟩
   rcases List.mem_cons.1 hop with rfl | hop
   ·exact Nat.lt_of_lt_of_le (Y91 L op.1 (by rw [hL]; exact h op List.mem_cons_self)) (h1 op.1)
   ·exact h2 op hop
 exact (key ops (List.replicate 19 0) (by simp) h19).2
theorem Yet (c : List Nat × List Nat) (t : Lzt.Tok) (j : Nat) : c.1.getD j 0 ≤ (Y6b c t).1.getD j 0 ∧ c.2.getD j 0 ≤ (Y6b c t).2.getD j 0 := by
 unfold Y6b
 split
 ·exact ⟨Y72 _ _ _, Nat.le_refl _⟩
 ·exact ⟨Y72 _ _ _, Y72 _ _ _⟩
def Y57 (c : List Nat × List Nat) (t : Lzt.Tok) : Prop :=
 if t.len = 0 then 0 < c.1.getD t.lit.toNat 0 else 0 < c.1.getD (257 + placeN false t.len.toNat) 0 ∧ 0 < c.2.getD (placeN true t.dist.toNat) 0
theorem Ysi (c : List Nat × List Nat) (t : Lzt.Tok) (h : c.1.length = 286 ∧ c.2.length = 30) : Y57 (Y6b c t) t := by
 have hp1 := Y16 false t.len.toNat
 have hp2 := Y16 true t.dist.toNat
 have e1 : (froms false).length = 29 := rfl
 have e2 : (froms true).length = 30 := rfl
 have h8 : t.lit.toNat < 256 := t.lit.toNat_lt
 unfold Y57 Y6b
 by_cases h0 : t.len = 0
 ·rw [if_pos h0, if_pos h0]
  exact Y91 _ _ (by rw [h.1]; omega)
 ·rw [if_neg h0, if_neg h0]
  exact ⟨Y91 _ _ (by rw [h.1]; omega), Y91 _ _ (by rw [h.2]; omega)⟩
theorem Y57.mono {c d : List Nat × List Nat} {t : Lzt.Tok} (h : Y57 c t) (h1 : ∀ j, c.1.getD j 0 ≤ d.1.getD j 0) (h2 : ∀ j, c.2.getD j 0 ≤ d.2.getD j 0) : Y57 d t := by
 unfold Y57 at *
 by_cases h0 : t.len = 0
 ·rw [if_pos h0] at h ⊢
  exact Nat.lt_of_lt_of_le h (h1 _)
 ·rw [if_neg h0] at h ⊢
  exact ⟨Nat.lt_of_lt_of_le h.1 (h1 _), Nat.lt_of_lt_of_le h.2 (h2 _)⟩
theorem Ysf (l : List Lzt.Tok) : (∀ j, Yit.1.getD j 0 ≤ (Y49 l).1.getD j 0) ∧ ∀ t ∈ l, Y57 (Y49 l) t := by
 have key : ∀ (l : List Lzt.Tok) (c : List Nat × List Nat), c.1.length = 286 ∧ c.2.length = 30 →
   (∀ j, c.1.getD j 0 ≤ (l.foldl Y6b c).1.getD j 0) ∧ (∀ j, c.2.getD j 0 ≤ (l.foldl Y6b c).2.getD j 0) ∧ ∀ t ∈ l, Y57 (l.foldl Y6b c) t := by
  intro l
  induction l with
  | nil => intro c _; exact ⟨fun j => Nat.le_refl _, fun j => Nat.le_refl _, fun t h => by cases h⟩
  | cons s l ih =>
   intro c hc
   have hlen : (Y6b c s).1.length = 286 ∧ (Y6b c s).2.length = 30 := by
    unfold Y6b
    split
    ·exact ⟨by rw [Y1j]; exact hc.1, hc.2⟩
    ·exact ⟨by rw [Y1j]; exact hc.1, by rw [Y1j]; exact hc.2⟩
   obtain ⟨h1, h2, h3⟩ := ih (Y6b c s) hlen
   rw [List.foldl_cons]
   refine ⟨fun j => Nat.le_trans (Yet c s j).1 (h1 j), fun j => Nat.le_trans (Yet c s j).2 (h2 j), fun t ht => ?_⟩
   rcases List.mem_cons.1 ht with rfl | ht
   ·exact (Ysi c t hc).mono h1 h2
   ·exact h3 t ht
 have h := key l Yit ⟨by simp [Yit], by simp [Yit]⟩
 exact ⟨h.1, h.2.2⟩
theorem Ysh : Yit.1.getD 256 0 = 1 := by decide +kernel
theorem Yco : (Y5d []).1.getD 256 0 = 1 ∧ (Y5d []).1.getD 0 0 = 1 := by decide +kernel
theorem Y74 (l : List Lzt.Tok) : (Y5d l).1.length = 286 ∧ (Y5d l).2.length = 30 := by
 have h := Ycp l
 unfold Y5d
 split
 ·exact ⟨by rw [List.length_set]; exact h.1, h.2.1⟩
 ·exact ⟨h.1, h.2.1⟩
theorem Yse (l : List Lzt.Tok) : 0 < (Y5d l).1.getD 256 0 ∧ 2 ≤ (Lm.come (Y5d l).1).length ∧ ∀ t ∈ l, Y57 (Y5d l) t := by
 by_cases hl : l = []
 ·subst hl
  exact ⟨by rw [Yco.1]; decide, Y7u _ 256 0 (by decide) (by rw [Yco.1]; decide) (by rw [Yco.2]; decide), fun t h => by cases h⟩
 ·have e : Y5d l = Y49 l := by unfold Y5d; rw [if_neg hl]
  rw [e]
  obtain ⟨h1, h2⟩ := Ysf l
  have h256 : 0 < (Y49 l).1.getD 256 0 := by have := h1 256; rw [Ysh] at this; omega
  refine ⟨h256, ?_, h2⟩
  obtain ⟨t, ht⟩ := List.exists_mem_of_ne_nil l hl
  have h8 : t.lit.toNat < 256 := t.lit.toNat_lt
  have hc := h2 t ht
  unfold Y57 at hc
  split at hc
  ·exact Y7u _ 256 _ (by omega) h256 hc
  ·exact Y7u _ 256 _ (by omega) h256 hc.1
structure OwnM (ts : List Lzt.Tok) (LA LB m : List Nat) : Prop where
 fa : FineC (Y5d ts).1 15 LA
 fb : FineC (Y5d ts).2 15 LB
 fm : FineC (Y8z (Yea LA LB)) 7 m
theorem Y4k {ts : List Lzt.Tok} {LA LB m : List Nat} (h : OwnM ts LA LB m) : OwnL (tA LA) (tB LB) m (kM m) (Yea LA LB) ∧ ∀ t ∈ ts, Y9e (tA LA) (tB LB) (conv t) := by
 have hlA : LA.length = 286 := by rw [h.fa.len]; exact (Y74 ts).1
 have hlB : LB.length = 30 := by rw [h.fb.len]; exact (Y74 ts).2
 have hlm : m.length = 19 := by rw [h.fm.len]; exact (Y9s _).1
 obtain ⟨h256, h2, ht⟩ := Yse ts
 have a1 := Y3p LA 257 LA.length (by omega)
 have a2 := Y53 LA 257 LA.length
 have b1 := Y3p LB 1 LB.length (by omega)
 have b2 := Y53 LB 1 LB.length
 have hol := Y13 m
 have k1 := Y3p (Y56 m) 4 (Y56 m).length (by omega)
 have k2 := Y53 (Y56 m) 4 (Y56 m).length
 have lA : (tA LA).length = Y1z LA 257 LA.length := by unfold tA; rw [List.length_take]; omega
 have lB : (tB LB).length = Y1z LB 1 LB.length := by unfold tB; rw [List.length_take]; omega
 have h15A : ∀ x ∈ tA LA, x ≤ 15 := fun x hx => h.fa.le x (List.mem_of_mem_take hx)
 have h15B : ∀ x ∈ tB LB, x ≤ 15 := fun x hx => h.fb.le x (List.mem_of_mem_take hx)
 have h15 : ∀ x ∈ tA LA ++ tB LB, x ≤ 15 := fun x hx => (List.mem_append.1 hx).elim (h15A x) (h15B x)
 have hae : (tA LA).getD 256 0 ≠ 0 := by rw [Y6r]; have := h.fa.pos 256 h256; omega
 obtain ⟨hms, hmo⟩ := Yae h15
 have h19 : ∀ op ∈ Yea LA LB, op.1 < 19 := fun op hop => (hmo op hop).1
 have hmp := Ysg (Yea LA LB) h19
 obtain ⟨p, hp, q, hq, hpq⟩ := Ypf h15 (by rw [List.length_append, lA]; omega) ⟨(tA LA).getD 256 0, List.mem_append_left _ (by rw [Y5n (by omega)]; exact List.getElem_mem _), hae⟩
 refine ⟨⟨by omega, by omega, by omega, by omega, k1, by unfold kM; omega, hlm, h.fm.le, ?_, ?_, ?_, ?_, hms, hae, ?_, ?_, fun n hn => Nat.le_trans (h15A n hn) (by decide), fun n hn => Nat.le_trans (h15B n hn) (by decide)⟩, ?_⟩
 ·intro i hi hi2
  have := Y8m (Y56 m) 4 (Y56 m).length i hi (by omega)
  rw [List.getD_eq_getElem?_getD, Ydj m i hi2] at this
  exact this
 ·exact h.fm.full (by decide) (Y7u _ p.1 q.1 hpq (hmp p hp) (hmp q hq))
 ·exact fun op hop => ⟨(hmo op hop).1, h.fm.pos _ (hmp op hop), (hmo op hop).2⟩
 ·exact fun op r e => Yta h15 op r e
 ·rw [Yui]
  exact h.fa.full (by decide) h2
 ·rw [Yuj, Yy3]
  exact h.fb.bare (by decide) (by decide)
 ·intro t htm
  have hc := ht t htm
  unfold Y57 at hc
  unfold Y9e
  by_cases h0 : t.len = 0
  ·rw [if_pos h0] at hc
   rw [if_pos (show (conv t).len = 0 from h0)]
   rw [Y6r]
   exact h.fa.pos _ hc
  ·rw [if_neg h0] at hc
   rw [if_neg (show ¬ (conv t).len = 0 from h0)]
   rw [Y6r, Yie]
   exact ⟨h.fa.pos _ hc.1, h.fb.pos _ hc.2⟩
end Go.Proofs.YtkkfkmoikcmhoaaGreat.Df
namespace Go.Proofs.YtkkfkmoikcmhoaaGreat.Df
open Bit Hf Oct Inf
set_option maxRecDepth 100000
theorem Ycs {m : Int} : ∀ (l : List Lzt.Tok) (out o : List UInt8), Lzt.Y83 m l out = .ok o → ∀ t ∈ l, Y58 t
 | [], out, o, h => fun t ht => by cases ht
 | s :: l, out, o, h => by
  rcases hs : Lzt.Y51 m s out with e | o1
  ·rw [Lzt.Y9z hs] at h; cases h
  ·rw [Lzt.Ya0 hs] at h
   intro t ht
   rcases List.mem_cons.1 ht with rfl | ht
   ·unfold Lzt.Y51 at hs
    unfold Y58
    by_cases h0 : t.len = 0
    ·exact .inl h0
    ·rw [if_neg h0] at hs
     split at hs
     ·cases hs
     ·right; omega
   ·exact Ycs l o1 o h t ht
theorem Y41 (lim : Nat) : ∀ (a b : List Tok) (out o : List UInt8), Y2d lim (a ++ b) out = some o → ∃ u, Y2d lim a out = some u ∧ Y2d lim b u = some o
 | [], b, out, o, h => ⟨out, rfl, h⟩
 | t :: a, b, out, o, h => by
  rw [List.cons_append, Y2d] at h
  rw [Y2d]
  by_cases h0 : t.len = 0
  ·rw [if_pos h0] at h ⊢
   exact Y41 lim a b _ o h
  ·rw [if_neg h0] at h ⊢
   split at h
   ·cases h
   ·rename_i hc
    rw [if_neg hc]
    exact Y41 lim a b _ o h
def Yb9 (LA LB m : List Nat) (last : Bool) (ts : List Lzt.Tok) : List Bool := Y07 true (if last then 5 else 4) 3 ++ Yjl (tA LA) (tB LB) m (kM m) (Yea LA LB) (ts.map conv)
def Yyo (ts : List Lzt.Tok) (B : List Bool) : Prop := ∀ (L rest : List Bool) (a most lim : Nat) (out o : List UInt8), L.drop a = B ++ rest → a ≤ L.length → Y2d lim (ts.map conv) out = some o → o.length ≤ most → Y4t L most a out = Y4t L most (a + B.length) o
def BlkF (ts : List Lzt.Tok) (B : List Bool) : Prop := ∀ (L rest : List Bool) (a most lim : Nat) (out o : List UInt8), L.drop a = B ++ rest → a ≤ L.length → Y2d lim (ts.map conv) out = some o → o.length ≤ most → Y4t L most a out = .ok (o, a + B.length)
theorem Ys8 : Yyo [] [] := fun L rest a most lim out o hd ha hr ho => by cases hr; rfl
theorem Ypx {us : List Lzt.Tok} {LA LB m : List Nat} (h : OwnM us LA LB m) (last : Bool) {L rest : List Bool} {a most lim : Nat} {out o : List UInt8} (hd : L.drop a = Yb9 LA LB m last us ++ rest) (ha : a ≤ L.length)
  (hr : Y2d lim (us.map conv) out = some o) (ho : o.length ≤ most) : Y4t L most a out = if last then .ok (o, a + (Yb9 LA LB m last us).length) else Y4t L most (a + (Yb9 LA LB m last us).length) o := by
 obtain ⟨hO, hu⟩ := Y4k h
 unfold Yb9 at hd ⊢
 rw [List.append_assoc] at hd
 have a1 := Y0o hd ha
 have d1 := Y0f hd
 rw [Y00] at a1 d1
 have hu2 : ∀ t ∈ us.map conv, Y9e (tA LA) (tB LB) t := fun t ht => by
  obtain ⟨u, hum, rfl⟩ := List.mem_map.1 ht
  exact hu u hum
 have hone := Yzf hO hu2 hr ho d1 a1
 have ht : Yal L most (if last then 5 else 4) (a + 3) out = .ok (o, a + 3 + (Yjl (tA LA) (tB LB) m (kM m) (Yea LA LB) (us.map conv)).length) := by
  unfold Yal
  rw [if_neg (by cases last <;> decide), if_neg (by cases last <;> decide), if_pos (by cases last <;> decide)]
  exact hone
 rw [Ycy hd ha (by cases last <;> decide) ht, List.length_append, Y00, Nat.add_assoc]
 cases last <;> rfl
theorem Ynk {ts us : List Lzt.Tok} {B : List Bool} {LA LB m : List Nat} (hB : Yyo ts B) (h : OwnM us LA LB m) : Yyo (ts ++ us) (B ++ Yb9 LA LB m false us) := fun L rest a most lim out o hd ha hr ho => by
 rw [List.map_append] at hr
 obtain ⟨u, hr1, hr2⟩ := Y41 lim _ _ _ _ hr
 rw [List.append_assoc] at hd
 rw [hB L _ a most lim out u hd ha hr1 (Nat.le_trans (Y2q _ _ _ hr2) ho), Ypx h false (Y0f hd) (Y0o hd ha) hr2 ho, if_neg Bool.false_ne_true, List.length_append, Nat.add_assoc]
theorem Ynj {ts us : List Lzt.Tok} {B : List Bool} {LA LB m : List Nat} (hB : Yyo ts B) (h : OwnM us LA LB m) : BlkF (ts ++ us) (B ++ Yb9 LA LB m true us) := fun L rest a most lim out o hd ha hr ho => by
 rw [List.map_append] at hr
 obtain ⟨u, hr1, hr2⟩ := Y41 lim _ _ _ _ hr
 rw [List.append_assoc] at hd
 rw [hB L _ a most lim out u hd ha hr1 (Nat.le_trans (Y2q _ _ _ hr2) ho), Ypx h true (Y0f hd) (Y0o hd ha) hr2 ho, if_pos rfl, List.length_append, Nat.add_assoc]
theorem Yw2 {ts : List Lzt.Tok} {B : List Bool} (h : BlkF ts B) {lim most : Nat} {o : List UInt8} (hr : Y2d lim (ts.map conv) [] = some o) (ho : o.length ≤ most) : inflate (Y0m true B) most = .ok (o, (Y0m true B).length) := by
 rw [Y4f, Y2x, Y0a]
 generalize zs (8 * ((B.length + 7) / 8) - B.length) = pad
 rw [h (B ++ pad) pad 0 most lim [] o (by rw [List.drop_zero]) (Nat.zero_le _) hr ho, Nat.zero_add]
theorem Yjg (n : Nat) : (Y4w true n).length ≤ 13 := by
 have h1 : ∀ i, i < 30 → (extras true).getD i 0 ≤ 13 := by decide
 have h2 := Y16 true n
 unfold Y4w
 rw [Y00]
 exact h1 _ h2
theorem Yb6 {A B : List (List Bool)} (hA : ∀ i, (A.getD i []).length ≤ 15) (hB : ∀ i, (B.getD i []).length ≤ 15) (l : List Tok) : (Y1y A B l).length ≤ 48 * l.length + 15 := by
 have h := Yb5 (A := A) (B := B) (k := 48) l fun t ht => by
  unfold Yec
  split
  ·exact Nat.le_trans (hA _) (by decide)
  ·have h1 := hA (257 + placeN false t.len.toNat)
   have h2 := hB (placeN true t.dist.toNat)
   have h3 := Yag t.len.toNat
   have h4 := Yjg t.dist.toNat
   simp only [List.length_append]
   omega
 have := hA 256
 omega
def nzC (l : List Nat) (a : Nat) : Nat := (l.drop a).countP (0 < ·)
theorem Ypn (l : List Nat) (a : Nat) (h : a < l.length) : nzC l a = (if 0 < l.getD a 0 then 1 else 0) + nzC l (a + 1) := by
 unfold nzC
 rw [List.drop_eq_getElem_cons h, List.countP_cons, Y5n h]
 by_cases h0 : 0 < l[a]
 ·simp [h0]; omega
 ·simp [h0]
theorem Yhw (l : List Nat) (a : Nat) : ∀ k, nzC l (a + k) ≤ nzC l a
 | 0 => Nat.le_refl _
 | k + 1 => by
  refine Nat.le_trans ?_ (Yhw l a k)
  rcases Nat.lt_or_ge (a + k) l.length with h | h
  ·rw [Ypn l (a + k) h]
   exact Nat.le_add_left _ _
  ·unfold nzC
   rw [List.drop_eq_nil_of_le (by omega)]
   simp
def zrN (l : List Nat) (a : Nat) : Nat := if a < l.length ∧ l.getD a 0 = 0 then min 2 (runN (l.drop a)) else 0
theorem Yvm (l : List Nat) (a : Nat) : zrN l a ≤ 2 := by unfold zrN; split <;> omega
theorem Yzr {l : List Nat} {a : Nat} (h : a < l.length) (h0 : l.getD a 0 = 0) : zrN l (a + runN (l.drop a)) = 0 := by
 obtain ⟨h1, h2, h3, h4⟩ := Y8u h
 unfold zrN
 rw [if_neg]
 rintro ⟨e1, e2⟩
 exact h4 e1 (by rw [e2, h0])
theorem Ybx (l : List Nat) : ∀ k a, l.length - a ≤ k → a ≤ l.length → (Y17 l a).length ≤ (l.length - a) / 138 + 3 * nzC l a + zrN l a
 | 0, a, hk, ha => by
  rw [Y26 (by omega)]
  exact Nat.zero_le _
 | k + 1, a, hk, ha => by
  by_cases h : a < l.length
  ·obtain ⟨h1, h2, h3, h4⟩ := Y8u h
   have hp := Y5q h
   rw [Y31 h, List.length_cons]
   have ih := Ybx l k (a + (Y0p l a).2) (by omega) (by omega)
   have hm := Yhw l a (Y0p l a).2
   have hz2 := Yvm l (a + (Y0p l a).2)
   by_cases h0 : l.getD a 0 = 0
   ·have hza : zrN l a = min 2 (runN (l.drop a)) := by unfold zrN; rw [if_pos ⟨h, h0⟩]
    have hze := Yzr h h0
    by_cases h11 : 11 ≤ runN (l.drop a)
    ·have e : (Y0p l a).2 = min (runN (l.drop a)) 138 := by unfold Y0p; rw [if_pos ⟨h0, h11⟩]
     by_cases h138 : runN (l.drop a) ≤ 138
     ·rw [show (Y0p l a).2 = runN (l.drop a) from by omega] at ih hm hz2
      rw [show (Y0p l a).2 = runN (l.drop a) from by omega]
      have : (l.length - (a + runN (l.drop a))) / 138 ≤ (l.length - a) / 138 := Nat.div_le_div_right (by omega)
      omega
     ·rw [show (Y0p l a).2 = 138 from by omega] at ih hm hz2
      rw [show (Y0p l a).2 = 138 from by omega]
      omega
    ·by_cases h33 : 3 ≤ runN (l.drop a)
     ·have e : (Y0p l a).2 = runN (l.drop a) := by unfold Y0p; rw [if_neg (by omega), if_pos ⟨h0, h33⟩]
      rw [e] at ih hm hz2 ⊢
      have : (l.length - (a + runN (l.drop a))) / 138 ≤ (l.length - a) / 138 := Nat.div_le_div_right (by omega)
      omega
     ·have e : (Y0p l a).2 = 1 := by unfold Y0p; rw [if_neg (by omega), if_neg (by omega), if_neg (by omega)]
      rw [e] at ih hm hz2 ⊢
      have h5 : (l.length - (a + 1)) / 138 ≤ (l.length - a) / 138 := Nat.div_le_div_right (by omega)
      by_cases hr1 : runN (l.drop a) = 1
      ·rw [hr1] at hze
       omega
      ·have hr2 : runN (l.drop a) = 2 := by omega
       have hn1 : l.getD (a + 1) 0 = 0 := by rw [h3 1 (by omega), h0]
       have h6 : zrN l (a + 1) ≤ 1 := by
        have hb := Y8u (l := l) (a := a + 1) (by omega)
        unfold zrN
        rw [if_pos ⟨by omega, hn1⟩]
        rcases Nat.lt_or_ge (runN (l.drop (a + 1))) 2 with q | q
        ·omega
        ·exfalso
         have e1 := hb.2.2.1 1 (by omega)
         have e2 := h4 (by omega)
         rw [hr2] at e2
         rw [show a + 1 + 1 = a + 2 from by omega, hn1] at e1
         rw [e1, h0] at e2
         exact e2 rfl
       omega
   ·have hnz := Ypn l a h
    rw [if_pos (by omega)] at hnz
    have hm2 : nzC l (a + (Y0p l a).2) ≤ nzC l (a + 1) := by
     have := Yhw l (a + 1) ((Y0p l a).2 - 1)
     rwa [show a + 1 + ((Y0p l a).2 - 1) = a + (Y0p l a).2 from by omega] at this
    have : (l.length - (a + (Y0p l a).2)) / 138 ≤ (l.length - a) / 138 := Nat.div_le_div_right (by omega)
    omega
  ·rw [Y26 h]
   exact Nat.zero_le _
theorem Yk5 {m : List Nat} (h7 : ∀ n ∈ m, n ≤ 7) (op : Nat × Nat) : (Yeb (Y03 m) op).length ≤ 14 := by
 have := Y09 m 7 h7 op.1
 have hw : wideV op.1 ≤ 7 := by unfold wideV; split <;> (try split) <;> (try split) <;> omega
 unfold Yeb
 rw [List.length_append, Y00]
 omega
theorem Y4i {m : List Nat} (h7 : ∀ n ∈ m, n ≤ 7) : ∀ ops : List (Nat × Nat), (ops.flatMap (Yeb (Y03 m))).length ≤ 14 * ops.length
 | [] => Nat.le_refl _
 | op :: ops => by
  have := Yk5 h7 op
  have ih := Y4i h7 ops
  rw [List.flatMap_cons, List.length_append, List.length_cons]
  omega
end Go.Proofs.YtkkfkmoikcmhoaaGreat.Df

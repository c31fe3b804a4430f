/- DfL, DfW, DfX: merged. -/
import Derived.Test.YtkkfkmoikcmhoaaGreatPao
import Derived.Test.YtkkfkmoikcmhoaaGreatPaw
import Derived.Test.YtkkfkmoikcmhoaaGreatPay
set_option linter.unusedVariables false
set_option linter.unusedSimpArgs false
namespace Go.Proofs.YtkkfkmoikcmhoaaGreat.Df
open Go.RowKit Oct Bit Hf Inf
set_option maxRecDepth 100000
structure Und (w wr : World) (E0 : Ke) (v v' : Value) (l : List Bool) : Prop where
 en : En wr E0 v' l
 only : Only (Mine E0.gw v) w wr
 own : ∀ k, v'.ownBlock = some k → v.ownBlock = some k ∨ w.heap.size ≤ k
section
variable {w wr w2 : World} {E0 : Ke} {v v' : Value} {l l2 : List Bool}
theorem Und.start (h : En w E0 v l) : Und w w E0 v v l := ⟨h, Only.refl _ _, fun _ h => .inl h⟩
theorem Und.more (h : Und w wr E0 v v' l) (ht : EnT wr E0 v' l2 w2) : ∃ v2, Und w w2 E0 v v2 l2 := by
 obtain ⟨v2, a, b, c⟩ := EnT.more h.only h.own ht
 exact ⟨v2, a, b, c⟩
theorem Und.below (h : Und w wr E0 v v' l) (hb : Below wr.heap.size wr w2) : Und w w2 E0 v v' l := by
 have hz := h.only.2.2.2.1
 have hz2 := hb.size
 refine ⟨h.en.below hb, ?_, h.own⟩
 have ho := Only.of_below (S := fun _ => False) hb
 exact ⟨ho.1.trans h.only.1, ho.2.1.trans h.only.2.1, ho.2.2.1.trans h.only.2.2.1, Nat.le_trans hz hz2, fun k hk hn => (ho.2.2.2.2 k (by omega) (fun e => e)).trans (h.only.2.2.2.2 k hk hn)⟩
theorem Und.foot {F : Nat → Prop} {P : World → Prop} (h : Und w wr E0 v v' l) (hF : Foot F P w) (hf : Far E0 v F) : Foot F P wr := hF.ent hf h.only
theorem Und.far {F : Nat → Prop} {P : World → Prop} (h : Und w wr E0 v v' l) (hF : Foot F P w) (hf : Far E0 v F) : Far E0 v' F := Far.ent hF hf h.own
theorem Und.ent (h : Und w wr E0 v v' l) : EnT w E0 v l wr := ⟨v', h.en, h.only, h.own⟩
end
theorem Ysj {w : World} {C : Nat} {q : Option Addr} {vs : List Value} (h : VRow w C q vs) (j : Nat) (hj : j < vs.length) : ∃ b off, q = some ⟨b, off, none⟩ ∧ w.cell? ⟨b, off + j, none⟩ = some vs[j] := by
 obtain ⟨b, off, e, _, hc⟩ := h (by omega)
 exact ⟨b, off, e, hc j hj⟩
def Yz0 (xs : List UInt8) (j : Nat) : List UInt8 := (xs.drop (j * 65535)).take 65535
theorem Y58 (xs : List UInt8) (j : Nat) : (Yz0 xs j).length = min 65535 (xs.length - j * 65535) := by unfold Yz0; rw [List.length_take, List.length_drop]
theorem Yvk {w : World} {p : Option Addr} {xs : List UInt8} (h : Row w p xs) (j : Nat) : Row w (shA p (j * 65535)) (Yz0 xs j) := by
 intro hp
 rw [Y58] at hp
 obtain ⟨b, off, rfl, hb, hc⟩ := h (by omega)
 refine ⟨b, off + j * 65535, Y6l _ _ _, hb, fun i hi => ?_⟩
 have hi2 := hi
 rw [Y58] at hi2
 rw [Nat.add_assoc, hc (j * 65535 + i) (by omega)]
 simp [Yz0]
def Yh5 (xs : List UInt8) : Nat → List UInt8
 | 0 => []
 | j + 1 => Yh5 xs j ++ Ynl (decide (j + 1 = Y3h xs.length)) (Yz0 xs j)
theorem Ye7 (xs : List UInt8) : ∀ j, (Yh5 xs j).length ≤ j * 65540
 | 0 => Nat.zero_le _
 | j + 1 => by
  have h1 := Ye7 xs j
  have h2 := Y58 xs j
  rw [Yh5, List.length_append, Y1u]
  omega
theorem Ygk (xs : List UInt8) (M : Nat) (hM : M = 65535) (h : ¬ xs.length ≤ M) : Y97 xs = Ynl false (xs.take M) ++ Y97 (xs.drop M) := by
 subst hM
 rw [Y97, dif_neg h]
theorem Yrp (xs : List UInt8) : ∀ j, j + 1 ≤ Y3h xs.length → Yh5 xs j ++ Y97 (xs.drop (j * 65535)) = Y97 xs
 | 0, h => by rw [Nat.zero_mul, List.drop_zero, Yh5, List.nil_append]
 | j + 1, h => by
  have ih := Yrp xs j (by omega)
  unfold Y3h at h
  have hl : ¬ (xs.drop (j * 65535)).length ≤ 65535 := by rw [List.length_drop]; omega
  rw [← ih, Ygk _ 65535 rfl hl, Yh5, List.append_assoc, List.drop_drop, show decide (j + 1 = Y3h xs.length) = false from by unfold Y3h; exact decide_eq_false (by omega), show (j + 1) * 65535 = j * 65535 + 65535 from by omega]
  rfl
theorem Ykg (xs : List UInt8) : Yh5 xs (Y3h xs.length) = Y97 xs := by
 obtain ⟨j, hj⟩ : ∃ j, Y3h xs.length = j + 1 := ⟨(xs.length - 1) / 65535, rfl⟩
 have h := Yrp xs j (by omega)
 unfold Y3h at hj
 have hl : (xs.drop (j * 65535)).length ≤ 65535 := by rw [List.length_drop]; omega
 rw [Y2z _ hl] at h
 rw [show Y3h xs.length = j + 1 from hj, Yh5, show decide (j + 1 = Y3h xs.length) = true from decide_eq_true hj.symm, ← h]
 unfold Yz0
 rw [List.take_of_length_le hl]
theorem Yvu (l ys : List UInt8) (last : Bool) : Yzx (Y02 true l ++ Y07 true ((if last then 1 else 0) + 2 * 0) 3) = Y02 true l ++ (Y07 true (if last then 1 else 0) 3 ++ zs 5) := by
 unfold Yzx
 rw [List.length_append, Y00, Y03, show 8 * ((8 * l.length + 3 + 7) / 8) - (8 * l.length + 3) = 5 from by omega, Nat.mul_zero, Nat.add_zero, List.append_assoc]
theorem Yvv (ys : List UInt8) (k : Nat) (h : k < ys.length) : Y02 true (ys.take (k + 1)) = Y02 true (ys.take k) ++ Y07 true ys[k].toNat 8 := by
 rw [List.take_succ_eq_append_getElem h, Y0o]
 congr 1
set_option maxHeartbeats 4000000 in
theorem Y8w (w : World) (E0 : Ke) (v : Value) (FT : Nat → Prop) (p : Option Addr) (n cap : Nat) (xs : List UInt8) (h : En w E0 v [])
  (hr : Foot FT (fun w' => Row w' p xs) w) (hf : Far E0 v FT) (hx : xs.length = n) (hn : n ≤ 190000) (hc : n ≤ cap) (hc2 : cap ≤ maxLen) :
  Calls Tryz.prog 44 #[.pointer (some ⟨E0.e, 0, none⟩), .slice p n cap] w fun e w' => e = .returned (.tuple #[]) ∧ EnT w E0 v (Y02 true (Y97 xs)) w' := by
 have HSP := Lib.hid (Ymx w p n cap (fun hlt => by obtain ⟨b, off, e, _⟩ := hr.now (by omega); exact ⟨b, off, e⟩) (by omega) hc hc2)
 have H := Lib.hid h
 have HR := Lib.hid hr
 have HF := Lib.hid hf
 have HX := Lib.hid hx
 obtain ⟨K, hK⟩ : ∃ K, K = Y3h n := ⟨_, rfl⟩
 have hK1 : 1 ≤ K ∧ K ≤ 3 := by rw [hK]; unfold Y3h; omega
 have HK := Lib.hid hK
 clear h hr hf hx hK hc2
 go_enter Tryz.func44, Tryz.ntmps44
 go_wp2_with fail
 refine HSP.out.mono ?_
 rintro e w1 ⟨q, c, rfl, hb1, hq, hqn⟩
 rw [← HK.out] at hq ⊢
 have HB1 := Lib.hid hb1
 have HQ := Lib.hid hq
 have HU1 : Hid (Und w1 w1 E0 v v (Y02 true (Yh5 xs 0))) := Lib.hid (Und.start (H.out.below hb1))
 have HQF : Hid (Far E0 v (At q)) := Lib.hid (Y2i H.out fun k ⟨a, e, hk⟩ => by rw [← hk]; exact hqn a e)
 have HR1 := Lib.hid (HR.out.below hb1)
 clear hb1 hq hqn HSP
 go_wp2_with fail
 go_loopw [13] (fun i wr => ∃ (j : Nat) (v' : Value), j ≤ K ∧ i = .int .i64 (j : Int) ∧ Hid (Und w1 wr E0 v v' (Y02 true (Yh5 xs j)))) (fun i _ => K - (intOf i).toNat)
 case atStart => exact ⟨0, v, by omega, rfl, HU1⟩
 case round =>
  obtain ⟨j, v', hjK, rfl, HU⟩ := hrel
  clear HU1
  by_cases hlt : j < K
  ·have ql : decide ((j : Int) < (K : Int)) = true := decide_eq_true (by omega)
   obtain ⟨KM, hKM⟩ : ∃ KM, KM + 1 = K := ⟨K - 1, by omega⟩
   obtain ⟨lb, hlb⟩ : ∃ lb : Bool, lb = decide (j + 1 = K) := ⟨_, rfl⟩
   have qe1 : ((j : Int) == (K : Int) - 1) = lb := by rw [hlb, Bool.eq_iff_iff]; simp; omega
   have qe2 : ((j : Int) == (KM : Int)) = lb := by rw [hlb, Bool.eq_iff_iff]; simp; omega
   have hw1 : wrap64 ((K : Int) - 1) = (KM : Int) := (Y0x _ (by omega) (by omega)).trans (by omega)
   obtain ⟨qb, qo, hqe, hqc⟩ := Ysj (HU.out.foot HQ.out HQF.out).now j (by simp; omega)
   have hqe2 := hqe
   subst hqe2
   clear hqe
   rw [List.getElem_map, List.getElem_range] at hqc
   unfold Yk6 at hqc
   obtain ⟨A, hA⟩ : ∃ A, A = shA p (j * 65535) := ⟨_, rfl⟩
   obtain ⟨r, hr⟩ : ∃ r, r = min 65535 (n - j * 65535) := ⟨_, rfl⟩
   obtain ⟨cc, hcc⟩ : ∃ cc, cc = cap - j * 65535 := ⟨_, rfl⟩
   rw [← hA, ← hr, ← hcc] at hqc
   obtain ⟨ys, hys⟩ : ∃ ys, ys = Yz0 xs j := ⟨_, rfl⟩
   have hyl : ys.length = r := by rw [hys, Y58, HX.out, hr]
   have hr65 : r ≤ 65535 := by omega
   have HRP : Hid (∀ W v2 l2, Und w1 W E0 v v2 l2 → Row W A ys) := Lib.hid fun W v2 l2 hu => by rw [hA, hys]; exact Yvk (hu.foot HR1.out HF.out).now j
   have hsl := Ye7 xs j
   have hbl : (Y02 true (Yh5 xs j)).length ≤ 8 * (2 * 65540) := by rw [Y03]; omega
   have HST : Hid (Yh5 xs (j + 1) = Yh5 xs j ++ Ynl lb ys) := Lib.hid (by rw [Yh5, hys, hlb, HX.out, HK.out])
   have HYL := Lib.hid hyl
   have j0 : (0 : Int) ≤ (j : Int) := by omega
   have j1 : (j : Int) < (K : Int) := by omega
   obtain ⟨T, hT⟩ : ∃ T, T = Yh5 xs j := ⟨_, rfl⟩
   rw [← hT] at HU HST hbl
   have HBG := Lib.hid (Y9w wr E0 v' _ lb 0 HU.out.en (by omega) (by omega))
   have HJK := Lib.hid hlt
   clear hlb hA hr hcc hys hyl hsl hT hKM
   go_wp2_with fail
   refine HBG.out.mono ?_
   rintro e w2 ⟨rfl, ht⟩
   obtain ⟨v2, hU2⟩ := HU.out.more ht
   have HAL := Lib.hid (Ynb w2 E0.gw v2 _ true hU2.en.ws (by rw [List.length_append, Y00]; omega))
   have e0 := hU2.en.c0
   have HU2 := Lib.hid hU2
   clear ht hU2 HBG HU hqc
   go_wp2_with fail
   refine HAL.out.mono ?_
   rintro e w3 ⟨rfl, ht⟩
   rw [Yvu T ys lb] at ht
   obtain ⟨v3, hU3⟩ := HU2.out.more (HU2.out.en.wst ht)
   have HN1 : Hid (Calls Tryz.prog 72 #[.pointer (some ⟨E0.e, 0, none⟩), .int .i64 (r : Int), .int .i64 16] w3 _) := Lib.hid (Y1b w3 E0 v3 _ r 16 hU3.en (by omega) (by omega) (by omega) (by simp only [List.length_append, Y00, Y0a]; omega))
   have HU3 := Lib.hid hU3
   clear ht hU3 HAL HU2 e0
   go_wp2_with fail
   refine HN1.out.mono ?_
   rintro e w4 ⟨rfl, ht⟩
   obtain ⟨v4, hU4⟩ := HU3.out.more ht
   obtain ⟨rr, hrr⟩ : ∃ rr, rr = 65535 - r := ⟨_, rfl⟩
   have hw2 : wrap64 (65535 - (r : Int)) = (rr : Int) := (Y0x _ (by omega) (by omega)).trans (by omega)
   have hrr2 : 65535 - (r : Int) = (rr : Int) := by omega
   have HN2 : Hid (Calls Tryz.prog 72 #[.pointer (some ⟨E0.e, 0, none⟩), .int .i64 (65535 - (r : Int)), .int .i64 16] w4 _) := Lib.hid (by rw [hrr2]; exact Y1b w4 E0 v4 _ rr 16 hU4.en (by omega) (by omega) (by omega) (by simp only [List.length_append, Y00, Y0a]; omega))
   have HRR := Lib.hid hrr
   have HU4 := Lib.hid hU4
   clear ht hU4 HN1 HU3 hw2 hrr hrr2
   go_wp2_with fail
   refine HN2.out.mono ?_
   rintro e w5 ⟨rfl, ht⟩
   obtain ⟨v5, hU5⟩ := HU4.out.more ht
   obtain ⟨l5, hl5⟩ : ∃ l5, l5 = Y02 true T ++ (Y07 true (if lb then 1 else 0) 3 ++ zs 5) ++ Y07 true r 16 ++ Y07 true rr 16 := ⟨_, rfl⟩
   rw [← hl5] at hU5
   have hl5l : l5.length ≤ 8 * (2 * 65540) + 40 := by rw [hl5]; simp only [List.length_append, Y00, Y0a]; omega
   have HL5 := Lib.hid hl5
   have HU50 : Hid (Und w1 w5 E0 v v5 (l5 ++ Y02 true (ys.take 0))) := Lib.hid (by rw [List.take_zero, Yl5, List.append_nil]; exact hU5)
   clear ht hU5 HN2 HU4 hl5
   go_wp2_with fail
   obtain ⟨wA, hwA⟩ : ∃ wA, wA = wr := ⟨_, rfl⟩
   clear hwA
   go_loopw [41] (fun i wr => ∃ (k : Nat) (v' : Value), k ≤ r ∧ i = .int .i64 (k : Int) ∧ Hid (Und w1 wr E0 v v' (l5 ++ Y02 true (ys.take k)))) (fun i _ => r - (intOf i).toNat)
   case atStart => exact ⟨0, v5, by omega, rfl, HU50⟩
   case round =>
    obtain ⟨k, v6, hkr, rfl, HU6⟩ := hrel
    clear HU50
    by_cases hlt2 : k < r
    ·have ql2 : decide ((k : Int) < (r : Int)) = true := decide_eq_true (by omega)
     have hky : k < ys.length := by rw [HYL.out]; exact hlt2
     obtain ⟨b, off, hAe, _, hce⟩ := HRP.out _ _ _ HU6.out (by omega)
     subst hAe
     have hck := hce k hky
     have htk := Yvv ys k hky
     have hlen : (l5 ++ Y02 true (ys.take k)).length ≤ 2000000 := by rw [List.length_append, Y03, List.length_take]; omega
     generalize ys[k] = x at hck htk
     have hx8 : x.toNat < 256 := x.toNat_lt
     have HNK : Hid (∀ W v7, Und w1 W E0 v v7 (l5 ++ Y02 true (ys.take k)) → Calls Tryz.prog 72 #[.pointer (some ⟨E0.e, 0, none⟩), .int .i64 (x.toNat : Int), .int .i64 8] W (fun e w' => e = .returned (.tuple #[]) ∧ EnT W E0 v7 (l5 ++ Y02 true (ys.take k) ++ Y07 true x.toNat 8) w')) := Lib.hid fun W v7 hu => Y1b W E0 v7 _ x.toNat 8 hu.en (by omega) (by omega) (by omega) hlen
     have k0 : (0 : Int) ≤ (k : Int) := by omega
     have k1 : (k : Int) < (r : Int) := by omega
     have HTK := Lib.hid htk
     clear hce hky hlen htk
     go_wp2_with fail
     refine (HNK.out _ _ HU6.out).mono ?_
     rintro e w7 ⟨rfl, ht⟩
     obtain ⟨v7, hU7⟩ := HU6.out.more ht
     rw [List.append_assoc, ← HTK.out] at hU7
     have HU7 := Lib.hid hU7
     clear ht hU7 HNK HU6
     go_wp2_with fail
     go_roundw
     case rel => exact ⟨k + 1, v7, by omega, by first | rfl | (push_cast; rfl), HU7⟩
     case measure => simp [intOf]; omega
    ·have hkn : k = r := by omega
     have ql2 : decide ((k : Int) < (r : Int)) = false := decide_eq_false (by omega)
     have HU7 : Hid (Und w1 wr E0 v v6 (Y02 true (Yh5 xs (j + 1)))) := Lib.hid (by
      have h6 := HU6.out
      have e := HYL.out
      rw [hkn, List.take_of_length_le (by omega)] at h6
      rw [HST.out, Y0o, Ybg lb ys (by omega)]
      rw [HL5.out, HRR.out, ← e] at h6
      simp only [List.append_assoc] at h6 ⊢
      exact h6)
     clear hkn HU6
     go_wp2_with fail
     go_roundw
     case rel => exact ⟨j + 1, v6, by omega, by first | rfl | (push_cast; rfl), HU7⟩
     case measure => simp [intOf]; have := HJK.out; omega
  ·have hjn : j = K := by omega
   have ql : decide ((j : Int) < (K : Int)) = false := decide_eq_false (by omega)
   have h2 := HU.out
   rw [hjn, HK.out, ← HX.out, Ykg] at h2
   have HRES : Hid (EnT w E0 v (Y02 true (Y97 xs)) wr) := Lib.hid (EnT.more ((Only.of_below (S := fun _ => False) HB1.out).mono (fun _ _ e => False.elim e)) (fun _ e => .inl e) h2.ent)
   clear h2 hjn
   go_wp2_with fail
   go_end0
   exact ⟨rfl, HRES.out⟩
end Go.Proofs.YtkkfkmoikcmhoaaGreat.Df
namespace Go.Proofs.YtkkfkmoikcmhoaaGreat.Df
open Bit Hf Oct Inf
set_option maxRecDepth 100000
structure FineC (c : List Nat) (most : Nat) (ls : List Nat) : Prop where
 len : ls.length = c.length
 zero : ∀ i, i < c.length → c.getD i 0 = 0 → ls.getD i 0 = 0
 least : Lm.Least (Lm.come c) most (Lm.Y4o c ls)
theorem Ya7 : ∀ (c l : List Nat), l.length = c.length → ∀ i, 0 < c.getD i 0 → l.getD i 0 ∈ Lm.Y4o c l
 | [], [], _, i, h => by simp at h
 | x :: c, y :: l, hl, i, h => by
  have hl' : l.length = c.length := by simpa using hl
  cases i with
  | zero =>
   have hx : 0 < x := by simpa using h
   simp [Lm.Y4o, hx]
  | succ i =>
   have ih := Ya7 c l hl' i (by simpa using h)
   have e : (y :: l).getD (i + 1) 0 = l.getD i 0 := by simp
   rw [e]
   simp only [Lm.Y4o]
   split
   ·exact List.mem_cons_of_mem _ ih
   ·exact ih
 | [], y :: l, hl, _, _ => by simp at hl
 | x :: c, [], hl, _, _ => by simp at hl
theorem Y44 {L : List Nat} {i : Nat} (h : L.length ≤ i) : L.getD i 0 = 0 := by rw [List.getD_eq_getElem?_getD, List.getElem?_eq_none h]; rfl
theorem Y64 {L : List Nat} {i : Nat} (h : i < L.length) : L.getD i 0 = L[i] := by rw [List.getD_eq_getElem?_getD, List.getElem?_eq_getElem h]; rfl
section
variable {c ls : List Nat} {most : Nat}
theorem FineC.at_le (h : FineC c most ls) (i : Nat) : ls.getD i 0 ≤ most := by
 rcases Nat.eq_zero_or_pos (c.getD i 0) with e | e
 ·rcases Nat.lt_or_ge i c.length with hi | hi
  ·rw [h.zero i hi e]; exact Nat.zero_le _
  ·rw [Y44 (by rw [h.len]; exact hi)]; exact Nat.zero_le _
 ·exact h.least.ok.hi _ (Ya7 c ls h.len i e)
theorem FineC.le (h : FineC c most ls) : ∀ x ∈ ls, x ≤ most := fun x hx => by
 obtain ⟨i, hi, rfl⟩ := List.getElem_of_mem hx
 rw [← Y64 hi]
 exact h.at_le i
theorem FineC.pos (h : FineC c most ls) (i : Nat) (hc : 0 < c.getD i 0) : 1 ≤ ls.getD i 0 := h.least.ok.lo _ (Ya7 c ls h.len i hc)
theorem FineC.full (h : FineC c most ls) (hm : most ≤ 30) (h2 : 2 ≤ (Lm.come c).length) : startN ls 31 = 1073741824 :=
 Lm.Ypb h.len h.zero h.least h2 hm fun x hx => Nat.le_trans (h.le x hx) hm
end
theorem Ydr : ∀ (c : List Nat) (i : Nat), 0 < c.getD i 0 → 1 ≤ (Lm.come c).length
 | [], i, h => by simp at h
 | x :: c, i, h => by
  unfold Lm.come
  rw [List.filter_cons]
  cases i with
  | zero =>
   have hx : 0 < x := by simpa using h
   rw [if_pos (by simpa using hx)]
   simp
  | succ i =>
   have ih := Ydr c i (by simpa using h)
   unfold Lm.come at ih
   split
   ·simp
   ·exact ih
theorem Y8a : ∀ (c : List Nat) (i j : Nat), i ≠ j → 0 < c.getD i 0 → 0 < c.getD j 0 → 2 ≤ (Lm.come c).length
 | [], i, j, _, h, _ => by simp at h
 | x :: c, i, j, hij, h1, h2 => by
  cases i with
  | zero =>
   have hx : 0 < x := by simpa using h1
   cases j with
   | zero => exact absurd rfl hij
   | succ j =>
    have := Ydr c j (by simpa using h2)
    unfold Lm.come at this ⊢
    rw [List.filter_cons, if_pos (by simpa using hx), List.length_cons]
    omega
  | succ i =>
   cases j with
   | zero =>
    have hx : 0 < x := by simpa using h2
    have := Ydr c i (by simpa using h1)
    unfold Lm.come at this ⊢
    rw [List.filter_cons, if_pos (by simpa using hx), List.length_cons]
    omega
   | succ j =>
    have ih := Y8a c i j (by omega) (by simpa using h1) (by simpa using h2)
    unfold Lm.come at ih ⊢
    rw [List.filter_cons]
    split
    ·rw [List.length_cons]; omega
    ·exact ih
theorem Y8n : ∀ L : List Nat, (L.filter (0 < ·)).sum = L.sum
 | [] => rfl
 | x :: L => by
  rw [List.filter_cons]
  split
  ·rw [List.sum_cons, List.sum_cons, Y8n L]
  ·rename_i h
   have : x = 0 := by simpa using h
   rw [List.sum_cons, Y8n L, this, Nat.zero_add]
theorem FineC.bare {c ls : List Nat} {most : Nat} (h : FineC c most ls) (hm : most ≤ 30) (h1 : 1 ≤ most) : startN ls 31 = 1073741824 ∨ (startN ls 31 < 1073741824 ∧ Inf.lone ls = true) := by
 by_cases h2 : 2 ≤ (Lm.come c).length
 ·exact .inl (h.full hm h2)
 ·right
  have hf := Lm.Y5w c ls h.len h.zero h.least.ok.lo
  have hl := h.least.ok.len
  rw [Lm.Ybf ls (fun x hx => Nat.le_trans (h.le x hx) hm), ← hf]
  unfold Inf.lone
  have hcp : ls.countP (fun n => decide (0 < n)) = (Lm.Y4o c ls).length := by rw [hf, List.countP_eq_length_filter]
  have hsm : ls.sum = (Lm.Y4o c ls).sum := by rw [hf, Y8n]
  rw [hcp, hsm]
  have hmin := h.least.min
  have hlo := h.least.ok.lo
  rcases hcc : Lm.come c with _ | ⟨f, r⟩
  ·rw [hcc] at hl
   have e : Lm.Y4o c ls = [] := List.eq_nil_of_length_eq_zero (by rw [hl]; rfl)
   rw [e]
   exact ⟨by decide, rfl⟩
  ·rw [hcc] at h2 hl hmin
   have hr : r = [] := List.eq_nil_of_length_eq_zero (by rw [List.length_cons] at h2; omega)
   subst hr
   rcases hLL : Lm.Y4o c ls with _ | ⟨y, q⟩
   ·rw [hLL] at hl; simp at hl
   ·rw [hLL] at hl hmin hlo
    have hq : q = [] := List.eq_nil_of_length_eq_zero (by rw [List.length_cons, List.length_cons, List.length_nil] at hl; omega)
    subst hq
    have hf1 : 1 ≤ f := Lm.Y9g c f (by rw [hcc]; exact List.mem_singleton.2 rfl)
    have hmn := hmin [1] ⟨rfl, fun x hx => by rw [List.mem_singleton.1 hx]; exact Nat.le_refl _, fun x hx => by rw [List.mem_singleton.1 hx]; exact h1, by decide⟩
    simp only [Lm.cost, Nat.add_zero, Nat.mul_one] at hmn
    have hy1 := hlo y (List.mem_singleton.2 rfl)
    have hy : y = 1 := by
     have : f * y ≤ f * 1 := by omega
     have := Nat.le_of_mul_le_mul_left this hf1
     omega
    subst hy
    exact ⟨by decide, rfl⟩
theorem Y4f (L : List Nat) (z : Nat) : ∀ n, startN (L ++ List.replicate z 0) n = startN L n
 | 0 => rfl
 | n + 1 => by
  by_cases hn : n = 0
  ·subst hn; rw [Y4z, Y4z]
  ·rw [Y3t _ _ hn, Y3t _ _ hn, Y4f L z n, List.count_append, List.count_replicate, if_neg (by simp; omega), Nat.add_zero]
theorem Y8o (L : List Nat) (z i : Nat) : (L ++ List.replicate z 0).getD i 0 = L.getD i 0 := by
 rcases Nat.lt_or_ge i L.length with h | h
 ·rw [List.getD_eq_getElem?_getD, List.getD_eq_getElem?_getD, List.getElem?_append_left h]
 ·rw [Y44 h, List.getD_eq_getElem?_getD, List.getElem?_append_right h, List.getElem?_replicate]
  split <;> rfl
theorem Ya3 (L : List Nat) (i : Nat) : (Y04 L).getD i [] = if i < L.length then Y0n (pos L (L.getD i 0) i) (L.getD i 0) else [] := by
 split
 ·rename_i h
  have h2 : i < (Y04 L).length := by rw [Y0c]; exact h
  rw [List.getD_eq_getElem?_getD, List.getElem?_eq_getElem h2, Y64 h]
  exact Y2u L i h2 h
 ·rename_i h
  rw [List.getD_eq_getElem?_getD, List.getElem?_eq_none (by rw [Y0c]; omega)]
  rfl
theorem Y91 (L : List Nat) (z i : Nat) : (Y04 (L ++ List.replicate z 0)).getD i [] = (Y04 L).getD i [] := by
 rw [Ya3, Ya3, Y8o]
 by_cases h : i < L.length
 ·rw [if_pos h, if_pos (by simp; omega)]
  unfold pos
  rw [Y4f, List.take_append_of_le_length (by omega)]
 ·rw [if_neg h]
  split
  ·rw [Y44 (by omega)]
   exact List.length_eq_zero_iff.1 (Y09 _ _)
  ·rfl
theorem Y3x (l : List Nat) (few : Nat) : l.take (Y27 l few l.length) ++ List.replicate (l.length - Y27 l few l.length) 0 = l := by
 have e : l.drop (Y27 l few l.length) = List.replicate (l.length - Y27 l few l.length) 0 := by
  rw [List.eq_replicate_iff]
  refine ⟨List.length_drop, fun b hb => ?_⟩
  obtain ⟨j, hj, rfl⟩ := List.getElem_of_mem hb
  rw [List.length_drop] at hj
  have := Y8z l few l.length (Y27 l few l.length + j) (by omega) (by omega)
  rw [List.getElem_drop, ← Y64 (by omega)]
  exact this
 rw [← e, List.take_append_drop]
def tA (L : List Nat) : List Nat := L.take (Y27 L 257 L.length)
def tB (L : List Nat) : List Nat := L.take (Y27 L 1 L.length)
def kM (m : List Nat) : Nat := Y27 (Y5m m) 4 (Y5m m).length
def Yeh (LA LB : List Nat) : List (Nat × Nat) := Y19 (tA LA ++ tB LB) 0
theorem Y78 (L : List Nat) (i : Nat) : (tA L).getD i 0 = L.getD i 0 := by
 conv => rhs; rw [← Y3x L 257]
 rw [Y8o]
 rfl
theorem Yiw (L : List Nat) (i : Nat) : (tB L).getD i 0 = L.getD i 0 := by
 conv => rhs; rw [← Y3x L 1]
 rw [Y8o]
 rfl
theorem Yeb (L : List Nat) (i : Nat) : (Y04 (tA L)).getD i [] = (Y04 L).getD i [] := by
 conv => rhs; rw [← Y3x L 257]
 rw [Y91]
 rfl
theorem Yw3 (L : List Nat) (i : Nat) : (Y04 (tB L)).getD i [] = (Y04 L).getD i [] := by
 conv => rhs; rw [← Y3x L 1]
 rw [Y91]
 rfl
theorem Yw1 (L : List Nat) : startN (tA L) 31 = startN L 31 := by
 conv => rhs; rw [← Y3x L 257]
 rw [Y4f]
 rfl
theorem Yw2 (L : List Nat) : startN (tB L) 31 = startN L 31 := by
 conv => rhs; rw [← Y3x L 1]
 rw [Y4f]
 rfl
theorem Ym6 (L : List Nat) (z : Nat) : Inf.lone (L ++ List.replicate z 0) = Inf.lone L := by
 unfold Inf.lone
 have e1 : (L ++ List.replicate z 0).countP (fun n => decide (0 < n)) = L.countP (fun n => decide (0 < n)) := by
  rw [List.countP_append, List.countP_replicate]
  simp
 have e2 : (L ++ List.replicate z 0).sum = L.sum := by
  rw [List.sum_append]
  simp
 rw [e1, e2]
theorem Yzg (L : List Nat) : Inf.lone (tB L) = Inf.lone L := by
 conv => rhs; rw [← Y3x L 1]
 rw [Ym6]
 rfl
theorem Ygs (LA LB : List Nat) : ∀ l : List Tok, Y26 (Y04 (tA LA)) (Y04 (tB LB)) l = Y26 (Y04 LA) (Y04 LB) l
 | [] => Yeb LA 256
 | t :: l => by
  rw [Y26, Y26, Ygs LA LB l]
  unfold Yej
  rw [Yeb, Yeb, Yw3]
theorem Y7h (L : List Nat) (i j : Nat) : L.getD j 0 ≤ (bump L i).getD j 0 := by
 unfold bump
 rw [List.getD_eq_getElem?_getD (l := L.set i _), List.getElem?_set]
 split
 ·rename_i e
  subst e
  split
  ·exact Nat.le_succ _
  ·rename_i h
   rw [Y44 (by omega)]
   exact Nat.zero_le _
 ·rw [List.getD_eq_getElem?_getD]
  exact Nat.le_refl _
theorem Y9f (L : List Nat) (i : Nat) (h : i < L.length) : 0 < (bump L i).getD i 0 := by
 unfold bump
 rw [List.getD_eq_getElem?_getD (l := L.set i _), List.getElem?_set, if_pos rfl, if_pos h]
 exact Nat.succ_pos _
theorem Ytn (ops : List (Nat × Nat)) (h19 : ∀ op ∈ ops, op.1 < 19) : ∀ op ∈ ops, 0 < (Y9a ops).getD op.1 0 := by
 have key : ∀ (ops : List (Nat × Nat)) (L : List Nat), L.length = 19 → (∀ op ∈ ops, op.1 < 19) →
   (∀ j, L.getD j 0 ≤ (ops.foldl (fun c op => bump c op.1) L).getD j 0) ∧ ∀ op ∈ ops, 0 < (ops.foldl (fun c op => bump c op.1) L).getD op.1 0 := by
  intro ops
  induction ops with
  | nil => intro L _ _; exact ⟨fun j => Nat.le_refl _, fun op h => by cases h⟩
  | cons o ops ih =>
   intro L hL h
   obtain ⟨h1, h2⟩ := ih (bump L o.1) (by rw [Y1l]; exact hL) fun op hop => h op (List.mem_cons_of_mem _ hop)
   rw [List.foldl_cons]
   refine ⟨fun j => Nat.le_trans (Y7h L o.1 j) (h1 j), fun op hop => ?_⟩
   rcases List.mem_cons.1 hop with rfl | hop
   ·exact Nat.lt_of_lt_of_le (Y9f L op.1 (by rw [hL]; exact h op List.mem_cons_self)) (h1 op.1)
   ·exact h2 op hop
 exact (key ops (List.replicate 19 0) (by simp) h19).2
theorem Yew (c : List Nat × List Nat) (t : Lzt.Tok) (j : Nat) : c.1.getD j 0 ≤ (Y6r c t).1.getD j 0 ∧ c.2.getD j 0 ≤ (Y6r c t).2.getD j 0 := by
 unfold Y6r
 split
 ·exact ⟨Y7h _ _ _, Nat.le_refl _⟩
 ·exact ⟨Y7h _ _ _, Y7h _ _ _⟩
def Y5o (c : List Nat × List Nat) (t : Lzt.Tok) : Prop :=
 if t.len = 0 then 0 < c.1.getD t.lit.toNat 0 else 0 < c.1.getD (257 + placeN false t.len.toNat) 0 ∧ 0 < c.2.getD (placeN true t.dist.toNat) 0
theorem Ytp (c : List Nat × List Nat) (t : Lzt.Tok) (h : c.1.length = 286 ∧ c.2.length = 30) : Y5o (Y6r c t) t := by
 have hp1 := Y16 false t.len.toNat
 have hp2 := Y16 true t.dist.toNat
 have e1 : (froms false).length = 29 := rfl
 have e2 : (froms true).length = 30 := rfl
 have h8 : t.lit.toNat < 256 := t.lit.toNat_lt
 unfold Y5o Y6r
 by_cases h0 : t.len = 0
 ·rw [if_pos h0, if_pos h0]
  exact Y9f _ _ (by rw [h.1]; omega)
 ·rw [if_neg h0, if_neg h0]
  exact ⟨Y9f _ _ (by rw [h.1]; omega), Y9f _ _ (by rw [h.2]; omega)⟩
theorem Y5o.mono {c d : List Nat × List Nat} {t : Lzt.Tok} (h : Y5o c t) (h1 : ∀ j, c.1.getD j 0 ≤ d.1.getD j 0) (h2 : ∀ j, c.2.getD j 0 ≤ d.2.getD j 0) : Y5o d t := by
 unfold Y5o at *
 by_cases h0 : t.len = 0
 ·rw [if_pos h0] at h ⊢
  exact Nat.lt_of_lt_of_le h (h1 _)
 ·rw [if_neg h0] at h ⊢
  exact ⟨Nat.lt_of_lt_of_le h.1 (h1 _), Nat.lt_of_lt_of_le h.2 (h2 _)⟩
theorem Ytm (l : List Lzt.Tok) : (∀ j, Yja.1.getD j 0 ≤ (Y4m l).1.getD j 0) ∧ ∀ t ∈ l, Y5o (Y4m l) t := by
 have key : ∀ (l : List Lzt.Tok) (c : List Nat × List Nat), c.1.length = 286 ∧ c.2.length = 30 →
   (∀ j, c.1.getD j 0 ≤ (l.foldl Y6r c).1.getD j 0) ∧ (∀ j, c.2.getD j 0 ≤ (l.foldl Y6r c).2.getD j 0) ∧ ∀ t ∈ l, Y5o (l.foldl Y6r c) t := by
  intro l
  induction l with
  | nil => intro c _; exact ⟨fun j => Nat.le_refl _, fun j => Nat.le_refl _, fun t h => by cases h⟩
  | cons s l ih =>
   intro c hc
   have hlen : (Y6r c s).1.length = 286 ∧ (Y6r c s).2.length = 30 := by
    unfold Y6r
    split
    ·exact ⟨by rw [Y1l]; exact hc.1, hc.2⟩
    ·exact ⟨by rw [Y1l]; exact hc.1, by rw [Y1l]; exact hc.2⟩
   obtain ⟨h1, h2, h3⟩ := ih (Y6r c s) hlen
   rw [List.foldl_cons]
   refine ⟨fun j => Nat.le_trans (Yew c s j).1 (h1 j), fun j => Nat.le_trans (Yew c s j).2 (h2 j), fun t ht => ?_⟩
   rcases List.mem_cons.1 ht with rfl | ht
   ·exact (Ytp c t hc).mono h1 h2
   ·exact h3 t ht
 have h := key l Yja ⟨by simp [Yja], by simp [Yja]⟩
 exact ⟨h.1, h.2.2⟩
theorem Yto : Yja.1.getD 256 0 = 1 := by decide +kernel
theorem Yd3 : (Y5u []).1.getD 256 0 = 1 ∧ (Y5u []).1.getD 0 0 = 1 := by decide +kernel
theorem Y7j (l : List Lzt.Tok) : (Y5u l).1.length = 286 ∧ (Y5u l).2.length = 30 := by
 have h := Yd4 l
 unfold Y5u
 split
 ·exact ⟨by rw [List.length_set]; exact h.1, h.2.1⟩
 ·exact ⟨h.1, h.2.1⟩
theorem Ytl (l : List Lzt.Tok) : 0 < (Y5u l).1.getD 256 0 ∧ 2 ≤ (Lm.come (Y5u l).1).length ∧ ∀ t ∈ l, Y5o (Y5u l) t := by
 by_cases hl : l = []
 ·subst hl
  exact ⟨by rw [Yd3.1]; decide, Y8a _ 256 0 (by decide) (by rw [Yd3.1]; decide) (by rw [Yd3.2]; decide), fun t h => by cases h⟩
 ·have e : Y5u l = Y4m l := by unfold Y5u; rw [if_neg hl]
  rw [e]
  obtain ⟨h1, h2⟩ := Ytm l
  have h256 : 0 < (Y4m l).1.getD 256 0 := by have := h1 256; rw [Yto] at this; omega
  refine ⟨h256, ?_, h2⟩
  obtain ⟨t, ht⟩ := List.exists_mem_of_ne_nil l hl
  have h8 : t.lit.toNat < 256 := t.lit.toNat_lt
  have hc := h2 t ht
  unfold Y5o at hc
  split at hc
  ·exact Y8a _ 256 _ (by omega) h256 hc
  ·exact Y8a _ 256 _ (by omega) h256 hc.1
structure OwnM (ts : List Lzt.Tok) (LA LB m : List Nat) : Prop where
 fa : FineC (Y5u ts).1 15 LA
 fb : FineC (Y5u ts).2 15 LB
 fm : FineC (Y9a (Yeh LA LB)) 7 m
theorem Y4w {ts : List Lzt.Tok} {LA LB m : List Nat} (h : OwnM ts LA LB m) : OwnL (tA LA) (tB LB) m (kM m) (Yeh LA LB) ∧ ∀ t ∈ ts, Y9s (tA LA) (tB LB) (conv t) := by
 have hlA : LA.length = 286 := by rw [h.fa.len]; exact (Y7j ts).1
 have hlB : LB.length = 30 := by rw [h.fb.len]; exact (Y7j ts).2
 have hlm : m.length = 19 := by rw [h.fm.len]; exact (Ya6 _).1
 obtain ⟨h256, h2, ht⟩ := Ytl ts
 have a1 := Y3w LA 257 LA.length (by omega)
 have a2 := Y5f LA 257 LA.length
 have b1 := Y3w LB 1 LB.length (by omega)
 have b2 := Y5f LB 1 LB.length
 have hol := Y15 m
 have k1 := Y3w (Y5m m) 4 (Y5m m).length (by omega)
 have k2 := Y5f (Y5m m) 4 (Y5m m).length
 have lA : (tA LA).length = Y27 LA 257 LA.length := by unfold tA; rw [List.length_take]; omega
 have lB : (tB LB).length = Y27 LB 1 LB.length := by unfold tB; rw [List.length_take]; omega
 have h15A : ∀ x ∈ tA LA, x ≤ 15 := fun x hx => h.fa.le x (List.mem_of_mem_take hx)
 have h15B : ∀ x ∈ tB LB, x ≤ 15 := fun x hx => h.fb.le x (List.mem_of_mem_take hx)
 have h15 : ∀ x ∈ tA LA ++ tB LB, x ≤ 15 := fun x hx => (List.mem_append.1 hx).elim (h15A x) (h15B x)
 have hae : (tA LA).getD 256 0 ≠ 0 := by rw [Y78]; have := h.fa.pos 256 h256; omega
 obtain ⟨hms, hmo⟩ := Yap h15
 have h19 : ∀ op ∈ Yeh LA LB, op.1 < 19 := fun op hop => (hmo op hop).1
 have hmp := Ytn (Yeh LA LB) h19
 obtain ⟨p, hp, q, hq, hpq⟩ := Yq6 h15 (by rw [List.length_append, lA]; omega) ⟨(tA LA).getD 256 0, List.mem_append_left _ (by rw [Y64 (by omega)]; exact List.getElem_mem _), hae⟩
 refine ⟨⟨by omega, by omega, by omega, by omega, k1, by unfold kM; omega, hlm, h.fm.le, ?_, ?_, ?_, ?_, hms, hae, ?_, ?_, fun n hn => Nat.le_trans (h15A n hn) (by decide), fun n hn => Nat.le_trans (h15B n hn) (by decide)⟩, ?_⟩
 ·intro i hi hi2
  have := Y8z (Y5m m) 4 (Y5m m).length i hi (by omega)
  rw [List.getD_eq_getElem?_getD, Yds m i hi2] at this
  exact this
 ·exact h.fm.full (by decide) (Y8a _ p.1 q.1 hpq (hmp p hp) (hmp q hq))
 ·exact fun op hop => ⟨(hmo op hop).1, h.fm.pos _ (hmp op hop), (hmo op hop).2⟩
 ·exact fun op r e => Yum h15 op r e
 ·rw [Yw1]
  exact h.fa.full (by decide) h2
 ·rw [Yw2, Yzg]
  exact h.fb.bare (by decide) (by decide)
 ·intro t htm
  have hc := ht t htm
  unfold Y5o at hc
  unfold Y9s
  by_cases h0 : t.len = 0
  ·rw [if_pos h0] at hc
   rw [if_pos (show (conv t).len = 0 from h0)]
   rw [Y78]
   exact h.fa.pos _ hc
  ·rw [if_neg h0] at hc
   rw [if_neg (show ¬ (conv t).len = 0 from h0)]
   rw [Y78, Yiw]
   exact ⟨h.fa.pos _ hc.1, h.fb.pos _ hc.2⟩
end Go.Proofs.YtkkfkmoikcmhoaaGreat.Df
namespace Go.Proofs.YtkkfkmoikcmhoaaGreat.Df
open Bit Hf Oct Inf
set_option maxRecDepth 100000
theorem Yd7 {m : Int} : ∀ (l : List Lzt.Tok) (out o : List UInt8), Lzt.Y8l m l out = .ok o → ∀ t ∈ l, Y5p t
 | [], out, o, h => fun t ht => by cases ht
 | s :: l, out, o, h => by
  rcases hs : Lzt.Y5d m s out with e | o1
  ·rw [Lzt.Yad hs] at h; cases h
  ·rw [Lzt.Yae hs] at h
   intro t ht
   rcases List.mem_cons.1 ht with rfl | ht
   ·unfold Lzt.Y5d at hs
    unfold Y5p
    by_cases h0 : t.len = 0
    ·exact .inl h0
    ·rw [if_neg h0] at hs
     split at hs
     ·cases hs
     ·right; omega
   ·exact Yd7 l o1 o h t ht
theorem Y4d (lim : Nat) : ∀ (a b : List Tok) (out o : List UInt8), Y2k lim (a ++ b) out = some o → ∃ u, Y2k lim a out = some u ∧ Y2k lim b u = some o
 | [], b, out, o, h => ⟨out, rfl, h⟩
 | t :: a, b, out, o, h => by
  rw [List.cons_append, Y2k] at h
  rw [Y2k]
  by_cases h0 : t.len = 0
  ·rw [if_pos h0] at h ⊢
   exact Y4d lim a b _ o h
  ·rw [if_neg h0] at h ⊢
   split at h
   ·cases h
   ·rename_i hc
    rw [if_neg hc]
    exact Y4d lim a b _ o h
def Ybo (LA LB m : List Nat) (last : Bool) (ts : List Lzt.Tok) : List Bool := Y07 true (if last then 5 else 4) 3 ++ Ynk (tA LA) (tB LB) m (kM m) (Yeh LA LB) (ts.map conv)
def X01 (ts : List Lzt.Tok) (B : List Bool) : Prop := ∀ (L rest : List Bool) (a most lim : Nat) (out o : List UInt8), L.drop a = B ++ rest → a ≤ L.length → Y2k lim (ts.map conv) out = some o → o.length ≤ most → Y2v L most a out = Y2v L most (a + B.length) o
def BlkF (ts : List Lzt.Tok) (B : List Bool) : Prop := ∀ (L rest : List Bool) (a most lim : Nat) (out o : List UInt8), L.drop a = B ++ rest → a ≤ L.length → Y2k lim (ts.map conv) out = some o → o.length ≤ most → Y2v L most a out = .ok (o, a + B.length)
theorem Ytf : X01 [] [] := fun L rest a most lim out o hd ha hr ho => by cases hr; rfl
theorem Yay {us : List Lzt.Tok} {LA LB m : List Nat} (h : OwnM us LA LB m) (last : Bool) {L rest : List Bool} {a most lim : Nat} {out o : List UInt8} (hd : L.drop a = Ybo LA LB m last us ++ rest) (ha : a ≤ L.length)
  (hr : Y2k lim (us.map conv) out = some o) (ho : o.length ≤ most) : Y2v L most a out = if last then .ok (o, a + (Ybo LA LB m last us).length) else Y2v L most (a + (Ybo LA LB m last us).length) o := by
 obtain ⟨hO, hu⟩ := Y4w h
 unfold Ybo at hd ⊢
 rw [List.append_assoc] at hd
 have a1 := Y0t hd ha
 have d1 := Y0j hd
 rw [Y00] at a1 d1
 have hu2 : ∀ t ∈ us.map conv, Y9s (tA LA) (tB LB) t := fun t ht => by
  obtain ⟨u, hum, rfl⟩ := List.mem_map.1 ht
  exact hu u hum
 have hone := X0x hO hu2 hr ho d1 a1
 have ht : Yce L most (if last then 5 else 4) (a + 3) out = .ok (o, a + 3 + (Ynk (tA LA) (tB LB) m (kM m) (Yeh LA LB) (us.map conv)).length) := by
  unfold Yce
  rw [if_neg (by cases last <;> decide), if_neg (by cases last <;> decide), if_pos (by cases last <;> decide)]
  exact hone
 rw [Yda hd ha (by cases last <;> decide) ht, List.length_append, Y00, Nat.add_assoc]
 cases last <;> rfl
theorem Yo5 {ts us : List Lzt.Tok} {B : List Bool} {LA LB m : List Nat} (hB : X01 ts B) (h : OwnM us LA LB m) : X01 (ts ++ us) (B ++ Ybo LA LB m false us) := fun L rest a most lim out o hd ha hr ho => by
 rw [List.map_append] at hr
 obtain ⟨u, hr1, hr2⟩ := Y4d lim _ _ _ _ hr
 rw [List.append_assoc] at hd
 rw [hB L _ a most lim out u hd ha hr1 (Nat.le_trans (Y2y _ _ _ hr2) ho), Yay h false (Y0j hd) (Y0t hd ha) hr2 ho, if_neg Bool.false_ne_true, List.length_append, Nat.add_assoc]
theorem Yo4 {ts us : List Lzt.Tok} {B : List Bool} {LA LB m : List Nat} (hB : X01 ts B) (h : OwnM us LA LB m) : BlkF (ts ++ us) (B ++ Ybo LA LB m true us) := fun L rest a most lim out o hd ha hr ho => by
 rw [List.map_append] at hr
 obtain ⟨u, hr1, hr2⟩ := Y4d lim _ _ _ _ hr
 rw [List.append_assoc] at hd
 rw [hB L _ a most lim out u hd ha hr1 (Nat.le_trans (Y2y _ _ _ hr2) ho), Yay h true (Y0j hd) (Y0t hd ha) hr2 ho, if_pos rfl, List.length_append, Nat.add_assoc]
theorem Yxh {ts : List Lzt.Tok} {B : List Bool} (h : BlkF ts B) {lim most : Nat} {o : List UInt8} (hr : Y2k lim (ts.map conv) [] = some o) (ho : o.length ≤ most) : inflate (Y0r true B) most = .ok (o, (Y0r true B).length) := by
 rw [Y3k, Y34, Y0d]
 generalize zs (8 * ((B.length + 7) / 8) - B.length) = pad
 rw [h (B ++ pad) pad 0 most lim [] o (by rw [List.drop_zero]) (Nat.zero_le _) hr ho, Nat.zero_add]
theorem Yjv (n : Nat) : (Y55 true n).length ≤ 13 := by
 have h1 : ∀ i, i < 30 → (extras true).getD i 0 ≤ 13 := by decide
 have h2 := Y16 true n
 unfold Y55
 rw [Y00]
 exact h1 _ h2
theorem Ybk {A B : List (List Bool)} (hA : ∀ i, (A.getD i []).length ≤ 15) (hB : ∀ i, (B.getD i []).length ≤ 15) (l : List Tok) : (Y26 A B l).length ≤ 48 * l.length + 15 := by
 have h := Ybj (A := A) (B := B) (k := 48) l fun t ht => by
  unfold Yej
  split
  ·exact Nat.le_trans (hA _) (by decide)
  ·have h1 := hA (257 + placeN false t.len.toNat)
   have h2 := hB (placeN true t.dist.toNat)
   have h3 := Yar t.len.toNat
   have h4 := Yjv t.dist.toNat
   simp only [List.length_append]
   omega
 have := hA 256
 omega
def nzC (l : List Nat) (a : Nat) : Nat := (l.drop a).countP (0 < ·)
theorem Yqh (l : List Nat) (a : Nat) (h : a < l.length) : nzC l a = (if 0 < l.getD a 0 then 1 else 0) + nzC l (a + 1) := by
 unfold nzC
 rw [List.drop_eq_getElem_cons h, List.countP_cons, Y64 h]
 by_cases h0 : 0 < l[a]
 ·simp [h0]; omega
 ·simp [h0]
theorem Yi8 (l : List Nat) (a : Nat) : ∀ k, nzC l (a + k) ≤ nzC l a
 | 0 => Nat.le_refl _
 | k + 1 => by
  refine Nat.le_trans ?_ (Yi8 l a k)
  rcases Nat.lt_or_ge (a + k) l.length with h | h
  ·rw [Yqh l (a + k) h]
   exact Nat.le_add_left _ _
  ·unfold nzC
   rw [List.drop_eq_nil_of_le (by omega)]
   simp
def zrN (l : List Nat) (a : Nat) : Nat := if a < l.length ∧ l.getD a 0 = 0 then min 2 (runN (l.drop a)) else 0
theorem Yx1 (l : List Nat) (a : Nat) : zrN l a ≤ 2 := by unfold zrN; split <;> omega
theorem X1c {l : List Nat} {a : Nat} (h : a < l.length) (h0 : l.getD a 0 = 0) : zrN l (a + runN (l.drop a)) = 0 := by
 obtain ⟨h1, h2, h3, h4⟩ := Y96 h
 unfold zrN
 rw [if_neg]
 rintro ⟨e1, e2⟩
 exact h4 e1 (by rw [e2, h0])
theorem Yca (l : List Nat) : ∀ k a, l.length - a ≤ k → a ≤ l.length → (Y19 l a).length ≤ (l.length - a) / 138 + 3 * nzC l a + zrN l a
 | 0, a, hk, ha => by
  rw [Y2d (by omega)]
  exact Nat.zero_le _
 | k + 1, a, hk, ha => by
  by_cases h : a < l.length
  ·obtain ⟨h1, h2, h3, h4⟩ := Y96 h
   have hp := Y67 h
   rw [Y38 h, List.length_cons]
   have ih := Yca l k (a + (Y0v l a).2) (by omega) (by omega)
   have hm := Yi8 l a (Y0v l a).2
   have hz2 := Yx1 l (a + (Y0v l a).2)
   by_cases h0 : l.getD a 0 = 0
   ·have hza : zrN l a = min 2 (runN (l.drop a)) := by unfold zrN; rw [if_pos ⟨h, h0⟩]
    have hze := X1c h h0
    by_cases h11 : 11 ≤ runN (l.drop a)
    ·have e : (Y0v l a).2 = min (runN (l.drop a)) 138 := by unfold Y0v; rw [if_pos ⟨h0, h11⟩]
     by_cases h138 : runN (l.drop a) ≤ 138
     ·rw [show (Y0v l a).2 = runN (l.drop a) from by omega] at ih hm hz2
      rw [show (Y0v l a).2 = runN (l.drop a) from by omega]
      have : (l.length - (a + runN (l.drop a))) / 138 ≤ (l.length - a) / 138 := Nat.div_le_div_right (by omega)
      omega
     ·rw [show (Y0v l a).2 = 138 from by omega] at ih hm hz2
      rw [show (Y0v l a).2 = 138 from by omega]
      omega
    ·by_cases h33 : 3 ≤ runN (l.drop a)
     ·have e : (Y0v l a).2 = runN (l.drop a) := by unfold Y0v; rw [if_neg (by omega), if_pos ⟨h0, h33⟩]
      rw [e] at ih hm hz2 ⊢
      have : (l.length - (a + runN (l.drop a))) / 138 ≤ (l.length - a) / 138 := Nat.div_le_div_right (by omega)
      omega
     ·have e : (Y0v l a).2 = 1 := by unfold Y0v; rw [if_neg (by omega), if_neg (by omega), if_neg (by omega)]
      rw [e] at ih hm hz2 ⊢
      have h5 : (l.length - (a + 1)) / 138 ≤ (l.length - a) / 138 := Nat.div_le_div_right (by omega)
      by_cases hr1 : runN (l.drop a) = 1
      ·rw [hr1] at hze
       omega
      ·have hr2 : runN (l.drop a) = 2 := by omega
       have hn1 : l.getD (a + 1) 0 = 0 := by rw [h3 1 (by omega), h0]
       have h6 : zrN l (a + 1) ≤ 1 := by
        have hb := Y96 (l := l) (a := a + 1) (by omega)
        unfold zrN
        rw [if_pos ⟨by omega, hn1⟩]
        rcases Nat.lt_or_ge (runN (l.drop (a + 1))) 2 with q | q
        ·omega
        ·exfalso
         have e1 := hb.2.2.1 1 (by omega)
         have e2 := h4 (by omega)
         rw [hr2] at e2
         rw [show a + 1 + 1 = a + 2 from by omega, hn1] at e1
         rw [e1, h0] at e2
         exact e2 rfl
       omega
   ·have hnz := Yqh l a h
    rw [if_pos (by omega)] at hnz
    have hm2 : nzC l (a + (Y0v l a).2) ≤ nzC l (a + 1) := by
     have := Yi8 l (a + 1) ((Y0v l a).2 - 1)
     rwa [show a + 1 + ((Y0v l a).2 - 1) = a + (Y0v l a).2 from by omega] at this
    have : (l.length - (a + (Y0v l a).2)) / 138 ≤ (l.length - a) / 138 := Nat.div_le_div_right (by omega)
    omega
  ·rw [Y2d h]
   exact Nat.zero_le _
theorem Ykm {m : List Nat} (h7 : ∀ n ∈ m, n ≤ 7) (op : Nat × Nat) : (Yei (Y04 m) op).length ≤ 14 := by
 have := Y0b m 7 h7 op.1
 have hw : wideV op.1 ≤ 7 := by unfold wideV; split <;> (try split) <;> (try split) <;> omega
 unfold Yei
 rw [List.length_append, Y00]
 omega
theorem Y4t {m : List Nat} (h7 : ∀ n ∈ m, n ≤ 7) : ∀ ops : List (Nat × Nat), (ops.flatMap (Yei (Y04 m))).length ≤ 14 * ops.length
 | [] => Nat.le_refl _
 | op :: ops => by
  have := Ykm h7 op
  have ih := Y4t h7 ops
  rw [List.flatMap_cons, List.length_append, List.length_cons]
  omega
end Go.Proofs.YtkkfkmoikcmhoaaGreat.Df

/- DgB, DgC, DgD: merged. -/
import Derived.Test.YtkkfkmoikcmhoaaGreatAam
import Derived.Test.YtkkfkmoikcmhoaaGreatAba
import Derived.Test.YtkkfkmoikcmhoaaGreatAbb
import Derived.Test.YtkkfkmoikcmhoaaGreatAbc
set_option linter.unusedVariables false
set_option linter.unusedSimpArgs false
namespace Go.Proofs.YtkkfkmoikcmhoaaGreat.Df
open Go.RowKit Oct Bit Hf Inf
set_option maxRecDepth 100000
def Ym7 (ts : List Lzt.Tok) (j : Nat) : List Lzt.Tok := (ts.drop (j * 16384)).take 16384
theorem Y4z (ts : List Lzt.Tok) (j : Nat) : (Ym7 ts j).length = min 16384 (ts.length - j * 16384) := by unfold Ym7; rw [List.length_take, List.length_drop]
theorem Ydp {ts : List Lzt.Tok} {j : Nat} {t : Lzt.Tok} (h : t ∈ Ym7 ts j) : t ∈ ts := List.mem_of_mem_drop (List.mem_of_mem_take h)
theorem Y7f (ts : List Lzt.Tok) (j : Nat) : ts.take (j * 16384) ++ Ym7 ts j = ts.take ((j + 1) * 16384) := by
 rw [show (j + 1) * 16384 = j * 16384 + 16384 from by omega, List.take_add]
 rfl
theorem Yr6 {w : World} {C : Nat} {p : Option Addr} {ts : List Lzt.Tok} (h : Lzt.Toks w C p ts) (j : Nat) : Lzt.Toks w C (shA p (j * 49152)) (Ym7 ts j) := by
 refine ⟨fun t ht => h.1 t (Ydp ht), fun hp => ?_⟩
 rw [Y4z] at hp
 obtain ⟨b, off, rfl, hb, hc⟩ := h.2 (by omega)
 refine ⟨b, off + j * 49152, Y65 _ _ _, hb, fun i hi => ?_⟩
 have hi2 := hi
 rw [Y4z] at hi2
 have hc2 := hc (j * 16384 + i) (by omega)
 have e : (Ym7 ts j)[i] = ts[j * 16384 + i] := by simp [Ym7]
 rw [e]
 unfold Lzt.Yn5 at hc2 ⊢
 rw [show off + j * 49152 + i * 3 = off + (j * 16384 + i) * 3 from by omega]
 exact hc2
structure BlkS (ts : List Lzt.Tok) (K j : Nat) (B : List Bool) : Prop where
 mid : j < K → Yyo (ts.take (j * 16384)) B
 fin : j = K → BlkF ts B
 len : B.length ≤ j * 791032
 wg : B.length ≤ j * 4600 + 16 * wgt (ts.take (j * 16384))
 zero : j = 0 → B = []
 one : j = K → K = 1 → ∃ LA LB m, OwnM ts LA LB m ∧ B = Yb9 LA LB m true ts
theorem Ykq (ts : List Lzt.Tok) (K : Nat) (h : 0 < K) : BlkS ts K 0 [] :=
 ⟨fun _ => by rw [Nat.zero_mul, List.take_zero]; exact Ys8, fun e => by omega, Nat.zero_le _, Nat.zero_le _, fun _ => rfl, fun e _ => by omega⟩
theorem Ynl {ts : List Lzt.Tok} {K j : Nat} {B : List Bool} {LA LB m : List Nat} (h : BlkS ts K j B) (hj : j < K) (hK : K = Yde ts.length) (hm : OwnM (Ym7 ts j) LA LB m) (hfit : ∀ t ∈ ts, Y58 t) :
  BlkS ts K (j + 1) (B ++ Yb9 LA LB m (decide (j + 1 = K)) (Ym7 ts j)) := by
 have hlen : (B ++ Yb9 LA LB m (decide (j + 1 = K)) (Ym7 ts j)).length ≤ (j + 1) * 791032 := by
  have h1 := Yjm hm (decide (j + 1 = K))
  have h2 := Y4z ts j
  have h3 := h.len
  rw [List.length_append]
  omega
 have hwg : (B ++ Yb9 LA LB m (decide (j + 1 = K)) (Ym7 ts j)).length ≤ (j + 1) * 4600 + 16 * wgt (ts.take ((j + 1) * 16384)) := by
  have h1 := Yxj hm (fun t ht => hfit t (Ydp ht)) (decide (j + 1 = K))
  have h3 := h.wg
  rw [← Y7f, Ycd, List.length_append]
  omega
 have hall : j + 1 = K → ts.take ((j + 1) * 16384) = ts := fun e => List.take_of_length_le (by unfold Yde at hK; omega)
 refine ⟨fun hlt => ?_, fun e => ?_, hlen, hwg, fun e => by omega, fun e e1 => ?_⟩
 ·rw [decide_eq_false (by omega), ← Y7f]
  exact Ynk (h.mid hj) hm
 ·have hb := Ynj (h.mid hj) hm
  rw [Y7f, hall e] at hb
  rw [decide_eq_true e]
  exact hb
 ·have hj0 : j = 0 := by omega
  have hp : Ym7 ts j = ts := by
   have := Y7f ts j
   rw [hall e, hj0, Nat.zero_mul, List.take_zero, List.nil_append] at this
   rw [hj0]
   exact this
  rw [hp] at hm ⊢
  rw [decide_eq_true e, h.zero hj0, List.nil_append]
  exact ⟨LA, LB, m, hm, rfl⟩
theorem Yw3 (l : List Lzt.Tok) : (∀ x ∈ (Y5d l).1, x ≤ l.length + 1) ∧ ∀ x ∈ (Y5d l).2, x ≤ l.length + 1 := by
 have h := Ycp l
 unfold Y5d
 split
 ·refine ⟨fun x hx => ?_, h.2.2.2⟩
  rcases List.mem_or_eq_of_mem_set hx with e | e
  ·exact h.2.2.1 x e
  ·omega
 ·exact ⟨h.2.2.1, h.2.2.2⟩
theorem Yxk {us : List Lzt.Tok} {LA LB m : List Nat} (h : OwnM us LA LB m) : (∀ t ∈ us, Yii (Y03 LA) (Y03 LB) t) ∧ (Y03 LA).getD 256 [] ≠ [] := by
 obtain ⟨hO, ht⟩ := Y4k h
 have hw : ∀ (L : List Nat) (i : Nat), 1 ≤ L.getD i 0 → (Y03 L).getD i [] ≠ [] := fun L i hi => by
  obtain ⟨wd, _, w2, w3⟩ := Ygt hi
  rw [w3]
  exact w2
 refine ⟨fun t htm => ?_, hw _ _ (by have := hO.ae; rw [Y6r] at this; omega)⟩
 have hl := ht t htm
 unfold Y9e at hl
 unfold Yii
 by_cases h0 : t.len = 0
 ·rw [if_pos (show (conv t).len = 0 from h0), Y6r] at hl
  exact ⟨fun _ => hw _ _ hl, fun e => absurd h0 e⟩
 ·rw [if_neg (show ¬ (conv t).len = 0 from h0), Y6r, Yie] at hl
  exact ⟨fun e => absurd e h0, fun _ => ⟨hw _ _ hl.1, hw _ _ hl.2⟩⟩
theorem Ypw (LA LB m : List Nat) (last : Bool) (us : List Lzt.Tok) : Yb9 LA LB m last us = Y07 true ((if last then 1 else 0) + 2 * 2) 3 ++ (Yw9 LA LB m ++ Y1y (Y03 LA) (Y03 LB) (us.map conv)) := by
 unfold Yb9
 rw [Ywa]
 cases last <;> rfl
def Yv9 (w : World) (E0 : Ke) (v : Value) (ts : List Lzt.Tok) (e : Ending) (w' : World) : Prop :=
 e = .returned (.tuple #[]) ∧ ∃ B, BlkS ts (Yde ts.length) (Yde ts.length) B ∧ EnT w E0 v B w'
set_option maxHeartbeats 4000000 in
theorem Yxg (w : World) (E0 : Ke) (v : Value) (FT : Nat → Prop) (p : Option Addr) (n cap : Nat) (ts : List Lzt.Tok) (h : En w E0 v [])
  (hT : Foot FT (fun w' => Lzt.Toks w' w'.heap.size p ts) w) (hf : Far E0 v FT) (hx : ts.length = n) (hn : n ≤ 32768) (hc : n ≤ cap) (hc2 : cap ≤ maxLen) (hfit : ∀ t ∈ ts, Y58 t) :
  Calls Tryz.prog 47 #[.pointer (some ⟨E0.e, 0, none⟩), .slice p n cap] w (Yv9 w E0 v ts) := by
 have HSP := Lib.hid (Ymg w p n cap (fun hlt => by obtain ⟨b, off, e, _⟩ := hT.now.2 (by omega); exact ⟨b, off, e⟩) (by omega) hc hc2)
 have H := Lib.hid h
 have HT := Lib.hid hT
 have HF := Lib.hid hf
 have HX := Lib.hid hx
 have HFIT := Lib.hid hfit
 obtain ⟨K, hK⟩ : ∃ K, K = Yde n := ⟨_, rfl⟩
 have hK1 : 1 ≤ K ∧ K ≤ 2 := by rw [hK]; unfold Yde; omega
 have HK := Lib.hid hK
 clear h hT hf hx hK hc2 hfit
 go_enter Tryz.func47, Tryz.ntmps47
 go_wp2_with fail
 refine HSP.out.mono ?_
 rintro e w1 ⟨q, c, rfl, hb1, hq, hqn⟩
 rw [← HK.out] at hq ⊢
 have HB1 := Lib.hid hb1
 have HQ := Lib.hid hq
 have HU1 : Hid (BlkS ts K 0 [] ∧ Und w1 w1 E0 v v []) := Lib.hid ⟨Ykq ts K (by omega), Und.start (H.out.below hb1)⟩
 have HQF : Hid (Far E0 v (At q)) := Lib.hid (Y2a H.out fun k ⟨a, e, hk⟩ => by rw [← hk]; exact hqn a e)
 have HT1 := Lib.hid (HT.out.below hb1)
 clear hb1 hq hqn HSP
 go_wp2_with fail
 go_loopw [15] (fun i wr => ∃ (j : Nat) (v' : Value) (B : List Bool), j ≤ K ∧ i = .int .i64 (j : Int) ∧ Hid (BlkS ts K j B ∧ Und w1 wr E0 v v' B)) (fun i _ => K - (intOf i).toNat)
 case atStart => exact ⟨0, v, [], by omega, rfl, HU1⟩
 case round =>
  obtain ⟨j, v', B, hjK, rfl, HU⟩ := hrel
  clear HU1
  by_cases hlt : j < K
  ·have ql : decide ((j : Int) < (K : Int)) = true := decide_eq_true (by omega)
   obtain ⟨KM, hKM⟩ : ∃ KM, KM + 1 = K := ⟨K - 1, by omega⟩
   obtain ⟨lb, hlb⟩ : ∃ lb : Bool, lb = decide (j + 1 = K) := ⟨_, rfl⟩
   have qe1 : ((j : Int) == (K : Int) - 1) = lb := by rw [hlb, Bool.eq_iff_iff]; simp; omega
   have qe2 : ((j : Int) == (KM : Int)) = lb := by rw [hlb, Bool.eq_iff_iff]; simp; omega
   have hw1 : wrap64 ((K : Int) - 1) = (KM : Int) := (Y0q _ (by omega) (by omega)).trans (by omega)
   obtain ⟨qb, qo, hqe, hqc⟩ := Yrg (HU.out.2.foot HQ.out HQF.out).now j (by simp; omega)
   have hqe2 := hqe
   subst hqe2
   clear hqe
   rw [List.getElem_map, List.getElem_range] at hqc
   unfold Yjr at hqc
   obtain ⟨A, hA⟩ : ∃ A, A = shA p (j * 49152) := ⟨_, rfl⟩
   obtain ⟨r, hr⟩ : ∃ r, r = min 16384 (n - j * 16384) := ⟨_, rfl⟩
   obtain ⟨cc, hcc⟩ : ∃ cc, cc = cap - j * 16384 := ⟨_, rfl⟩
   rw [← hA, ← hr, ← hcc] at hqc
   obtain ⟨us, hus⟩ : ∃ us, us = Ym7 ts j := ⟨_, rfl⟩
   have hul : us.length = r := by rw [hus, Y4z, HX.out, hr]
   have hr16 : r ≤ 16384 := by omega
   have hTr : Foot FT (fun w' => Lzt.Toks w' w'.heap.size A us) wr := (HU.out.2.foot HT1.out HF.out).mono fun w' hw' => by rw [hA, hus]; exact Yr6 hw' j
   have hFr : Far E0 v' FT := HU.out.2.far HT1.out HF.out
   have hufit : ∀ t ∈ us, Y58 t := fun t ht => HFIT.out t (by rw [hus] at ht; exact Ydp ht)
   have hBl : B.length ≤ 791032 := by have := HU.out.1.len; omega
   have HUS := Lib.hid hus
   have HLB := Lib.hid hlb
   have HUL := Lib.hid hul
   have HTR := Lib.hid hTr
   have HFR := Lib.hid hFr
   have HUF := Lib.hid hufit
   have HER := Lib.hid HU.out.2.en
   have HCN := Lib.hid (Y30 wr E0 v' B FT A r cc us HER.out hTr hul (by omega) hufit)
   have j0 : (0 : Int) ≤ (j : Int) := by omega
   have j1 : (j : Int) < (K : Int) := by omega
   have HJK := Lib.hid hlt
   have HCL := Lib.hid (Y74 us)
   have HCE := Lib.hid (Yw3 us)
   clear hlb hA hr hcc hus hul hTr hFr hufit hKM
   go_wp2_with fail
   refine HCN.out.mono ?_
   rintro e w2 ⟨c1, c2, rfl, hb2, hr1, hr2, hne, hn1, hn2⟩
   have hE2 := HER.out.below hb2
   have hln := Y5z w2 E0 v' B (some ⟨c1, 0, none⟩) 286 286 15 (Y5d us).1 hE2 hr1.foot.now HCL.out.1 (by omega) (fun x hx => by have := HCE.out.1 x hx; have := HUL.out; omega) (by omega) (by omega) (by decide)
   have HLN : Hid (Calls Tryz.prog 82 #[.pointer (some ⟨E0.e, 0, none⟩), .slice (some ⟨c1, 0, none⟩) 286 286, .int .i64 15] w2 (Yrx w2 (Y5d us).1 15)) := Lib.hid hln
   have HB2 := Lib.hid hb2
   have HR2 := Lib.hid hr2
   clear hb2 hr1 hr2 hne hn1 hn2 hE2 hln HCN
   go_wp2_with fail
   refine HLN.out.mono ?_
   rintro e w3 ⟨hb3, b3, LA, rfl, hf3, hn3, hlA, hfA⟩
   rw [HCL.out.1]
   have fA : FineC (Y5d us).1 15 LA := Yoe hfA
   have hbw3 := HB2.out.trans (hb3.mono HB2.out.size)
   have hln := Y5z w3 E0 v' B (some ⟨c2, 0, none⟩) 30 30 15 (Y5d us).2 (HER.out.below hbw3) (HR2.out.foot.below hb3).now HCL.out.2 (by omega) (fun x hx => by have := HCE.out.2 x hx; have := HUL.out; omega) (by omega) (by omega) (by decide)
   have HLN2 : Hid (Calls Tryz.prog 82 #[.pointer (some ⟨E0.e, 0, none⟩), .slice (some ⟨c2, 0, none⟩) 30 30, .int .i64 15] w3 (Yrx w3 (Y5d us).2 15)) := Lib.hid hln
   have HB3 := Lib.hid hbw3
   have HF3 := Lib.hid hf3
   have HFA := Lib.hid fA
   have HN3 : Hid (wr.heap.size ≤ b3) := Lib.hid (Nat.le_trans HB2.out.size hn3)
   clear hb3 hf3 hn3 hlA hfA fA hbw3 hln HLN HR2 HB2
   go_wp2_with fail
   refine HLN2.out.mono ?_
   rintro e w4 ⟨hb4, b4, LB, rfl, hf4, hn4, hlB, hfB⟩
   rw [HCL.out.2]
   have fB : FineC (Y5d us).2 15 LB := Yoe hfB
   have hbw4 := HB3.out.trans (hb4.mono HB3.out.size)
   have HF34 := Lib.hid (HF3.out.below hb4)
   have HF4 := Lib.hid hf4
   have HFB := Lib.hid fB
   have HFar3 : Hid (Far E0 v' (· = b3)) := Lib.hid (Y2a HER.out fun k hk => by rw [hk]; exact HN3.out)
   have HFar4 : Hid (Far E0 v' (· = b4)) := Lib.hid (Y2a HER.out fun k hk => by rw [hk]; exact Nat.le_trans HB3.out.size hn4)
   have HB4 := Lib.hid hbw4
   have HT4 := Lib.hid (HTR.out.below hbw4)
   have HUA := Lib.hid (Und.start (HER.out.below hbw4))
   have HBG := Lib.hid (Y9i w4 E0 v' B lb 2 HUA.out.en (by omega) (by omega))
   clear hb4 hf4 hn4 hlB hfB fB hbw4 HLN2 HF3 HB3 HTR
   go_wp2_with fail
   refine HBG.out.mono ?_
   rintro e w5 ⟨rfl, ht⟩
   obtain ⟨v5, hU5⟩ := HUA.out.more ht
   have HDS := Lib.hid (Yex w5 E0 v5 _ b3 b4 us LA LB hU5.en (hU5.foot HF34.out HFar3.out).now (hU5.foot HF4.out HFar4.out).now HFA.out HFB.out (by rw [List.length_append, Y00]; omega))
   have HU5 := Lib.hid hU5
   clear ht hU5 HBG HUA hqc
   go_wp2_with fail
   refine HDS.out.mono ?_
   rintro e w6 ⟨rfl, m, fm, ht⟩
   obtain ⟨v6, hU6⟩ := HU5.out.more ht
   have hOM : OwnM us LA LB m := ⟨HFA.out, HFB.out, fm⟩
   have hF6 := (hU6.foot HF34.out HFar3.out)
   have hlA : LA.length = 286 := by rw [HFA.out.len]; exact HCL.out.1
   have hlB : LB.length = 30 := by rw [HFB.out.len]; exact HCL.out.2
   have hbk := Y71 w6 E0 v6 _ (some ⟨b3, 0, none⟩) 286 286 LA hU6.en hF6.now hlA (by omega) (fun x hx => Nat.le_trans (HFA.out.le x hx) (by omega)) (by rcases HFA.out.bare (by omega) (by omega) with e | e <;> omega)
   have HBK := Lib.hid hbk
   have HU6 := Lib.hid hU6
   have HOM := Lib.hid hOM
   have HLL := Lib.hid hlB
   clear ht hU6 hOM hF6 hlA hlB hbk fm HDS HU5
   go_wp2_with fail
   refine HBK.out.mono ?_
   rintro e w7 ⟨hb7, ga, FA, rfl, hbo, hfn⟩
   have hU7 := HU6.out.below hb7
   have hbk := Y71 w7 E0 v6 _ (some ⟨b4, 0, none⟩) 30 30 LB hU7.en (hU7.foot HF4.out HFar4.out).now HLL.out (by omega) (fun x hx => Nat.le_trans (HFB.out.le x hx) (by omega)) (by rcases HFB.out.bare (by omega) (by omega) with e | e <;> omega)
   have HBK2 := Lib.hid hbk
   have HFA7 : Hid (Far E0 v6 FA) := Lib.hid (Y2a HU6.out.en hfn)
   have HBA := Lib.hid hbo
   have HU7 := Lib.hid hU7
   clear hb7 hbo hfn hU7 hbk HBK HU6
   go_wp2_with fail
   refine HBK2.out.mono ?_
   rintro e w8 ⟨hb8, gb, FB, rfl, hbo, hfn⟩
   have hU8 := HU7.out.below hb8
   have hFB8 : Far E0 v6 FB := Y2a HU7.out.en hfn
   have hwrd := Yxk HOM.out
   have how := Yjm HOM.out lb
   rw [Ypw, List.length_append, List.length_append, Y00, HUL.out] at how
   have HCD := Lib.hid (Y4c w8 E0 v6 _ FT FA FB A r cc us ga gb (Y03 LA) (Y03 LB) hU8.en (hU8.foot HT4.out HFR.out) (HBA.out.below hb8) hbo (hU8.far HT4.out HFR.out) HFA7.out hFB8 HUL.out (by omega) (fun t ht => ⟨HUF.out t ht, hwrd.1 t ht⟩) hwrd.2
    (by simp only [List.length_append, Y00]; omega))
   have HU8 := Lib.hid hU8
   clear hb8 hbo hfn hU8 hFB8 hwrd how HBK2 HU7 HBA
   go_wp2_with fail
   refine HCD.out.mono ?_
   rintro e w9 ⟨rfl, ht⟩
   obtain ⟨v9, hU9⟩ := HU8.out.more ht
   have hent : EnT wr E0 v' (B ++ Yb9 LA LB m lb us) w9 := by
    have h9 := hU9.ent
    rw [Ypw]
    simp only [List.append_assoc] at h9 ⊢
    exact EnT.more ((Only.of_below (S := fun _ => False) HB4.out).mono (fun _ _ e => False.elim e)) (fun _ e => .inl e) h9
   obtain ⟨v10, hU10⟩ := HU.out.2.more hent
   have HN : Hid (BlkS ts K (j + 1) (B ++ Yb9 LA LB m lb us) ∧ Und w1 w9 E0 v v10 (B ++ Yb9 LA LB m lb us)) := Lib.hid ⟨by
    rw [HLB.out, HUS.out]
    exact Ynl HU.out.1 HJK.out (by rw [HX.out]; exact HK.out) (by rw [← HUS.out]; exact HOM.out) HFIT.out, hU10⟩
   clear ht hU9 hU10 hent HCD HU8 HU
   go_wp2_with fail
   go_roundw
   case rel => exact ⟨j + 1, v10, _, by omega, by first | rfl | (push_cast; rfl), HN⟩
   case measure => simp [intOf]; have := HJK.out; omega
  ·have hjn : j = K := by omega
   have ql : decide ((j : Int) < (K : Int)) = false := decide_eq_false (by omega)
   have h2 := HU.out
   rw [hjn] at h2
   have HRES : Hid (Yv9 w E0 v ts (.returned (.tuple #[])) wr) := Lib.hid ⟨rfl, B, by rw [HX.out, ← HK.out]; exact h2.1, EnT.more ((Only.of_below (S := fun _ => False) HB1.out).mono (fun _ _ e => False.elim e)) (fun _ e => .inl e) h2.2.ent⟩
   clear h2 hjn
   go_wp2_with fail
   go_end0
   exact HRES.out
end Go.Proofs.YtkkfkmoikcmhoaaGreat.Df
namespace Go.Proofs.YtkkfkmoikcmhoaaGreat.Df
open Go.RowKit Oct Bit Hf Inf
set_option maxRecDepth 100000
theorem Yqb {w : World} {g C : Nat} {x y z : Value} {T : TypeId} {fr : Nat × Nat} {q : Option Addr} {vs : List Value} (h : w.heap[g]? = some (.cells #[x, y, z] T fr)) (hr : VRow w C q vs) (h4 : 4 ≤ vs.length) : ∀ k, At q k → k ≠ g := by
 intro k hk e
 obtain ⟨b, off, rfl, _, hc⟩ := hr (by omega)
 obtain ⟨a, ha, hk⟩ := hk
 injection ha with ha
 subst ha
 have h3 := hc 3 (by omega)
 have hbg : b = g := by rw [← e, ← hk]
 rw [hbg] at h3
 simp [World.cell?, h] at h3
theorem Wr.blk {w : World} {g n : Nat} {v : Value} {xs : List UInt8} {low : Bool} (h : Wr w g v xs n low) : w.heap[g]? = some (.cells #[v, .int .i64 (n : Int), .bool low] 121 (0, 0)) := h.1
theorem Yle : (∀ x ∈ Y0l, x ≤ 30) ∧ (∀ x ∈ Y0s, x ≤ 30) ∧ startN Y0l 31 ≤ 1073741824 ∧ startN Y0s 31 ≤ 1073741824 ∧ Y0l.length = 288 ∧ Y0s.length = 30 := by decide +kernel
theorem Yoi (ts : List Lzt.Tok) : (∀ t ∈ ts, Yii (Y03 Y0l) (Y03 Y0s) t) ∧ (Y03 Y0l).getD 256 [] ≠ [] := by
 refine ⟨fun t ht => ⟨fun _ => ?_, fun _ => ?_⟩, (Yyk 256 (by omega)).1⟩
 ·have hlt : t.lit.toNat < 256 := t.lit.toNat_lt
  exact (Yyk _ (by omega)).1
 ·have hp1 := Y16 false t.len.toNat
  have hp2 := Y16 true t.dist.toNat
  have e1 : (froms false).length = 29 := rfl
  have e2 : (froms true).length = 30 := rfl
  exact ⟨(Yyk _ (by omega)).1, (freB _ (by omega)).1⟩
def Ywf (ts : List Lzt.Tok) : List Bool := Y07 true 3 3 ++ Y1y (Y03 Y0l) (Y03 Y0s) (ts.map conv)
set_option maxHeartbeats 2000000 in
theorem Yld (w : World) (E0 : Ke) (v : Value) (FT : Nat → Prop) (p : Option Addr) (n cap : Nat) (ts : List Lzt.Tok) (h : En w E0 v []) (h0 : v.ownBlock = none)
  (hT : Foot FT (fun w' => Lzt.Toks w' w'.heap.size p ts) w) (hf : Far E0 v FT) (hx : ts.length = n) (hn : n ≤ 32768) (hfit : ∀ t ∈ ts, Y58 t) :
  Calls Tryz.prog 45 #[.pointer (some ⟨E0.e, 0, none⟩), .slice p n cap] w fun e w' => e = .returned (.tuple #[]) ∧ EnT w E0 v (Ywf ts) w' := by
 obtain ⟨f1, f2, f3, f4, f5, f6⟩ := Yle
 have HFF := Lib.hid (And.intro f1 (And.intro f2 (And.intro f3 (And.intro f4 (And.intro f5 f6)))))
 have H := Lib.hid h
 have H0 := Lib.hid h0
 have HT := Lib.hid hT
 have HF := Lib.hid hf
 have HX := Lib.hid hx
 have HFIT := Lib.hid hfit
 clear h h0 hT hf hx hfit f1 f2 f3 f4 f5 f6
 go_enter Tryz.func45, Tryz.ntmps45
 go_wp2_with fail
 refine (Yf4 w).mono ?_
 rintro e w1 ⟨hb1, q, c, r, d, rfl, hvq, hq, hvr, hr⟩
 have HU1 := Lib.hid (Und.start (H.out.below hb1))
 have HB1 := Lib.hid hb1
 have hlq : 288 = (ints (Y05 Y0l)).length := by rw [Y06, Y02, HFF.out.2.2.2.2.1]
 have hlr : 30 = (ints (Y05 Y0s)).length := by rw [Y06, Y02, HFF.out.2.2.2.2.2]
 have HQF := Lib.hid (Y5l hvq (by omega))
 have HRF := Lib.hid (Y5l hvr (by omega))
 have HQFar : Hid (Far E0 v (At q)) := Lib.hid fun k hk => ⟨Yqb (Wr.blk HU1.out.en.ws) hvq (by omega) k hk, by rw [H0.out]; exact fun e => by cases e⟩
 have HRFar : Hid (Far E0 v (At r)) := Lib.hid fun k hk => ⟨Yqb (Wr.blk HU1.out.en.ws) hvr (by omega) k hk, by rw [H0.out]; exact fun e => by cases e⟩
 have HT1 := Lib.hid (HT.out.below hb1)
 have HBG := Lib.hid (Y9i w1 E0 v [] true 1 HU1.out.en (by omega) (by simp))
 clear hb1 hvq hq hvr hr hlq hlr HT
 go_wp2_with fail
 refine HBG.out.mono ?_
 rintro e w2 ⟨rfl, ht⟩
 obtain ⟨v2, hU2⟩ := HU1.out.more ht
 have hU2' : Und w1 w2 E0 v v2 (Y07 true 3 3) := hU2
 have HBK := Lib.hid (Y71 w2 E0 v2 _ q 288 c Y0l hU2'.en (hU2'.foot HQF.out HQFar.out).now HFF.out.2.2.2.2.1 (by omega) HFF.out.1 HFF.out.2.2.1)
 have HU2 := Lib.hid hU2'
 clear ht hU2 hU2' HBG HU1
 go_wp2_with fail
 refine HBK.out.mono ?_
 rintro e w3 ⟨hb3, ga, FA, rfl, hbo, hfn⟩
 have hU3 := HU2.out.below hb3
 have HBK2 := Lib.hid (Y71 w3 E0 v2 _ r 30 d Y0s hU3.en (hU3.foot HRF.out HRFar.out).now HFF.out.2.2.2.2.2 (by omega) HFF.out.2.1 HFF.out.2.2.2.1)
 have HFA3 : Hid (Far E0 v2 FA) := Lib.hid (Y2a HU2.out.en hfn)
 have HBA := Lib.hid hbo
 have HU3 := Lib.hid hU3
 clear hb3 hbo hfn hU3 HBK HU2
 go_wp2_with fail
 refine HBK2.out.mono ?_
 rintro e w4 ⟨hb4, gb, FB, rfl, hbo, hfn⟩
 have hU4 := HU3.out.below hb4
 have hFB4 : Far E0 v2 FB := Y2a HU3.out.en hfn
 have hwrd := Yoi ts
 have htl := Yb6 (Y09 Y0l 15 Y1k.1) (Y09 Y0s 15 Y1k.2) (ts.map conv)
 rw [List.length_map, HX.out] at htl
 have HCD := Lib.hid (Y4c w4 E0 v2 _ FT FA FB p n cap ts ga gb (Y03 Y0l) (Y03 Y0s) hU4.en (hU4.foot HT1.out HF.out) (HBA.out.below hb4) hbo (hU4.far HT1.out HF.out) HFA3.out hFB4 HX.out (by omega) (fun t ht => ⟨HFIT.out t ht, hwrd.1 t ht⟩) hwrd.2
  (by rw [Y00]; omega))
 have HU4 := Lib.hid hU4
 clear hb4 hbo hfn hU4 hFB4 hwrd htl HBK2 HU3 HBA
 go_wp2_with fail
 refine HCD.out.mono ?_
 rintro e w5 ⟨rfl, ht⟩
 obtain ⟨v5, hU5⟩ := HU4.out.more ht
 have HRES : Hid (EnT w E0 v (Ywf ts) w5) := Lib.hid (EnT.more ((Only.of_below (S := fun _ => False) HB1.out).mono (fun _ _ e => False.elim e)) (fun _ e => .inl e) hU5.ent)
 clear ht hU5
 go_wp2_with fail
 go_end0
 exact ⟨rfl, HRES.out⟩
def ResP (w : World) (l : List Bool) (e : Ending) (w' : World) : Prop :=
 Below w.heap.size w w' ∧ ∃ q cap, e = .returned (.tuple #[.slice q (Y0m true l).length cap, .int .i64 0]) ∧ Row w' q (Y0m true l) ∧ (Y0m true l).length ≤ cap ∧ cap ≤ maxLen ∧ (q = none → cap = 0) ∧ ∀ a, q = some a → w.heap.size ≤ a.block
theorem Y8h (w : World) (E0 : Ke) (v : Value) (l : List Bool) (h : En w E0 v l) (hl : l.length ≤ 2000000) : Calls Tryz.prog 48 #[.pointer (some ⟨E0.e, 0, none⟩)] w (ResP w l) := by
 have c3 := h.c3
 have c0 := h.c0
 have HBY := Lib.hid (Yns w E0.gw v l true h.ws hl)
 clear h
 go_enter Tryz.func48, Tryz.ntmps48
 go_wp2_with fail
 refine HBY.out.mono ?_
 rintro e w1 ⟨hb, q, cap, rfl, hr, h1, h2, h3, h4⟩
 go_wp2_with fail
 go_ret2
 exact ⟨hb, q, cap, rfl, hr, h1, h2, h3, h4⟩
end Go.Proofs.YtkkfkmoikcmhoaaGreat.Df
namespace Go.Proofs.YtkkfkmoikcmhoaaGreat.Df
open Go.RowKit Oct Bit Hf Inf
set_option maxRecDepth 100000
theorem Yqy {w : World} {base : Nat} {far : Bool} {v : Value} (h : w.ownsRow base 102 2 v (froms far).length (bcells (Yc1 far))) :
  ∃ b c, v = .slice (some ⟨b, 0, none⟩) (froms far).length c ∧ base ≤ b ∧ b < w.heap.size ∧ (froms far).length ≤ c ∧ ∀ w' : World, w'.heap[b]? = w.heap[b]? → Ymz w' b far := by
 have hl := fun k hk => h.lt k hk
 have hc := fun g hg => h.cells (g := g) hg
 have hpos : 0 < (froms far).length := by cases far <;> decide
 rcases h.2 with ⟨_, h0⟩ | ⟨g, cap, cur, rfl, hb, hh, h1, _⟩
 ·omega
 ·refine ⟨g, cap, rfl, hb, (hl g rfl).2, h1, fun w' hw i hi => ?_⟩
  obtain ⟨k1, k2⟩ := Y7x _ _ _ (Yfy far i hi)
  have e1 := hc g rfl _ _ k1
  have e2 := hc g rfl _ _ k2
  rw [Y08, Nat.zero_add] at e1 e2
  exact ⟨(World.cell?_of_block hw).trans e1, (World.cell?_of_block hw).trans e2⟩
theorem Yin : ∀ xs ys : List UInt8, Y01 true xs = Y01 true ys → xs = ys
 | [], [], _ => rfl
 | [], y :: ys, h => by
  have := congrArg List.length h
  rw [Y04, Y04, List.length_nil, List.length_cons] at this
  omega
 | x :: xs, [], h => by
  have := congrArg List.length h
  rw [Y04, Y04, List.length_nil, List.length_cons] at this
  omega
 | x :: xs, y :: ys, h => by
  rw [Y1a, Y1a] at h
  obtain ⟨h1, h2⟩ := List.append_inj h (by rw [Y22, Y22])
  have hx := x.toNat_lt
  have hy := y.toNat_lt
  have e := congrArg (Y38 true) h1
  unfold Y8y at e
  rw [Y1d true _ 8 (by omega), Y1d true _ 8 (by omega)] at e
  rw [Yin xs ys h2, UInt8.toNat_inj.1 e]
theorem Yfw (xs : List UInt8) : Y0m true (Y01 true xs) = xs := by
 apply Yin
 rw [Y2x, Y04, show 8 * ((8 * xs.length + 7) / 8) - 8 * xs.length = 0 from by omega]
 exact List.append_nil _
theorem Yz1 {w w1 w2 w3 w4 : World} {bl cl bd cd : Nat} (hb1 : Below w.heap.size w w1) (hw : Ws w1 w.heap.size (.slice none 0 0) [] true) (hb2 : Below w1.heap.size w1 w2) (hb3 : Below w2.heap.size w2 w3)
  (hl1 : w1.heap.size ≤ bl) (hl2 : bl < w2.heap.size) (hl3 : 29 ≤ cl) (hlt : ∀ w' : World, w'.heap[bl]? = w2.heap[bl]? → Ymz w' bl false)
  (hd1 : w2.heap.size ≤ bd) (hd2 : bd < w3.heap.size) (hd3 : 30 ≤ cd) (hdt : ∀ w' : World, w'.heap[bd]? = w3.heap[bd]? → Ymz w' bd true)
  (hw4 : w4 = w3.alloc (.cells #[.pointer (some ⟨w.heap.size, 0, none⟩), .slice (some ⟨bl, 0, none⟩) 29 cl, .slice (some ⟨bd, 0, none⟩) 30 cd, .int .i64 0] 86)) :
  En w4 ⟨w3.heap.size, w.heap.size, bl, cl, bd, cd⟩ (.slice none 0 0) [] ∧ Below w.heap.size w w4 := by
 have z1 : w.heap.size < w1.heap.size := Wr.lt hw
 have z2 := hb2.size
 have z3 := hb3.size
 have hb34 : Below w3.heap.size w3 w4 := by rw [hw4]; exact (Below.refl _ w3).alloc (Nat.le_refl _) _
 have hb24 : Below w2.heap.size w2 w4 := hb3.trans (hb34.mono z3)
 have hb14 : Below w1.heap.size w1 w4 := hb2.trans (hb24.mono z2)
 refine ⟨⟨?_, Wr.only hw (Only.of_below (S := fun _ => False) hb14) (fun e => e) (fun k hk => by cases hk), hlt _ (hb24.block _ hl2), hdt _ (hb34.block _ hd2), ?_, ⟨?_, ?_⟩, ⟨?_, ?_⟩, (fun k hk => by cases hk), ⟨hl3, hd3⟩⟩, hb1.trans (hb14.mono hb1.size)⟩
 ·rw [hw4]
  exact Array.getElem?_push_size
 ·show w.heap.size < w3.heap.size; omega
 ·show w.heap.size < bl; omega
 ·show w.heap.size < bd; omega
 ·show bl < w3.heap.size; omega
 ·show bd < w3.heap.size; omega
theorem Yok {w : World} {p : Option Addr} {xs : List UInt8} (h : Row w p xs) : ∃ F, Foot F (fun w' => Row w' p xs) w := by
 by_cases h0 : 0 < xs.length
 ·exact ⟨_, Ysu h h0⟩
 ·exact ⟨fun _ => False, fun k hk => hk.elim, fun w' _ _ hp => absurd hp h0⟩
theorem Yf6 {w : World} {p : Option Addr} {ts : List Lzt.Tok} {B : Nat} (h : Lzt.Toks w w.heap.size p ts) (hB : ∀ a, p = some a → B ≤ a.block) : ∃ F, Foot F (fun w' => Lzt.Toks w' w'.heap.size p ts) w ∧ ∀ k, F k → B ≤ k := by
 by_cases h0 : 0 < ts.length
 ·obtain ⟨b, off, rfl, hb, hc⟩ := h.2 h0
  refine ⟨(· = b), ⟨fun k hk => by rw [hk]; exact hb, fun w' hz hs => ⟨h.1, fun _ => ⟨b, off, rfl, Nat.lt_of_lt_of_le hb hz, fun i hi => ?_⟩⟩⟩, fun k hk => by rw [hk]; exact hB _ rfl⟩
  have e := hs b rfl
  exact ⟨(World.cell?_of_block e).trans (hc i hi).1, (World.cell?_of_block e).trans (hc i hi).2.1, (World.cell?_of_block e).trans (hc i hi).2.2⟩
 ·exact ⟨fun _ => False, ⟨fun k hk => hk.elim, fun w' _ _ => ⟨h.1, fun hp => absurd hp h0⟩⟩, fun k hk => hk.elim⟩
theorem Yk0 : ∀ (k : Nat) (xs : List UInt8), xs.length ≤ k → (Y8v xs).length ≤ 2 * xs.length + 5
 | 0, xs, h => by rw [Y2r xs (by omega), Y1o]; omega
 | k + 1, xs, h => by
  by_cases hs : xs.length ≤ 65535
  ·rw [Y2r xs hs, Y1o]; omega
  ·have ih := Yk0 k (xs.drop 65535) (by rw [List.length_drop]; omega)
   rw [Ygc xs 65535 rfl hs, List.length_append, Y1o, List.length_take]
   rw [List.length_drop] at ih
   omega
structure DefX (xs : List UInt8) (k : Nat) (ys : List UInt8) : Prop where
 inf : ∀ most, xs.length ≤ most → inflate ys most = .ok (xs, ys.length)
 head : xs.length ≤ 16384 → ∃ h r, h < 8 ∧ h / 2 = k ∧ Y01 true ys = Y07 true h 3 ++ r
 len : ys.length ≤ 2 * xs.length + 1300
 sto : k = 0 → ys = Y8v xs
 few : ∀ c, xs = List.replicate xs.length c → 1 ≤ xs.length → xs.length ≤ 100000 → (k = 1 → ys.length ≤ 40 + xs.length / 32) ∧ (k = 2 → ys.length ≤ 100 + xs.length / 32)
theorem Yso (xs : List UInt8) : DefX xs 0 (Y8v xs) := by
 refine ⟨fun most hm => Ygd xs most hm, fun hs => ?_, by have := Yk0 _ xs (Nat.le_refl _); omega, fun _ => rfl, fun c _ _ _ => ⟨fun e => by omega, fun e => by omega⟩⟩
 rw [Y2r xs (by omega), Yb2 true xs (by omega)]
 exact ⟨1, _, by decide, by decide, rfl⟩
theorem Ysm {xs : List UInt8} {ts : List Lzt.Tok} (he : Lzt.Y83 xs.length ts [] = .ok xs) (hq : ∀ c, xs = List.replicate xs.length c → ts = Lzt.Y0k c xs.length) : DefX xs 1 (Y0m true (Ywf ts)) := by
 have hr := Yax (Int.le_refl (xs.length : Int)) ts [] xs he
 have hw := Yig ts [] xs he
 have hf := Ycs ts [] xs he
 have ht := Ye5 (Y09 Y0l 15 Y1k.1) (Y09 Y0s 15 Y1k.2) ts hf
 rw [List.length_nil, Nat.zero_add] at hw
 refine ⟨fun most hm => Yss hr hm, fun _ => ?_, ?_, fun e => by omega, fun c hc h1 h2 => ⟨fun _ => ?_, fun e => by omega⟩⟩
 ·rw [Y2x]
  unfold Ywf
  rw [List.append_assoc]
  exact ⟨3, _, by decide, by decide, rfl⟩
 ·rw [Y0a]
  unfold Ywf
  rw [List.length_append, Y00]
  omega
 ·rw [hq c hc]
  exact Yoh c xs.length h2
theorem Ysn {xs : List UInt8} {ts : List Lzt.Tok} {B : List Bool} (he : Lzt.Y83 xs.length ts [] = .ok xs) (hq : ∀ c, xs = List.replicate xs.length c → ts = Lzt.Y0k c xs.length) (hn : ts.length ≤ 32768)
  (hB : BlkS ts (Yde ts.length) (Yde ts.length) B) : DefX xs 2 (Y0m true B) := by
 have hr := Yax (Int.le_refl (xs.length : Int)) ts [] xs he
 have hw := Yig ts [] xs he
 rw [List.length_nil, Nat.zero_add] at hw
 have hk : Yde ts.length ≤ 2 := by unfold Yde; omega
 have hone : ts.length ≤ 16384 → ∃ LA LB m, OwnM ts LA LB m ∧ B = Yb9 LA LB m true ts := fun h => hB.one rfl (by unfold Yde; omega)
 refine ⟨fun most hm => Yw2 (hB.fin rfl) hr hm, fun hs => ?_, ?_, fun e => by omega, fun c hc h1 h2 => ⟨fun e => by omega, fun _ => ?_⟩⟩
 ·have hcount := Lzt.Y76 ts [] xs he
  rw [List.length_nil, Nat.zero_add] at hcount
  obtain ⟨LA, LB, m, _, rfl⟩ := hone (by omega)
  rw [Y2x]
  unfold Yb9
  rw [List.append_assoc]
  exact ⟨5, _, by decide, by decide, rfl⟩
 ·have hwg := hB.wg
  have hwl : wgt (ts.take (Yde ts.length * 16384)) = xs.length := by
   rw [List.take_of_length_le (by unfold Yde; omega)]
   exact hw.symm
  rw [hwl] at hwg
  rw [Y0a]
  omega
 ·have ht := hq c hc
  have hcnt := Lzt.Y9g c xs.length
  rw [← ht] at hcnt
  obtain ⟨LA, LB, m, hm, rfl⟩ := hone (by omega)
  rw [ht] at hm ⊢
  exact Yxh h1 h2 hm
def DefP (w : World) (xs : List UInt8) (how : Int) (e : Ending) (w' : World) : Prop :=
 Below w.heap.size w w' ∧ (((how < 0 ∨ 2 < how) ∧ e = .returned (.tuple #[.slice none 0 0, .int .i64 1])) ∨
  ∃ k ys q c, how = ((k : Nat) : Int) ∧ k ≤ 2 ∧ DefX xs k ys ∧ e = .returned (.tuple #[.slice q ys.length c, .int .i64 0]) ∧ Row w' q ys ∧ ys.length ≤ c ∧ c ≤ maxLen ∧ (q = none → c = 0) ∧ ∀ a, q = some a → w.heap.size ≤ a.block)
def Fits (xs : List UInt8) (how : Int) : Prop := xs.length ≤ 190000 ∧ (how = 1 ∨ how = 2 → xs.length ≤ 32768 ∨ (xs.length ≤ 100000 ∧ ∃ c, xs = List.replicate xs.length c))
theorem Yka {xs : List UInt8} {ts : List Lzt.Tok} (he : Lzt.Y83 xs.length ts [] = .ok xs) (hq : ∀ c, xs = List.replicate xs.length c → ts = Lzt.Y0k c xs.length)
  (h : xs.length ≤ 32768 ∨ (xs.length ≤ 100000 ∧ ∃ c, xs = List.replicate xs.length c)) : ts.length ≤ 32768 := by
 rcases h with h | ⟨h, c, hc⟩
 ·have := Lzt.Y76 ts [] xs he
  rw [List.length_nil] at this
  omega
 ·have hcnt := Lzt.Y9g c xs.length
  rw [← hq c hc] at hcnt
  omega
theorem Ycr {w w4 w5 w6 : World} {K : Ke} {B : List Bool} {xs : List UInt8} {k : Nat} {e : Ending} {v6 : Value} (hb : Below w.heap.size w w4) (h56 : Below w.heap.size w4 w5) (hK : K.gw = w.heap.size) (hu : Und w5 w6 K (.slice none 0 0) v6 B) (hX : DefX xs k (Y0m true B)) (hk : k ≤ 2)
  {w7 : World} (hr : ResP w6 B e w7) : DefP w xs (k : Int) e w7 := by
 obtain ⟨hb7, q, c, rfl, h1, h2, h3, h4, h5⟩ := hr
 have hb6 : Below w.heap.size w5 w6 := hu.only.below (Nat.le_trans hb.size h56.size) fun j hj e => by
  rcases e with e | e
  ·rw [hK] at e; omega
  ·cases e
 have hall := (hb.trans h56).trans hb6
 exact ⟨hall.trans (hb7.mono hall.size), .inr ⟨k, _, q, c, rfl, hk, hX, rfl, h1, h2, h3, h4, fun a ha => Nat.le_trans hall.size (h5 a ha)⟩⟩
set_option maxHeartbeats 4000000 in
theorem Yh6 (w : World) (p : Option Addr) (n cap : Nat) (xs : List UInt8) (how : Int) (hr : Row w p xs) (hx : xs.length = n) (hc : n ≤ cap) (hc2 : cap ≤ maxLen) (hf : Fits xs how) :
  Calls Tryz.prog 20 #[.slice p n cap, .int .i64 how] w (DefP w xs how) := by
 have HR := Lib.hid hr
 have HX := Lib.hid hx
 have HC := Lib.hid (And.intro hc hc2)
 have HF := Lib.hid hf
 clear hr hx hc hc2 hf
 go_enter Tryz.func20, Tryz.ntmps20
 go_wp2_with fail
 refine (Yda true w).mono ?_
 rintro e w1 ⟨hb1, rfl, hws⟩
 obtain ⟨gw, hgw⟩ : ∃ gw, gw = w.heap.size := ⟨_, rfl⟩
 rw [← hgw]
 have HGW := Lib.hid hgw
 have HB1 := Lib.hid hb1
 have HWS := Lib.hid hws
 clear hb1 hws hgw
 go_wp2_with fail
 refine (Inf.Y5z w1).mono ?_
 rintro e w2 ⟨v2, rfl, hb2, ho2⟩
 obtain ⟨bl, cl, hv2, hl1, hl2, hl3, hlt⟩ := Yqy ho2
 have hv2' : v2 = .slice (some ⟨bl, 0, none⟩) 29 cl := hv2
 subst hv2'
 have HB2 := Lib.hid hb2
 have HTL := Lib.hid hlt
 have HL := Lib.hid (And.intro hl1 (And.intro hl2 (show 29 ≤ cl from hl3)))
 clear hb2 ho2 hlt hl1 hl2 hl3 hv2
 go_wp2_with fail
 refine (Inf.Yez w2).mono ?_
 rintro e w3 ⟨v3, rfl, hb3, ho3⟩
 obtain ⟨bd, cd, hv3, hd1, hd2, hd3, hdt⟩ := Yqy ho3
 have hv3' : v3 = .slice (some ⟨bd, 0, none⟩) 30 cd := hv3
 subst hv3'
 obtain ⟨w4, hw4⟩ : ∃ w4, w4 = w3.alloc (.cells #[.pointer (some ⟨w.heap.size, 0, none⟩), .slice (some ⟨bl, 0, none⟩) 29 cl, .slice (some ⟨bd, 0, none⟩) 30 cd, .int .i64 0] 86) := ⟨_, rfl⟩
 obtain ⟨hE, hB4⟩ := Yz1 HB1.out HWS.out HB2.out hb3 HL.out.1 HL.out.2.1 HL.out.2.2 HTL.out hd1 hd2 hd3 hdt hw4
 obtain ⟨K, hK⟩ : ∃ K : Ke, K = ⟨w3.heap.size, w.heap.size, bl, cl, bd, cd⟩ := ⟨_, rfl⟩
 have hKe : w3.heap.size = K.e := by rw [hK]
 have hKg : K.gw = w.heap.size := by rw [hK]
 rw [← hK] at hE
 rw [← HGW.out] at hw4
 have HE := Lib.hid hE
 have HB4 := Lib.hid hB4
 have HW4 := Lib.hid hw4
 have HKE := Lib.hid hKe
 have HKG := Lib.hid hKg
 clear hb3 ho3 hdt hd1 hd2 hd3 hv3 hE hB4 hw4 hKe hKg hK
 by_cases h0 : how = 0
 ·subst h0
  obtain ⟨F, hFr⟩ := Yok HR.out
  have hFr4 := hFr.below HB4.out
  have hfar : Far K (.slice none 0 0) F := fun k hk => ⟨by rw [HKG.out]; have := hFr.1 k hk; omega, fun e => by cases e⟩
  have HST := Lib.hid (Y8j w4 K (.slice none 0 0) F p n cap xs HE.out hFr4 hfar HX.out (by have := HF.out.1; rw [HX.out] at this; exact this) HC.out.1 HC.out.2)
  clear hFr hFr4 hfar
  go_wp2_with fail
  rw [HKE.out, ← HW4.out]
  refine HST.out.mono ?_
  rintro e w5 ⟨rfl, ht⟩
  obtain ⟨v5, hU⟩ := (Und.start HE.out).more ht
  have hl : (Y01 true (Y8v xs)).length ≤ 2000000 := by
   have h1 := Ydy xs (Y2n xs.length)
   rw [Yjz] at h1
   have h2 := HF.out.1
   have h3 : Y2n xs.length ≤ 3 := by unfold Y2n; omega
   rw [Y04]
   omega
  have HRS := Lib.hid (Y8h w5 K v5 _ hU.en hl)
  have HU := Lib.hid hU
  clear ht hU hl HST
  go_wp2_with fail
  refine HRS.out.mono ?_
  rintro e w6 hres
  have hX := Yso xs
  have hpk : Y0m true (Y01 true (Y8v xs)) = Y8v xs := Yfw _
  have HD := Lib.hid (Ycr (k := 0) HB4.out (Below.refl _ _) HKG.out HU.out (by rw [hpk]; exact hX) (by omega) hres)
  obtain ⟨_, q, c, rfl, _⟩ := hres
  clear hX hpk HRS HU
  go_wp2_with fail
  go_ret2
  exact HD.out
 ·by_cases h1 : how = 1
  ·subst h1
   have q0 : (((1 : Int)) == 0) = false := by decide
   have q1 : (((1 : Int)) == 1) = true := by decide
   have HTK := Lib.hid (Lzt.Ycb p n cap xs w4 (HR.out.below HB4.out) HX.out (by rcases HF.out.2 (by omega) with e | e <;> (have := HX.out; omega)) HC.out.1 HC.out.2)
   go_wp2_with fail
   rw [HKE.out, ← HW4.out]
   refine HTK.out.mono ?_
   rintro e w5 ⟨q, c, ts, rfl, hq0, hlc, hcm, htk, hqn, hex, hpl, hb5, heq⟩
   obtain ⟨F, hFt, hFn⟩ := Yf6 htk hqn
   have hfew := Yka hex heq (HF.out.2 (by omega))
   have hE5 := HE.out.below hb5
   have HUS := Lib.hid (Und.start hE5)
   have HCL := Lib.hid (Yld w5 K (.slice none 0 0) F q ts.length c ts hE5 rfl hFt (Y2a HE.out hFn) rfl hfew (Ycs ts [] xs hex))
   have HEX := Lib.hid hex
   have HEQ := Lib.hid heq
   have HB5 : Hid (Below w.heap.size w4 w5) := Lib.hid (hb5.mono HB4.out.size)
   have HFW := Lib.hid hfew
   clear hq0 hlc hcm htk hqn hex hpl hb5 heq hFt hFn hfew hE5 HTK
   go_wp2_with fail
   refine HCL.out.mono ?_
   rintro e w6 ⟨rfl, ht⟩
   obtain ⟨v6, hU⟩ := HUS.out.more ht
   have hX := Ysm HEX.out HEQ.out
   have hl : (Ywf ts).length ≤ 2000000 := by
    have := Yb6 (Y09 Y0l 15 Y1k.1) (Y09 Y0s 15 Y1k.2) (ts.map conv)
    rw [List.length_map] at this
    have := HFW.out
    unfold Ywf
    rw [List.length_append, Y00]
    omega
   have HRS := Lib.hid (Y8h w6 K v6 _ hU.en hl)
   have HU := Lib.hid hU
   have HXX := Lib.hid hX
   clear ht hU hl hX HCL
   go_wp2_with fail
   refine HRS.out.mono ?_
   rintro e w7 hres
   have HD := Lib.hid (Ycr (k := 1) HB4.out HB5.out HKG.out HU.out HXX.out (by omega) hres)
   obtain ⟨_, q, c, rfl, _⟩ := hres
   clear HRS HU
   go_wp2_with fail
   go_ret2
   exact HD.out
  ·by_cases h2 : how = 2
   ·subst h2
    have q0 : (((2 : Int)) == 0) = false := by decide
    have q1 : (((2 : Int)) == 1) = false := by decide
    have HTK := Lib.hid (Lzt.Ycb p n cap xs w4 (HR.out.below HB4.out) HX.out (by rcases HF.out.2 (by omega) with e | e <;> (have := HX.out; omega)) HC.out.1 HC.out.2)
    go_wp2_with fail
    rw [HKE.out, ← HW4.out]
    refine HTK.out.mono ?_
    rintro e w5 ⟨q, c, ts, rfl, hq0, hlc, hcm, htk, hqn, hex, hpl, hb5, heq⟩
    obtain ⟨F, hFt, hFn⟩ := Yf6 htk hqn
    have hfew := Yka hex heq (HF.out.2 (by omega))
    have hE5 := HE.out.below hb5
    have HUS := Lib.hid (Und.start hE5)
    have HCL := Lib.hid (Yxg w5 K (.slice none 0 0) F q ts.length c ts hE5 hFt (Y2a HE.out hFn) rfl hfew hlc hcm (Ycs ts [] xs hex))
    have HEX := Lib.hid hex
    have HEQ := Lib.hid heq
    have HB5 : Hid (Below w.heap.size w4 w5) := Lib.hid (hb5.mono HB4.out.size)
    have HFW := Lib.hid hfew
    clear hq0 hlc hcm htk hqn hex hpl hb5 heq hFt hFn hfew hE5 HTK
    go_wp2_with fail
    refine HCL.out.mono ?_
    rintro e w6 ⟨rfl, B, hB, ht⟩
    obtain ⟨v6, hU⟩ := HUS.out.more ht
    have hX := Ysn HEX.out HEQ.out HFW.out hB
    have hl : B.length ≤ 2000000 := by
     have := hB.len
     have h2 := HFW.out
     have h3 : Yde ts.length ≤ 2 := by unfold Yde; omega
     omega
    have HRS := Lib.hid (Y8h w6 K v6 _ hU.en hl)
    have HU := Lib.hid hU
    have HXX := Lib.hid hX
    clear ht hU hl hX hB HCL
    go_wp2_with fail
    refine HRS.out.mono ?_
    rintro e w7 hres
    have HD := Lib.hid (Ycr (k := 2) HB4.out HB5.out HKG.out HU.out HXX.out (by omega) hres)
    obtain ⟨_, q, c, rfl, _⟩ := hres
    clear HRS HU
    go_wp2_with fail
    go_ret2
    exact HD.out
   ·have q0 : (how == 0) = false := by simpa using h0
    have q1 : (how == 1) = false := by simpa using h1
    have q2 : (how == 2) = false := by simpa using h2
    have HRES : Hid (DefP w xs how (.returned (.tuple #[.slice none 0 0, .int .i64 1])) w4) := Lib.hid ⟨HB4.out, .inl ⟨by omega, rfl⟩⟩
    go_wp2_with fail
    rw [← HW4.out]
    go_ret2
    exact HRES.out
end Go.Proofs.YtkkfkmoikcmhoaaGreat.Df

/- DgB, DgC, DgD, DgE, DgF: merged. -/
import Derived.Laws.BitsAllLaws
import Derived.Laws.Strings
import Derived.Laws.BytesArg
import Derived.Test.YtjafcjnkefioeaaRows
import Derived.WalkKit
import Derived.ProofKit
import Derived.WalkLawsBesides
import Derived.Lib.Hide
import Derived.Deep.QuietTactic
import Derived.BigQuiet
import Derived.Outline
import Derived.Laws.NewBlocks
import Derived.Laws.CopyOwn
import Derived.Laws.Concat
import Derived.Laws.Strings2
import Derived.WalkSpells
import Derived.Laws.AppendOwnNone
import Derived.OpenShut
import Derived.Lib.SliceRun
import Derived.ChangeKeysEq
import Derived.Laws.Pointers
import Derived.Deep.AppendLies
import Derived.Deep.RegionHeld3
import Derived.Laws.Externs
import Derived.Laws.IdiomCopy
import Derived.Lib.EndianMore
import Derived.Deep.RegionLaw
import Derived.Shelf.Spec.SlicesGrow
import Derived.LoopTactic
import Derived.Deep.LoopGhost
import Derived.Deep.DeepCutAuto
import Derived.BigRegion
import Derived.Deep.MidRow
import Derived.Deep.WholeRow
import Derived.Laws.ResultCell
import Derived.Sort.LotA
import Derived.Shelf.SlSortCmp.PdqK
import Derived.ChangeSlices
import Derived.Lib.BufferMore
import Derived.RegionTactic
import Derived.OwnWalk
import Derived.Lib.MinMax
import Derived.Deep.Slices
import Derived.Deep.Fields
import Derived.ChangeSame
import Derived.Deep.OwnRows
import Derived.Lib.SlBytesConst
import Derived.Test.YtjafcjnkefioeaaRaa
import Derived.Test.YtjafcjnkefioeaaRaj
import Derived.Test.YtjafcjnkefioeaaRay
import Derived.Test.YtjafcjnkefioeaaRaz
import Derived.Test.YtjafcjnkefioeaaRba
set_option linter.unusedVariables false
set_option linter.unusedSimpArgs false
/- The contract of own: tokens in blocks, each by words of its own. -/
namespace Go.Proofs.Ytjafcjnkefioeaa.Df
open Go.RowKit Go.Proofs.Ytjafcjnkefioeaa.Oct Go.Proofs.Ytjafcjnkefioeaa.Bit Go.Proofs.Ytjafcjnkefioeaa.Hf Go.Proofs.Ytjafcjnkefioeaa.Inf
set_option maxRecDepth 100000
def parT (ts : List Lzt.Tok) (j : Nat) : List Lzt.Tok := (ts.drop (j * 16384)).take 16384
theorem parT_length (ts : List Lzt.Tok) (j : Nat) : (parT ts j).length = min 16384 (ts.length - j * 16384) := by unfold parT; rw [List.length_take, List.length_drop]
theorem parT_mem {ts : List Lzt.Tok} {j : Nat} {t : Lzt.Tok} (h : t ∈ parT ts j) : t ∈ ts := List.mem_of_mem_drop (List.mem_of_mem_take h)
theorem parT_take (ts : List Lzt.Tok) (j : Nat) : ts.take (j * 16384) ++ parT ts j = ts.take ((j + 1) * 16384) := by
  rw [show (j + 1) * 16384 = j * 16384 + 16384 from by omega, List.take_add]
  rfl
theorem toks_part {w : World} {C : Nat} {p : Option Addr} {ts : List Lzt.Tok} (h : Lzt.Toks w C p ts) (j : Nat) : Lzt.Toks w C (shA p (j * 49152)) (parT ts j) := by
  refine ⟨fun t ht => h.1 t (parT_mem ht), fun hp => ?_⟩
  rw [parT_length] at hp
  obtain ⟨b, off, rfl, hb, hc⟩ := h.2 (by omega)
  refine ⟨b, off + j * 49152, shA_some _ _ _, hb, fun i hi => ?_⟩
  have hi2 := hi
  rw [parT_length] at hi2
  have hc2 := hc (j * 16384 + i) (by omega)
  have e : (parT ts j)[i] = ts[j * 16384 + i] := by simp [parT]
  rw [e]
  unfold Lzt.TokAt at hc2 ⊢
  rw [show off + j * 49152 + i * 3 = off + (j * 16384 + i) * 3 from by omega]
  exact hc2
structure BlkS (ts : List Lzt.Tok) (K j : Nat) (B : List Bool) : Prop where
  mid : j < K → BlkM (ts.take (j * 16384)) B
  fin : j = K → BlkF ts B
  len : B.length ≤ j * 791032
  wg : B.length ≤ j * 4600 + 16 * wgt (ts.take (j * 16384))
  zero : j = 0 → B = []
  one : j = K → K = 1 → ∃ LA LB m, OwnM ts LA LB m ∧ B = ownW LA LB m true ts
theorem blkS_start (ts : List Lzt.Tok) (K : Nat) (h : 0 < K) : BlkS ts K 0 [] :=
  ⟨fun _ => by rw [Nat.zero_mul, List.take_zero]; exact blkM_nil, fun e => by omega, Nat.zero_le _, Nat.zero_le _, fun _ => rfl, fun e _ => by omega⟩
theorem blkS_step {ts : List Lzt.Tok} {K j : Nat} {B : List Bool} {LA LB m : List Nat} (h : BlkS ts K j B) (hj : j < K) (hK : K = numT ts.length) (hm : OwnM (parT ts j) LA LB m) (hfit : ∀ t ∈ ts, TokFit t) :
    BlkS ts K (j + 1) (B ++ ownW LA LB m (decide (j + 1 = K)) (parT ts j)) := by
  have hlen : (B ++ ownW LA LB m (decide (j + 1 = K)) (parT ts j)).length ≤ (j + 1) * 791032 := by
    have h1 := own_most hm (decide (j + 1 = K))
    have h2 := parT_length ts j
    have h3 := h.len
    rw [List.length_append]
    omega
  have hwg : (B ++ ownW LA LB m (decide (j + 1 = K)) (parT ts j)).length ≤ (j + 1) * 4600 + 16 * wgt (ts.take ((j + 1) * 16384)) := by
    have h1 := own_wgt hm (fun t ht => hfit t (parT_mem ht)) (decide (j + 1 = K))
    have h3 := h.wg
    rw [← parT_take, wgt_append, List.length_append]
    omega
  have hall : j + 1 = K → ts.take ((j + 1) * 16384) = ts := fun e => List.take_of_length_le (by unfold numT at hK; omega)
  refine ⟨fun hlt => ?_, fun e => ?_, hlen, hwg, fun e => by omega, fun e e1 => ?_⟩
  · rw [decide_eq_false (by omega), ← parT_take]
    exact blkM_snoc (h.mid hj) hm
  · have hb := blkF_snoc (h.mid hj) hm
    rw [parT_take, hall e] at hb
    rw [decide_eq_true e]
    exact hb
  · have hj0 : j = 0 := by omega
    have hp : parT ts j = ts := by
      have := parT_take ts j
      rw [hall e, hj0, Nat.zero_mul, List.take_zero, List.nil_append] at this
      rw [hj0]
      exact this
    rw [hp] at hm ⊢
    rw [decide_eq_true e, h.zero hj0, List.nil_append]
    exact ⟨LA, LB, m, hm, rfl⟩
theorem cntF_le (l : List Lzt.Tok) : (∀ x ∈ (cntF l).1, x ≤ l.length + 1) ∧ ∀ x ∈ (cntF l).2, x ≤ l.length + 1 := by
  have h := cntL_le l
  unfold cntF
  split
  · refine ⟨fun x hx => ?_, h.2.2.2⟩
    rcases List.mem_or_eq_of_mem_set hx with e | e
    · exact h.2.2.1 x e
    · omega
  · exact ⟨h.2.2.1, h.2.2.2⟩
theorem own_wrd {us : List Lzt.Tok} {LA LB m : List Nat} (h : OwnM us LA LB m) : (∀ t ∈ us, TokWrd (canonW LA) (canonW LB) t) ∧ (canonW LA).getD 256 [] ≠ [] := by
  obtain ⟨hO, ht⟩ := own_facts h
  have hw : ∀ (L : List Nat) (i : Nat), 1 ≤ L.getD i 0 → (canonW L).getD i [] ≠ [] := fun L i hi => by
    obtain ⟨wd, _, w2, w3⟩ := word_some hi
    rw [w3]
    exact w2
  refine ⟨fun t htm => ?_, hw _ _ (by have := hO.ae; rw [tA_getD] at this; omega)⟩
  have hl := ht t htm
  unfold TokLen at hl
  unfold TokWrd
  by_cases h0 : t.len = 0
  · rw [if_pos (show (conv t).len = 0 from h0), tA_getD] at hl
    exact ⟨fun _ => hw _ _ hl, fun e => absurd h0 e⟩
  · rw [if_neg (show ¬ (conv t).len = 0 from h0), tA_getD, tB_getD] at hl
    exact ⟨fun e => absurd e h0, fun _ => ⟨hw _ _ hl.1, hw _ _ hl.2⟩⟩
theorem ownW_is (LA LB m : List Nat) (last : Bool) (us : List Lzt.Tok) : ownW LA LB m last us = wordE true ((if last then 1 else 0) + 2 * 2) 3 ++ (dscB LA LB m ++ toldB (canonW LA) (canonW LB) (us.map conv)) := by
  unfold ownW
  rw [dsc_own]
  cases last <;> rfl
def OwnP (w : World) (E0 : Ke) (v : Value) (ts : List Lzt.Tok) (e : Ending) (w' : World) : Prop :=
  e = .returned (.tuple #[]) ∧ ∃ B, BlkS ts (numT ts.length) (numT ts.length) B ∧ EnT w E0 v B w'
set_option maxHeartbeats 4000000 in
theorem own_any (w : World) (E0 : Ke) (v : Value) (FT : Nat → Prop) (p : Option Addr) (n cap : Nat) (ts : List Lzt.Tok) (h : En w E0 v [])
    (hT : Foot FT (fun w' => Lzt.Toks w' w'.heap.size p ts) w) (hf : Far E0 v FT) (hx : ts.length = n) (hn : n ≤ 32768) (hc : n ≤ cap) (hc2 : cap ≤ maxLen) (hfit : ∀ t ∈ ts, TokFit t) :
    Calls Try.prog 13 #[.pointer (some ⟨E0.e, 0, none⟩), .slice p n cap] w (OwnP w E0 v ts) := by
  have HSP := Lib.hid (splitT_any w p n cap (fun hlt => by obtain ⟨b, off, e, _⟩ := hT.now.2 (by omega); exact ⟨b, off, e⟩) (by omega) hc hc2)
  have H := Lib.hid h
  have HT := Lib.hid hT
  have HF := Lib.hid hf
  have HX := Lib.hid hx
  have HFIT := Lib.hid hfit
  obtain ⟨K, hK⟩ : ∃ K, K = numT n := ⟨_, rfl⟩
  have hK1 : 1 ≤ K ∧ K ≤ 2 := by rw [hK]; unfold numT; omega
  have HK := Lib.hid hK
  clear h hT hf hx hK hc2 hfit
  go_enter Try.func13, Try.ntmps13
  go_wp2_with fail
  refine HSP.out.mono ?_
  rintro e w1 ⟨q, c, rfl, hb1, hq, hqn⟩
  rw [← HK.out] at hq ⊢
  have HB1 := Lib.hid hb1
  have HQ := Lib.hid hq
  have HU1 : Hid (BlkS ts K 0 [] ∧ Und w1 w1 E0 v v []) := Lib.hid ⟨blkS_start ts K (by omega), Und.start (H.out.below hb1)⟩
  have HQF : Hid (Far E0 v (At q)) := Lib.hid (far_new H.out fun k ⟨a, e, hk⟩ => by rw [← hk]; exact hqn a e)
  have HT1 := Lib.hid (HT.out.below hb1)
  clear hb1 hq hqn HSP
  go_wp2_with fail
  go_loopw [15] (fun i wr => ∃ (j : Nat) (v' : Value) (B : List Bool), j ≤ K ∧ i = .int .i64 (j : Int) ∧ Hid (BlkS ts K j B ∧ Und w1 wr E0 v v' B)) (fun i _ => K - (intOf i).toNat)
  case atStart => exact ⟨0, v, [], by omega, rfl, HU1⟩
  case round =>
    obtain ⟨j, v', B, hjK, rfl, HU⟩ := hrel
    clear HU1
    by_cases hlt : j < K
    · have ql : decide ((j : Int) < (K : Int)) = true := decide_eq_true (by omega)
      obtain ⟨KM, hKM⟩ : ∃ KM, KM + 1 = K := ⟨K - 1, by omega⟩
      obtain ⟨lb, hlb⟩ : ∃ lb : Bool, lb = decide (j + 1 = K) := ⟨_, rfl⟩
      have qe1 : ((j : Int) == (K : Int) - 1) = lb := by rw [hlb, Bool.eq_iff_iff]; simp; omega
      have qe2 : ((j : Int) == (KM : Int)) = lb := by rw [hlb, Bool.eq_iff_iff]; simp; omega
      have hw1 : wrap64 ((K : Int) - 1) = (KM : Int) := (wrap_same _ (by omega) (by omega)).trans (by omega)
      obtain ⟨qb, qo, hqe, hqc⟩ := vrow_at (HU.out.2.foot HQ.out HQF.out).now j (by simp; omega)
      have hqe2 := hqe
      subst hqe2
      clear hqe
      rw [List.getElem_map, List.getElem_range] at hqc
      unfold prtT at hqc
      obtain ⟨A, hA⟩ : ∃ A, A = shA p (j * 49152) := ⟨_, rfl⟩
      obtain ⟨r, hr⟩ : ∃ r, r = min 16384 (n - j * 16384) := ⟨_, rfl⟩
      obtain ⟨cc, hcc⟩ : ∃ cc, cc = cap - j * 16384 := ⟨_, rfl⟩
      rw [← hA, ← hr, ← hcc] at hqc
      obtain ⟨us, hus⟩ : ∃ us, us = parT ts j := ⟨_, rfl⟩
      have hul : us.length = r := by rw [hus, parT_length, HX.out, hr]
      have hr16 : r ≤ 16384 := by omega
      have hTr : Foot FT (fun w' => Lzt.Toks w' w'.heap.size A us) wr := (HU.out.2.foot HT1.out HF.out).mono fun w' hw' => by rw [hA, hus]; exact toks_part hw' j
      have hFr : Far E0 v' FT := HU.out.2.far HT1.out HF.out
      have hufit : ∀ t ∈ us, TokFit t := fun t ht => HFIT.out t (by rw [hus] at ht; exact parT_mem ht)
      have hBl : B.length ≤ 791032 := by have := HU.out.1.len; omega
      have HUS := Lib.hid hus
      have HLB := Lib.hid hlb
      have HUL := Lib.hid hul
      have HTR := Lib.hid hTr
      have HFR := Lib.hid hFr
      have HUF := Lib.hid hufit
      have HER := Lib.hid HU.out.2.en
      have HCN := Lib.hid (count_any wr E0 v' B FT A r cc us HER.out hTr hul (by omega) hufit)
      have j0 : (0 : Int) ≤ (j : Int) := by omega
      have j1 : (j : Int) < (K : Int) := by omega
      have HJK := Lib.hid hlt
      have HCL := Lib.hid (cntF_len us)
      have HCE := Lib.hid (cntF_le us)
      clear hlb hA hr hcc hus hul hTr hFr hufit hKM
      go_wp2_with fail
      refine HCN.out.mono ?_
      rintro e w2 ⟨c1, c2, rfl, hb2, hr1, hr2, hne, hn1, hn2⟩
      have hE2 := HER.out.below hb2
      have hln := lens_any w2 E0 v' B (some ⟨c1, 0, none⟩) 286 286 15 (cntF us).1 hE2 hr1.foot.now HCL.out.1 (by omega) (fun x hx => by have := HCE.out.1 x hx; have := HUL.out; omega) (by omega) (by omega) (by decide)
      have HLN : Hid (Calls Try.prog 29 #[.pointer (some ⟨E0.e, 0, none⟩), .slice (some ⟨c1, 0, none⟩) 286 286, .int .i64 15] w2 (LensP w2 (cntF us).1 15)) := Lib.hid hln
      have HB2 := Lib.hid hb2
      have HR2 := Lib.hid hr2
      clear hb2 hr1 hr2 hne hn1 hn2 hE2 hln HCN
      go_wp2_with fail
      refine HLN.out.mono ?_
      rintro e w3 ⟨hb3, b3, LA, rfl, hf3, hn3, hlA, hfA⟩
      rw [HCL.out.1]
      have fA : FineC (cntF us).1 15 LA := fine_c hfA
      have hbw3 := HB2.out.trans (hb3.mono HB2.out.size)
      have hln := lens_any w3 E0 v' B (some ⟨c2, 0, none⟩) 30 30 15 (cntF us).2 (HER.out.below hbw3) (HR2.out.foot.below hb3).now HCL.out.2 (by omega) (fun x hx => by have := HCE.out.2 x hx; have := HUL.out; omega) (by omega) (by omega) (by decide)
      have HLN2 : Hid (Calls Try.prog 29 #[.pointer (some ⟨E0.e, 0, none⟩), .slice (some ⟨c2, 0, none⟩) 30 30, .int .i64 15] w3 (LensP w3 (cntF us).2 15)) := Lib.hid hln
      have HB3 := Lib.hid hbw3
      have HF3 := Lib.hid hf3
      have HFA := Lib.hid fA
      have HN3 : Hid (wr.heap.size ≤ b3) := Lib.hid (Nat.le_trans HB2.out.size hn3)
      clear hb3 hf3 hn3 hlA hfA fA hbw3 hln HLN HR2 HB2
      go_wp2_with fail
      refine HLN2.out.mono ?_
      rintro e w4 ⟨hb4, b4, LB, rfl, hf4, hn4, hlB, hfB⟩
      rw [HCL.out.2]
      have fB : FineC (cntF us).2 15 LB := fine_c hfB
      have hbw4 := HB3.out.trans (hb4.mono HB3.out.size)
      have HF34 := Lib.hid (HF3.out.below hb4)
      have HF4 := Lib.hid hf4
      have HFB := Lib.hid fB
      have HFar3 : Hid (Far E0 v' (· = b3)) := Lib.hid (far_new HER.out fun k hk => by rw [hk]; exact HN3.out)
      have HFar4 : Hid (Far E0 v' (· = b4)) := Lib.hid (far_new HER.out fun k hk => by rw [hk]; exact Nat.le_trans HB3.out.size hn4)
      have HB4 := Lib.hid hbw4
      have HT4 := Lib.hid (HTR.out.below hbw4)
      have HUA := Lib.hid (Und.start (HER.out.below hbw4))
      have HBG := Lib.hid (begin_any w4 E0 v' B lb 2 HUA.out.en (by omega) (by omega))
      clear hb4 hf4 hn4 hlB hfB fB hbw4 HLN2 HF3 HB3 HTR
      go_wp2_with fail
      refine HBG.out.mono ?_
      rintro e w5 ⟨rfl, ht⟩
      obtain ⟨v5, hU5⟩ := HUA.out.more ht
      have HDS := Lib.hid (describe_any w5 E0 v5 _ b3 b4 us LA LB hU5.en (hU5.foot HF34.out HFar3.out).now (hU5.foot HF4.out HFar4.out).now HFA.out HFB.out (by rw [List.length_append, wordE_length]; omega))
      have HU5 := Lib.hid hU5
      clear ht hU5 HBG HUA hqc
      go_wp2_with fail
      refine HDS.out.mono ?_
      rintro e w6 ⟨rfl, m, fm, ht⟩
      obtain ⟨v6, hU6⟩ := HU5.out.more ht
      have hOM : OwnM us LA LB m := ⟨HFA.out, HFB.out, fm⟩
      have hF6 := (hU6.foot HF34.out HFar3.out)
      have hlA : LA.length = 286 := by rw [HFA.out.len]; exact HCL.out.1
      have hlB : LB.length = 30 := by rw [HFB.out.len]; exact HCL.out.2
      have hbk := book_any w6 E0 v6 _ (some ⟨b3, 0, none⟩) 286 286 LA hU6.en hF6.now hlA (by omega) (fun x hx => Nat.le_trans (HFA.out.le x hx) (by omega)) (by rcases HFA.out.bare (by omega) (by omega) with e | e <;> omega)
      have HBK := Lib.hid hbk
      have HU6 := Lib.hid hU6
      have HOM := Lib.hid hOM
      have HLL := Lib.hid hlB
      clear ht hU6 hOM hF6 hlA hlB hbk fm HDS HU5
      go_wp2_with fail
      refine HBK.out.mono ?_
      rintro e w7 ⟨hb7, ga, FA, rfl, hbo, hfn⟩
      have hU7 := HU6.out.below hb7
      have hbk := book_any w7 E0 v6 _ (some ⟨b4, 0, none⟩) 30 30 LB hU7.en (hU7.foot HF4.out HFar4.out).now HLL.out (by omega) (fun x hx => Nat.le_trans (HFB.out.le x hx) (by omega)) (by rcases HFB.out.bare (by omega) (by omega) with e | e <;> omega)
      have HBK2 := Lib.hid hbk
      have HFA7 : Hid (Far E0 v6 FA) := Lib.hid (far_new HU6.out.en hfn)
      have HBA := Lib.hid hbo
      have HU7 := Lib.hid hU7
      clear hb7 hbo hfn hU7 hbk HBK HU6
      go_wp2_with fail
      refine HBK2.out.mono ?_
      rintro e w8 ⟨hb8, gb, FB, rfl, hbo, hfn⟩
      have hU8 := HU7.out.below hb8
      have hFB8 : Far E0 v6 FB := far_new HU7.out.en hfn
      have hwrd := own_wrd HOM.out
      have how := own_most HOM.out lb
      rw [ownW_is, List.length_append, List.length_append, wordE_length, HUL.out] at how
      have HCD := Lib.hid (coded_any w8 E0 v6 _ FT FA FB A r cc us ga gb (canonW LA) (canonW LB) hU8.en (hU8.foot HT4.out HFR.out) (HBA.out.below hb8) hbo (hU8.far HT4.out HFR.out) HFA7.out hFB8 HUL.out (by omega) (fun t ht => ⟨HUF.out t ht, hwrd.1 t ht⟩) hwrd.2
        (by simp only [List.length_append, wordE_length]; omega))
      have HU8 := Lib.hid hU8
      clear hb8 hbo hfn hU8 hFB8 hwrd how HBK2 HU7 HBA
      go_wp2_with fail
      refine HCD.out.mono ?_
      rintro e w9 ⟨rfl, ht⟩
      obtain ⟨v9, hU9⟩ := HU8.out.more ht
      have hent : EnT wr E0 v' (B ++ ownW LA LB m lb us) w9 := by
        have h9 := hU9.ent
        rw [ownW_is]
        simp only [List.append_assoc] at h9 ⊢
        exact EnT.more ((Only.of_below (S := fun _ => False) HB4.out).mono (fun _ _ e => False.elim e)) (fun _ e => .inl e) h9
      obtain ⟨v10, hU10⟩ := HU.out.2.more hent
      have HN : Hid (BlkS ts K (j + 1) (B ++ ownW LA LB m lb us) ∧ Und w1 w9 E0 v v10 (B ++ ownW LA LB m lb us)) := Lib.hid ⟨by
        rw [HLB.out, HUS.out]
        exact blkS_step HU.out.1 HJK.out (by rw [HX.out]; exact HK.out) (by rw [← HUS.out]; exact HOM.out) HFIT.out, hU10⟩
      clear ht hU9 hU10 hent HCD HU8 HU
      go_wp2_with fail
      go_roundw
      case rel => exact ⟨j + 1, v10, _, by omega, by first | rfl | (push_cast; rfl), HN⟩
      case measure => simp [intOf]; have := HJK.out; omega
    · have hjn : j = K := by omega
      have ql : decide ((j : Int) < (K : Int)) = false := decide_eq_false (by omega)
      have h2 := HU.out
      rw [hjn] at h2
      have HRES : Hid (OwnP w E0 v ts (.returned (.tuple #[])) wr) := Lib.hid ⟨rfl, B, by rw [HX.out, ← HK.out]; exact h2.1, EnT.more ((Only.of_below (S := fun _ => False) HB1.out).mono (fun _ _ e => False.elim e)) (fun _ e => .inl e) h2.2.ent⟩
      clear h2 hjn
      go_wp2_with fail
      go_end0
      exact HRES.out
end Go.Proofs.Ytjafcjnkefioeaa.Df
/- The contract of Deflate. -/
namespace Go.Proofs.Ytjafcjnkefioeaa.Df
open Go.RowKit Go.Proofs.Ytjafcjnkefioeaa.Oct Go.Proofs.Ytjafcjnkefioeaa.Bit Go.Proofs.Ytjafcjnkefioeaa.Hf Go.Proofs.Ytjafcjnkefioeaa.Inf
set_option maxRecDepth 100000
theorem row_off {w : World} {g C : Nat} {x y z : Value} {T : TypeId} {fr : Nat × Nat} {q : Option Addr} {vs : List Value} (h : w.heap[g]? = some (.cells #[x, y, z] T fr)) (hr : VRow w C q vs) (h4 : 4 ≤ vs.length) : ∀ k, At q k → k ≠ g := by
  intro k hk e
  obtain ⟨b, off, rfl, _, hc⟩ := hr (by omega)
  obtain ⟨a, ha, hk⟩ := hk
  injection ha with ha
  subst ha
  have h3 := hc 3 (by omega)
  have hbg : b = g := by rw [← e, ← hk]
  rw [hbg] at h3
  simp [World.cell?, h] at h3
theorem Wr.blk {w : World} {g n : Nat} {v : Value} {xs : List UInt8} {low : Bool} (h : Wr w g v xs n low) : w.heap[g]? = some (.cells #[v, .int .i64 (n : Int), .bool low] 42 (0, 0)) := h.1
theorem fixed_full : (∀ x ∈ fixedA, x ≤ 30) ∧ (∀ x ∈ fixedB, x ≤ 30) ∧ startN fixedA 31 ≤ 1073741824 ∧ startN fixedB 31 ≤ 1073741824 ∧ fixedA.length = 288 ∧ fixedB.length = 30 := by decide +kernel
theorem fixed_wrd (ts : List Lzt.Tok) : (∀ t ∈ ts, TokWrd (canonW fixedA) (canonW fixedB) t) ∧ (canonW fixedA).getD 256 [] ≠ [] := by
  refine ⟨fun t ht => ⟨fun _ => ?_, fun _ => ?_⟩, (freA 256 (by omega)).1⟩
  · have hlt : t.lit.toNat < 256 := t.lit.toNat_lt
    exact (freA _ (by omega)).1
  · have hp1 := place_lt false t.len.toNat
    have hp2 := place_lt true t.dist.toNat
    have e1 : (froms false).length = 29 := rfl
    have e2 : (froms true).length = 30 := rfl
    exact ⟨(freA _ (by omega)).1, (freB _ (by omega)).1⟩
def fixB (ts : List Lzt.Tok) : List Bool := wordE true 3 3 ++ toldB (canonW fixedA) (canonW fixedB) (ts.map conv)
set_option maxHeartbeats 2000000 in
theorem fixedD_any (w : World) (E0 : Ke) (v : Value) (FT : Nat → Prop) (p : Option Addr) (n cap : Nat) (ts : List Lzt.Tok) (h : En w E0 v []) (h0 : v.ownBlock = none)
    (hT : Foot FT (fun w' => Lzt.Toks w' w'.heap.size p ts) w) (hf : Far E0 v FT) (hx : ts.length = n) (hn : n ≤ 32768) (hfit : ∀ t ∈ ts, TokFit t) :
    Calls Try.prog 11 #[.pointer (some ⟨E0.e, 0, none⟩), .slice p n cap] w fun e w' => e = .returned (.tuple #[]) ∧ EnT w E0 v (fixB ts) w' := by
  obtain ⟨f1, f2, f3, f4, f5, f6⟩ := fixed_full
  have HFF := Lib.hid (And.intro f1 (And.intro f2 (And.intro f3 (And.intro f4 (And.intro f5 f6)))))
  have H := Lib.hid h
  have H0 := Lib.hid h0
  have HT := Lib.hid hT
  have HF := Lib.hid hf
  have HX := Lib.hid hx
  have HFIT := Lib.hid hfit
  clear h h0 hT hf hx hfit f1 f2 f3 f4 f5 f6
  go_enter Try.func11, Try.ntmps11
  go_wp2_with fail
  refine (fixed_any w).mono ?_
  rintro e w1 ⟨hb1, q, c, r, d, rfl, hvq, hq, hvr, hr⟩
  have HU1 := Lib.hid (Und.start (H.out.below hb1))
  have HB1 := Lib.hid hb1
  have hlq : 288 = (ints (castZ fixedA)).length := by rw [ints_length, castZ_length, HFF.out.2.2.2.2.1]
  have hlr : 30 = (ints (castZ fixedB)).length := by rw [ints_length, castZ_length, HFF.out.2.2.2.2.2]
  have HQF := Lib.hid (foot_vrow hvq (by omega))
  have HRF := Lib.hid (foot_vrow hvr (by omega))
  have HQFar : Hid (Far E0 v (At q)) := Lib.hid fun k hk => ⟨row_off (Wr.blk HU1.out.en.ws) hvq (by omega) k hk, by rw [H0.out]; exact fun e => by cases e⟩
  have HRFar : Hid (Far E0 v (At r)) := Lib.hid fun k hk => ⟨row_off (Wr.blk HU1.out.en.ws) hvr (by omega) k hk, by rw [H0.out]; exact fun e => by cases e⟩
  have HT1 := Lib.hid (HT.out.below hb1)
  have HBG := Lib.hid (begin_any w1 E0 v [] true 1 HU1.out.en (by omega) (by simp))
  clear hb1 hvq hq hvr hr hlq hlr HT
  go_wp2_with fail
  refine HBG.out.mono ?_
  rintro e w2 ⟨rfl, ht⟩
  obtain ⟨v2, hU2⟩ := HU1.out.more ht
  have hU2' : Und w1 w2 E0 v v2 (wordE true 3 3) := hU2
  have HBK := Lib.hid (book_any w2 E0 v2 _ q 288 c fixedA hU2'.en (hU2'.foot HQF.out HQFar.out).now HFF.out.2.2.2.2.1 (by omega) HFF.out.1 HFF.out.2.2.1)
  have HU2 := Lib.hid hU2'
  clear ht hU2 hU2' HBG HU1
  go_wp2_with fail
  refine HBK.out.mono ?_
  rintro e w3 ⟨hb3, ga, FA, rfl, hbo, hfn⟩
  have hU3 := HU2.out.below hb3
  have HBK2 := Lib.hid (book_any w3 E0 v2 _ r 30 d fixedB hU3.en (hU3.foot HRF.out HRFar.out).now HFF.out.2.2.2.2.2 (by omega) HFF.out.2.1 HFF.out.2.2.2.1)
  have HFA3 : Hid (Far E0 v2 FA) := Lib.hid (far_new HU2.out.en hfn)
  have HBA := Lib.hid hbo
  have HU3 := Lib.hid hU3
  clear hb3 hbo hfn hU3 HBK HU2
  go_wp2_with fail
  refine HBK2.out.mono ?_
  rintro e w4 ⟨hb4, gb, FB, rfl, hbo, hfn⟩
  have hU4 := HU3.out.below hb4
  have hFB4 : Far E0 v2 FB := far_new HU3.out.en hfn
  have hwrd := fixed_wrd ts
  have htl := told_most (canonW_getD_len fixedA 15 fixed_short.1) (canonW_getD_len fixedB 15 fixed_short.2) (ts.map conv)
  rw [List.length_map, HX.out] at htl
  have HCD := Lib.hid (coded_any w4 E0 v2 _ FT FA FB p n cap ts ga gb (canonW fixedA) (canonW fixedB) hU4.en (hU4.foot HT1.out HF.out) (HBA.out.below hb4) hbo (hU4.far HT1.out HF.out) HFA3.out hFB4 HX.out (by omega) (fun t ht => ⟨HFIT.out t ht, hwrd.1 t ht⟩) hwrd.2
    (by rw [wordE_length]; omega))
  have HU4 := Lib.hid hU4
  clear hb4 hbo hfn hU4 hFB4 hwrd htl HBK2 HU3 HBA
  go_wp2_with fail
  refine HCD.out.mono ?_
  rintro e w5 ⟨rfl, ht⟩
  obtain ⟨v5, hU5⟩ := HU4.out.more ht
  have HRES : Hid (EnT w E0 v (fixB ts) w5) := Lib.hid (EnT.more ((Only.of_below (S := fun _ => False) HB1.out).mono (fun _ _ e => False.elim e)) (fun _ e => .inl e) hU5.ent)
  clear ht hU5
  go_wp2_with fail
  go_end0
  exact ⟨rfl, HRES.out⟩
def ResP (w : World) (l : List Bool) (e : Ending) (w' : World) : Prop :=
  Below w.heap.size w w' ∧ ∃ q cap, e = .returned (.tuple #[.slice q (packB true l).length cap, .int .i64 0]) ∧ Row w' q (packB true l) ∧ (packB true l).length ≤ cap ∧ cap ≤ maxLen ∧ (q = none → cap = 0) ∧ ∀ a, q = some a → w.heap.size ≤ a.block
theorem result_any (w : World) (E0 : Ke) (v : Value) (l : List Bool) (h : En w E0 v l) (hl : l.length ≤ 2000000) : Calls Try.prog 14 #[.pointer (some ⟨E0.e, 0, none⟩)] w (ResP w l) := by
  have c3 := h.c3
  have c0 := h.c0
  have HBY := Lib.hid (bytes_any w E0.gw v l true h.ws hl)
  clear h
  go_enter Try.func14, Try.ntmps14
  go_wp2_with fail
  refine HBY.out.mono ?_
  rintro e w1 ⟨hb, q, cap, rfl, hr, h1, h2, h3, h4⟩
  go_wp2_with fail
  go_ret2
  exact ⟨hb, q, cap, rfl, hr, h1, h2, h3, h4⟩
end Go.Proofs.Ytjafcjnkefioeaa.Df
/- The contract of Deflate. -/
namespace Go.Proofs.Ytjafcjnkefioeaa.Df
open Go.RowKit Go.Proofs.Ytjafcjnkefioeaa.Oct Go.Proofs.Ytjafcjnkefioeaa.Bit Go.Proofs.Ytjafcjnkefioeaa.Hf Go.Proofs.Ytjafcjnkefioeaa.Inf
set_option maxRecDepth 100000
theorem tab_row {w : World} {base : Nat} {far : Bool} {v : Value} (h : w.ownsRow base 45 2 v (froms far).length (bcells (pairsN far))) :
    ∃ b c, v = .slice (some ⟨b, 0, none⟩) (froms far).length c ∧ base ≤ b ∧ b < w.heap.size ∧ (froms far).length ≤ c ∧ ∀ w' : World, w'.heap[b]? = w.heap[b]? → TabR w' b far := by
  have hl := fun k hk => h.lt k hk
  have hc := fun g hg => h.cells (g := g) hg
  have hpos : 0 < (froms far).length := by cases far <;> decide
  rcases h.2 with ⟨_, h0⟩ | ⟨g, cap, cur, rfl, hb, hh, h1, _⟩
  · omega
  · refine ⟨g, cap, rfl, hb, (hl g rfl).2, h1, fun w' hw i hi => ?_⟩
    obtain ⟨k1, k2⟩ := bcells_get _ _ _ (pairs_get far i hi)
    have e1 := hc g rfl _ _ k1
    have e2 := hc g rfl _ _ k2
    rw [add_plain, Nat.zero_add] at e1 e2
    exact ⟨(World.cell?_of_block hw).trans e1, (World.cell?_of_block hw).trans e2⟩
theorem bits_inj : ∀ xs ys : List UInt8, bitsOf true xs = bitsOf true ys → xs = ys
  | [], [], _ => rfl
  | [], y :: ys, h => by
    have := congrArg List.length h
    rw [bitsOf_length, bitsOf_length, List.length_nil, List.length_cons] at this
    omega
  | x :: xs, [], h => by
    have := congrArg List.length h
    rw [bitsOf_length, bitsOf_length, List.length_nil, List.length_cons] at this
    omega
  | x :: xs, y :: ys, h => by
    rw [bitsOf_cons, bitsOf_cons] at h
    obtain ⟨h1, h2⟩ := List.append_inj h (by rw [bitsB_length, bitsB_length])
    have hx := x.toNat_lt
    have hy := y.toNat_lt
    have e := congrArg (numE true) h1
    unfold bitsB at e
    rw [numE_wordE true _ 8 (by omega), numE_wordE true _ 8 (by omega)] at e
    rw [bits_inj xs ys h2, UInt8.toNat_inj.1 e]
theorem packB_bitsOf (xs : List UInt8) : packB true (bitsOf true xs) = xs := by
  apply bits_inj
  rw [bitsOf_packB, bitsOf_length, show 8 * ((8 * xs.length + 7) / 8) - 8 * xs.length = 0 from by omega]
  exact List.append_nil _
theorem en_new {w w1 w2 w3 w4 : World} {bl cl bd cd : Nat} (hb1 : Below w.heap.size w w1) (hw : Ws w1 w.heap.size (.slice none 0 0) [] true) (hb2 : Below w1.heap.size w1 w2) (hb3 : Below w2.heap.size w2 w3)
    (hl1 : w1.heap.size ≤ bl) (hl2 : bl < w2.heap.size) (hl3 : 29 ≤ cl) (hlt : ∀ w' : World, w'.heap[bl]? = w2.heap[bl]? → TabR w' bl false)
    (hd1 : w2.heap.size ≤ bd) (hd2 : bd < w3.heap.size) (hd3 : 30 ≤ cd) (hdt : ∀ w' : World, w'.heap[bd]? = w3.heap[bd]? → TabR w' bd true)
    (hw4 : w4 = w3.alloc (.cells #[.pointer (some ⟨w.heap.size, 0, none⟩), .slice (some ⟨bl, 0, none⟩) 29 cl, .slice (some ⟨bd, 0, none⟩) 30 cd, .int .i64 0] 35)) :
    En w4 ⟨w3.heap.size, w.heap.size, bl, cl, bd, cd⟩ (.slice none 0 0) [] ∧ Below w.heap.size w w4 := by
  have z1 : w.heap.size < w1.heap.size := Wr.lt hw
  have z2 := hb2.size
  have z3 := hb3.size
  have hb34 : Below w3.heap.size w3 w4 := by rw [hw4]; exact (Below.refl _ w3).alloc (Nat.le_refl _) _
  have hb24 : Below w2.heap.size w2 w4 := hb3.trans (hb34.mono z3)
  have hb14 : Below w1.heap.size w1 w4 := hb2.trans (hb24.mono z2)
  refine ⟨⟨?_, Wr.only hw (Only.of_below (S := fun _ => False) hb14) (fun e => e) (fun k hk => by cases hk), hlt _ (hb24.block _ hl2), hdt _ (hb34.block _ hd2), ?_, ⟨?_, ?_⟩, ⟨?_, ?_⟩, (fun k hk => by cases hk), ⟨hl3, hd3⟩⟩, hb1.trans (hb14.mono hb1.size)⟩
  · rw [hw4]
    exact Array.getElem?_push_size
  · show w.heap.size < w3.heap.size; omega
  · show w.heap.size < bl; omega
  · show w.heap.size < bd; omega
  · show bl < w3.heap.size; omega
  · show bd < w3.heap.size; omega
theorem foot_rows {w : World} {p : Option Addr} {xs : List UInt8} (h : Row w p xs) : ∃ F, Foot F (fun w' => Row w' p xs) w := by
  by_cases h0 : 0 < xs.length
  · exact ⟨_, foot_row h h0⟩
  · exact ⟨fun _ => False, fun k hk => hk.elim, fun w' _ _ hp => absurd hp h0⟩
theorem foot_toks {w : World} {p : Option Addr} {ts : List Lzt.Tok} {B : Nat} (h : Lzt.Toks w w.heap.size p ts) (hB : ∀ a, p = some a → B ≤ a.block) : ∃ F, Foot F (fun w' => Lzt.Toks w' w'.heap.size p ts) w ∧ ∀ k, F k → B ≤ k := by
  by_cases h0 : 0 < ts.length
  · obtain ⟨b, off, rfl, hb, hc⟩ := h.2 h0
    refine ⟨(· = b), ⟨fun k hk => by rw [hk]; exact hb, fun w' hz hs => ⟨h.1, fun _ => ⟨b, off, rfl, Nat.lt_of_lt_of_le hb hz, fun i hi => ?_⟩⟩⟩, fun k hk => by rw [hk]; exact hB _ rfl⟩
    have e := hs b rfl
    exact ⟨(World.cell?_of_block e).trans (hc i hi).1, (World.cell?_of_block e).trans (hc i hi).2.1, (World.cell?_of_block e).trans (hc i hi).2.2⟩
  · exact ⟨fun _ => False, ⟨fun k hk => hk.elim, fun w' _ _ => ⟨h.1, fun hp => absurd hp h0⟩⟩, fun k hk => hk.elim⟩
theorem stoX_len : ∀ (k : Nat) (xs : List UInt8), xs.length ≤ k → (stoX xs).length ≤ 2 * xs.length + 5
  | 0, xs, h => by rw [stoX_small xs (by omega), stoB_length]; omega
  | k + 1, xs, h => by
    by_cases hs : xs.length ≤ 65535
    · rw [stoX_small xs hs, stoB_length]; omega
    · have ih := stoX_len k (xs.drop 65535) (by rw [List.length_drop]; omega)
      rw [stoX_more xs 65535 rfl hs, List.length_append, stoB_length, List.length_take]
      rw [List.length_drop] at ih
      omega
structure DefX (xs : List UInt8) (k : Nat) (ys : List UInt8) : Prop where
  inf : ∀ most, xs.length ≤ most → inflate ys most = .ok (xs, ys.length)
  head : xs.length ≤ 16384 → ∃ h r, h < 8 ∧ h / 2 = k ∧ bitsOf true ys = wordE true h 3 ++ r
  len : ys.length ≤ 2 * xs.length + 1300
  sto : k = 0 → ys = stoX xs
  few : ∀ c, xs = List.replicate xs.length c → 1 ≤ xs.length → xs.length ≤ 100000 → (k = 1 → ys.length ≤ 40 + xs.length / 32) ∧ (k = 2 → ys.length ≤ 100 + xs.length / 32)
theorem defX_sto (xs : List UInt8) : DefX xs 0 (stoX xs) := by
  refine ⟨fun most hm => stored_is xs most hm, fun hs => ?_, by have := stoX_len _ xs (Nat.le_refl _); omega, fun _ => rfl, fun c _ _ _ => ⟨fun e => by omega, fun e => by omega⟩⟩
  rw [stoX_small xs (by omega), stoB_bits true xs (by omega)]
  exact ⟨1, _, by decide, by decide, rfl⟩
theorem defX_fix {xs : List UInt8} {ts : List Lzt.Tok} (he : Lzt.expX xs.length ts [] = .ok xs) (hq : ∀ c, xs = List.replicate xs.length c → ts = Lzt.allToks c xs.length) : DefX xs 1 (packB true (fixB ts)) := by
  have hr := right_exp (Int.le_refl (xs.length : Int)) ts [] xs he
  have hw := wgt_exp ts [] xs he
  have hf := exp_fit ts [] xs he
  have ht := told_wgt (canonW_getD_len fixedA 15 fixed_short.1) (canonW_getD_len fixedB 15 fixed_short.2) ts hf
  rw [List.length_nil, Nat.zero_add] at hw
  refine ⟨fun most hm => fixed_is hr hm, fun _ => ?_, ?_, fun e => by omega, fun c hc h1 h2 => ⟨fun _ => ?_, fun e => by omega⟩⟩
  · rw [bitsOf_packB]
    unfold fixB
    rw [List.append_assoc]
    exact ⟨3, _, by decide, by decide, rfl⟩
  · rw [packB_length]
    unfold fixB
    rw [List.length_append, wordE_length]
    omega
  · rw [hq c hc]
    exact fixed_few c xs.length h2
theorem defX_own {xs : List UInt8} {ts : List Lzt.Tok} {B : List Bool} (he : Lzt.expX xs.length ts [] = .ok xs) (hq : ∀ c, xs = List.replicate xs.length c → ts = Lzt.allToks c xs.length) (hn : ts.length ≤ 32768)
    (hB : BlkS ts (numT ts.length) (numT ts.length) B) : DefX xs 2 (packB true B) := by
  have hr := right_exp (Int.le_refl (xs.length : Int)) ts [] xs he
  have hw := wgt_exp ts [] xs he
  rw [List.length_nil, Nat.zero_add] at hw
  have hk : numT ts.length ≤ 2 := by unfold numT; omega
  have hone : ts.length ≤ 16384 → ∃ LA LB m, OwnM ts LA LB m ∧ B = ownW LA LB m true ts := fun h => hB.one rfl (by unfold numT; omega)
  refine ⟨fun most hm => blkF_is (hB.fin rfl) hr hm, fun hs => ?_, ?_, fun e => by omega, fun c hc h1 h2 => ⟨fun e => by omega, fun _ => ?_⟩⟩
  · have hcount := Lzt.exp_count ts [] xs he
    rw [List.length_nil, Nat.zero_add] at hcount
    obtain ⟨LA, LB, m, _, rfl⟩ := hone (by omega)
    rw [bitsOf_packB]
    unfold ownW
    rw [List.append_assoc]
    exact ⟨5, _, by decide, by decide, rfl⟩
  · have hwg := hB.wg
    have hwl : wgt (ts.take (numT ts.length * 16384)) = xs.length := by
      rw [List.take_of_length_le (by unfold numT; omega)]
      exact hw.symm
    rw [hwl] at hwg
    rw [packB_length]
    omega
  · have ht := hq c hc
    have hcnt := Lzt.all_count c xs.length
    rw [← ht] at hcnt
    obtain ⟨LA, LB, m, hm, rfl⟩ := hone (by omega)
    rw [ht] at hm ⊢
    exact own_few h1 h2 hm
def DefP (w : World) (xs : List UInt8) (how : Int) (e : Ending) (w' : World) : Prop :=
  Below w.heap.size w w' ∧ (((how < 0 ∨ 2 < how) ∧ e = .returned (.tuple #[.slice none 0 0, .int .i64 1])) ∨
    ∃ k ys q c, how = ((k : Nat) : Int) ∧ k ≤ 2 ∧ DefX xs k ys ∧ e = .returned (.tuple #[.slice q ys.length c, .int .i64 0]) ∧ Row w' q ys ∧ ys.length ≤ c ∧ c ≤ maxLen ∧ (q = none → c = 0) ∧ ∀ a, q = some a → w.heap.size ≤ a.block)
def Fits (xs : List UInt8) (how : Int) : Prop := xs.length ≤ 190000 ∧ (how = 1 ∨ how = 2 → xs.length ≤ 32768 ∨ (xs.length ≤ 100000 ∧ ∃ c, xs = List.replicate xs.length c))
theorem toks_few {xs : List UInt8} {ts : List Lzt.Tok} (he : Lzt.expX xs.length ts [] = .ok xs) (hq : ∀ c, xs = List.replicate xs.length c → ts = Lzt.allToks c xs.length)
    (h : xs.length ≤ 32768 ∨ (xs.length ≤ 100000 ∧ ∃ c, xs = List.replicate xs.length c)) : ts.length ≤ 32768 := by
  rcases h with h | ⟨h, c, hc⟩
  · have := Lzt.exp_count ts [] xs he
    rw [List.length_nil] at this
    omega
  · have hcnt := Lzt.all_count c xs.length
    rw [← hq c hc] at hcnt
    omega
theorem def_done {w w4 w5 w6 : World} {K : Ke} {B : List Bool} {xs : List UInt8} {k : Nat} {e : Ending} {v6 : Value} (hb : Below w.heap.size w w4) (h56 : Below w.heap.size w4 w5) (hK : K.gw = w.heap.size) (hu : Und w5 w6 K (.slice none 0 0) v6 B) (hX : DefX xs k (packB true B)) (hk : k ≤ 2)
    {w7 : World} (hr : ResP w6 B e w7) : DefP w xs (k : Int) e w7 := by
  obtain ⟨hb7, q, c, rfl, h1, h2, h3, h4, h5⟩ := hr
  have hb6 : Below w.heap.size w5 w6 := hu.only.below (Nat.le_trans hb.size h56.size) fun j hj e => by
    rcases e with e | e
    · rw [hK] at e; omega
    · cases e
  have hall := (hb.trans h56).trans hb6
  exact ⟨hall.trans (hb7.mono hall.size), .inr ⟨k, _, q, c, rfl, hk, hX, rfl, h1, h2, h3, h4, fun a ha => Nat.le_trans hall.size (h5 a ha)⟩⟩
set_option maxHeartbeats 4000000 in
theorem deflate_any (w : World) (p : Option Addr) (n cap : Nat) (xs : List UInt8) (how : Int) (hr : Row w p xs) (hx : xs.length = n) (hc : n ≤ cap) (hc2 : cap ≤ maxLen) (hf : Fits xs how) :
    Calls Try.prog 5 #[.slice p n cap, .int .i64 how] w (DefP w xs how) := by
  have HR := Lib.hid hr
  have HX := Lib.hid hx
  have HC := Lib.hid (And.intro hc hc2)
  have HF := Lib.hid hf
  clear hr hx hc hc2 hf
  go_enter Try.func5, Try.ntmps5
  go_wp2_with fail
  refine (newWriter_any true w).mono ?_
  rintro e w1 ⟨hb1, rfl, hws⟩
  obtain ⟨gw, hgw⟩ : ∃ gw, gw = w.heap.size := ⟨_, rfl⟩
  rw [← hgw]
  have HGW := Lib.hid hgw
  have HB1 := Lib.hid hb1
  have HWS := Lib.hid hws
  clear hb1 hws hgw
  go_wp2_with fail
  refine (Inf.lens_any w1).mono ?_
  rintro e w2 ⟨v2, rfl, hb2, ho2⟩
  obtain ⟨bl, cl, hv2, hl1, hl2, hl3, hlt⟩ := tab_row ho2
  have hv2' : v2 = .slice (some ⟨bl, 0, none⟩) 29 cl := hv2
  subst hv2'
  have HB2 := Lib.hid hb2
  have HTL := Lib.hid hlt
  have HL := Lib.hid (And.intro hl1 (And.intro hl2 (show 29 ≤ cl from hl3)))
  clear hb2 ho2 hlt hl1 hl2 hl3 hv2
  go_wp2_with fail
  refine (Inf.dists_any w2).mono ?_
  rintro e w3 ⟨v3, rfl, hb3, ho3⟩
  obtain ⟨bd, cd, hv3, hd1, hd2, hd3, hdt⟩ := tab_row ho3
  have hv3' : v3 = .slice (some ⟨bd, 0, none⟩) 30 cd := hv3
  subst hv3'
  obtain ⟨w4, hw4⟩ : ∃ w4, w4 = w3.alloc (.cells #[.pointer (some ⟨w.heap.size, 0, none⟩), .slice (some ⟨bl, 0, none⟩) 29 cl, .slice (some ⟨bd, 0, none⟩) 30 cd, .int .i64 0] 35) := ⟨_, rfl⟩
  obtain ⟨hE, hB4⟩ := en_new HB1.out HWS.out HB2.out hb3 HL.out.1 HL.out.2.1 HL.out.2.2 HTL.out hd1 hd2 hd3 hdt hw4
  obtain ⟨K, hK⟩ : ∃ K : Ke, K = ⟨w3.heap.size, w.heap.size, bl, cl, bd, cd⟩ := ⟨_, rfl⟩
  have hKe : w3.heap.size = K.e := by rw [hK]
  have hKg : K.gw = w.heap.size := by rw [hK]
  rw [← hK] at hE
  rw [← HGW.out] at hw4
  have HE := Lib.hid hE
  have HB4 := Lib.hid hB4
  have HW4 := Lib.hid hw4
  have HKE := Lib.hid hKe
  have HKG := Lib.hid hKg
  clear hb3 ho3 hdt hd1 hd2 hd3 hv3 hE hB4 hw4 hKe hKg hK
  by_cases h0 : how = 0
  · subst h0
    obtain ⟨F, hFr⟩ := foot_rows HR.out
    have hFr4 := hFr.below HB4.out
    have hfar : Far K (.slice none 0 0) F := fun k hk => ⟨by rw [HKG.out]; have := hFr.1 k hk; omega, fun e => by cases e⟩
    have HST := Lib.hid (stored_any w4 K (.slice none 0 0) F p n cap xs HE.out hFr4 hfar HX.out (by have := HF.out.1; rw [HX.out] at this; exact this) HC.out.1 HC.out.2)
    clear hFr hFr4 hfar
    go_wp2_with fail
    rw [HKE.out, ← HW4.out]
    refine HST.out.mono ?_
    rintro e w5 ⟨rfl, ht⟩
    obtain ⟨v5, hU⟩ := (Und.start HE.out).more ht
    have hl : (bitsOf true (stoX xs)).length ≤ 2000000 := by
      have h1 := stoP_len xs (numB xs.length)
      rw [stoP_all] at h1
      have h2 := HF.out.1
      have h3 : numB xs.length ≤ 3 := by unfold numB; omega
      rw [bitsOf_length]
      omega
    have HRS := Lib.hid (result_any w5 K v5 _ hU.en hl)
    have HU := Lib.hid hU
    clear ht hU hl HST
    go_wp2_with fail
    refine HRS.out.mono ?_
    rintro e w6 hres
    have hX := defX_sto xs
    have hpk : packB true (bitsOf true (stoX xs)) = stoX xs := packB_bitsOf _
    have HD := Lib.hid (def_done (k := 0) HB4.out (Below.refl _ _) HKG.out HU.out (by rw [hpk]; exact hX) (by omega) hres)
    obtain ⟨_, q, c, rfl, _⟩ := hres
    clear hX hpk HRS HU
    go_wp2_with fail
    go_ret2
    exact HD.out
  · by_cases h1 : how = 1
    · subst h1
      have q0 : (((1 : Int)) == 0) = false := by decide
      have q1 : (((1 : Int)) == 1) = true := by decide
      have HTK := Lib.hid (Lzt.tokens_any p n cap xs w4 (HR.out.below HB4.out) HX.out (by rcases HF.out.2 (by omega) with e | e <;> (have := HX.out; omega)) HC.out.1 HC.out.2)
      go_wp2_with fail
      rw [HKE.out, ← HW4.out]
      refine HTK.out.mono ?_
      rintro e w5 ⟨q, c, ts, rfl, hq0, hlc, hcm, htk, hqn, hex, hpl, hb5, heq⟩
      obtain ⟨F, hFt, hFn⟩ := foot_toks htk hqn
      have hfew := toks_few hex heq (HF.out.2 (by omega))
      have hE5 := HE.out.below hb5
      have HUS := Lib.hid (Und.start hE5)
      have HCL := Lib.hid (fixedD_any w5 K (.slice none 0 0) F q ts.length c ts hE5 rfl hFt (far_new HE.out hFn) rfl hfew (exp_fit ts [] xs hex))
      have HEX := Lib.hid hex
      have HEQ := Lib.hid heq
      have HB5 : Hid (Below w.heap.size w4 w5) := Lib.hid (hb5.mono HB4.out.size)
      have HFW := Lib.hid hfew
      clear hq0 hlc hcm htk hqn hex hpl hb5 heq hFt hFn hfew hE5 HTK
      go_wp2_with fail
      refine HCL.out.mono ?_
      rintro e w6 ⟨rfl, ht⟩
      obtain ⟨v6, hU⟩ := HUS.out.more ht
      have hX := defX_fix HEX.out HEQ.out
      have hl : (fixB ts).length ≤ 2000000 := by
        have := told_most (canonW_getD_len fixedA 15 fixed_short.1) (canonW_getD_len fixedB 15 fixed_short.2) (ts.map conv)
        rw [List.length_map] at this
        have := HFW.out
        unfold fixB
        rw [List.length_append, wordE_length]
        omega
      have HRS := Lib.hid (result_any w6 K v6 _ hU.en hl)
      have HU := Lib.hid hU
      have HXX := Lib.hid hX
      clear ht hU hl hX HCL
      go_wp2_with fail
      refine HRS.out.mono ?_
      rintro e w7 hres
      have HD := Lib.hid (def_done (k := 1) HB4.out HB5.out HKG.out HU.out HXX.out (by omega) hres)
      obtain ⟨_, q, c, rfl, _⟩ := hres
      clear HRS HU
      go_wp2_with fail
      go_ret2
      exact HD.out
    · by_cases h2 : how = 2
      · subst h2
        have q0 : (((2 : Int)) == 0) = false := by decide
        have q1 : (((2 : Int)) == 1) = false := by decide
        have HTK := Lib.hid (Lzt.tokens_any p n cap xs w4 (HR.out.below HB4.out) HX.out (by rcases HF.out.2 (by omega) with e | e <;> (have := HX.out; omega)) HC.out.1 HC.out.2)
        go_wp2_with fail
        rw [HKE.out, ← HW4.out]
        refine HTK.out.mono ?_
        rintro e w5 ⟨q, c, ts, rfl, hq0, hlc, hcm, htk, hqn, hex, hpl, hb5, heq⟩
        obtain ⟨F, hFt, hFn⟩ := foot_toks htk hqn
        have hfew := toks_few hex heq (HF.out.2 (by omega))
        have hE5 := HE.out.below hb5
        have HUS := Lib.hid (Und.start hE5)
        have HCL := Lib.hid (own_any w5 K (.slice none 0 0) F q ts.length c ts hE5 hFt (far_new HE.out hFn) rfl hfew hlc hcm (exp_fit ts [] xs hex))
        have HEX := Lib.hid hex
        have HEQ := Lib.hid heq
        have HB5 : Hid (Below w.heap.size w4 w5) := Lib.hid (hb5.mono HB4.out.size)
        have HFW := Lib.hid hfew
        clear hq0 hlc hcm htk hqn hex hpl hb5 heq hFt hFn hfew hE5 HTK
        go_wp2_with fail
        refine HCL.out.mono ?_
        rintro e w6 ⟨rfl, B, hB, ht⟩
        obtain ⟨v6, hU⟩ := HUS.out.more ht
        have hX := defX_own HEX.out HEQ.out HFW.out hB
        have hl : B.length ≤ 2000000 := by
          have := hB.len
          have h2 := HFW.out
          have h3 : numT ts.length ≤ 2 := by unfold numT; omega
          omega
        have HRS := Lib.hid (result_any w6 K v6 _ hU.en hl)
        have HU := Lib.hid hU
        have HXX := Lib.hid hX
        clear ht hU hl hX hB HCL
        go_wp2_with fail
        refine HRS.out.mono ?_
        rintro e w7 hres
        have HD := Lib.hid (def_done (k := 2) HB4.out HB5.out HKG.out HU.out HXX.out (by omega) hres)
        obtain ⟨_, q, c, rfl, _⟩ := hres
        clear HRS HU
        go_wp2_with fail
        go_ret2
        exact HD.out
      · have q0 : (how == 0) = false := by simpa using h0
        have q1 : (how == 1) = false := by simpa using h1
        have q2 : (how == 2) = false := by simpa using h2
        have HRES : Hid (DefP w xs how (.returned (.tuple #[.slice none 0 0, .int .i64 1])) w4) := Lib.hid ⟨HB4.out, .inl ⟨by omega, rfl⟩⟩
        go_wp2_with fail
        rw [← HW4.out]
        go_ret2
        exact HRES.out
end Go.Proofs.Ytjafcjnkefioeaa.Df
/- The chapter's example holds: lives of package deflate's laws. -/
namespace Go.Proofs.Ytjafcjnkefioeaa.Df
open Go.RowKit Go.Proofs.Ytjafcjnkefioeaa.Oct Go.Proofs.Ytjafcjnkefioeaa.Bit Go.Proofs.Ytjafcjnkefioeaa.Hf Go.Proofs.Ytjafcjnkefioeaa.Inf
set_option maxRecDepth 100000
theorem row_newD (w : World) (xs : List UInt8) (T : Nat) (fr : Nat × Nat) : Row (w.alloc (.cells (cellsOf xs).toArray T fr)) (some ⟨w.heap.size, 0, none⟩) xs := by
  intro _
  refine ⟨w.heap.size, 0, rfl, by simp, fun i h => ?_⟩
  rw [World.cell?_alloc_mark, Nat.zero_add]
  simp [cellsOf, h]
def YesP (w : World) (e : Ending) (w' : World) : Prop := e = .returned (.bool true) ∧ Below w.heap.size w w'
theorem sto_none : stoX [] = [1, 0, 0, 255, 255] := by
  rw [stoX_small [] (by decide)]
  rfl
theorem DefX.pos {xs ys : List UInt8} {k : Nat} (h : DefX xs k ys) (hs : xs.length ≤ 16384) : 0 < ys.length := by
  obtain ⟨hd, r, _, _, e⟩ := h.head hs
  have := congrArg List.length e
  rw [bitsOf_length, List.length_append, wordE_length] at this
  omega
theorem def_yes {w w' : World} {xs : List UInt8} {k : Nat} {e : Ending} (hk : k ≤ 2) (h : DefP w xs (k : Int) e w') : Below w.heap.size w w' ∧ ∃ ys q c N, N = ys.length ∧ DefX xs k ys ∧ e = .returned (.tuple #[.slice q N c, .int .i64 0]) ∧ Row w' q ys ∧ N ≤ c ∧ c ≤ maxLen ∧ (q = none → c = 0) ∧ ∀ a, q = some a → w.heap.size ≤ a.block := by
  obtain ⟨hb, h | ⟨j, ys, q, c, hj, hj2, hX, he, hr, h1, h2, h3, h4⟩⟩ := h
  · omega
  · have : j = k := by omega
    subst this
    exact ⟨hb, ys, q, c, _, rfl, hX, he, hr, h1, h2, h3, h4⟩
set_option maxHeartbeats 2000000 in
theorem lives_any (w : World) : Calls Try.prog 4 #[] w (YesP w) := by
  have hD := deflate_any w none 0 0 [] 0 (fun h => absurd h (by simp)) rfl (Nat.le_refl _) (by simp [maxLen]) ⟨by simp, fun h => by omega⟩
  have HD := Lib.hid hD
  have kc := fun (w : World) (C : Array Value) (n c : Nat) => Lib.run_convert_bytes_const (P := Try.prog) w 22 5 C n c Try.underlying22 Try.underlying5
  clear hD
  go_enter Try.func4, Try.ntmps4
  go_wp2_with fail
  refine HD.out.mono ?_
  rintro e w1 hres
  obtain ⟨hb1, ys, q, c, N, hN, hX, rfl, hr, h1, h2, h3, _⟩ := def_yes (k := 0) (by omega) hres
  have hys : ys = [1, 0, 0, 255, 255] := by rw [hX.sto rfl, sto_none]
  subst hys
  have hN5 : N = 5 := hN
  subst hN5
  have hba : Below w1.heap.size w1 (w1.alloc (.cells #[.int .u8 97, .int .u8 97] 5 (2, 3))) := (Below.refl _ w1).alloc (Nat.le_refl _) _
  have HD2 : Hid (Calls Try.prog 5 #[.slice (some ⟨w1.heap.size, 0, none⟩) 2 2, .int .i64 2] (w1.alloc (.cells #[.int .u8 97, .int .u8 97] 5 (2, 3))) (DefP (w1.alloc (.cells #[.int .u8 97, .int .u8 97] 5 (2, 3))) [97, 97] 2)) :=
    Lib.hid (deflate_any _ (some ⟨w1.heap.size, 0, none⟩) 2 2 [97, 97] 2 (row_newD w1 [97, 97] 5 (2, 3)) rfl (Nat.le_refl _) (by unfold maxLen; omega) ⟨by simp, fun _ => .inl (by simp)⟩)
  have HR := Lib.hid hr
  have HB1 := Lib.hid hb1
  have HBA := Lib.hid hba
  clear hb1 hX hr h1 h2 h3 hba hN hres HD
  go_wp2_with fail
  refine HD2.out.mono ?_
  rintro e w2 hres
  obtain ⟨hb2, zs, q2, c2, M, hM, hX2, rfl, _⟩ := def_yes (k := 2) (by omega) hres
  have hM0 : 0 < M := by rw [hM]; exact hX2.pos (by simp)
  have hM1 : decide ((0 : Int) < (M : Int)) = true := decide_eq_true (by omega)
  have hb3 := HBA.out.trans (hb2.mono HBA.out.size)
  have hconv := conv_row 5 c (HR.out.below hb3) rfl
  have hbs : bs [1, 0, 0, 255, 255] = { data := #[1, 0, 0, 255, 255] } := rfl
  rw [hbs] at hconv
  have HB2 := Lib.hid (HB1.out.trans (hb3.mono HB1.out.size))
  clear hb2 hX2 hres hb3 hbs hM
  go_wp2_with fail
  go_ret
  exact ⟨rfl, HB2.out⟩
end Go.Proofs.Ytjafcjnkefioeaa.Df
/- Words for the laws of package deflate: bytes again and again, what Inflate gives of what Deflate gave. -/
namespace Go.Proofs.Ytjafcjnkefioeaa.Df
open Go.RowKit Go.Proofs.Ytjafcjnkefioeaa.Oct Go.Proofs.Ytjafcjnkefioeaa.Bit Go.Proofs.Ytjafcjnkefioeaa.Hf Go.Proofs.Ytjafcjnkefioeaa.Inf
set_option maxRecDepth 100000
def rep (xs : List UInt8) (k : Nat) : List UInt8 := (List.replicate k xs).flatten
theorem rep_length (xs : List UInt8) (k : Nat) : (rep xs k).length = k * xs.length := by simp [rep]
theorem rep_snoc (xs : List UInt8) (k : Nat) : rep xs (k + 1) = rep xs k ++ xs := by simp [rep, List.replicate_succ']
end Go.Proofs.Ytjafcjnkefioeaa.Df

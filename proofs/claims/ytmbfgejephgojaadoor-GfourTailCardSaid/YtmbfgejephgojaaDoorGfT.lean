
/- The walk of GfourTail. -/
import Derived.Test.YtmbfgejephgojaaDoorGfI
import Derived.BigQuiet
namespace Go.Proofs.YtmbfgejephgojaaDoor.Gf
open Go.RowKit Go.Proofs.YtmbfgejephgojaaDoor.Oct Go.Proofs.YtmbfgejephgojaaDoor.Bit
open Go.Proofs.YtmbfgejephgojaaDoor.Fx (Tab TrueT)
open Go.Proofs.YtmbfgejephgojaaDoor.Mh (vrow_far DecP EncP Tbl Rws wpList_append_rws)
open Go.Proofs.YtmbfgejephgojaaDoor.Rn (changes zl zl_length Valid changes_valid changes_pix pix ints_new)
open Go.Proofs.YtmbfgejephgojaaDoor.Lp (VRow ints ints_length)
set_option linter.unusedVariables false
set_option linter.unusedSimpArgs false
set_option maxRecDepth 100000

/-- the row of two numbers: its pixels -/
def pairT (a b : Nat) : List Nat := if a < b then [a, b] else if a = b then [a] else []
theorem pairT_lt {a b : Nat} (h : a < b) : pairT a b = [a, b] := by unfold pairT; rw [if_pos h]
theorem pairT_eq {a b : Nat} (h : a = b) : pairT a b = [a] := by unfold pairT; rw [if_neg (by omega), if_pos h]
theorem pairT_gt {a b : Nat} (h : b < a) : pairT a b = [] := by unfold pairT; rw [if_neg (by omega), if_neg (by omega)]
theorem pairT_valid {a b : Nat} (ha : a < 40) (hb : b < 40) : Valid (pairT a b) 40 := by
  unfold pairT
  split
  · rename_i h
    refine ⟨by simp; exact h, fun x hx => ?_⟩
    simp at hx
    omega
  · split
    · refine ⟨by simp, fun x hx => ?_⟩
      simp at hx
      omega
    · exact ⟨List.Pairwise.nil, fun x hx => by cases hx⟩
theorem pix_length (c : List Nat) (w : Nat) : (pix c w).length = w := by simp [pix]
/-- a page that is told: its first rows, whatever stands behind it -/
theorem page_few {wd : Nat} (h0 : 0 < wd) (Xs : List (List Bool)) (a : List UInt8) (hl : ∀ X ∈ Xs, X.length = wd) (k : Nat) (hk : k ≤ Xs.length) :
    readQ (bitsOf false (packB false (rowsP wd (List.replicate wd false) Xs ++ eofb) ++ a)) wd k 0 (List.replicate wd false) [] = .ok (Xs.take k) := by
  obtain ⟨r, hr⟩ := page_bits wd Xs a
  rw [readQ_nil]
  exact rows_few h0 Xs k 0 (List.replicate wd false) hk hl (by simp) (by rw [List.drop_zero, hr])
theorem rws_lt {w : World} {base : Nat} {N : Nat → Prop} {v : Value} {R : List (List Nat)} (h : Rws w base N v R) {k : Nat} (hk : v.ownBlock = some k) : k < w.heap.size := by
  obtain ⟨vs, h1, _⟩ := h
  exact (h1.lt k hk).2
theorem rws_more {w w' : World} {base : Nat} {N : Nat → Prop} {v : Value} {R : List (List Nat)} (h : Rws w base N v R) (hb : Below w.heap.size w w') : Rws w' base N v R :=
  h.only (Only.of_below hb : Only (fun _ => False) _ _) (fun _ _ _ _ e => e)
set_option maxHeartbeats 16000000 in
theorem tail_walk (p : Option Addr) (len cap : Nat) (zs : List Int) (z : Int) (p2 : Option Addr) (len2 cap2 : Nat) (zs2 : List Int) (w : World) (hT : Tab w) (hr0 : IsRow .u8 w p len cap zs) (hr02 : IsRow .u8 w p2 len2 cap2 zs2) :
    Calls Tryd.prog 6 #[.slice p len cap, .int .i64 z, .slice p2 len2 cap2] w fun e w' => e = .returned (.bool true) ∧ Below w.heap.size w w' := by
  obtain ⟨xs, hx, hr, hlc, hcm, hnil⟩ := hr0.row
  obtain ⟨ts, hx2, hr2, hlc2, hcm2, hnil2⟩ := hr02.row
  have HT := Lib.hid hT
  unfold maxLen at hcm hcm2
  clear hr0 hr02 hT
  by_cases hbad : 200 < len ∨ 50 < len2
  · have hways : decide (200 < (len : Int)) = true ∨ (decide (200 < (len : Int)) = false ∧ decide (50 < (len2 : Int)) = true) := by
      by_cases h1 : 200 < len
      · left; simp; omega
      · right
        constructor <;> simp <;> omega
    clear hbad hx hr hnil hlc hx2 hr2 hnil2 hlc2
    rcases hways with q1 | ⟨q1, q2⟩ <;>
      (go_enter Tryd.func6, Tryd.ntmps6
       go_wp2_with fail
       refine (lives_any w HT.out).mono ?_
       rintro e w1 ⟨rfl, hb1⟩
       have HB1 := Lib.hid hb1
       have HT1 := Lib.hid (HT.out.below hb1 HT.out.lt)
       clear hb1
       go_wp2_with fail
       refine (lives_any w1 HT1.out).mono ?_
       rintro e w2 ⟨rfl, hb2⟩
       have HB2 := Lib.hid (HB1.out.trans (hb2.mono HB1.out.size))
       clear hb2
       go_wp2_with fail
       go_ret
       exact ⟨rfl, HB2.out⟩)
  · have q1 : decide (200 < (len : Int)) = false := by simp; omega
    have q2 : decide (50 < (len2 : Int)) = false := by simp; omega
    have hl200 : len ≤ 200 := by omega
    have hl50 : len2 ≤ 50 := by omega
    have HX := Lib.hid hx
    have HR := Lib.hid hr
    have HX2 := Lib.hid hx2
    have HR2 := Lib.hid hr2
    have HNIL2 := Lib.hid hnil2
    clear hbad hx hr hnil hlc hx2 hr2 hnil2 hlc2
    go_enter Tryd.func6, Tryd.ntmps6
    go_wp2_with fail
    refine (lives_any w HT.out).mono ?_
    rintro e w1 ⟨rfl, hb1⟩
    have HB1 := Lib.hid hb1
    have HT1 := Lib.hid (HT.out.below hb1 HT.out.lt)
    clear hb1
    go_wp2_with fail
    go_loopw [7, 8, 9, 10, 11] (fun sv si _ _ _ wr => ∃ (i k : Nat) (Xs : List (List Bool)), si = .int .i64 (i : Int) ∧ i ≤ len + 1 ∧ k ≤ 30 ∧ Hid (Xs.length = k) ∧ Hid (∀ X ∈ Xs, X.length = 40) ∧ Hid (Rws wr w1.heap.size (fun _ => False) sv (Xs.map changes)) ∧ Hid (∃ q c, sv = .slice q k c ∧ k ≤ c) ∧ Hid (Below w1.heap.size w1 wr)) (fun _ si _ _ _ _ => len + 2 - (intOf si).toNat)
    case atStart => exact ⟨0, 0, [], rfl, by omega, by omega, Lib.hid rfl, Lib.hid (fun X h => by cases h), Lib.hid (Rws.nil _ _ _), Lib.hid ⟨none, 0, rfl, Nat.le_refl _⟩, Lib.hid (Below.refl _ _)⟩
    case round =>
      obtain ⟨i, k, Xs, rfl, hi, hk, HXL, HXN, HWr, HF, HBr⟩ := hrel
      obtain ⟨qv, cv, rfl, hkc⟩ := HF.out
      clear HF
      by_cases hgo : i + 1 < len ∧ k < 30
      · have d1 : decide ((i : Int) + 1 < (len : Int)) = true := by simp; omega
        have d2 : decide ((k : Int) < 30) = true := by simp; omega
        obtain ⟨g1, g2⟩ := hgo
        obtain ⟨b, off, rfl, hbb, hcell⟩ := HR.out (by rw [HX.out]; omega)
        have hb1w : Below w.heap.size w wr := HB1.out.trans (HBr.out.mono HB1.out.size)
        have c1 := (hb1w.cell (p := ⟨b, off + i, none⟩) hbb).trans (hcell i (by rw [HX.out]; omega))
        have c2 := (hb1w.cell (p := ⟨b, off + (i + 1), none⟩) hbb).trans (hcell (i + 1) (by rw [HX.out]; omega))
        have hx1 := (xs[i]'(by rw [HX.out]; omega)).toNat_lt
        have hx2 := (xs[i + 1]'(by rw [HX.out]; omega)).toNat_lt
        generalize (xs[i]'(by rw [HX.out]; omega)).toNat = x at *
        generalize (xs[i + 1]'(by rw [HX.out]; omega)).toNat = y at *
        obtain ⟨a, ha⟩ : ∃ a, a = x % 40 := ⟨_, rfl⟩
        obtain ⟨bq, hbq⟩ : ∃ a, a = y % 40 := ⟨_, rfl⟩
        have t1 : (x : Int).tmod 40 = (a : Int) := by rw [Int.tmod_eq_emod_of_nonneg (by omega)]; omega
        have t2 : (y : Int).tmod 40 = (bq : Int) := by rw [Int.tmod_eq_emod_of_nonneg (by omega)]; omega
        have ha40 : a < 40 := by omega
        have hb40 : bq < 40 := by omega
        have i0 : (0 : Int) ≤ (i : Int) := by omega
        have i1 : (i : Int) < (len : Int) := by omega
        have i2 : (0 : Int) ≤ (i : Int) + 1 := by omega
        have i3 : (i : Int) + 1 < (len : Int) := by omega
        have HBW := Lib.hid hb1w
        clear hcell hb1w ha hbq
        go_wp2_with fail
        go_quiet (fail)
        have HBD := Lib.hid ((show Drawn wr (wr.drewN nq) from ⟨nq, rfl⟩).below wr.heap.size)
        have HW4 := Lib.hid (rws_more HWr.out HBD.out)
        have HB4 := Lib.hid (HBr.out.trans (HBD.out.mono HBr.out.size))
        generalize wr.drewN nq = w4 at *
        generalize Value.slice qv k cv = vv at *
        have HKM : Hid ((Xs.map changes).length = k) := Lib.hid (by rw [List.length_map]; exact HXL.out)
        have hk1000 : k ≤ 1000 := by omega
        clear c1 c2
        by_cases h1 : a < bq
        · have e1 : decide ((a : Int) < (bq : Int)) = true := by simp; omega
          have e1n : decide (a < bq) = true := by simp; omega
          have hb5 : Below w4.heap.size w4 (w4.alloc (.cells #[.int .i64 (a : Int), .int .i64 (bq : Int)] 3)) := alloc_below w4 _
          have HW5 := Lib.hid (rws_more HW4.out hb5)
          have HV5 : Hid (VRow (w4.alloc (.cells #[.int .i64 (a : Int), .int .i64 (bq : Int)] 3)) (w4.alloc (.cells #[.int .i64 (a : Int), .int .i64 (bq : Int)] 3)).heap.size (some ⟨w4.heap.size, 0, none⟩) (ints (zl [a, bq]))) := Lib.hid (ints_new w4 (zl [a, bq]) 3 (0, 0))
          have HB5 := Lib.hid (HB4.out.trans (hb5.mono HB4.out.size))
          have hfr : ∀ ad : Addr, (some ⟨w4.heap.size, 0, none⟩ : Option Addr) = some ad → 0 < ([a, bq] : List Nat).length → w1.heap.size ≤ ad.block ∧ vv.ownBlock ≠ some ad.block ∧ ¬ False := fun ad hE h0 => by
            have h4 := HB4.out.size
            injection hE with hE
            refine ⟨by rw [← hE]; exact h4, fun e => ?_, fun e => e⟩
            have := rws_lt HW4.out e
            rw [← hE] at this
            simp at this
          have HFR := Lib.hid hfr
          have hbz : w1.heap.size ≤ (w4.alloc (.cells #[.int .i64 (a : Int), .int .i64 (bq : Int)] 3)).heap.size := HB5.out.size
          clear hfr hb5
          go_wp2_with (at_builtin; refine wpList_append_rws rfl _ _ rfl w1.heap.size (fun _ => False) _ (Xs.map changes) k HKM.out rfl HW5.out [a, bq] (some ⟨w4.heap.size, 0, none⟩) 2 2 rfl HV5.out (Nat.le_refl _) HFR.out (fun _ _ e => e) rfl (show Value.slice (some ⟨w4.heap.size + 1, 0, none⟩) 1 1 = Value.slice (some ⟨(w4.alloc _).heap.size, 0, none⟩) 1 1 by rw [alloc_size]) hk1000 hbz ?_)
          intro v7 w7 hw7 hb7 hown7 ho7
          have HW7 : Hid (Rws w7 w1.heap.size (fun _ => False) v7 ((Xs ++ [pix (pairT a bq) 40]).map changes)) := Lib.hid (by
            rw [List.map_append, List.map_singleton, changes_pix 40 _ (pairT_valid ha40 hb40), pairT_lt h1]
            exact hw7)
          have HB7 := Lib.hid (HB5.out.trans hb7)
          have HX7 : Hid (∀ Y ∈ Xs ++ [pix (pairT a bq) 40], Y.length = 40) := Lib.hid (fun Y hY => by
            rcases List.mem_append.1 hY with e | e
            · exact HXN.out Y e
            · rw [List.mem_singleton.1 e]; exact pix_length _ _)
          have HF7 : Hid (∃ q c, v7 = .slice q (k + 1) c ∧ k + 1 ≤ c) := Lib.hid (by
            obtain ⟨q, c, e1, _, e3, _⟩ := hw7.tbl
            rw [List.length_append, HKM.out] at e1 e3
            exact ⟨q, c, e1, e3⟩)
          clear hw7 hb7 hown7 ho7
          go_wp2_with fail
          go_roundw
          case rel => exact ⟨i + 2, k + 1, Xs ++ [pix (pairT a bq) 40], by go_num, by omega, by omega, Lib.hid (by rw [List.length_append, HXL.out]; rfl), HX7, HW7, HF7, HB7⟩
          case measure => simp [intOf]; omega
        · by_cases h2 : a = bq
          · subst h2
            have e1 : decide ((a : Int) < (a : Int)) = false := by simp
            have e1n : decide (a < a) = false := by simp
            have e3 : ((a : Int) == (a : Int)) = true := by simp
            have e3n : (a == a) = true := by simp
            have hb5 : Below w4.heap.size w4 (w4.alloc (.cells #[.int .i64 (a : Int)] 3)) := alloc_below w4 _
            have HW5 := Lib.hid (rws_more HW4.out hb5)
            have HV5 : Hid (VRow (w4.alloc (.cells #[.int .i64 (a : Int)] 3)) (w4.alloc (.cells #[.int .i64 (a : Int)] 3)).heap.size (some ⟨w4.heap.size, 0, none⟩) (ints (zl [a]))) := Lib.hid (ints_new w4 (zl [a]) 3 (0, 0))
            have HB5 := Lib.hid (HB4.out.trans (hb5.mono HB4.out.size))
            have hfr : ∀ ad : Addr, (some ⟨w4.heap.size, 0, none⟩ : Option Addr) = some ad → 0 < ([a] : List Nat).length → w1.heap.size ≤ ad.block ∧ vv.ownBlock ≠ some ad.block ∧ ¬ False := fun ad hE h0 => by
              have h4 := HB4.out.size
              injection hE with hE
              refine ⟨by rw [← hE]; exact h4, fun e => ?_, fun e => e⟩
              have := rws_lt HW4.out e
              rw [← hE] at this
              simp at this
            have HFR := Lib.hid hfr
            have hbz : w1.heap.size ≤ (w4.alloc (.cells #[.int .i64 (a : Int)] 3)).heap.size := HB5.out.size
            clear hfr hb5
            go_wp2_with (at_builtin; refine wpList_append_rws rfl _ _ rfl w1.heap.size (fun _ => False) _ (Xs.map changes) k HKM.out rfl HW5.out [a] (some ⟨w4.heap.size, 0, none⟩) 1 1 rfl HV5.out (Nat.le_refl _) HFR.out (fun _ _ e => e) rfl (show Value.slice (some ⟨w4.heap.size + 1, 0, none⟩) 1 1 = Value.slice (some ⟨(w4.alloc _).heap.size, 0, none⟩) 1 1 by rw [alloc_size]) hk1000 hbz ?_)
            intro v7 w7 hw7 hb7 hown7 ho7
            have HW7 : Hid (Rws w7 w1.heap.size (fun _ => False) v7 ((Xs ++ [pix (pairT a a) 40]).map changes)) := Lib.hid (by
              rw [List.map_append, List.map_singleton, changes_pix 40 _ (pairT_valid ha40 hb40), pairT_eq rfl]
              exact hw7)
            have HB7 := Lib.hid (HB5.out.trans hb7)
            have HX7 : Hid (∀ Y ∈ Xs ++ [pix (pairT a a) 40], Y.length = 40) := Lib.hid (fun Y hY => by
              rcases List.mem_append.1 hY with e | e
              · exact HXN.out Y e
              · rw [List.mem_singleton.1 e]; exact pix_length _ _)
            have HF7 : Hid (∃ q c, v7 = .slice q (k + 1) c ∧ k + 1 ≤ c) := Lib.hid (by
              obtain ⟨q, c, e1, _, e3, _⟩ := hw7.tbl
              rw [List.length_append, HKM.out] at e1 e3
              exact ⟨q, c, e1, e3⟩)
            clear hw7 hb7 hown7 ho7
            go_wp2_with fail
            go_roundw
            case rel => exact ⟨i + 2, k + 1, Xs ++ [pix (pairT a a) 40], by go_num, by omega, by omega, Lib.hid (by rw [List.length_append, HXL.out]; rfl), HX7, HW7, HF7, HB7⟩
            case measure => simp [intOf]; omega
          · have e1 : decide ((a : Int) < (bq : Int)) = false := by simp; omega
            have e1n : decide (a < bq) = false := by simp; omega
            have e3 : ((a : Int) == (bq : Int)) = false := by simp; omega
            have e3n : (a == bq) = false := by simp; omega
            have HW5 := HW4
            have HV5 : Hid (VRow w4 w4.heap.size none (ints (zl []))) := Lib.hid (fun h => absurd h (by simp [ints, zl]))
            have HB5 := HB4
            have hfr : ∀ ad : Addr, (none : Option Addr) = some ad → 0 < ([] : List Nat).length → w1.heap.size ≤ ad.block ∧ vv.ownBlock ≠ some ad.block ∧ ¬ False := fun ad hE h0 => by
              have h4 := HB4.out.size
              cases hE
            have HFR := Lib.hid hfr
            have hbz : w1.heap.size ≤ w4.heap.size := HB4.out.size
            clear hfr
            go_wp2_with (at_builtin; refine wpList_append_rws rfl _ _ rfl w1.heap.size (fun _ => False) _ (Xs.map changes) k HKM.out rfl HW5.out [] (none) 0 0 rfl HV5.out (Nat.le_refl _) HFR.out (fun _ _ e => e) rfl rfl hk1000 hbz ?_)
            intro v7 w7 hw7 hb7 hown7 ho7
            have HW7 : Hid (Rws w7 w1.heap.size (fun _ => False) v7 ((Xs ++ [pix (pairT a bq) 40]).map changes)) := Lib.hid (by
              rw [List.map_append, List.map_singleton, changes_pix 40 _ (pairT_valid ha40 hb40), pairT_gt (by omega)]
              exact hw7)
            have HB7 := Lib.hid (HB5.out.trans hb7)
            have HX7 : Hid (∀ Y ∈ Xs ++ [pix (pairT a bq) 40], Y.length = 40) := Lib.hid (fun Y hY => by
              rcases List.mem_append.1 hY with e | e
              · exact HXN.out Y e
              · rw [List.mem_singleton.1 e]; exact pix_length _ _)
            have HF7 : Hid (∃ q c, v7 = .slice q (k + 1) c ∧ k + 1 ≤ c) := Lib.hid (by
              obtain ⟨q, c, e1, _, e3, _⟩ := hw7.tbl
              rw [List.length_append, HKM.out] at e1 e3
              exact ⟨q, c, e1, e3⟩)
            clear hw7 hb7 hown7 ho7
            go_wp2_with fail
            go_roundw
            case rel => exact ⟨i + 2, k + 1, Xs ++ [pix (pairT a bq) 40], by go_num, by omega, by omega, Lib.hid (by rw [List.length_append, HXL.out]; rfl), HX7, HW7, HF7, HB7⟩
            case measure => simp [intOf]; omega
      · have hdd : i + 1 < len → decide ((k : Int) < 30) = false := fun h => by simp; omega
        obtain ⟨ql, cl, hvl, htl, hkc2, _⟩ := HWr.out.tbl
        rw [List.length_map, HXL.out] at hvl
        obtain ⟨rfl, rfl⟩ : qv = ql ∧ cv = cl := by injection hvl with e1 e2 e3; exact ⟨e1, e3⟩
        have HTL := Lib.hid htl
        have HBW := Lib.hid (HB1.out.trans (HBr.out.mono HB1.out.size))
        have HTr := Lib.hid (HT1.out.below HBr.out HT1.out.lt)
        have HEN := Lib.hid (hencode_any wr HTr.out qv k cv Xs 40 htl HXL.out (by omega) HXN.out (by omega) (by omega) 4779 rfl (by omega))
        have hpl := rowsP_lenW (show 40 ≤ 400 by omega) Xs (List.replicate 40 false) (by simp) HXN.out
        rw [HXL.out] at hpl
        have hsl := spot_lt z (k + 1) (by omega)
        have hsc := spot_cast z (k + 1)
        obtain ⟨kk, hkk⟩ : ∃ kk, kk = spot z (k + 1) := ⟨_, rfl⟩
        rw [← hkk] at hsl hsc
        rw [show ((k + 1 : Nat) : Int) = (k : Int) + 1 from by omega] at hsc
        have hz1 : ¬ ((k : Int) + 1 = 0) := by omega
        have hz2 : ((k : Int) + 1 == 0) = false := by simp; omega
        have HPF := Lib.hid (page_few (show 0 < 40 by omega) Xs ts HXN.out kk (by rw [HXL.out]; omega))
        have hpb := (page_back (show 0 < 40 by omega) Xs [] HXN.out).2
        rw [HXL.out] at hpb
        have HPB := Lib.hid hpb
        have hbl : (packB false (rowsP 40 (List.replicate 40 false) Xs ++ eofb)).length ≤ 300000 := by rw [packB_length, List.length_append, show eofb.length = 24 from rfl]; omega
        obtain ⟨BT, hBT⟩ : ∃ BT, BT = packB false (rowsP 40 (List.replicate 40 false) Xs ++ eofb) := ⟨_, rfl⟩
        unfold EncP at HEN
        rw [← hBT] at HEN hbl HPF HPB
        obtain ⟨m1, hm1⟩ : ∃ m1, m1 = BT.length := ⟨_, rfl⟩
        rw [← hm1] at HEN hbl
        have HM1 := Lib.hid hm1.symm
        have hend : decide ((i : Int) + 1 < (len : Int)) = true → decide ((k : Int) < 30) = false := fun h => hdd (by have := of_decide_eq_true h; omega)
        clear hvl htl hpl hpb hBT hm1 hkk hdd hgo
        have hcase : decide ((i : Int) + 1 < (len : Int)) = false ∨ (decide ((i : Int) + 1 < (len : Int)) = true ∧ decide ((k : Int) < 30) = false) := by
          rcases hq : decide ((i : Int) + 1 < (len : Int)) with _ | _
          · exact .inl rfl
          · exact .inr ⟨rfl, hend hq⟩
        clear hend
        have HEN2 : Hid (Calls Tryd.prog 9 #[.slice qv k cv, .int .i64 40] wr fun e w' => Below wr.heap.size wr w' ∧ ∃ q c, e = .returned (.tuple #[.slice q m1 c, .int .i64 0]) ∧ Row w' q BT ∧ (q = none → c = 0) ∧ m1 ≤ c) := Lib.hid HEN.out
        have HSL : Hid (kk < k + 1) := Lib.hid hsl
        have hk30 : k ≤ 30 := by omega
        have hkk30 : kk ≤ 30 := by omega
        clear HEN hk
        rcases hcase with e1 | ⟨e1, e2⟩ <;>
          (go_wp2_with fail
           refine HEN2.out.mono ?_
           rintro e w6 ⟨hb6, qe, cc1, rfl, hr6, hn6, hc6⟩
           have HT6 := Lib.hid (HTr.out.below hb6 HTr.out.lt)
           have HB6 := Lib.hid (HBW.out.trans (hb6.mono HBW.out.size))
           have HTL6 := Lib.hid ((HTL.out.below hb6).mono hb6.size)
           have HRB := Lib.hid hr6
           have HN1 := Lib.hid hn6
           have hown := World.ownsRow_made (base := w6.heap.size) (e := 5) (size := 1) w6 #[] 0 (Nat.le_refl _) (by simp [maxLen]) rfl
           have hbA : Below w6.heap.size w6 (w6.alloc (.cells #[] 5)) := alloc_below w6 _
           have HRA := Lib.hid (hr6.below hbA)
           have HBA := Lib.hid hbA
           clear hb6 hr6 hn6 hbA HEN2 HTL HWr
           go_wp2_with (at_builtin; refine wpList_append_bytes rfl _ _ rfl w6.heap.size _ 0 [] rfl hown qe m1 cc1 BT rfl HRA.out HM1.out HN1.out (by omega) (by simp) ?_)
           intro v7 w7 hown7 hgrow7 hv7
           have HB7 := Lib.hid (HBA.out.trans (grown_below hown hgrow7 HBA.out.size))
           have HO7 := Lib.hid hown7
           have HRT7 := Lib.hid (HR2.out.below (HB6.out.trans (HB7.out.mono HB6.out.size)))
           have HZ7 := Lib.hid HB7.out.size
           obtain ⟨q7, c7, rfl, _, _, _, _⟩ := own_shape hown7 HM1.out
           clear hown hown7 hgrow7 hv7 HRA HBA
           go_wp2_with (at_builtin; refine wpList_append_bytes rfl _ _ rfl w6.heap.size _ m1 BT rfl HO7.out p2 len2 cap2 ts rfl HRT7.out HX2.out HNIL2.out (by omega) HZ7.out ?_)
           intro v8 w8 hown8 hgrow8 hv8
           obtain ⟨M2, hM2⟩ : ∃ M2, m1 + len2 = M2 := ⟨_, rfl⟩
           rw [hM2] at hown8
           have hM2b : M2 ≤ 300050 := by omega
           have HL8 : Hid ((BT ++ ts).length = M2) := Lib.hid (by rw [List.length_append, HM1.out, HX2.out, hM2])
           obtain ⟨q8, c8, rfl, hq8, hc8, hm8, hrow8⟩ := own_shape hown8 HL8.out
           have HB8 := Lib.hid (HB7.out.trans (grown_below HO7.out hgrow8 HZ7.out))
           have HDE : Hid (Calls Tryd.prog 11 #[.slice q8 M2 c8, .int .i64 40, .int .i64 (kk : Int)] w8 (DecP w8 (.ok (Xs.take kk)))) := Lib.hid (by
             have h := hdecode_any w8 (HT6.out.below HB8.out HT6.out.lt) q8 M2 c8 (BT ++ ts) 40 kk hrow8 HL8.out hq8 (by omega) (by omega) (by omega) (by omega)
             rw [HPF.out] at h
             exact h)
           have HT8 := Lib.hid (HT6.out.below HB8.out HT6.out.lt)
           clear hown8 hgrow8 hv8 hrow8 hq8 hc8 hm8 hM2 HO7 HZ7 HRT7 HB7 HL8
           go_wp2_with fail
           refine HDE.out.mono ?_
           rintro e w9 ⟨hb9, q9, c9, rfl, ht9⟩
           rw [show (Xs.take kk).length = kk from by rw [List.length_take, HXL.out]; have := HSL.out; omega]
           have HB69 := Lib.hid (HB8.out.trans (hb9.mono HB8.out.size))
           have HT9 := Lib.hid ht9
           have HTB9 := Lib.hid (HT8.out.below hb9 HT8.out.lt)
           have HDE2 : Hid (Calls Tryd.prog 11 #[.slice qe m1 cc1, .int .i64 40, .int .i64 ((k : Int) + 1)] w9 (DecP w9 (.error 2))) := Lib.hid (by
             have h := hdecode_any w9 HTB9.out qe m1 cc1 BT 40 (k + 1) (HRB.out.below HB69.out) HM1.out HN1.out (by omega) (by omega) (by omega) (by omega)
             rw [HPB.out] at h
             exact h)
           clear hb9 ht9 HDE
           go_wp2_with fail
           refine HDE2.out.mono ?_
           rintro e w10 ⟨hb10, rfl⟩
           have HB610 := Lib.hid (HB69.out.trans (hb10.mono HB69.out.size))
           have HT10 := Lib.hid ((HT9.out.below hb10).mono hb10.size)
           have HTl := Lib.hid ((HTL6.out.below HB610.out).mono HB610.out.size)
           have HBF := Lib.hid (HB6.out.trans (HB610.out.mono HB6.out.size))
           clear hb10 HDE2
           go_wp2_with fail
           go_loopw [123] (fun sk wr => ∃ i : Nat, i ≤ kk ∧ sk = .int .i64 (i : Int) ∧ Hid (Below w10.heap.size w10 wr)) (fun sk _ => kk - (intOf sk).toNat)
           case atStart => exact ⟨0, by omega, rfl, Lib.hid (Below.refl _ _)⟩
           case round =>
             obtain ⟨i3, hi3, rfl, HBq⟩ := hrel
             by_cases hlti : i3 < kk
             · have hdi : decide ((i3 : Int) < (kk : Int)) = true := by simp; omega
               have hiX : i3 < Xs.length := by rw [HXL.out]; omega
               have hiR : i3 < (Xs.map changes).length := by rw [List.length_map]; exact hiX
               have hiT : i3 < ((Xs.take kk).map changes).length := by rw [List.length_map, List.length_take]; omega
               have hsame : ((Xs.take kk).map changes)[i3] = (Xs.map changes)[i3] := by rw [List.getElem_map, List.getElem_map, List.getElem_take]
               obtain ⟨bx, o1, he1, qx, cx, hc1, hv1, hcx⟩ := (HTl.out.below HBq.out).get hiR
               obtain ⟨b2, o2, he2, qy, cy, hc2, hv2, hcy⟩ := (HT10.out.below HBq.out).get hiT
               rw [hsame] at hc2 hv2
               have hX3 : (Xs.map changes)[i3].length ≤ 40 := by
                 rw [List.getElem_map]
                 have h1 := HXN.out Xs[i3] (List.getElem_mem hiX)
                 have := Rn.chg_len Xs[i3] false 0
                 unfold changes
                 omega
               generalize (Xs.map changes)[i3] = d at *
               subst he1 he2
               obtain ⟨md, hmd⟩ : ∃ md, md = d.length := ⟨_, rfl⟩
               rw [← hmd] at hc1 hc2 hX3
               have HV1 := Lib.hid hv1
               have HV2 := Lib.hid hv2
               have HMD := Lib.hid hmd
               have j1 : (0 : Int) ≤ (i3 : Int) := by omega
               have j2 : (i3 : Int) < (kk : Int) := by omega
               have j3 : (i3 : Int) < (k : Int) := by have := HSL.out; omega
               clear hv1 hv2 hcx hcy hmd hsame hiR hiX hiT
               go_wp2_with fail
               go_quiet (fail)
               have HBD := Lib.hid ((show Drawn wr (wr.drewN nq) from ⟨nq, rfl⟩).below w10.heap.size)
               have HBq2 := Lib.hid (HBq.out.trans HBD.out)
               have hcw1 : (wr.drewN nq).cell? ⟨bx, o1 + i3, none⟩ = some (.slice qx md cx) := hc1
               have hcw2 : (wr.drewN nq).cell? ⟨b2, o2 + i3, none⟩ = some (.slice qy md cy) := hc2
               have HVW1 : Hid (VRow (wr.drewN nq) _ qx (ints (zl d))) := Lib.hid HV1.out
               have HVW2 : Hid (VRow (wr.drewN nq) _ qy (ints (zl d))) := Lib.hid HV2.out
               clear hc1 hc2 HV1 HV2
               generalize wr.drewN nq = w11 at *
               go_wp2_with fail
               go_loopw [142] (fun sj wq => ∃ j : Nat, j ≤ md ∧ sj = .int .i64 (j : Int) ∧ Hid (Drawn w11 wq)) (fun sj _ => md - (intOf sj).toNat)
               case atStart => exact ⟨0, by omega, rfl, Lib.hid ⟨0, rfl⟩⟩
               case round =>
                 obtain ⟨j, hj, rfl, HDq⟩ := hrel
                 by_cases hjt : j < md
                 · have hdj : decide ((j : Int) < (md : Int)) = true := by simp; omega
                   have hjd : j < (zl d).length := by rw [zl_length, ← HMD.out]; exact hjt
                   obtain ⟨bq1, oq1, hq1, _⟩ := HVW1.out.addr (by rw [ints_length]; omega)
                   obtain ⟨bq2, oq2, hq2, _⟩ := HVW2.out.addr (by rw [ints_length]; omega)
                   subst hq1 hq2
                   have g1 := HVW1.out.int j hjd
                   have g2 := HVW2.out.int j hjd
                   generalize (zl d)[j] = vv at *
                   have j4 : (0 : Int) ≤ (j : Int) := by omega
                   have j5 : (j : Int) < (md : Int) := by omega
                   obtain ⟨nd, rfl⟩ := HDq.out
                   have g3 : (w11.drewN nd).cell? ⟨bq1, oq1 + j, none⟩ = some (.int .i64 vv) := g1
                   have g4 : (w11.drewN nd).cell? ⟨bq2, oq2 + j, none⟩ = some (.int .i64 vv) := g2
                   have g5 : (w11.drewN nd).cell? ⟨bx, o1 + i3, none⟩ = some (.slice (some ⟨bq1, oq1, none⟩) md cx) := hcw1
                   have g6 : (w11.drewN nd).cell? ⟨b2, o2 + i3, none⟩ = some (.slice (some ⟨bq2, oq2, none⟩) md cy) := hcw2
                   have HDM := Lib.hid (fun n => HDq.out.more n)
                   clear g1 g2 hjd
                   generalize w11.drewN nd = w12 at *
                   go_wp2_with fail
                   go_quiet (fail)
                   have HDN := Lib.hid (HDM.out nq)
                   try go_wp2_with fail
                   go_roundw
                   case rel => exact ⟨j + 1, by omega, by go_num, HDN⟩
                   case measure => simp [intOf]; omega
                 · have hje : j = md := by omega
                   subst hje
                   have hdj : decide ((j : Int) < (j : Int)) = false := by simp
                   have HBq3 := Lib.hid (HBq2.out.trans (HDq.out.below _))
                   go_wp2_with fail
                   go_roundw
                   case rel => exact ⟨i3 + 1, by omega, by go_num, HBq3⟩
                   case measure => simp [intOf]; omega
             · have hie : i3 = kk := by omega
               subst hie
               have hdi : decide ((i3 : Int) < (i3 : Int)) = false := by simp
               have HBE := Lib.hid (HBF.out.trans ((HBq.out.mono HB610.out.size).mono HB6.out.size))
               go_wp2_with fail
               go_ret
               exact ⟨rfl, HBE.out⟩)
end Go.Proofs.YtmbfgejephgojaaDoor.Gf

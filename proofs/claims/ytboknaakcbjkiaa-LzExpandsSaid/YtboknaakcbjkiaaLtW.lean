
/- The walk of the law LzExpands. -/
import Derived.Test.YtboknaakcbjkiaaLtJ
namespace Go.Proofs.Ytboknaakcbjkiaa.Lzt
open Go.RowKit Go.Proofs.Ytboknaakcbjkiaa.Oct
set_option linter.unusedVariables false
set_option linter.unusedSimpArgs false
set_option maxRecDepth 100000

theorem err_small {m : Int} : ∀ (l : List Tok) (o : List UInt8) (c : Nat), expX m l o = .error c → c ≤ 8
  | [], o, c, h => by cases h
  | t :: l, o, c, h => by
    rcases hs : stepX m t o with e | o1
    · rw [exp_err hs] at h
      cases h
      unfold stepX at hs
      split at hs
      · split at hs
        · cases hs; decide
        · cases hs
      · split at hs
        · cases hs; decide
        · split at hs
          · cases hs; decide
          · split at hs
            · cases hs; decide
            · cases hs
    · rw [exp_ok hs] at h
      exact err_small l o1 c h
/-- the answer, in one form -/
def AnsP (w : World) (m : Int) (l : List Tok) (o : List UInt8) (c : Nat) (e : Ending) (w' : World) : Prop :=
  Below w.heap.size w w' ∧ ∃ q n k, e = .returned (.tuple #[.slice q n k, .int .i64 (c : Int)]) ∧ o.length = n ∧ Row w' q o
theorem exp_both (m : Int) (l : List Tok) : ∃ (o : List UInt8) (c : Nat), c ≤ 8 ∧ (∀ w e w', ExpP w m l e w' → AnsP w m l o c e w') ∧
    (∀ w e w', ExpS w m l e w' → Below w.heap.size w w' ∧ e = .returned (.tuple #[.string (bs o), .int .i64 (c : Int)])) := by
  rcases h : expX m l [] with c | o
  · refine ⟨[], c, err_small l [] c h, fun w e w' hp => ?_, fun w e w' hp => ?_⟩
    · obtain ⟨hb, rfl⟩ := hp.err h
      exact ⟨hb, none, 0, 0, rfl, rfl, fun h => absurd h (by simp)⟩
    · refine ⟨hp.1, ?_⟩
      rcases hp.2 with ⟨o2, h1, _⟩ | ⟨c2, h1, h2⟩
      · rw [h] at h1; cases h1
      · rw [h] at h1
        cases h1
        exact h2
  · refine ⟨o, 0, by decide, fun w e w' hp => ?_, fun w e w' hp => ?_⟩
    · obtain ⟨hb, q, c, rfl, hr⟩ := hp.ok h
      exact ⟨hb, q, _, c, rfl, rfl, hr⟩
    · refine ⟨hp.1, ?_⟩
      rcases hp.2 with ⟨o2, h1, _, h2⟩ | ⟨c2, h1, _⟩
      · rw [h] at h1
        cases h1
        exact h2
      · rw [h] at h1; cases h1
set_option maxHeartbeats 4000000 in
theorem expands_walk (p : Option Addr) (len cap : Nat) (m : Int) (w : World) (h : IsToks w p len cap) (hm : (Lit.int .i64 m).wf = true) :
    Calls Try.prog 3 #[.slice p len cap, .int .i64 m] w fun e w' => e = .returned (.bool true) ∧ Below w.heap.size w w' := by
  obtain ⟨hlc, hcm, hnil, l, hll, htk⟩ := h
  obtain ⟨hm1, hm2⟩ := bounds_i64 hm
  by_cases hbig : 100 < len ∨ 100000 < m
  · have hd : decide (100 < (len : Int)) = true ∨ (decide (100 < (len : Int)) = false ∧ decide (100000 < m) = true) := by
      simp only [decide_eq_true_eq, decide_eq_false_iff_not]
      omega
    clear hbig htk
    rcases hd with hd | ⟨hd, hd'⟩
    all_goals
      go_enter Try.func3, Try.ntmps3
      go_wp2_with fail
      refine (lives_any _).mono ?_
      rintro e w1 ⟨rfl, hb1⟩
      go_wp2_with fail
      refine (lives_any _).mono ?_
      rintro e w2 ⟨rfl, hb2⟩
      go_wp2_with fail
      go_ret
      exact ⟨rfl, hb1.trans (hb2.mono hb1.size)⟩
  · have hd : decide (100 < (len : Int)) = false := by simp; omega
    have hd' : decide (100000 < m) = false := by simp; omega
    have hlen : len ≤ 100 := by omega
    have hmm : m ≤ 100000 := by omega
    have HT := Lib.hid htk
    have HLL := Lib.hid hll
    obtain ⟨o, c, hc8, hpP, hpS⟩ := exp_both m l
    have HP := Lib.hid hpP
    have HS := Lib.hid hpS
    have hmx : len ≤ maxLen := by omega
    clear htk hll hbig hpP hpS hcm
    go_enter Try.func3, Try.ntmps3
    go_wp2_with fail
    refine (lives_any _).mono ?_
    rintro e w1 ⟨rfl, hb1⟩
    have HOZ := Lib.hid (town_made w1 w1.heap.size (Nat.le_refl _))
    have HB1 := Lib.hid hb1
    have HTZ : Hid (Toks (w1.alloc (.cells #[] 31)) (w1.alloc (.cells #[] 31)).heap.size p l) := Lib.hid (((HT.out.below hb1 (Nat.le_refl _)).mono hb1.size).below (alloc_below w1 _) (Nat.le_refl _) |>.mono (by rw [alloc_size]; exact Nat.le_succ _))
    clear hb1
    go_wp2_with (at_builtin; refine wpList_append_toks rfl _ _ rfl w1.heap.size (.slice (some ⟨w1.heap.size, 0, none⟩) 0 0) [] rfl HOZ.out p len cap l rfl HTZ.out HLL.out hnil (by simp; omega) (by rw [alloc_size]; exact Nat.le_succ _) ?_; intro v3 w3 ho3 hg3 hb3; have HO3 := Lib.hid ho3; have HB3 := Lib.hid (HB1.out.trans ((((alloc_below w1 (.cells #[] 31))).trans hb3).mono HB1.out.size)); clear ho3 hg3 hb3)
    rw [List.nil_append] at HO3
    obtain ⟨q5, c5, rfl, hs1, hs2, hs3, hs4, hs5⟩ := HO3.out.shape HT.out.1
    have HE1 := Lib.hid (expand_any q5 l.length c5 m l w3 rfl (by rw [HLL.out]; omega) hmm hs4)
    have HT5 := Lib.hid hs4
    rw [HLL.out] at HE1
    clear hs4 hs5
    have hln := HLL.out
    rw [hln]
    clear hln
    refine HE1.out.mono ?_
    intro e w4 hp4
    obtain ⟨hb4, q6, n6, c6, rfl, hn6, hrow6⟩ := HP.out _ _ _ hp4
    have HB4 := Lib.hid (HB3.out.trans (hb4.mono HB3.out.size))
    have HT6 := Lib.hid (HT5.out.below hb4 (Nat.le_refl _))
    have HZ4 := Lib.hid hb4.size
    have HR6 := Lib.hid hrow6
    have HN6 := Lib.hid hn6
    have HTA := Lib.hid ((HT.out.below HB4.out (Nat.le_refl _)).mono HB4.out.size)
    have HE2 := Lib.hid (rexpand_any p l.length cap m l w4 rfl (by rw [HLL.out]; omega) HTA.out)
    rw [HLL.out] at HE2
    clear hp4 hb4 hrow6 hn6 HE1
    go_wp2_with fail
    refine HE2.out.mono ?_
    intro e w7 hp7
    obtain ⟨hb7, rfl⟩ := HS.out _ _ _ hp7
    have HB7 := Lib.hid (HB4.out.trans (hb7.mono HB4.out.size))
    have HT7 := Lib.hid (HT6.out.below hb7 HZ4.out)
    have HR7 := Lib.hid (HR6.out.below hb7)
    have HTP := Lib.hid (HT.out.below HB7.out (Nat.le_refl _))
    clear hp7 hb7
    go_wp2_with fail
    go_loopw [40] (fun i wr => ∃ k : Nat, k ≤ len ∧ i = .int .i64 (k : Int) ∧ Hid (Drawn w7 wr)) (fun i _ => len - (intOf i).toNat)
    case atStart => exact ⟨0, by omega, rfl, Lib.hid ⟨0, rfl⟩⟩
    case round =>
      obtain ⟨k, hk, rfl, HD⟩ := hrel
      by_cases hlt : k < len
      · have ql : decide ((k : Int) < (len : Int)) = true := by simpa using hlt
        have hkl : k < l.length := by rw [HLL.out]; exact hlt
        obtain ⟨b1, o1, rfl, hb1, hc1⟩ := HT7.out.2 (by omega)
        obtain ⟨b2, o2, rfl, hb2, hc2⟩ := HTP.out.2 (by omega)
        have hbd := HD.out.below w7.heap.size
        obtain ⟨c0, c1, c2⟩ := (hc1 k hkl).below hbd (lt_of_cell (hc1 k hkl).1)
        obtain ⟨d0, d1, d2⟩ := (hc2 k hkl).below hbd (lt_of_cell (hc2 k hkl).1)
        generalize l[k] = t at c0 c1 c2 d0 d1 d2
        have i1 : (0 : Int) ≤ (k : Int) := by omega
        have i2 : (k : Int) < (len : Int) := by omega
        clear hc1 hc2 hbd
        go_wp2_with fail
        go_quiet (fail)
        go_wp2_with fail
        go_roundw
        case rel => exact ⟨k + 1, by omega, by first | rfl | (push_cast; rfl), Lib.hid (HD.out.more _)⟩
        case measure => simp [intOf]; omega
      · have ql : decide ((k : Int) < (len : Int)) = false := by simp; omega
        have hcv := conv_row (w := wr) n6 c6 (HR7.out.below (HD.out.below _)) HN6.out
        have HFIN := Lib.hid (HB7.out.trans ((HD.out.below w7.heap.size).mono HB7.out.size))
        go_wp2_with fail
        go_ret
        exact ⟨by first | rfl | simp, HFIN.out⟩
end Go.Proofs.Ytboknaakcbjkiaa.Lzt

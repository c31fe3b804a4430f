
/- The walk of LzwAgain: it returns true for any bytes and any two numbers, and nothing that was there is written. -/
import Derived.Test.YtgdcjhngjdiaoaaLzT
namespace Go.Proofs.Ytgdcjhngjdiaoaa.Lz
open Go.RowKit Go.Proofs.Ytgdcjhngjdiaoaa.Oct Go.Proofs.Ytgdcjhngjdiaoaa.Bit
set_option linter.unusedVariables false
set_option linter.unusedSimpArgs false
set_option maxRecDepth 100000

theorem row_new (w : World) (xs : List UInt8) (T : Nat) (fr : Nat × Nat) : Row (w.alloc (.cells (cellsOf xs).toArray T fr)) (some ⟨w.heap.size, 0, none⟩) xs := by
  intro _
  refine ⟨w.heap.size, 0, rfl, by simp, fun i h => ?_⟩
  rw [World.cell?_alloc_mark, Nat.zero_add]
  simp [cellsOf, h]
/-- the bytes, k times -/
def rep (xs : List UInt8) (k : Nat) : List UInt8 := (List.replicate k xs).flatten
theorem rep_length (xs : List UInt8) (k : Nat) : (rep xs k).length = k * xs.length := by simp [rep]
theorem rep_snoc (xs : List UInt8) (k : Nat) : rep xs (k + 1) = rep xs k ++ xs := by simp [rep, List.replicate_succ']
set_option maxHeartbeats 2000000 in
theorem again_walk (p : Option Addr) (len cap : Nat) (zs0 : List Int) (zt z : Int) (w : World)
    (hr0 : IsRow .u8 w p len cap zs0) (ht0 : (Lit.int .i64 zt).wf = true) (hz0 : (Lit.int .i64 z).wf = true) :
    Calls Try.prog 5 #[.slice p len cap, .int .i64 zt, .int .i64 z] w fun e w' => e = .returned (.bool true) ∧ Below w.heap.size w w' := by
  obtain ⟨xs, hx, hr, hlc, hcm, hnil⟩ := hr0.row
  obtain ⟨hzl, hzu⟩ := bounds_i64 hz0
  obtain ⟨htl, htu⟩ := bounds_i64 ht0
  clear hr0 hz0 ht0
  by_cases hbig : 300 < len
  · have hd : decide (300 < (len : Int)) = true := by simp; omega
    unfold maxLen at hcm
    go_enter Try.func5, Try.ntmps5
    go_wp2_with fail
    refine (lives_any _).mono ?_
    rintro e w1 ⟨rfl, hb1⟩
    go_wp2_with fail
    refine (lives_any _).mono ?_
    rintro e w2 ⟨rfl, hb2⟩
    go_wp2_with fail
    go_ret
    exact ⟨rfl, hb1.trans (hb2.mono hb1.size)⟩
  · have hd : decide (300 < (len : Int)) = false := by simp; omega
    have HX := Lib.hid hx
    have HR := Lib.hid hr
    have HCM := Lib.hid hcm
    have htp := spot_lt zt 40 (by omega)
    have htc : (IntKind.u64.wrap zt).tmod 40 = ((spot zt 40 : Nat) : Int) := spot_cast zt 40
    generalize spot zt 40 = t at htp htc
    unfold maxLen at hcm
    clear hx hr
    go_enter Try.func5, Try.ntmps5
    go_wp2_with fail
    refine (lives_any _).mono ?_
    rintro e w1 ⟨rfl, hb1⟩
    have HB1 := Lib.hid hb1
    clear hb1
    go_wp2_with fail
    go_loopw [7, 29] (fun u i wr => ∃ (k : Nat) (q : Option Addr) (c : Nat), k ≤ 1 + t ∧ i = .int .i64 (k : Int) ∧ u = .slice q (k * len) c ∧ Hid (wr.ownsRow w1.heap.size 5 1 (.slice q (k * len) c) (k * len) (cellsOf (rep xs k))) ∧ Hid (Below w1.heap.size w1 wr))
      (fun _ i _ => 1 + t - (intOf i).toNat)
    case atStart => exact ⟨0, none, 0, by omega, rfl, by simp, Lib.hid (by simpa [rep, cellsOf] using World.ownsRow_nil w1 w1.heap.size 5 1), Lib.hid (Below.refl _ _)⟩
    case round =>
      obtain ⟨k, q, c, hk, rfl, rfl, HO, HB⟩ := hrel
      have hkl : k * len ≤ 40 * 300 := Nat.mul_le_mul (by omega) (by omega)
      by_cases hlt : k < 1 + t
      · have hd5 : decide ((k : Int) < 1 + (t : Int)) = true := by simp; omega
        have HRx := Lib.hid (HR.out.below (HB1.out.trans (HB.out.mono HB1.out.size)))
        have HZ := Lib.hid HB.out.size
        have HRL := Lib.hid (rep_length xs k)
        have hmul : (k + 1) * len = k * len + len := Nat.succ_mul k len
        have HMU := Lib.hid hmul
        clear hmul
        go_wp2_with (at_builtin; refine wpList_append_bytes rfl _ _ rfl w1.heap.size _ (k * len) (rep xs k) rfl HO.out p len cap xs rfl HRx.out HX.out hnil (by omega) HZ.out ?_)
        intro v2 w2 hown2 hgrow2 hv2
        obtain ⟨q2, c2, rfl, _, _, _, _⟩ := own_shape hown2 (by rw [List.length_append, HRL.out, HX.out])
        have HB2 := Lib.hid (HB.out.trans (grown_below HO.out hgrow2 HZ.out))
        rw [← rep_snoc] at hown2
        have HO2 := Lib.hid hown2
        clear hown2 hgrow2 hv2
        go_wp2_with fail
        go_roundw
        case rel => exact ⟨k + 1, q2, c2, by omega, by go_num, by rw [HMU.out], by rw [HMU.out]; exact HO2, HB2⟩
        case measure => simp [intOf]; omega
      · have hke : k = 1 + t := by omega
        subst hke
        have hd5 : decide (((1 + t : Nat) : Int) < 1 + (t : Int)) = false := by simp
        have HRL := Lib.hid ((rep_length xs (1 + t)).trans (by rw [HX.out]))
        generalize rep xs (1 + t) = ys at *
        generalize (1 + t) * len = n at *
        obtain ⟨q0, c0, hqe, hq0, hnc, hc0, hrow0⟩ := own_shape HO.out HRL.out
        injection hqe with e1 e2 e3
        subst e1; subst e3
        have HRy := Lib.hid hrow0
        have HBy := Lib.hid (HB1.out.trans (HB.out.mono HB1.out.size))
        have HC0 := Lib.hid hc0
        unfold maxLen at hc0
        clear hrow0 HO HB e2 htc
        go_wp2_with fail
        refine (encode_any _ _ _ ys _ (by exact HRy.out) HRL.out hnc HC0.out hq0 (by omega)).mono ?_
        rintro e w2 ⟨bits, q1, c1, rfl, hrow1, hoc1, hcm1, hq1, hb2, hcd, hbl⟩
        have HB2 := Lib.hid (HBy.out.trans (hb2.mono HBy.out.size))
        have HRy2 := Lib.hid (HRy.out.below hb2)
        have hall := coded_all hcd [1, 2, 3]
        rw [HRL.out] at hall
        have HALL := Lib.hid hall
        have HLESS := Lib.hid (fun j (hj : j ≤ n) => by
          have h := coded_less hcd [] j (by rw [HRL.out]; exact hj)
          rw [List.append_nil] at h
          exact h)
        have hmore := coded_more hcd [] (n + 1) (by rw [HRL.out]; omega)
        rw [List.append_nil] at hmore
        have HMORE := Lib.hid hmore
        have hpl := packB_length false bits
        rw [HRL.out] at hbl
        have hpb : (packB false bits).length ≤ 60000 := by rw [hpl]; omega
        clear hcd hall hmore hpl hbl
        generalize packB false bits = o1 at *
        have HRW1 := Lib.hid hrow1
        have hown := World.ownsRow_made (base := w2.heap.size) (e := 5) (size := 1) w2 #[] 0 (Nat.le_refl _) (by simp [maxLen]) rfl
        have hbA : Below w2.heap.size w2 (w2.alloc (.cells #[] 5)) := (Below.refl _ w2).alloc (Nat.le_refl _) _
        have HRA := Lib.hid (hrow1.below hbA)
        have HBA := Lib.hid hbA
        unfold maxLen at hcm1
        clear hb2 hrow1 hbA HRy
        go_wp2_with (at_builtin; refine wpList_append_bytes rfl _ _ rfl w2.heap.size _ 0 [] rfl hown q1 o1.length c1 o1 rfl HRA.out rfl hq1 (by omega) (by simp) ?_)
        intro v5 w5 hown5 hgrow5 hv5
        have HB5 := Lib.hid (HBA.out.trans (grown_below hown hgrow5 HBA.out.size))
        obtain ⟨q5, c5, rfl, _, _, _, _⟩ := own_shape hown5 rfl
        have hb3 : Below w5.heap.size w5 (w5.alloc (.cells (cellsOf [1, 2, 3]).toArray 5)) := (Below.refl _ w5).alloc (Nat.le_refl _) _
        have HO5 := Lib.hid (own_below hown5 hb3)
        have HR3 := Lib.hid (row_new w5 [1, 2, 3] 5 (0, 0))
        have HB53 := Lib.hid (HB5.out.trans (hb3.mono HB5.out.size))
        have HZ5 := Lib.hid HB53.out.size
        clear hown hown5 hgrow5 hv5 HRA HBA hb3
        go_wp2_with (at_builtin; refine wpList_append_bytes rfl _ _ rfl w2.heap.size _ o1.length o1 rfl HO5.out (some ⟨w5.heap.size, 0, none⟩) 3 3 [1, 2, 3] rfl HR3.out rfl (fun h => by cases h) (by omega) HZ5.out ?_)
        intro v6 w6 hown6 hgrow6 hv6
        have hl6 : (o1 ++ [1, 2, 3]).length = o1.length + 3 := by rw [List.length_append]; rfl
        obtain ⟨q6, c6, rfl, hq6, hc6, hm6, hrow6⟩ := own_shape hown6 hl6
        have HB6 := Lib.hid (HB53.out.trans (grown_below HO5.out hgrow6 HZ5.out))
        have HRW6 := Lib.hid hrow6
        have HL6 := Lib.hid hl6
        have HQ6 := Lib.hid hq6
        clear hown6 hgrow6 hv6 hrow6 hl6 hm6 HO5 HZ5 HR3 HB5 HB53 hq6
        go_wp2_with fail
        refine (decodeN_any _ _ _ (o1 ++ [1, 2, 3]) _ _ (by exact HRW6.out) HL6.out HQ6.out (by omega) (by omega)).mono ?_
        rintro e w7 ⟨hb7, q7, c7, rfl, hrow7, _⟩
        rw [HALL.out] at hrow7 ⊢
        have HB27 := Lib.hid (HB6.out.trans (hb7.mono HB6.out.size))
        have HB7 := Lib.hid (HB2.out.trans (HB27.out.mono HB2.out.size))
        have HRy7 := Lib.hid (HRy2.out.below HB27.out)
        have ca1 := conv_row ys.length c7 hrow7 rfl
        rw [HRL.out] at ca1
        have ca2 := conv_row n c HRy7.out HRL.out
        have HRX := Lib.hid (HRW1.out.below HB27.out)
        dsimp only
        rw [HRL.out]
        have hsp := spot_lt z (n + 1) (by omega)
        have hsc := spot_cast z (n + 1)
        obtain ⟨i, hi⟩ : ∃ i, i = spot z (n + 1) := ⟨_, rfl⟩
        rw [← hi, show ((n + 1 : Nat) : Int) = (n : Int) + 1 from by omega] at hsc
        rw [← hi] at hsp
        have hdm := decodeN_any q1 o1.length c1 o1 ((n + 1 : Nat) : Int) w7 HRX.out rfl hq1 (by omega) (by omega)
        rw [HMORE.out, show ((n + 1 : Nat) : Int) = (n : Int) + 1 from by omega] at hdm
        have HDM := Lib.hid hdm
        clear hrow7 hb7 HALL HRW6 HL6 HB6 HRW1 hi HQ6 hdm HMORE
        go_wp2_with fail
        refine HDM.out.mono ?_
        rintro e w8 ⟨hb8, q8, c8, rfl, _⟩
        have HB8 := Lib.hid (HB7.out.trans (hb8.mono HB7.out.size))
        have HRX8 := Lib.hid (HRX.out.below hb8)
        have HRy8 := Lib.hid (HRy7.out.below hb8)
        have hdk := decodeN_any q1 o1.length c1 o1 (i : Int) w8 HRX8.out rfl hq1 (by omega) (by omega)
        clear hb8 ca1 ca2 HRX HRy7
        rcases HLESS.out i (by omega) with he | he
        all_goals
          rw [he] at hdk
          have HDK := Lib.hid hdk
          clear hdk he
          go_wp2_with fail
          refine HDK.out.mono ?_
          rintro e w9 ⟨hb9, q9, c9, rfl, hrow9, _⟩
        · have HB9 := Lib.hid (HB8.out.trans (hb9.mono HB8.out.size))
          clear hrow9 hb9
          go_wp2_with fail
          go_quiet (fail)
          go_wp2_with fail
          go_ret
          exact ⟨rfl, HB9.out.trans ((show Drawn w9 (w9.drewN _) from ⟨_, rfl⟩).below _)⟩
        · have HB9 := Lib.hid (HB8.out.trans (hb9.mono HB8.out.size))
          have hl9 : (ys.take i).length = i := by rw [List.length_take, HRL.out]; omega
          dsimp only at hrow9 ⊢
          rw [hl9]
          have ca3 : ∀ j, (convert 22 9 (.slice q9 i c9)).run Try.prog (w9.drewN j) = .ok (.string (bs (ys.take i))) (w9.drewN j) := fun j =>
            conv_row i c9 (hrow9.below ((show Drawn w9 (w9.drewN j) from ⟨j, rfl⟩).below _)) hl9
          have ca4 : ∀ j, (convert 22 9 (.slice (headA q c) i c)).run Try.prog (w9.drewN j) = .ok (.string (bs (ys.take i))) (w9.drewN j) := fun j =>
            conv_row i c ((head_row c i (HRy8.out.below hb9)).below ((show Drawn w9 (w9.drewN j) from ⟨j, rfl⟩).below _)) hl9
          have hsl := fun W => head_run W q n c i (by omega)
          have b0 : (0 : Int) ≤ (i : Int) := by omega
          have b1 : (i : Int) ≤ (c : Int) := by omega
          clear hrow9 hb9 hl9
          generalize bs (ys.take i) = S at *
          go_wp2_with fail
          go_quiet (fail)
          go_wp2_with fail
          go_ret
          exact ⟨rfl, HB9.out.trans ((show Drawn w9 (w9.drewN _) from ⟨_, rfl⟩).below _)⟩
end Go.Proofs.Ytgdcjhngjdiaoaa.Lz

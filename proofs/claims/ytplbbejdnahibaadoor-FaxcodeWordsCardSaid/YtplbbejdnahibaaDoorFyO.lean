
/- The walk of FaxcodeWords. -/
import Derived.Test.YtplbbejdnahibaaDoorFyJ
import Derived.Test.YtplbbejdnahibaaDoorFyN
namespace Go.Proofs.YtplbbejdnahibaaDoor.Fx
open Go.RowKit Go.Proofs.YtplbbejdnahibaaDoor.Oct Go.Proofs.YtplbbejdnahibaaDoor.Bit Go.Proofs.YtplbbejdnahibaaDoor.Hf Go.Proofs.YtplbbejdnahibaaDoor.Inf
set_option linter.unusedVariables false
set_option linter.unusedSimpArgs false
set_option maxRecDepth 100000

theorem eol_bs : ({ data := #[48, 48, 48, 48, 48, 48, 48, 48, 48, 48, 48, 49] } : ByteArray) = bs (eol.map dig) := rfl
theorem wordsU_snoc (W : List (List Bool)) (x : List Bool) : strs (wordsU W) ++ strs [x.map dig] = strs (wordsU (W ++ [x])) := by simp [wordsU, strs]
theorem eol_len : eol.length = 12 := rfl
theorem row_string {w : World} {q : Option Addr} {W : List (List Bool)} (h : VRow w w.heap.size q (strs (wordsU W))) (hW : 0 < W.length) : ∃ b off, q = some ⟨b, off, none⟩ ∧ b < w.heap.size ∧ ∀ i, i < W.length → w.cell? ⟨b, off + i, none⟩ = some (.string (ds (W.getD i []))) := by
  obtain ⟨b, off, rfl, hb⟩ := h.addr (by rw [strs_length, wordsU_length]; exact hW)
  exact ⟨b, off, rfl, hb, fun i hi => strs_word h hi⟩
theorem row_number {w : World} {q : Option Addr} {zs : List Int} (h : VRow w w.heap.size q (ints zs)) (hz : 0 < zs.length) : ∃ b off, q = some ⟨b, off, none⟩ ∧ b < w.heap.size ∧ ∀ i z, (ints zs)[i]? = some z → w.cell? ⟨b, off + i, none⟩ = some z := by
  obtain ⟨b, off, rfl, hb, hc⟩ := h (by rw [ints_length]; exact hz)
  refine ⟨b, off, rfl, hb, fun i z hz => ?_⟩
  obtain ⟨hi, he⟩ := List.getElem?_eq_some_iff.1 hz
  rw [← he]
  exact hc i hi
/-- an operation whose guard holds -/
theorem wpList_want {P : Program} {ops : Array Oper} {Q : Exit → Act → World → Prop} {a : Act} {w : World} {rest : List Oper} {o : Oper} (hw : Region.wanted o (yielded ops a.tmps) = true) (h : wpList P ops Q ({ o with guard := none } :: rest) a w) : wpList P ops Q (o :: rest) a w := by
  have h2 : Region.wanted { o with guard := none } (yielded ops a.tmps) = true := rfl
  rw [wpList, if_pos h2] at h
  rw [wpList, if_pos hw]
  exact h
set_option maxHeartbeats 16000000 in
theorem words_walk (b : Bool) (w : World) (hT : Tab w) : Calls Tryd.prog 3 #[.bool b] w fun e w' => e = .returned (.bool true) ∧ Below w.heap.size w w' := by
  obtain ⟨i0, hi, hz0, hz1, hz2⟩ := info_parts Tryd.infoStr
  have HT := Lib.hid hT
  clear hT
  go_enter Tryd.func3, Tryd.ntmps3
  go_wp2_with fail
  refine (words_any b w HT.out).mono ?_
  rintro e w1 ⟨hb1, q, c, q2, c2, rfl, hv1, hv2⟩
  rw [strs_length, wordsU_length, wordsF_length] at *
  rw [ints_length, lensF_length] at *
  have HB1 := Lib.hid hb1
  have HV1 := Lib.hid hv1
  have HV2 := Lib.hid hv2
  clear hb1 hv1 hv2
  go_wp2_with fail
  refine (rwords_any b w1).mono ?_
  rintro e w2 ⟨hb2, q3, c3, rfl, hv3⟩
  rw [strs_length, wordsU_length, wordsF_length] at *
  have HB2 := Lib.hid (HB1.out.trans (hb2.mono HB1.out.size))
  have HV3 := Lib.hid hv3
  have HV1b := Lib.hid (HV1.out.below hb2)
  have HV2b := Lib.hid (HV2.out.below hb2)
  clear hb2 hv3 HV1 HV2
  go_wp2_with fail
  refine (lives_any w2 (HT.out.below HB2.out HT.out.lt)).mono ?_
  rintro e w3 ⟨rfl, hb3⟩
  have HB3 := Lib.hid (HB2.out.trans (hb3.mono HB2.out.size))
  have HV1 := Lib.hid (HV1b.out.below hb3)
  have HV2 := Lib.hid (HV2b.out.below hb3)
  have HV3c := Lib.hid (HV3.out.below hb3)
  clear hb3 HV1b HV2b HV3
  obtain ⟨a1, o1, rfl, l1, k1⟩ := row_string HV1.out.1 (by rw [wordsF_length]; omega)
  obtain ⟨a2, o2, rfl, l2, k2⟩ := row_number HV2.out.1 (by rw [lensF_length]; omega)
  obtain ⟨a3, o3, rfl, l3, k3⟩ := row_string HV3c.out.1 (by rw [wordsF_length]; omega)
  have HK1 := Lib.hid k1
  have HK2 := Lib.hid k2
  have HK3 := Lib.hid k3
  clear k1 k2 k3 l1 l2 l3
  go_wp2_with fail
  go_loopw [6, 37] (fun _ i wr => ∃ k : Nat, k ≤ 104 ∧ i = .int .i64 (k : Int) ∧ Hid (Drawn w3 wr)) (fun _ i _ => 104 - (intOf i).toNat)
  case atStart => exact ⟨0, by omega, rfl, Lib.hid ⟨0, rfl⟩⟩
  case round =>
    obtain ⟨k, hk, rfl, HD⟩ := hrel
    by_cases hlt : k < 104
    · have hd : decide ((k : Int) < (104 : Int)) = true := by simp; omega
      have c1 : wr.cell? ⟨a1, o1 + k, none⟩ = some (.string (ds ((wordsF b).getD k []))) := by
        obtain ⟨n, rfl⟩ := HD.out
        exact HK1.out k (by rw [wordsF_length]; exact hlt)
      have c2 : wr.cell? ⟨a2, o2 + k, none⟩ = some (.int .i64 ((lenF k : Nat) : Int)) := by
        obtain ⟨n, rfl⟩ := HD.out
        exact HK2.out k _ (lensF_get hlt)
      have c3 : wr.cell? ⟨a3, o3 + k, none⟩ = some (.string (ds ((wordsF b).getD k []))) := by
        obtain ⟨n, rfl⟩ := HD.out
        exact HK3.out k (by rw [wordsF_length]; exact hlt)
      have HLN := Lib.hid (fun n => rlength_any k hlt (wr.drewN n))
      have hll := lenF_le hlt
      generalize ds ((wordsF b).getD k []) = T at *
      generalize lenF k = m at *
      have x1 : (T.toList == T.toList) = true := by simp
      have x2 : ((m : Int) != (m : Int)) = false := by simp
      have i1 : (0 : Int) ≤ (k : Int) := by omega
      have i2 : (k : Int) < (104 : Int) := by omega
      go_wp2_with fail
      go_quiet ((go_at_call 10; exact quietly (HLN.out _)))
      go_wp2_with fail
      go_roundw
      case rel => exact ⟨k + 1, by omega, by go_num, Lib.hid (HD.out.more _)⟩
      case measure => simp [intOf]; omega
    · have hke : k = 104 := by omega
      have hd : decide ((k : Int) < (104 : Int)) = false := by simp; omega
      obtain ⟨wA, hwA⟩ : ∃ wA, wA = wr := ⟨_, rfl⟩
      rw [← hwA] at HD ⊢
      have HBA := Lib.hid (HB3.out.trans ((HD.out.below w3.heap.size).mono HB3.out.size))
      clear hlt hwA hk hke
      go_wp2_with fail
      refine (modes_any wA (HT.out.below HBA.out HT.out.lt)).mono ?_
      rintro e w4 ⟨hb4, q4, c4, q5, c5, rfl, hv4, hv5⟩
      rw [strs_length, wordsU_length, modesF_length] at *
      rw [ints_length, modesN_length] at *
      have HB4 := Lib.hid (HBA.out.trans (hb4.mono HBA.out.size))
      have HV1d := Lib.hid ((show NewV w (strs (wordsU (wordsF b))) (some ⟨a1, o1, none⟩) c wA from HV1.out.below (HD.out.below _)).below hb4)
      have HV4 := Lib.hid hv4
      have HV5 := Lib.hid hv5
      clear hb4 hv4 hv5
      go_wp2_with fail
      refine (rmodes_any w4).mono ?_
      rintro e w5 ⟨hb5, q6, c6, rfl, hv6⟩
      rw [strs_length, wordsU_length, modesF_length] at *
      have HB5 := Lib.hid (HB4.out.trans (hb5.mono HB4.out.size))
      have HW := Lib.hid (HV1d.out.below hb5)
      have HV4b := Lib.hid (HV4.out.below hb5)
      have HV5b := Lib.hid (HV5.out.below hb5)
      obtain ⟨a4, o4, rfl, l4, k4⟩ := row_string HV4b.out.1 (by rw [modesF_length]; omega)
      obtain ⟨a5, o5, rfl, l5, k5⟩ := row_number HV5b.out.1 (by rw [modesN_length]; omega)
      obtain ⟨a6, o6, rfl, l6, k6⟩ := row_string hv6.1 (by rw [modesF_length]; omega)
      have HK4 := Lib.hid k4
      have HK5 := Lib.hid k5
      have HK6 := Lib.hid k6
      clear hb5 hv6 k4 k5 k6 l4 l5 l6
      go_wp2_with fail
      go_loopw [10, 74] (fun _ i wr => ∃ k : Nat, k ≤ 10 ∧ i = .int .i64 (k : Int) ∧ Hid (Drawn w5 wr)) (fun _ i _ => 10 - (intOf i).toNat)
      case atStart => exact ⟨0, by omega, rfl, Lib.hid ⟨0, rfl⟩⟩
      case round =>
        obtain ⟨k, hk, rfl, HD5⟩ := hrel
        by_cases hlt : k < 10
        · have hd : decide ((k : Int) < (10 : Int)) = true := by simp; omega
          have c1 : wr.cell? ⟨a4, o4 + k, none⟩ = some (.string (ds (modesF.getD k []))) := by
            obtain ⟨n, rfl⟩ := HD5.out
            exact HK4.out k (by rw [modesF_length]; exact hlt)
          have c2 : wr.cell? ⟨a5, o5 + k, none⟩ = some (.int .i64 ((k : Int) - 3)) := by
            obtain ⟨n, rfl⟩ := HD5.out
            exact HK5.out k _ (modesN_get hlt)
          have c3 : wr.cell? ⟨a6, o6 + k, none⟩ = some (.string (ds (modesF.getD k []))) := by
            obtain ⟨n, rfl⟩ := HD5.out
            exact HK6.out k (by rw [modesF_length]; exact hlt)
          generalize ds (modesF.getD k []) = T at *
          have x1 : (T.toList == T.toList) = true := by simp
          have x2 : ((k : Int) - 3 != (k : Int) - 3) = false := by simp
          have i1 : (0 : Int) ≤ (k : Int) := by omega
          have i2 : (k : Int) < (10 : Int) := by omega
          go_wp2_with fail
          go_quiet (fail)
          go_wp2_with fail
          go_roundw
          case rel => exact ⟨k + 1, by omega, by go_num, Lib.hid (HD5.out.more _)⟩
          case measure => simp [intOf]; omega
        · have hke : k = 10 := by omega
          have hd : decide ((k : Int) < (10 : Int)) = false := by simp; omega
          obtain ⟨w6, hw6⟩ : ∃ w6, w6 = wr := ⟨_, rfl⟩
          rw [← hw6] at HD5 ⊢
          have HB6 := Lib.hid (HB5.out.trans ((HD5.out.below w5.heap.size).mono HB5.out.size))
          have HW6 := Lib.hid (HW.out.below (HD5.out.below _))
          have HM6 := Lib.hid (HV4b.out.below (HD5.out.below _))
          clear hlt hw6 hk hke
          have hba_w6 : Below w6.heap.size w6 (w6.alloc (.cells #[] 9)) := (Below.refl _ w6).alloc (Nat.le_refl _) _
          have HOW_w6 := Lib.hid (World.ownsRow_made (base := w6.heap.size) (e := 9) (size := 1) w6 #[] 0 (Nat.le_refl _) (by simp [maxLen]) rfl)
          have HVW_w6 := Lib.hid (HW6.out.below hba_w6)
          have HBW_w6 := Lib.hid hba_w6
          have HZW_w6 := Lib.hid hba_w6.size
          clear hba_w6
          go_wp2_with (at_builtin; refine wpList_append_vals Tryd.underlying22 hi hz0 hz1 hz2 rfl (by decide) rfl _ _ rfl w6.heap.size _ 0 [] rfl HOW_w6.out (some ⟨a1, o1, none⟩) 104 c (strs (wordsU (wordsF b))) rfl HVW_w6.out.1 (by rw [strs_length, wordsU_length, wordsF_length]) HVW_w6.out.2.1 strs_one (by omega) HZW_w6.out ?_)
          intro va_w6 wa_w6 hown_w6 _ hbb_w6
          have HB1_w6 := Lib.hid (HBW_w6.out.trans hbb_w6)
          have hb1 : Below wa_w6.heap.size wa_w6 (wa_w6.alloc (.cells (strs [eol.map dig]).toArray 9)) := (Below.refl _ wa_w6).alloc (Nat.le_refl _) _
          have HO2_w6 := Lib.hid (own_below hown_w6 hb1)
          have HVE_w6 := Lib.hid (vals_new wa_w6 (strs [eol.map dig]) 9 (0, 0))
          have HB2_w6 := Lib.hid (HB1_w6.out.trans (hb1.mono HB1_w6.out.size))
          have HZ2_w6 := Lib.hid HB2_w6.out.size
          clear hown_w6 hbb_w6 hb1
          go_wp2_with (at_builtin; refine wpList_append_vals Tryd.underlying22 hi hz0 hz1 hz2 rfl (by decide) rfl _ _ rfl w6.heap.size _ (0 + 104) _ rfl HO2_w6.out (some ⟨wa_w6.heap.size, 0, none⟩) 1 1 (strs [eol.map dig]) rfl HVE_w6.out rfl (fun h => by cases h) strs_one (by omega) HZ2_w6.out ?_)
          intro vb_w6 wb_w6 hown_w6 _ hbb_w6
          have hl_w6 : ([] ++ strs (wordsU (wordsF b)) ++ strs [eol.map dig]).length = 0 + 104 + 1 := by rw [List.nil_append, List.length_append, strs_length, strs_length, wordsU_length, wordsF_length]; rfl
          obtain ⟨qn, cn, rfl, hq0, hlc, hcm, hvn, _⟩ := vrow_own hown_w6 hl_w6
          have HB3_w6 := Lib.hid (HB2_w6.out.trans hbb_w6)
          rw [wordsU_snoc] at hvn
          have HNW_w6 := Lib.hid (rnew_ok qn (0 + 104 + 1) cn ((wordsF b) ++ [eol]) wb_w6 hvn (by rw [List.length_append, wordsF_length]; rfl) (by omega) (by omega) hlc hcm (fun x hx => by
            rcases List.mem_append.1 hx with h | h
            · have := (fun x (h : x ∈ wordsF b) => show x.length ≤ 13 from (words_len b x h).2) x h; omega
            · rw [List.mem_singleton.1 h, eol_len]; omega) (by exact words_eol b))
          clear hown_w6 hbb_w6 hq0 hlc hcm hvn hl_w6
          go_wp2_with fail
          refine HNW_w6.out.mono ?_
          rintro e wc_w6 ⟨rfl, hdr⟩
          have HB4_w6 := Lib.hid (HB3_w6.out.trans ((hdr.below wb_w6.heap.size).mono HB3_w6.out.size))
          clear hdr
          have HBX := Lib.hid (HB6.out.trans (HB4_w6.out.mono HB6.out.size))
          have HM7 := Lib.hid (HM6.out.below HB4_w6.out)
          obtain ⟨w7, hw7⟩ : ∃ w7, w7 = wc_w6 := ⟨_, rfl⟩
          rw [← hw7] at HBX HM7 ⊢
          clear hw7
          have hba_w7 : Below w7.heap.size w7 (w7.alloc (.cells #[] 9)) := (Below.refl _ w7).alloc (Nat.le_refl _) _
          have HOW_w7 := Lib.hid (World.ownsRow_made (base := w7.heap.size) (e := 9) (size := 1) w7 #[] 0 (Nat.le_refl _) (by simp [maxLen]) rfl)
          have HVW_w7 := Lib.hid (HM7.out.below hba_w7)
          have HBW_w7 := Lib.hid hba_w7
          have HZW_w7 := Lib.hid hba_w7.size
          clear hba_w7
          go_wp2_with (at_builtin; refine wpList_want (by rfl) ?_; refine wpList_append_vals Tryd.underlying22 hi hz0 hz1 hz2 rfl (by decide) rfl _ _ rfl w7.heap.size _ 0 [] rfl HOW_w7.out (some ⟨a4, o4, none⟩) 10 c4 (strs (wordsU modesF)) rfl HVW_w7.out.1 (by rw [strs_length, wordsU_length, modesF_length]) HVW_w7.out.2.1 strs_one (by omega) HZW_w7.out ?_)
          intro va_w7 wa_w7 hown_w7 _ hbb_w7
          have HB1_w7 := Lib.hid (HBW_w7.out.trans hbb_w7)
          have hb1 : Below wa_w7.heap.size wa_w7 (wa_w7.alloc (.cells (strs [eol.map dig]).toArray 9)) := (Below.refl _ wa_w7).alloc (Nat.le_refl _) _
          have HO2_w7 := Lib.hid (own_below hown_w7 hb1)
          have HVE_w7 := Lib.hid (vals_new wa_w7 (strs [eol.map dig]) 9 (0, 0))
          have HB2_w7 := Lib.hid (HB1_w7.out.trans (hb1.mono HB1_w7.out.size))
          have HZ2_w7 := Lib.hid HB2_w7.out.size
          clear hown_w7 hbb_w7 hb1
          go_wp2_with (at_builtin; refine wpList_want (by rfl) ?_; refine wpList_append_vals Tryd.underlying22 hi hz0 hz1 hz2 rfl (by decide) rfl _ _ rfl w7.heap.size _ (0 + 10) _ rfl HO2_w7.out (some ⟨wa_w7.heap.size, 0, none⟩) 1 1 (strs [eol.map dig]) rfl HVE_w7.out rfl (fun h => by cases h) strs_one (by omega) HZ2_w7.out ?_)
          intro vb_w7 wb_w7 hown_w7 _ hbb_w7
          have hl_w7 : ([] ++ strs (wordsU modesF) ++ strs [eol.map dig]).length = 0 + 10 + 1 := by rw [List.nil_append, List.length_append, strs_length, strs_length, wordsU_length, modesF_length]; rfl
          obtain ⟨qn, cn, rfl, hq0, hlc, hcm, hvn, _⟩ := vrow_own hown_w7 hl_w7
          have HB3_w7 := Lib.hid (HB2_w7.out.trans hbb_w7)
          rw [wordsU_snoc] at hvn
          have HNW_w7 := Lib.hid (rnew_ok qn (0 + 10 + 1) cn (modesF ++ [eol]) wb_w7 hvn (by rw [List.length_append, modesF_length]; rfl) (by omega) (by omega) hlc hcm (fun x hx => by
            rcases List.mem_append.1 hx with h | h
            · have := (fun x (h : x ∈ modesF) => show x.length ≤ 7 from (modes_len x h).2) x h; omega
            · rw [List.mem_singleton.1 h, eol_len]; omega) (by exact modes_eol))
          clear hown_w7 hbb_w7 hq0 hlc hcm hvn hl_w7
          go_wp2_with fail
          refine HNW_w7.out.mono ?_
          rintro e wc_w7 ⟨rfl, hdr⟩
          have HB4_w7 := Lib.hid (HB3_w7.out.trans ((hdr.below wb_w7.heap.size).mono HB3_w7.out.size))
          clear hdr
          go_wp2_with fail
          go_ret
          exact ⟨rfl, HBX.out.trans (HB4_w7.out.mono HBX.out.size)⟩
end Go.Proofs.YtplbbejdnahibaaDoor.Fx

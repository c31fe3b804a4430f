
/- The document's Decode. -/
import Derived.Test.YtidicajedckaoaaGreatDoorGtJ
import Derived.Test.YtidicajedckaoaaGreatDoorGtG
import Derived.Test.YtidicajedckaoaaGreatDoorGtN
import Derived.Test.YtidicajedckaoaaGreatDoorMiV
import Derived.Test.YtidicajedckaoaaGreatDoorMiM
namespace Go.Proofs.YtidicajedckaoaaGreatDoor.Gt
open Go.RowKit Go.Proofs.YtidicajedckaoaaGreatDoor.Oct Go.Proofs.YtidicajedckaoaaGreatDoor.Bit
open Go.Proofs.YtidicajedckaoaaGreatDoor.Mh (rowF againstA txt txt_row txt_length zerosF rreadRow_any rreadAgainst_any RRowP rowS rowE readRowA readGA rfits_any wideM RDecP Txs wpList_append_txt ArgR)
open Go.Proofs.YtidicajedckaoaaGreatDoor.Rn (changes)
open Go.Proofs.YtidicajedckaoaaGreatDoor.Lp (VRow)
set_option linter.unusedVariables false
set_option linter.unusedSimpArgs false
set_option maxRecDepth 100000

theorem rgdecode_bad (w : World) (b : ByteArray) (z n : Int) (two : Bool) (hb : wideM z = false ∨ n < 0) : Calls Tryz.prog 11 #[.string b, .int .i64 z, .int .i64 n, .bool two] w (ArgR w) := by
  have HOK := Lib.hid (rfits_any z w)
  obtain ⟨s, hs⟩ : ∃ s, s = wideM z := ⟨_, rfl⟩
  rw [← hs] at hb HOK
  clear hs
  cases s
  · clear hb
    go_enter Tryz.func11, Tryz.ntmps11
    go_wp2_with fail
    refine HOK.out.mono ?_
    rintro e w' ⟨rfl, rfl⟩
    go_wp2_with fail
    go_ret2
    exact ⟨rfl, rfl⟩
  · have hd : decide (n < 0) = true := by
      rcases hb with h | h
      · cases h
      · simpa using h
    clear hb
    go_enter Tryz.func11, Tryz.ntmps11
    go_wp2_with fail
    refine HOK.out.mono ?_
    rintro e w' ⟨rfl, rfl⟩
    go_wp2_with fail
    go_ret2
    exact ⟨rfl, rfl⟩
/-- a row of pixels read behind the end of a line -/
theorem oneF_S {single : Bool} {L : List Bool} {wd p : Nat} {above : List Bool} (h1 : 1 ≤ wd) (ha : above.length = wd) (hp : p ≤ L.length) : (rowS (oneF single L wd p above).2).length ≤ wd := Mh.rowS_le fun X h => oneF_len h1 ha hp h
theorem dig_eq0 (b : Bool) : (((dig b).toNat : Int) == 48) = !b := by cases b <;> decide
theorem dig_eq1 (b : Bool) : (((dig b).toNat : Int) == 49) = b := by cases b <;> decide
set_option maxHeartbeats 16000000 in
theorem rgdecode_any (w : World) (xs : List UInt8) (wd n : Nat) (two : Bool) (hx : xs.length ≤ 1000) (h1 : 1 ≤ wd) (hw : wd ≤ 300) (hn : n ≤ 1000) :
    Calls Tryz.prog 11 #[.string (bs xs), .int .i64 (wd : Int), .int .i64 (n : Int), .bool two] w (RDecP w (readB two (bitsOf false xs) wd n 0 (List.replicate wd false) [])) := by
  have hok := rfits_any (wd : Int) w
  rw [show wideM (wd : Int) = true from by unfold wideM; simp; omega] at hok
  have HOK := Lib.hid hok
  obtain ⟨r, hrd⟩ : ∃ r, r = readB two (bitsOf false xs) wd n 0 (List.replicate wd false) [] := ⟨_, rfl⟩
  have HRD := Lib.hid hrd.symm
  rw [← hrd]
  have HOF := Lib.hid (rof_any xs false w hx)
  have hLl : (bitsOf false xs).length = 8 * xs.length := bitsOf_length false xs
  have hLb : (bitsOf false xs).length ≤ 8000 := by omega
  have HWH := Lib.hid (fun W => rwhite_any wd W (by omega))
  clear hok hrd hLl
  go_enter Tryz.func11, Tryz.ntmps11
  go_wp2_with fail
  refine HOK.out.mono ?_
  rintro e w' ⟨rfl, rfl⟩
  go_wp2_with fail
  refine HOF.out.mono ?_
  rintro e w1 ⟨rfl, hb1⟩
  have HB1 := Lib.hid hb1
  generalize bitsOf false xs = L at *
  obtain ⟨SL, hSL⟩ : ∃ SL, SL = ds L := ⟨_, rfl⟩
  have hsz : SL.size = L.length := by rw [hSL, ds_size]
  have HGET : Hid (∀ (k : Nat) (h : k < SL.size) (b : Bool), L[k]? = some b → SL[k]'h = dig b) := Lib.hid (fun k h b hb => by
    obtain ⟨hl, hbe⟩ := List.getElem?_eq_some_iff.1 hb
    subst hSL
    exact (ds_get L k h hl).trans (by rw [hbe]))
  rw [← hSL]
  have HRR := Lib.hid (fun (a : Nat) (W : World) (ha : a ≤ L.length) => rreadRow_any L a wd W ha (by omega) h1 (by omega))
  have HRA := Lib.hid (fun (Y : List Bool) (hY : Y.length = wd) (a : Nat) (W : World) (ha : a ≤ L.length) => rreadAgainst_any L Y a wd W ha (by omega) hY h1 (by omega))
  rw [← hSL] at HRR HRA
  clear hb1 HOK HOF hSL
  go_wp2_with fail
  refine (HWH.out _).mono ?_
  rintro e w' ⟨rfl, rfl⟩
  go_wp2_with fail
  go_loopw [11, 12, 13, 14] (fun sat sv sab sk wr => ∃ (k t : Nat) (acc : List (List Bool)) (above : List Bool), k ≤ n ∧ sk = .int .i64 (k : Int) ∧ sat = .int .i64 (t : Int) ∧ t ≤ L.length ∧ sab = .string (ds above) ∧ Hid (above.length = wd) ∧ Hid (acc.length = k) ∧ Hid (Txs wr w1.heap.size (fun _ => False) sv acc) ∧ Hid (Below w1.heap.size w1 wr) ∧ Hid (readB two L wd (n - k) t above acc = r)) (fun _ _ _ sk _ => n - (intOf sk).toNat)
  case atStart => exact ⟨0, 0, [], List.replicate wd false, by omega, rfl, rfl, Nat.zero_le _, rfl, Lib.hid (by simp), Lib.hid rfl, Lib.hid (Txs.nil _ _ _), Lib.hid (Below.refl _ _), HRD⟩
  case round =>
    obtain ⟨k, t, acc, above, hk, rfl, rfl, ht, rfl, HABL, HAK, HTx, HBr, HE⟩ := hrel
    by_cases hlt : k < n
    · have hd : decide ((k : Int) < (n : Int)) = true := by simp; omega
      have HQ : Hid (r = match headF two L t with
          | .error e => .error e
          | .ok (q, s) => match oneF s L wd q above with
            | (_, .error e) => .error e
            | (b, .ok X) => readB two L wd (n - (k + 1)) b X (acc ++ [X])) := Lib.hid (by
        rw [← HE.out, show n - k = (n - (k + 1)) + 1 from by omega]
        rfl)
      have HBF := Lib.hid (HB1.out.trans (HBr.out.mono HB1.out.size))
      obtain ⟨SA, hSA⟩ : ∃ SA, SA = ds above := ⟨_, rfl⟩
      rw [← hSA]
      have HAG : Hid (∀ (a : Nat) (W : World), a ≤ L.length → Calls Tryz.prog 30 #[.string SL, .int .i64 (a : Int), .string SA] W fun e w' => RRowP (readGA L (changes above) wd a 0 [] false) e ∧ Below W.heap.size W w') := Lib.hid (fun a W ha => by rw [hSA]; exact HRA.out above HABL.out a W ha)
      clear HE hSA
      go_wp2_with fail
      go_loop [11] (fun sa => ∃ j : Nat, sa = .int .i64 ((t + j : Nat) : Int) ∧ t + j ≤ L.length ∧ Hid (zerosF (L.drop t) = j + zerosF (L.drop (t + j)))) (fun sa => L.length - (intOf sa).toNat)
      case atStart => exact ⟨0, rfl, by omega, Lib.hid (by simp)⟩
      case round =>
        obtain ⟨j, rfl, htj, HZ⟩ := hrel
        obtain ⟨a, ha⟩ : ∃ a, a = t + j := ⟨_, rfl⟩
        rw [← ha] at htj HZ ⊢
        have HA := Lib.hid ha
        clear ha
        by_cases hend : a = L.length
        · have hd1 : decide (a < L.length) = false := by simp; omega
          have hd2 : ((a : Int) == (L.length : Int)) = true := by simp; omega
          have hd2n : (a == L.length) = true := by simp; omega
          have HH : Hid (headF two L t = .error 2) := Lib.hid (by
            rw [headF_mark]
            unfold markF
            rw [if_pos (by have := HZ.out; have := HA.out; omega)])
          clear hend
          have hq2 := HQ.out
          rw [HH.out] at hq2
          have HQ2 : Hid (r = .error 2) := Lib.hid hq2
          clear hq2
          go_wp2_with fail
          go_ret2
          rw [HQ2.out]
          exact ⟨HBF.out, rfl⟩
        · have hal : a < L.length := by omega
          have hd1 : decide (a < L.length) = true := by simp; omega
          obtain ⟨b, hb⟩ : ∃ b, L[a]? = some b := ⟨_, List.getElem?_eq_getElem hal⟩
          have hg := fun h => HGET.out a h b hb
          have i1 : (0 : Int) ≤ (a : Int) := by omega
          have i2 : (a : Int) < (L.length : Int) := by omega
          cases b
          · have hz := zerosF_nought hb
            have HZ2 : Hid (zerosF (L.drop t) = j + 1 + zerosF (L.drop (t + (j + 1)))) := Lib.hid (by have := HZ.out; have := HA.out; rw [show t + (j + 1) = a + 1 from by omega]; omega)
            have hg2 : ∀ h, SL[a]'h = 48 := fun h => (hg h).trans rfl
            have hb1 : (((48 : UInt8).toNat : Int) == 48) = true := by decide
            have HJ : Hid (a + 1 = t + (j + 1)) := Lib.hid (by have := HA.out; omega)
            clear hz hb hg hend
            go_wp2_with fail
            go_round
            case rel => exact ⟨j + 1, by have := HJ.out; go_num, by have := HJ.out; omega, HZ2⟩
            case measure => simp [intOf]; omega
          · have hz := zerosF_one hb
            have hzj : zerosF (L.drop t) = j := by have := HZ.out; omega
            have hg2 : ∀ h, SL[a]'h = 49 := fun h => (hg h).trans rfl
            have hb1 : (((49 : UInt8).toNat : Int) == 48) = false := by decide
            have hd2 : ((a : Int) == (L.length : Int)) = false := by simp; omega
            have hd2n : (a == L.length) = false := by simp; omega
            have hsub : (a : Int) - (t : Int) = (j : Int) := by have := HA.out; omega
            have HMK : Hid (markF L t = if j < 11 then .error 3 else .ok (a + 1)) := Lib.hid (by
              unfold markF
              rw [hzj, if_neg (by have := HA.out; omega), HA.out])
            clear hz hb hg hend hzj
            by_cases h11 : j < 11
            · have hd3 : decide ((j : Int) < 11) = true := by simp; omega
              have HH : Hid (headF two L t = .error 3) := Lib.hid (by rw [headF_mark, HMK.out, if_pos h11])
              have hq2 := HQ.out
              rw [HH.out] at hq2
              have HQ2 : Hid (r = .error 3) := Lib.hid hq2
              clear hq2
              go_wp2_with fail
              go_ret2
              rw [HQ2.out]
              exact ⟨HBF.out, rfl⟩
            · have hd3 : decide ((j : Int) < 11) = false := by simp; omega
              obtain ⟨q, hqd⟩ : ∃ q, q = a + 1 := ⟨_, rfl⟩
              have hqc : (a : Int) + 1 = (q : Int) := by omega
              have hqle : q ≤ L.length := by omega
              have hHM := headF_mark two L t
              rw [HMK.out, if_neg h11, ← hqd] at hHM
              have HHM := Lib.hid hHM
              clear hHM hqd h11
              cases two
              · have HH : Hid (headF false L t = .ok (q, true)) := Lib.hid (by rw [HHM.out]; rfl)
                have hq2 := HQ.out
                rw [HH.out] at hq2
                simp only at hq2
                have HNE := Lib.hid (fun e h => oneF_ne (single := true) (L := L) (w := wd) (p := q) (e := e) (above := above) hqle h)
                have HLE : Hid ((oneF true L wd q above).1 ≤ L.length) := Lib.hid (oneF_le hqle)
                have HLN := Lib.hid (fun X h => oneF_len (single := true) (L := L) (w := wd) (p := q) (above := above) (X := X) h1 HABL.out hqle h)
                have HROW : Hid (∀ W, Calls Tryz.prog 29 #[.string SL, .int .i64 (q : Int), .int .i64 (wd : Int)] W fun e w' => RRowP (oneF true L wd q above) e ∧ Below W.heap.size W w') := Lib.hid (fun W => HRR.out q W hqle)
                have HQQ := Lib.hid hq2
                generalize oneF true L wd q above = ra at *
                obtain ⟨t4, x⟩ := ra
                clear hq2
                go_wp2_with fail
                refine (HROW.out _).mono ?_
                rintro e w4 ⟨he4, hb4⟩
                unfold RRowP at he4
                subst he4
                have HB4 := Lib.hid (HBr.out.trans (hb4.mono HBr.out.size))
                have HTx4 := Lib.hid (HTx.out.only (Only.of_below hb4 : Only (fun _ => False) _ _) (fun _ _ _ _ e => e))
                have hq := HQQ.out
                try simp only at hq
                clear hb4
                rcases x with ce | X
                · have hce := HNE.out ce rfl
                  have HQ2 := Lib.hid hq
                  have HBE := Lib.hid (HB1.out.trans (HB4.out.mono HB1.out.size))
                  simp only [rowE, rowS]
                  clear hq
                  go_wp2_with fail
                  go_ret2
                  rw [HQ2.out]
                  exact ⟨HBE.out, rfl⟩
                · have HQ2 := Lib.hid hq.symm
                  have ht4 : t4 ≤ L.length := HLE.out
                  have HXW := Lib.hid (HLN.out X rfl)
                  simp only [rowE, rowS]
                  obtain ⟨T, hT⟩ : ∃ T, T = ds X := ⟨_, rfl⟩
                  rw [← hT]
                  have HTT := Lib.hid hT.symm
                  have hwz : w1.heap.size ≤ w4.heap.size := HB4.out.size
                  have hk1000 : k ≤ 1000 := by omega
                  clear hq hT
                  go_wp2_with (at_builtin; refine wpList_append_txt rfl _ _ rfl w1.heap.size (fun _ => False) _ acc k HAK.out rfl HTx4.out X T HTT.out (fun _ _ e => e) rfl rfl hk1000 hwz ?_)
                  intro v5 w5 hw5 hb5 _ _
                  have HT5 := Lib.hid hw5
                  have HB5 := Lib.hid (HB4.out.trans hb5)
                  clear hw5 hb5
                  go_wp2_with fail
                  go_roundw
                  case rel => exact ⟨k + 1, t4, acc ++ [X], X, by omega, by go_num, rfl, ht4, by rw [HTT.out], HXW, Lib.hid (by rw [List.length_append, HAK.out]; rfl), HT5, HB5, HQ2⟩
                  case measure => simp [intOf]; omega
              · by_cases hqe : q = L.length
                · have he1 : ((q : Int) == (L.length : Int)) = true := by simp; omega
                  have he2 : (q == L.length) = true := by simp; omega
                  have HH : Hid (headF true L t = .error 2) := Lib.hid (by
                    rw [HHM.out]
                    simp only [if_true]
                    rw [List.getElem?_eq_none (by omega)])
                  clear hqe
                  have hq2 := HQ.out
                  rw [HH.out] at hq2
                  have HQ2 : Hid (r = .error 2) := Lib.hid hq2
                  clear hq2
                  go_wp2_with fail
                  go_ret2
                  rw [HQ2.out]
                  exact ⟨HBF.out, rfl⟩
                · have he1 : ((q : Int) == (L.length : Int)) = false := by simp; omega
                  have he2 : (q == L.length) = false := by simp; omega
                  have hql : q < L.length := by omega
                  obtain ⟨b2, hb2⟩ : ∃ b2, L[q]? = some b2 := ⟨_, List.getElem?_eq_getElem hql⟩
                  have hgq := fun h => HGET.out q h b2 hb2
                  have j1 : (0 : Int) ≤ (q : Int) := by omega
                  have j2 : (q : Int) < (L.length : Int) := by omega
                  have hh := HHM.out
                  simp only [if_true] at hh
                  rw [hb2] at hh
                  simp only at hh
                  obtain ⟨q2, hq2d⟩ : ∃ q2, q2 = q + 1 := ⟨_, rfl⟩
                  have hqc2 : (q : Int) + 1 = (q2 : Int) := by omega
                  have hqle : q2 ≤ L.length := by omega
                  rw [← hq2d] at hh
                  have HH := Lib.hid hh
                  clear hh hqe hb2 hq2d HHM
                  cases b2
                  · have hg3 : ∀ h, SL[q]'h = 48 := fun h => (hgq h).trans rfl
                    have hb3 : (((48 : UInt8).toNat : Int) == 49) = false := by decide
                    clear hgq
                    have hq2 := HQ.out
                    rw [HH.out] at hq2
                    simp only at hq2
                    have HNE := Lib.hid (fun e h => oneF_ne (single := false) (L := L) (w := wd) (p := q2) (e := e) (above := above) hqle h)
                    have HLE : Hid ((oneF false L wd q2 above).1 ≤ L.length) := Lib.hid (oneF_le hqle)
                    have HLN := Lib.hid (fun X h => oneF_len (single := false) (L := L) (w := wd) (p := q2) (above := above) (X := X) h1 HABL.out hqle h)
                    have HROW : Hid (∀ W, Calls Tryz.prog 30 #[.string SL, .int .i64 (q2 : Int), .string SA] W fun e w' => RRowP (oneF false L wd q2 above) e ∧ Below W.heap.size W w') := Lib.hid (fun W => HAG.out q2 W hqle)
                    have HQQ := Lib.hid hq2
                    generalize oneF false L wd q2 above = ra at *
                    obtain ⟨t4, x⟩ := ra
                    clear hq2
                    go_wp2_with fail
                    refine (HROW.out _).mono ?_
                    rintro e w4 ⟨he4, hb4⟩
                    unfold RRowP at he4
                    subst he4
                    have HB4 := Lib.hid (HBr.out.trans (hb4.mono HBr.out.size))
                    have HTx4 := Lib.hid (HTx.out.only (Only.of_below hb4 : Only (fun _ => False) _ _) (fun _ _ _ _ e => e))
                    have hq := HQQ.out
                    try simp only at hq
                    clear hb4
                    rcases x with ce | X
                    · have hce := HNE.out ce rfl
                      have HQ2 := Lib.hid hq
                      have HBE := Lib.hid (HB1.out.trans (HB4.out.mono HB1.out.size))
                      simp only [rowE, rowS]
                      clear hq
                      go_wp2_with fail
                      go_ret2
                      rw [HQ2.out]
                      exact ⟨HBE.out, rfl⟩
                    · have HQ2 := Lib.hid hq.symm
                      have ht4 : t4 ≤ L.length := HLE.out
                      have HXW := Lib.hid (HLN.out X rfl)
                      simp only [rowE, rowS]
                      obtain ⟨T, hT⟩ : ∃ T, T = ds X := ⟨_, rfl⟩
                      rw [← hT]
                      have HTT := Lib.hid hT.symm
                      have hwz : w1.heap.size ≤ w4.heap.size := HB4.out.size
                      have hk1000 : k ≤ 1000 := by omega
                      clear hq hT
                      go_wp2_with (at_builtin; refine wpList_append_txt rfl _ _ rfl w1.heap.size (fun _ => False) _ acc k HAK.out rfl HTx4.out X T HTT.out (fun _ _ e => e) rfl rfl hk1000 hwz ?_)
                      intro v5 w5 hw5 hb5 _ _
                      have HT5 := Lib.hid hw5
                      have HB5 := Lib.hid (HB4.out.trans hb5)
                      clear hw5 hb5
                      go_wp2_with fail
                      go_roundw
                      case rel => exact ⟨k + 1, t4, acc ++ [X], X, by omega, by go_num, rfl, ht4, by rw [HTT.out], HXW, Lib.hid (by rw [List.length_append, HAK.out]; rfl), HT5, HB5, HQ2⟩
                      case measure => simp [intOf]; omega
                  · have hg3 : ∀ h, SL[q]'h = 49 := fun h => (hgq h).trans rfl
                    have hb3 : (((49 : UInt8).toNat : Int) == 49) = true := by decide
                    clear hgq
                    have hq2 := HQ.out
                    rw [HH.out] at hq2
                    simp only at hq2
                    have HNE := Lib.hid (fun e h => oneF_ne (single := true) (L := L) (w := wd) (p := q2) (e := e) (above := above) hqle h)
                    have HLE : Hid ((oneF true L wd q2 above).1 ≤ L.length) := Lib.hid (oneF_le hqle)
                    have HLN := Lib.hid (fun X h => oneF_len (single := true) (L := L) (w := wd) (p := q2) (above := above) (X := X) h1 HABL.out hqle h)
                    have HROW : Hid (∀ W, Calls Tryz.prog 29 #[.string SL, .int .i64 (q2 : Int), .int .i64 (wd : Int)] W fun e w' => RRowP (oneF true L wd q2 above) e ∧ Below W.heap.size W w') := Lib.hid (fun W => HRR.out q2 W hqle)
                    have HQQ := Lib.hid hq2
                    generalize oneF true L wd q2 above = ra at *
                    obtain ⟨t4, x⟩ := ra
                    clear hq2
                    go_wp2_with fail
                    refine (HROW.out _).mono ?_
                    rintro e w4 ⟨he4, hb4⟩
                    unfold RRowP at he4
                    subst he4
                    have HB4 := Lib.hid (HBr.out.trans (hb4.mono HBr.out.size))
                    have HTx4 := Lib.hid (HTx.out.only (Only.of_below hb4 : Only (fun _ => False) _ _) (fun _ _ _ _ e => e))
                    have hq := HQQ.out
                    try simp only at hq
                    clear hb4
                    rcases x with ce | X
                    · have hce := HNE.out ce rfl
                      have HQ2 := Lib.hid hq
                      have HBE := Lib.hid (HB1.out.trans (HB4.out.mono HB1.out.size))
                      simp only [rowE, rowS]
                      clear hq
                      go_wp2_with fail
                      go_ret2
                      rw [HQ2.out]
                      exact ⟨HBE.out, rfl⟩
                    · have HQ2 := Lib.hid hq.symm
                      have ht4 : t4 ≤ L.length := HLE.out
                      have HXW := Lib.hid (HLN.out X rfl)
                      simp only [rowE, rowS]
                      obtain ⟨T, hT⟩ : ∃ T, T = ds X := ⟨_, rfl⟩
                      rw [← hT]
                      have HTT := Lib.hid hT.symm
                      have hwz : w1.heap.size ≤ w4.heap.size := HB4.out.size
                      have hk1000 : k ≤ 1000 := by omega
                      clear hq hT
                      go_wp2_with (at_builtin; refine wpList_append_txt rfl _ _ rfl w1.heap.size (fun _ => False) _ acc k HAK.out rfl HTx4.out X T HTT.out (fun _ _ e => e) rfl rfl hk1000 hwz ?_)
                      intro v5 w5 hw5 hb5 _ _
                      have HT5 := Lib.hid hw5
                      have HB5 := Lib.hid (HB4.out.trans hb5)
                      clear hw5 hb5
                      go_wp2_with fail
                      go_roundw
                      case rel => exact ⟨k + 1, t4, acc ++ [X], X, by omega, by go_num, rfl, ht4, by rw [HTT.out], HXW, Lib.hid (by rw [List.length_append, HAK.out]; rfl), HT5, HB5, HQ2⟩
                      case measure => simp [intOf]; omega
    · have hke : k = n := by omega
      have hd : decide ((k : Int) < (n : Int)) = false := by simp; omega
      have HQ : Hid (r = .ok acc) := Lib.hid (by
        rw [← HE.out, show n - k = 0 from by omega]
        rfl)
      obtain ⟨q5, c5, hv5, ht5, _⟩ := HTx.out.tbl
      have HV5 := Lib.hid hv5
      have HT5 := Lib.hid ht5
      have HBF := Lib.hid (HB1.out.trans (HBr.out.mono HB1.out.size))
      clear hv5 ht5
      go_wp2_with fail
      go_ret2
      rw [HQ.out]
      exact ⟨HBF.out, q5, c5, by rw [HV5.out]; rfl, HT5.out⟩
end Go.Proofs.YtidicajedckaoaaGreatDoor.Gt

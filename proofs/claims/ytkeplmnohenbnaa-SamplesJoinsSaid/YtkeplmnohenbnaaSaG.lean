
/- The document's answers for layer 17: Pack. -/
import Derived.Test.YtkeplmnohenbnaaSaF
namespace Go.Proofs.Ytkeplmnohenbnaa.Sa
open Go.RowKit Go.Proofs.Ytkeplmnohenbnaa.Oct Go.Proofs.Ytkeplmnohenbnaa.Bit
open Go.Proofs.Ytkeplmnohenbnaa.Lp (VRow vrow_blk vrow_own wpList_append_vals blk_set blk_far blk_frozen fillV fillV_length fillV_zero fillV_all fillV_step)
set_option linter.unusedVariables false
set_option linter.unusedSimpArgs false
set_option maxRecDepth 100000

/-- a text, or an error -/
def RpP (w : World) (X : List UInt8) (er : Int) (e : Ending) (w' : World) : Prop :=
  Below w.heap.size w w' ∧ e = .returned (.tuple #[.string (bs (if er = 0 then X else [])), .int .i64 er])
theorem wu64_small' (c : Int) (h0 : 0 ≤ c) (h1 : c < 4294967296) : IntKind.u64.wrap c = c := by rw [IntKind.wrap_u64]; omega
theorem bs_nil : Value.string { data := #[] } = .string (bs []) := rfl
theorem ds_nil : Value.string { data := #[] } = .string (ds []) := rfl
set_option maxHeartbeats 2000000 in
theorem rpack_any (p : Option Addr) (len cap : Nat) (wide : Int) (big : Bool) (ns : List Nat) (w : World) (hr : VRow w w.heap.size p (u32s ns)) (hx : ns.length = len) (hl : len ≤ 3000) (hb : ∀ n ∈ ns, n < 4294967296) :
    Calls Try.prog 9 #[.slice p len cap, .int .i64 wide, .bool big] w (RpP w (packS wide.toNat big ns) (packE wide ns)) := by
  have HSZ := Lib.hid (rsize_any (len : Int) wide w)
  unfold SizeP at HSZ
  by_cases hok : okS (len : Int) wide = true
  · obtain ⟨_, _, hw1, hw2⟩ := ok_bounds hok
    obtain ⟨wd, rfl⟩ : ∃ wd : Nat, wide = (wd : Int) := ⟨wide.toNat, by omega⟩
    have e1 : sizeE (len : Int) (wd : Int) = 0 := by unfold sizeE; rw [hok]; rfl
    have e2 : packE (wd : Int) ns = overE wd ns := by rw [packE_ok (by rw [hx]; exact hok)]; rfl
    rw [e2, show ((wd : Int)).toNat = wd from rfl]
    rw [e1] at HSZ
    generalize sizeV (len : Int) (wd : Int) = sv at HSZ
    have HX := Lib.hid hx
    have HR := Lib.hid hr
    have HB := Lib.hid hb
    have hd32 : (32 : Int) - (wd : Int) = ((32 - wd : Nat) : Int) := by omega
    obtain ⟨r, hrr⟩ : ∃ r, r = 32 - wd := ⟨_, rfl⟩
    rw [← hrr] at hd32
    have hr32 : r ≤ 32 := by omega
    have HRR := Lib.hid hrr
    have HW1 := Lib.hid hw1
    have hwd : wd ≤ 32 := by omega
    by_cases hwh : whole wd = true
    · have hm : wd / 8 = 2 ∨ wd / 8 = 4 := by rcases whole_cases hwh with rfl | rfl <;> simp
      have h8 : 8 * (wd / 8) = wd := by rcases whole_cases hwh with rfl | rfl <;> rfl
      have hdv : (wd : Int) / 8 = ((wd / 8 : Nat) : Int) := by omega
      have HPS := Lib.hid (packS_whole hwh big ns)
      have HQ : Hid ((wd == 16) = true ∨ ((wd == 16) = false ∧ (wd == 32) = true)) := Lib.hid (by rcases whole_cases hwh with rfl | rfl <;> simp)
      have HQ2 : Hid (wd = 16 ∨ wd = 32) := Lib.hid (whole_cases hwh)
      obtain ⟨m, hm2⟩ : ∃ m, m = wd / 8 := ⟨_, rfl⟩
      rw [← hm2] at hm h8 hdv
      have HPS : Hid (packS wd big ns = putsL m big ns) := Lib.hid (by rw [packS_whole hwh, hm2]; rfl)
      have HM := Lib.hid hm
      have H8 := Lib.hid h8
      have hm4 : m ≤ 4 := by omega
      clear hr hb hok e1 e2 hx hrr hw1 hw2 hwh hm h8 hm2
      go_enter Try.func9, Try.ntmps9
      go_wp2_with fail
      refine HSZ.out.mono ?_
      rintro e w' ⟨rfl, rfl⟩
      go_wp2_with fail
      go_loopw [10, 11, 12, 13, 14] (fun s t i _ _ wr => ∃ k : Nat, k ≤ len ∧ i = .int .i64 (k : Int) ∧ s = .string (bs (putsL m big (ns.take k))) ∧ t = .string (ds []) ∧ Hid (fitA wd (ns.take k) = true) ∧ Hid (Below w.heap.size w wr)) (fun _ _ i _ _ _ => len - (intOf i).toNat)
      case atStart => exact ⟨0, by omega, rfl, rfl, rfl, Lib.hid rfl, Lib.hid (Below.refl _ _)⟩
      case round =>
        obtain ⟨k, hk, rfl, rfl, rfl, HF, HBL⟩ := hrel
        by_cases hlt : k < len
        · have hkl : k < ns.length := by rw [HX.out]; exact hlt
          have HRw := Lib.hid (HR.out.below HBL.out (Nat.le_refl _))
          obtain ⟨b, off, hq, hbl, hcell⟩ := vrow_u32 HRw.out k hkl
          subst hq
          have hv32 : ns[k] < 4294967296 := HB.out _ (List.getElem_mem hkl)
          have HSN := Lib.hid (putsL_snoc m big ns k hkl)
          have HFS := Lib.hid (fitA_snoc wd ns k hkl HF.out)
          have HFN := Lib.hid (fitA_not wd ns k hkl)
          generalize ns[k] = n at hcell hv32 HSN HFS HFN
          have ql : decide ((k : Int) < (len : Int)) = true := by simpa using hlt
          have i1 : (0 : Int) ≤ (k : Int) := by omega
          have i2 : (k : Int) < (len : Int) := by omega
          have HWD := Lib.hid (rword_any n 32 wr (by omega) hv32)
          have hsz : (ds (word n 32)).size = 32 := by rw [ds_size, word_length]
          have hex : (ds (word n 32)).extract 0 r = ds ((word n 32).take (32 - wd)) := by rw [ds_extract, List.drop_zero, Nat.sub_zero, HRR.out]
          have hval : num ((word n 32).take (32 - wd)) = n / 2 ^ wd := by
            rw [word_take n 32 wd (by omega), Nat.mod_eq_of_lt (by omega)]
          have hll : ((word n 32).take (32 - wd)).length ≤ 32 := by rw [List.length_take, word_length]; omega
          have HNUM := Lib.hid (fun w => rnumber_any ((word n 32).take (32 - wd)) w hll)
          rw [hval] at HNUM
          have hsl : (bs (putsL m big (ns.take k))).size ≤ 12000 := by
            rw [bs_size, putsL_length, List.length_take]
            have := Nat.mul_le_mul hm4 (show min k ns.length ≤ 3000 by omega)
            omega
          generalize ds (word n 32) = S at HWD hsz hex
          generalize ds ((word n 32).take (32 - wd)) = T at hex HNUM
          clear hval hll hbl hkl
          go_wp2_with fail
          refine HWD.out.mono ?_
          rintro e w2 ⟨rfl, hb2⟩
          have HB2 := Lib.hid (HBL.out.trans (hb2.mono HBL.out.size))
          have hcell2 : w2.cell? ⟨b, off + k, none⟩ = some (.int .u32 (n : Int)) := (hb2.cell (p := ⟨b, off + k, none⟩) (lt_of_cell hcell)).trans hcell
          clear hb2 HWD hcell
          go_wp2_with fail
          refine (HNUM.out w2).mono ?_
          rintro e w' ⟨rfl, rfl⟩
          by_cases hf : n < 2 ^ wd
          · have hz : n / 2 ^ wd = 0 := Nat.div_eq_of_lt hf
            rw [hz]
            have hwu := wu64_small' (n : Int) (by omega) (by omega)
            have HRPT := Lib.hid (rput_any (n : Int) (m : Int) big w2 (by omega) (by omega))
            have hpv : putV (n : Int) (m : Int) big = putL n m big := by
              unfold putV
              have hs : sizeB (m : Int) = true := by rcases HM.out with rfl | rfl <;> rfl
              have hfb : fitsB (n : Int) (m : Int).toNat = true := by
                rw [← H8.out] at hf
                unfold fitsB
                have : 2 ^ (8 * m) = 256 ^ m := by rw [Nat.pow_mul]
                rw [this] at hf
                have h2 : ((n : Nat) : Int) < ((256 ^ m : Nat) : Int) := by omega
                simp only [Int.toNat_natCast]
                push_cast at h2
                simpa using h2
              rw [hs, hfb]
              simp
            rw [hpv] at HRPT
            have HF2 := Lib.hid (HFS.out hf)
            have hpl : (bs (putL n m big)).size = m := by rw [bs_size, putL_length]
            generalize putE (n : Int) (m : Int) = pe at HRPT
            clear hf hz hpv HFS HFN HNUM
            have hfin : ∀ w3, Below w2.heap.size w2 w3 → ∃ j : Nat, j ≤ len ∧ Value.int .i64 ((k : Int) + 1) = .int .i64 (j : Int) ∧ Value.string (bs (putsL m big (ns.take k)) ++ bs (putL n m big)) = .string (bs (putsL m big (ns.take j))) ∧ Value.string (ds []) = .string (ds []) ∧ Hid (fitA wd (ns.take j) = true) ∧ Hid (Below w.heap.size w w3) := fun w3 h => ⟨k + 1, by omega, by go_num, by rw [HSN.out, bs_append], rfl, HF2, Lib.hid (HB2.out.trans (h.mono HB2.out.size))⟩
            have HFIN := Lib.hid hfin
            clear hfin HSN
            generalize bs (putsL m big (ns.take k)) = S1 at hsl HFIN
            generalize bs (putL n m big) = S2 at hpl HFIN HRPT
            rcases HQ.out with q1 | ⟨q1, q2⟩
            · have e16 : ((wd : Int) == 16) = true := by rw [beq_iff_eq]; have : wd = 16 := by simpa using q1
                                                         omega
              clear q1
              go_wp2_with fail
              refine HRPT.out.mono ?_
              rintro e w3 ⟨rfl, hb3⟩
              have HB3 := Lib.hid hb3
              clear hb3
              go_wp2_with fail
              go_roundw
              case rel =>
                obtain ⟨j, h1, h2, h3, _, h5, h6⟩ := HFIN.out _ HB3.out
                exact ⟨j, h1, h2, h3, rfl, h5, h6⟩
              case measure => simp [intOf]; omega
            · have e16 : ((wd : Int) == 16) = false := by have : ¬ wd = 16 := by simpa using q1
                                                          simp; omega
              have e32 : ((wd : Int) == 32) = true := by rw [beq_iff_eq]; have : wd = 32 := by simpa using q2
                                                         omega
              clear q1 q2
              go_wp2_with fail
              refine HRPT.out.mono ?_
              rintro e w3 ⟨rfl, hb3⟩
              have HB3 := Lib.hid hb3
              clear hb3
              go_wp2_with fail
              go_roundw
              case rel =>
                obtain ⟨j, h1, h2, h3, _, h5, h6⟩ := HFIN.out _ HB3.out
                exact ⟨j, h1, h2, h3, rfl, h5, h6⟩
              case measure => simp [intOf]; omega
          · have hz : n / 2 ^ wd ≠ 0 := by
              intro h
              rw [Nat.div_eq_zero_iff] at h
              have := Nat.pow_pos (n := wd) (show 0 < 2 by omega)
              omega
            have HOE := Lib.hid (overE_no (HFN.out hf))
            generalize n / 2 ^ wd = z at hz
            have qn : ((z : Int) != 0) = true := by simp; omega
            clear hf hz HFS HFN HNUM HSN
            go_wp2_with fail
            go_ret2
            exact ⟨HB2.out, by rw [HOE.out]; rfl⟩
        · have : k = len := by omega
          subst this
          have hfa := HF.out
          rw [← HX.out, List.take_length] at hfa
          have HOE := Lib.hid (overE_ok hfa)
          have HTK : Hid (putsL m big (ns.take k) = putsL m big ns) := Lib.hid (by rw [← HX.out, List.take_length])
          have hsl : (bs (putsL m big (ns.take k))).size ≤ 12000 := by
            rw [bs_size, putsL_length, List.length_take]
            have := Nat.mul_le_mul hm4 (show min k ns.length ≤ 3000 by omega)
            omega
          have HRB := Lib.hid (rbytes_any [] false wr (by simp))
          have ql : decide ((k : Int) < (k : Int)) = false := by simp
          have hsz0 : (bs (packB false [])).size = 0 := by rw [packB_nil]; rfl
          have HFIN : Hid (bs (putsL m big (ns.take k)) ++ bs (packB false []) = bs (packS wd big ns)) := Lib.hid (by rw [HTK.out, packB_nil, bs_append, List.append_nil, HPS.out])
          generalize bs (putsL m big (ns.take k)) = S1 at hsl HFIN
          generalize bs (packB false []) = S2 at HRB hsz0 HFIN
          generalize ds [] = S3 at HRB
          clear hfa HF HR HB HTK hlt hk
          go_wp2_with fail
          refine HRB.out.mono ?_
          rintro e w3 ⟨rfl, hb3⟩
          have HB3 := Lib.hid (HBL.out.trans (hb3.mono HBL.out.size))
          clear hb3
          go_wp2_with fail
          go_ret2
          exact ⟨HB3.out, by rw [HOE.out, HFIN.out]; rfl⟩
    · have hwh : whole wd = false := by simpa using hwh
      have HPS : Hid (packS wd big ns = packB false (ns.flatMap fun v => word v wd)) := Lib.hid (packS_words hwh big ns)
      have e16 : ((wd : Int) == 16) = false := by simp [whole] at hwh; simp; omega
      have e32 : ((wd : Int) == 32) = false := by simp [whole] at hwh; simp; omega
      clear hr hb hok e1 e2 hx hrr hw1 hw2 hwh
      go_enter Try.func9, Try.ntmps9
      go_wp2_with fail
      refine HSZ.out.mono ?_
      rintro e w' ⟨rfl, rfl⟩
      go_wp2_with fail
      go_loopw [10, 11, 12, 13, 14] (fun s t i _ _ wr => ∃ k : Nat, k ≤ len ∧ i = .int .i64 (k : Int) ∧ s = .string (bs []) ∧ t = .string (ds ((ns.take k).flatMap fun v => word v wd)) ∧ Hid (fitA wd (ns.take k) = true) ∧ Hid (Below w.heap.size w wr)) (fun _ _ i _ _ _ => len - (intOf i).toNat)
      case atStart => exact ⟨0, by omega, rfl, rfl, rfl, Lib.hid rfl, Lib.hid (Below.refl _ _)⟩
      case round =>
        obtain ⟨k, hk, rfl, rfl, rfl, HF, HBL⟩ := hrel
        by_cases hlt : k < len
        · have hkl : k < ns.length := by rw [HX.out]; exact hlt
          have HRw := Lib.hid (HR.out.below HBL.out (Nat.le_refl _))
          obtain ⟨b, off, hq, hbl, hcell⟩ := vrow_u32 HRw.out k hkl
          subst hq
          have hv32 : ns[k] < 4294967296 := HB.out _ (List.getElem_mem hkl)
          have HSN := Lib.hid (words_snoc wd ns k hkl)
          have HFS := Lib.hid (fitA_snoc wd ns k hkl HF.out)
          have HFN := Lib.hid (fitA_not wd ns k hkl)
          generalize ns[k] = n at hcell hv32 HSN HFS HFN
          have ql : decide ((k : Int) < (len : Int)) = true := by simpa using hlt
          have i1 : (0 : Int) ≤ (k : Int) := by omega
          have i2 : (k : Int) < (len : Int) := by omega
          have HWD := Lib.hid (rword_any n 32 wr (by omega) hv32)
          have hsz : (ds (word n 32)).size = 32 := by rw [ds_size, word_length]
          have hex : (ds (word n 32)).extract 0 r = ds ((word n 32).take (32 - wd)) := by rw [ds_extract, List.drop_zero, Nat.sub_zero, HRR.out]
          have hval : num ((word n 32).take (32 - wd)) = n / 2 ^ wd := by
            rw [word_take n 32 wd (by omega), Nat.mod_eq_of_lt (by omega)]
          have hll : ((word n 32).take (32 - wd)).length ≤ 32 := by rw [List.length_take, word_length]; omega
          have HNUM := Lib.hid (fun w => rnumber_any ((word n 32).take (32 - wd)) w hll)
          rw [hval] at HNUM
          have hsl : (ds ((ns.take k).flatMap fun v => word v wd)).size ≤ 96000 := by
            rw [ds_size, words_len, List.length_take]
            have := Nat.mul_le_mul hwd (show min k ns.length ≤ 3000 by omega)
            omega
          generalize ds (word n 32) = S at HWD hsz hex
          generalize ds ((word n 32).take (32 - wd)) = T at hex HNUM
          clear hval hll hbl hkl
          go_wp2_with fail
          refine HWD.out.mono ?_
          rintro e w2 ⟨rfl, hb2⟩
          have HB2 := Lib.hid (HBL.out.trans (hb2.mono HBL.out.size))
          have hcell2 : w2.cell? ⟨b, off + k, none⟩ = some (.int .u32 (n : Int)) := (hb2.cell (p := ⟨b, off + k, none⟩) (lt_of_cell hcell)).trans hcell
          clear hb2 HWD hcell
          go_wp2_with fail
          refine (HNUM.out w2).mono ?_
          rintro e w' ⟨rfl, rfl⟩
          by_cases hf : n < 2 ^ wd
          · have hz : n / 2 ^ wd = 0 := Nat.div_eq_of_lt hf
            rw [hz]
            have HF2 := Lib.hid (HFS.out hf)
            have HWD2 := Lib.hid (rword_any n wd w2 hwd hv32)
            have hpl : (ds (word n wd)).size ≤ 32 := by rw [ds_size, word_length]; omega
            clear hf hz HFS HFN HNUM
            have hfin : ∀ w3, Below w2.heap.size w2 w3 → ∃ j : Nat, j ≤ len ∧ Value.int .i64 ((k : Int) + 1) = .int .i64 (j : Int) ∧ Value.string (ds ((ns.take k).flatMap fun v => word v wd) ++ ds (word n wd)) = .string (ds ((ns.take j).flatMap fun v => word v wd)) ∧ Hid (fitA wd (ns.take j) = true) ∧ Hid (Below w.heap.size w w3) := fun w3 h => ⟨k + 1, by omega, by go_num, by rw [HSN.out, ds_append], HF2, Lib.hid (HB2.out.trans (h.mono HB2.out.size))⟩
            have HFIN := Lib.hid hfin
            clear hfin HSN
            generalize ds ((ns.take k).flatMap fun v => word v wd) = S1 at hsl HFIN
            generalize ds (word n wd) = S2 at hpl HFIN HWD2
            go_wp2_with fail
            refine HWD2.out.mono ?_
            rintro e w3 ⟨rfl, hb3⟩
            have HB3 := Lib.hid hb3
            clear hb3
            go_wp2_with fail
            go_roundw
            case rel =>
              obtain ⟨j, h1, h2, h3, h5, h6⟩ := HFIN.out _ HB3.out
              exact ⟨j, h1, h2, rfl, h3, h5, h6⟩
            case measure => simp [intOf]; omega
          · have hz : n / 2 ^ wd ≠ 0 := by
              intro h
              rw [Nat.div_eq_zero_iff] at h
              have := Nat.pow_pos (n := wd) (show 0 < 2 by omega)
              omega
            have HOE := Lib.hid (overE_no (HFN.out hf))
            generalize n / 2 ^ wd = z at hz
            have qn : ((z : Int) != 0) = true := by simp; omega
            clear hf hz HFS HFN HNUM HSN
            go_wp2_with fail
            go_ret2
            exact ⟨HB2.out, by rw [HOE.out]; rfl⟩
        · have : k = len := by omega
          subst this
          have hfa := HF.out
          rw [← HX.out, List.take_length] at hfa
          have HOE := Lib.hid (overE_ok hfa)
          have HTK : Hid (((ns.take k).flatMap fun v => word v wd) = (ns.flatMap fun v => word v wd)) := Lib.hid (by rw [← HX.out, List.take_length])
          have hwl : (ns.flatMap fun v => word v wd).length ≤ 96000 := by
            rw [words_len, HX.out]
            have := Nat.mul_le_mul hwd hl
            omega
          have HRB := Lib.hid (rbytes_any (ns.flatMap fun v => word v wd) false wr (by omega))
          have ql : decide ((k : Int) < (k : Int)) = false := by simp
          have hsz0 : (bs (packB false (ns.flatMap fun v => word v wd))).size ≤ 12000 := by rw [bs_size, packB_length]; omega
          have hsz1 : (bs []).size = 0 := rfl
          have HFIN : Hid (bs [] ++ bs (packB false (ns.flatMap fun v => word v wd)) = bs (packS wd big ns)) := Lib.hid (by rw [bs_append, List.nil_append, HPS.out])
          rw [HTK.out]
          generalize bs [] = S1 at hsz1 HFIN
          generalize bs (packB false (ns.flatMap fun v => word v wd)) = S2 at HRB hsz0 HFIN
          generalize ds (ns.flatMap fun v => word v wd) = S3 at HRB
          clear hfa HF HR HB HTK hlt hk hwl
          go_wp2_with fail
          refine HRB.out.mono ?_
          rintro e w3 ⟨rfl, hb3⟩
          have HB3 := Lib.hid (HBL.out.trans (hb3.mono HBL.out.size))
          clear hb3
          go_wp2_with fail
          go_ret2
          exact ⟨HB3.out, by rw [HOE.out, HFIN.out]; rfl⟩
  · have hok : okS (len : Int) wide = false := by simpa using hok
    have e1 : sizeE (len : Int) wide = 1 := by unfold sizeE; rw [hok]; rfl
    have e2 : sizeV (len : Int) wide = 0 := by unfold sizeV; rw [hok]; rfl
    have HE := Lib.hid (packE_bad (wide := wide) (ns := ns) (by rw [hx]; exact hok))
    rw [e1, e2] at HSZ
    clear hr hb hok e1 e2 hx
    go_enter Try.func9, Try.ntmps9
    go_wp2_with fail
    refine HSZ.out.mono ?_
    rintro e w' ⟨rfl, rfl⟩
    go_wp2_with fail
    go_ret2
    exact ⟨Below.refl _ _, by rw [HE.out]; rfl⟩
end Go.Proofs.Ytkeplmnohenbnaa.Sa


/- The walk of LzwTail: it returns true for any two rows of bytes and any number, and nothing that was there is written. -/
import Derived.Test.YtgdcjhngjdiaoaaLzB
import Derived.Test.YtgdcjhngjdiaoaaLzV
namespace Go.Proofs.Ytgdcjhngjdiaoaa.Lz
open Go.RowKit Go.Proofs.Ytgdcjhngjdiaoaa.Oct Go.Proofs.Ytgdcjhngjdiaoaa.Bit
set_option linter.unusedVariables false
set_option linter.unusedSimpArgs false
set_option maxRecDepth 100000

theorem coded_bits {bits : List Bool} {xs : List UInt8} (h : Coded bits xs) (ts : List UInt8) :
    ∃ L s R, Tells L s xs ∧ bitsOf false (packB false bits ++ ts) = L ++ (wordE false 257 (widN (258 + s.tab.length) false) ++ R) := by
  obtain ⟨L, s, hT, rfl, _⟩ := h
  exact ⟨L, s, _, hT, by rw [bitsOf_append, bitsOf_packB, List.append_assoc, List.append_assoc]⟩
theorem coded_all {bits : List Bool} {xs : List UInt8} (h : Coded bits xs) (ts : List UInt8) : decR false (bitsOf false (packB false bits ++ ts)) (xs.length : Int) = (xs, 0) := by
  obtain ⟨L, s, R, hT, e⟩ := coded_bits h ts
  unfold decR
  rw [if_neg (by omega), e, Int.toNat_natCast]
  exact hT.all _
theorem coded_less {bits : List Bool} {xs : List UInt8} (h : Coded bits xs) (ts : List UInt8) (n : Nat) (hn : n ≤ xs.length) :
    decR false (bitsOf false (packB false bits ++ ts)) (n : Int) = ([], 5) ∨ decR false (bitsOf false (packB false bits ++ ts)) (n : Int) = (xs.take n, 0) := by
  obtain ⟨L, s, R, hT, e⟩ := coded_bits h ts
  unfold decR
  rw [if_neg (by omega), e, Int.toNat_natCast]
  exact hT.less _ n hn
theorem coded_more {bits : List Bool} {xs : List UInt8} (h : Coded bits xs) (ts : List UInt8) (n : Nat) (hn : xs.length < n) : decR false (bitsOf false (packB false bits ++ ts)) (n : Int) = ([], 2) := by
  obtain ⟨L, s, R, hT, e⟩ := coded_bits h ts
  unfold decR
  rw [if_neg (by omega), e, Int.toNat_natCast]
  exact hT.more _ n hn
set_option maxHeartbeats 2000000 in
theorem tail_walk (p : Option Addr) (len cap : Nat) (zs0 : List Int) (p2 : Option Addr) (len2 cap2 : Nat) (zs2 : List Int) (z : Int) (w : World)
    (hr0 : IsRow .u8 w p len cap zs0) (hr20 : IsRow .u8 w p2 len2 cap2 zs2) (hz0 : (Lit.int .i64 z).wf = true) :
    Calls Try.prog 7 #[.slice p len cap, .slice p2 len2 cap2, .int .i64 z] w fun e w' => e = .returned (.bool true) ∧ Below w.heap.size w w' := by
  obtain ⟨xs, hx, hr, hlc, hcm, hnil⟩ := hr0.row
  obtain ⟨ts, hy, hrY, hlc2, hcm2, hnil2⟩ := hr20.row
  obtain ⟨hzl, hzu⟩ := bounds_i64 hz0
  clear hr0 hr20 hz0
  by_cases hbig : 1500 < len ∨ 100 < len2
  · have hd1 : decide (1500 < (len : Int)) = true ∨ (decide (1500 < (len : Int)) = false ∧ decide (100 < (len2 : Int)) = true) := by
      by_cases h : 1500 < len
      · left; simp; omega
      · right; simp; omega
    unfold maxLen at hcm hcm2
    rcases hd1 with hd | ⟨hd, hd'⟩
    all_goals
      go_enter Try.func7, Try.ntmps7
      go_wp2_with fail
      refine (lives_any _).mono ?_
      rintro e w1 ⟨rfl, hb1⟩
      go_wp2_with fail
      refine (lives_any _).mono ?_
      rintro e w2 ⟨rfl, hb2⟩
      go_wp2_with fail
      go_ret
      exact ⟨rfl, hb1.trans (hb2.mono hb1.size)⟩
  · have hd : decide (1500 < (len : Int)) = false := by simp; omega
    have hd' : decide (100 < (len2 : Int)) = false := by simp; omega
    have HX := Lib.hid hx
    have HY := Lib.hid hy
    have HR := Lib.hid hr
    have HRY := Lib.hid hrY
    have HCM := Lib.hid hcm
    unfold maxLen at hcm hcm2
    clear hx hy hr hrY hcm
    go_enter Try.func7, Try.ntmps7
    go_wp2_with fail
    refine (lives_any _).mono ?_
    rintro e w1 ⟨rfl, hb1⟩
    have HB1 := Lib.hid hb1
    clear hb1
    go_wp2_with fail
    refine (encode_any _ _ _ xs _ (by exact HR.out.below HB1.out) HX.out hlc HCM.out hnil (by omega)).mono ?_
    rintro e w2 ⟨bits, q1, c1, rfl, hrow1, hoc1, hcm1, hq1, hb2, hcd, hbl⟩
    have HB2 := Lib.hid (HB1.out.trans (hb2.mono HB1.out.size))
    have hall := coded_all hcd ts
    rw [HX.out] at hall
    have HALL := Lib.hid hall
    have HLESS := Lib.hid (fun n (hn : n ≤ len) => by
      have h := coded_less hcd [] n (by rw [HX.out]; exact hn)
      rw [List.append_nil] at h
      exact h)
    have hmore := coded_more hcd [] (len + 1) (by rw [HX.out]; omega)
    rw [List.append_nil] at hmore
    have HMORE := Lib.hid hmore
    have hpl := packB_length false bits
    rw [HX.out] at hbl
    have hpb : (packB false bits).length ≤ 20000 := by rw [hpl]; omega
    clear hcd hall hmore hpl hbl
    generalize packB false bits = o1 at *
    have HRW1 := Lib.hid hrow1
    have hown := World.ownsRow_made (base := w2.heap.size) (e := 5) (size := 1) w2 #[] 0 (Nat.le_refl _) (by simp [maxLen]) rfl
    have hbA : Below w2.heap.size w2 (w2.alloc (.cells #[] 5)) := (Below.refl _ w2).alloc (Nat.le_refl _) _
    have HRA := Lib.hid (hrow1.below hbA)
    have HBA := Lib.hid hbA
    unfold maxLen at hcm1
    clear hb2 hrow1 hbA HB1
    go_wp2_with (at_builtin; refine wpList_append_bytes rfl _ _ rfl w2.heap.size _ 0 [] rfl hown q1 o1.length c1 o1 rfl HRA.out rfl hq1 (by omega) (by simp) ?_)
    intro v5 w5 hown5 hgrow5 hv5
    have HB5 := Lib.hid (HBA.out.trans (grown_below hown hgrow5 HBA.out.size))
    have HO5 := Lib.hid hown5
    have HRTA := Lib.hid (HRY.out.below (HB2.out.trans (HB5.out.mono HB2.out.size)))
    have HZ5 := Lib.hid HB5.out.size
    obtain ⟨q5, c5, rfl, _, _, _, _⟩ := own_shape hown5 rfl
    clear hown hown5 hgrow5 hv5 HRA HBA
    go_wp2_with (at_builtin; refine wpList_append_bytes rfl _ _ rfl w2.heap.size _ o1.length o1 rfl HO5.out p2 len2 cap2 ts rfl HRTA.out HY.out hnil2 (by omega) HZ5.out ?_)
    intro v6 w6 hown6 hgrow6 hv6
    have hl6 : (o1 ++ ts).length = o1.length + len2 := by rw [List.length_append, HY.out]
    obtain ⟨q6, c6, rfl, hq6, hc6, hm6, hrow6⟩ := own_shape hown6 hl6
    have HB6 := Lib.hid (HB5.out.trans (grown_below HO5.out hgrow6 HZ5.out))
    have HBW6 := Lib.hid (HB2.out.trans (HB6.out.mono HB2.out.size))
    have HRW6 := Lib.hid hrow6
    have HL6 := Lib.hid hl6
    have HQ6 := Lib.hid hq6
    clear hown6 hgrow6 hv6 hrow6 hl6 hm6 HO5 HZ5 HRTA HB5 hq6
    go_wp2_with fail
    refine (decodeN_any _ _ _ (o1 ++ ts) _ _ (by exact HRW6.out) HL6.out HQ6.out (by omega) (by omega)).mono ?_
    rintro e w7 ⟨hb7, q7, c7, rfl, hrow7, _⟩
    rw [HALL.out] at hrow7 ⊢
    have HB27 := Lib.hid (HB6.out.trans (hb7.mono HB6.out.size))
    have HB7 := Lib.hid (HB2.out.trans (HB27.out.mono HB2.out.size))
    have ca1 := conv_row xs.length c7 hrow7 rfl
    rw [HX.out] at ca1
    have ca2 := conv_row len cap (HR.out.below HB7.out) HX.out
    have HRX := Lib.hid (HRW1.out.below HB27.out)
    dsimp only
    rw [HX.out]
    have hsp := spot_lt z (len + 1) (by omega)
    have hsc := spot_cast z (len + 1)
    obtain ⟨i, hi⟩ : ∃ i, i = spot z (len + 1) := ⟨_, rfl⟩
    rw [← hi, show ((len + 1 : Nat) : Int) = (len : Int) + 1 from by omega] at hsc
    rw [← hi] at hsp
    clear hrow7 hb7 HALL HRW6 HL6 HB6 HBW6 HRW1 hi HQ6
    have hdk := decodeN_any q1 o1.length c1 o1 (i : Int) w7 HRX.out rfl hq1 (by omega) (by omega)
    have hdm := fun w9 (h : Below w7.heap.size w7 w9) => decodeN_any q1 o1.length c1 o1 ((len + 1 : Nat) : Int) w9 (HRX.out.below h) rfl hq1 (by omega) (by omega)
    rw [HMORE.out, show ((len + 1 : Nat) : Int) = (len : Int) + 1 from by omega] at hdm
    have HDM := Lib.hid hdm
    clear hdm HMORE
    rcases HLESS.out i (by omega) with he | he
    all_goals
      rw [he] at hdk
      have HDK := Lib.hid hdk
      clear hdk he
      go_wp2_with fail
      refine HDK.out.mono ?_
      rintro e w8 ⟨hb8, q8, c8, rfl, hrow8, _⟩
    · have HB8 := Lib.hid (HB7.out.trans (hb8.mono HB7.out.size))
      have HB78 := Lib.hid hb8
      clear hrow8 hb8 ca1 ca2
      go_wp2_with fail
      go_quiet (fail)
      go_wp2_with fail
      refine (HDM.out _ (HB78.out.trans ((show Drawn w8 (w8.drewN _) from ⟨_, rfl⟩).below _))).mono ?_
      rintro e w9 ⟨hb9, q9, c9, rfl, _⟩
      have HB9 := Lib.hid ((HB8.out.trans ((show Drawn w8 (w8.drewN _) from ⟨_, rfl⟩).below _)).trans (hb9.mono (by exact HB8.out.size)))
      clear hb9
      go_wp2_with fail
      go_ret
      exact ⟨rfl, HB9.out⟩
    · have HB8 := Lib.hid (HB7.out.trans (hb8.mono HB7.out.size))
      have HB78 := Lib.hid hb8
      have hl8 : (xs.take i).length = i := by rw [List.length_take, HX.out]; omega
      dsimp only at hrow8 ⊢
      rw [hl8]
      have ca3 : ∀ j, (convert 22 9 (.slice q8 i c8)).run Try.prog (w8.drewN j) = .ok (.string (bs (xs.take i))) (w8.drewN j) := fun j =>
        conv_row i c8 (hrow8.below ((show Drawn w8 (w8.drewN j) from ⟨j, rfl⟩).below _)) hl8
      have ca4 : ∀ j, (convert 22 9 (.slice (headA p cap) i cap)).run Try.prog (w8.drewN j) = .ok (.string (bs (xs.take i))) (w8.drewN j) := fun j =>
        conv_row i cap ((head_row cap i (HR.out.below HB8.out)).below ((show Drawn w8 (w8.drewN j) from ⟨j, rfl⟩).below _)) hl8
      have hsl := fun W => head_run W p len cap i (by omega)
      have b0 : (0 : Int) ≤ (i : Int) := by omega
      have b1 : (i : Int) ≤ (cap : Int) := by omega
      clear hrow8 hb8 ca1 ca2 hl8
      generalize bs (xs.take i) = S at *
      go_wp2_with fail
      go_quiet (fail)
      go_wp2_with fail
      refine (HDM.out _ (HB78.out.trans ((show Drawn w8 (w8.drewN _) from ⟨_, rfl⟩).below _))).mono ?_
      rintro e w9 ⟨hb9, q9, c9, rfl, _⟩
      have HB9 := Lib.hid ((HB8.out.trans ((show Drawn w8 (w8.drewN _) from ⟨_, rfl⟩).below _)).trans (hb9.mono (by exact HB8.out.size)))
      clear hb9
      go_wp2_with fail
      go_ret
      exact ⟨rfl, HB9.out⟩
end Go.Proofs.Ytgdcjhngjdiaoaa.Lz

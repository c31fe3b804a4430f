/- Contracts of the document's Write, Align and Bytes. -/
import Derived.Test.YtpphcooikhncfaaBitY
namespace Go.Proofs.Ytpphcooikhncfaa.Bit
open Go.RowKit Go.Proofs.Ytpphcooikhncfaa.Oct
set_option linter.unusedVariables false

theorem rwrite_any (l : List Bool) (m : Nat) (n : Int) (low : Bool) (w : World) (hm : m < 4294967296) (hl : l.length ≤ 100000) :
    Calls Try.prog 21 #[.string (ds l), .int .u32 (m : Int), .int .i64 n, .bool low] w
      fun e w' => e = .returned (.tuple #[.string (ds (wrL low l m n)), .int .i64 (wrE m n)]) ∧ Below w.heap.size w w' := by
  by_cases hc : cntB n = true
  · have hb := of_decide_eq_true hc
    obtain ⟨k, rfl⟩ : ∃ k : Nat, n = (k : Int) := ⟨n.toNat, by omega⟩
    have hk : k ≤ 32 := by omega
    have hd1 : decide ((k : Int) < 0) = false := by simp
    have hd2 : decide (32 < (k : Int)) = false := by simp; omega
    have ht : ((32 : Int) - (k : Int)).toNat = 32 - k := by omega
    have hz0 : (ds (word m 32)).size = 32 := by rw [ds_size, word_length]
    have x1 : (ds (word m 32)).extract 0 (32 - k) = ds ((word m 32).take (32 - k)) := by rw [ds_extract]; simp
    have x2 : (ds (word m 32)).extract (32 - k) 32 = ds (word m k) := by
      rw [ds_extract, word_drop m 32 k hk, List.take_of_length_le (by rw [word_length]; omega)]
    have hnum : num ((word m 32).take (32 - k)) = m / 2 ^ k := by rw [word_take m 32 k hk, Nat.mod_eq_of_lt (by simpa using hm)]
    have hlz : (ds l).size ≤ 100000 := by rw [ds_size]; exact hl
    have hlw : (ds (word m k)).size ≤ 32 := by rw [ds_size, word_length]; exact hk
    have hlw2 : (ds (word m k).reverse).size ≤ 32 := by rw [ds_size, List.length_reverse, word_length]; exact hk
    have hsz := shr_zero m k
    rw [show ((m : Int) / 2 ^ k) = ((m / 2 ^ k : Nat) : Int) by push_cast; rfl] at hsz
    have HN := Lib.hid hnum
    have HX1 := Lib.hid x1
    have HX2 := Lib.hid x2
    clear hnum
    have hge : 0 ≤ (32 : Int) - (k : Int) := by omega
    have hle : (32 : Int) - (k : Int) ≤ 32 := by omega
    by_cases ho : m < 2 ^ k
    · have how : okW m (k : Int) = true := by unfold okW; rw [hc]; simpa using ho
      have e1 : wrE m (k : Int) = 0 := by unfold wrE; rw [hc, how]; rfl
      have e2 : wrL low l m (k : Int) = l ++ wordE low m k := by unfold wrL; rw [how]; rfl
      have hz : m / 2 ^ k = 0 := Nat.div_eq_of_lt ho
      rw [hz] at HN
      have E1 := Lib.hid e1
      have E2 := Lib.hid e2
      clear hc e1 e2 how ho hsz hz
      cases low
      · go_enter Try.func21, Try.ntmps21
        go_wp2_with fail
        refine (rword_any _ 32 _ (by omega) hm).mono ?_
        rintro e w1 ⟨rfl, hb1⟩
        go_wp2_with fail
        refine (rnumber_any _ _ (by rw [List.length_take, word_length]; omega)).mono ?_
        rintro e w' ⟨rfl, rfl⟩
        rw [HN.out]
        go_wp2_with fail
        go_ret2
        refine ⟨?_, hb1⟩
        rw [E1.out, E2.out, show wordE false m k = word m k from rfl, ← ds_append]
        rfl
      · go_enter Try.func21, Try.ntmps21
        go_wp2_with fail
        refine (rword_any _ 32 _ (by omega) hm).mono ?_
        rintro e w1 ⟨rfl, hb1⟩
        go_wp2_with fail
        refine (rnumber_any _ _ (by rw [List.length_take, word_length]; omega)).mono ?_
        rintro e w' ⟨rfl, rfl⟩
        rw [HN.out]
        go_wp2_with fail
        refine (dturn_any _ _ (by rw [word_length]; omega)).mono ?_
        rintro e w' ⟨rfl, rfl⟩
        go_wp2_with fail
        go_ret2
        refine ⟨?_, hb1⟩
        rw [E1.out, E2.out, show wordE true m k = (word m k).reverse from rfl, ← ds_append]
        rfl
    · have how : okW m (k : Int) = false := by unfold okW; rw [hc]; simp at ho; simpa using ho
      have e1 : wrE m (k : Int) = 7 := by unfold wrE; rw [hc, how]; rfl
      have e2 : wrL low l m (k : Int) = l := by unfold wrL; rw [how]; rfl
      rw [show decide (m < 2 ^ k) = false from by simp at ho; simpa using ho, Bool.not_false] at hsz
      have E1 := Lib.hid e1
      have E2 := Lib.hid e2
      clear hc e1 e2 how ho
      generalize m / 2 ^ k = d at hsz HN
      go_enter Try.func21, Try.ntmps21
      go_wp2_with fail
      refine (rword_any _ 32 _ (by omega) hm).mono ?_
      rintro e w1 ⟨rfl, hb1⟩
      go_wp2_with fail
      refine (rnumber_any _ _ (by rw [List.length_take, word_length]; omega)).mono ?_
      rintro e w' ⟨rfl, rfl⟩
      rw [HN.out]
      go_wp2_with fail
      go_ret2
      exact ⟨by rw [E1.out, E2.out]; rfl, hb1⟩
  · have hc' : cntB n = false := by simpa using hc
    have how : okW m n = false := by unfold okW; rw [hc']; rfl
    have e1 : wrE m n = 1 := by unfold wrE; rw [hc']; rfl
    have e2 : wrL low l m n = l := by unfold wrL; rw [how]; rfl
    have hb : ¬ (0 ≤ n ∧ n ≤ 32) := of_decide_eq_false hc'
    have E1 := Lib.hid e1
    have E2 := Lib.hid e2
    clear hc hc' e1 e2 how
    by_cases h0 : n < 0
    · have hd1 : decide (n < 0) = true := by simpa using h0
      clear hb
      go_enter Try.func21, Try.ntmps21
      go_wp2_with fail
      go_ret2
      exact ⟨by rw [E1.out, E2.out]; rfl, Below.refl _ _⟩
    · have hd1 : decide (n < 0) = false := by simpa using h0
      have hd2 : decide (32 < n) = true := by simp; omega
      clear hb
      go_enter Try.func21, Try.ntmps21
      go_wp2_with fail
      go_ret2
      exact ⟨by rw [E1.out, E2.out]; rfl, Below.refl _ _⟩
def strLen : Value → Nat | .string b => b.size | _ => 0
theorem zs1 : (Value.string { data := #[48] }) = .string (ds (zs 1)) := by rfl
theorem zs8 : (Value.string { data := #[48, 48, 48, 48, 48, 48, 48, 48] }) = .string (ds (zs 8)) := by rfl
theorem padL_done (l : List Bool) (h : l.length % 8 = 0) : padL l = l := by
  unfold padL
  rw [show 8 * ((l.length + 7) / 8) - l.length = 0 by omega]
  simp [zs]
set_option maxHeartbeats 400000 in
theorem ralign_any (l : List Bool) (w : World) (hl : l.length ≤ 100000) : Calls Try.prog 26 #[.string (ds l)] w fun e w' => e = .returned (.string (ds (padL l))) ∧ w = w' := by
  go_enter Try.func26, Try.ntmps26
  try rw [zs1]
  go_wp2_with fail
  go_loop [0] (fun s => ∃ j : Nat, l.length + j ≤ 8 * ((l.length + 7) / 8) ∧ s = .string (ds (l ++ zs j))) (fun s => 8 * ((l.length + 7) / 8) - strLen s)
  case atStart => exact ⟨0, by omega, by simp [zs]⟩
  case round =>
    obtain ⟨j, hj, rfl⟩ := hrel
    have hsz : (ds (l ++ zs j)).size = l.length + j := by rw [ds_size, List.length_append, zs_length]
    by_cases hlt : l.length + j < 8 * ((l.length + 7) / 8)
    · have hne : (((l.length : Int) + (j : Int)) % 8 != 0) = true := by simp; omega
      have hz1 : (ds (zs 1)).size = 1 := by rw [ds_size, zs_length]
      go_wp2_with fail
      go_round
      case rel =>
        refine ⟨j + 1, by omega, ?_⟩
        show Value.string (ds (l ++ zs j) ++ ds (zs 1)) = _
        rw [ds_append, List.append_assoc, zs_add]
      case measure =>
        show 8 * ((l.length + 7) / 8) - (ds (l ++ zs j) ++ ds (zs 1)).size < 8 * ((l.length + 7) / 8) - (ds (l ++ zs j)).size
        rw [ds_append, ds_size, ds_size, List.length_append, List.length_append, zs_length, zs_length]
        omega
    · have heq : (((l.length : Int) + (j : Int)) % 8 != 0) = false := by simp; omega
      have hfin : l ++ zs j = padL l := by unfold padL; rw [show 8 * ((l.length + 7) / 8) - l.length = j by omega]
      have HF := Lib.hid hfin
      clear hfin
      go_wp2_with fail
      go_ret
      exact ⟨by rw [← HF.out]; rfl, rfl⟩
set_option maxHeartbeats 600000 in
theorem rbytes_any (l : List Bool) (low : Bool) (w : World) (hl : l.length ≤ 100000) : Calls Try.prog 29 #[.string (ds l), .bool low] w fun e w' => e = .returned (.string (bs (packB low l))) ∧ Below w.heap.size w w' := by
  have hsz := ds_size l
  have hpl := packB_length low l
  have HPL := Lib.hid hpl
  clear hpl
  go_enter Try.func29, Try.ntmps29
  rw [zs8]
  go_wp2_with fail
  go_loopw [5, 6] (fun s i wr => ∃ k : Nat, k ≤ (l.length + 7) / 8 ∧ i = .int .i64 ((8 * k : Nat) : Int) ∧ s = .string (bs ((packB low l).take k)) ∧ Below w.heap.size w wr) (fun _ c _ => 8 * ((l.length + 7) / 8) - (intOf c).toNat)
  case atStart => exact ⟨0, by omega, rfl, rfl, Below.refl _ _⟩
  case round =>
    obtain ⟨k, hk, rfl, rfl, hF⟩ := hrel
    by_cases hlt : 8 * k < l.length
    · have hkp : k < (packB low l).length := by rw [HPL.out]; omega
      have hbN : (packB low l)[k] = byteN low l k := packB_get low l k hkp
      have htk : (packB low l).take (k + 1) = (packB low l).take k ++ [byteN low l k] := by rw [take_succ' _ k hkp, hbN]
      have x1 : (ds l).extract (8 * k) l.length = ds (l.drop (8 * k)) := by rw [ds_extract, List.take_of_length_le (by simp)]
      have x2 : ds (l.drop (8 * k)) ++ ds (zs 8) = ds (l.drop (8 * k) ++ zs 8) := ds_append _ _
      have hz1 : (ds (l.drop (8 * k))).size ≤ 100000 := by rw [ds_size, List.length_drop]; omega
      have hz2 : (ds (zs 8)).size = 8 := by rw [ds_size, zs_length]
      have hz3 : 8 ≤ (ds (l.drop (8 * k) ++ zs 8)).size := by rw [ds_size, List.length_append, zs_length]; omega
      have x3 : (ds (l.drop (8 * k) ++ zs 8)).extract 0 8 = ds (chunk l k) := by rw [ds_extract]; rfl
      have hcl := chunk_length l k
      have hbt := byteN_toNat low l k
      have hbb : (byteN low l k).toNat < 256 := (byteN low l k).toNat_lt
      have hzo : (bs ((packB low l).take k)).size ≤ 100000 := by rw [bs_size, List.length_take]; omega
      have HTK := Lib.hid htk
      have HCL := Lib.hid hcl
      have HBT := Lib.hid hbt
      have H8 := Lib.hid (show (((8 * k : Nat)) : Int) = 8 * (k : Int) by omega)
      have hd : ((8 * k : Nat) : Int) < (l.length : Int) := by omega
      have ht8 : ((8 : Int) * (k : Int)).toNat = 8 * k := by omega
      clear hbN htk hcl hbt
      have hcvr := fun w' : World => conv_row (w := w'.alloc (.cells #[.int .u8 ((byteN low l k).toNat : Int)] 5)) 1 1 (row_val w' ((byteN low l k).toNat : Int) (byteN low l k) rfl) rfl
      have hzb : (bs [byteN low l k]).size = 1 := by rw [bs_size]; rfl
      cases low
      · have hnm : num (chunk l k) = (byteN false l k).toNat := by rw [HBT.out]; rfl
        have HNM := Lib.hid hnm
        clear hnm
        go_wp2_with fail
        refine (rnumber_any _ _ (by rw [HCL.out]; omega)).mono ?_
        rintro e w' ⟨rfl, rfl⟩
        rw [HNM.out]
        go_wp2_with fail
        go_roundw
        case rel =>
          refine ⟨k + 1, by omega, by go_num, ?_, hF.alloc hF.size _⟩
          rw [HTK.out, ← bs_append]
        case measure => simp [intOf]; omega
      · have hnm : num (chunk l k).reverse = (byteN true l k).toNat := by rw [HBT.out]; rfl
        have HNM := Lib.hid hnm
        clear hnm
        go_wp2_with fail
        refine (dturn_any _ _ (by rw [HCL.out]; omega)).mono ?_
        rintro e w' ⟨rfl, rfl⟩
        go_wp2_with fail
        refine (rnumber_any _ _ (by rw [List.length_reverse, HCL.out]; omega)).mono ?_
        rintro e w' ⟨rfl, rfl⟩
        rw [HNM.out]
        go_wp2_with fail
        go_roundw
        case rel =>
          refine ⟨k + 1, by omega, by go_num, ?_, hF.alloc hF.size _⟩
          rw [HTK.out, ← bs_append]
        case measure => simp [intOf]; omega
    · have hfull : (packB low l).take k = packB low l := List.take_of_length_le (by rw [HPL.out]; omega)
      rw [hfull]
      clear hfull
      have hd : decide (((8 * k : Nat) : Int) < (l.length : Int)) = false := by simp; omega
      go_wp2_with fail
      go_ret
      exact ⟨rfl, hF⟩
end Go.Proofs.Ytpphcooikhncfaa.Bit

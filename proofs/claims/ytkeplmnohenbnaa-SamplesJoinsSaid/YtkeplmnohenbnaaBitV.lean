
/- Contracts of the document's Write, Align and Bytes. -/
import Derived.Test.YtkeplmnohenbnaaBitY
namespace Go.Proofs.Ytkeplmnohenbnaa.Bit
open Go.RowKit Go.Proofs.Ytkeplmnohenbnaa.Oct
set_option linter.unusedVariables false
set_option maxRecDepth 20000

def strLen : Value → Nat | .string b => b.size | _ => 0
theorem zs1 : (Value.string { data := #[48] }) = .string (ds (zs 1)) := by rfl
theorem zs8 : (Value.string { data := #[48, 48, 48, 48, 48, 48, 48, 48] }) = .string (ds (zs 8)) := by rfl
theorem padL_done (l : List Bool) (h : l.length % 8 = 0) : padL l = l := by
  unfold padL
  rw [show 8 * ((l.length + 7) / 8) - l.length = 0 by omega]
  simp [zs]
set_option maxHeartbeats 600000 in
theorem rbytes_any (l : List Bool) (low : Bool) (w : World) (hl : l.length ≤ 100000) : Calls Try.prog 22 #[.string (ds l), .bool low] w fun e w' => e = .returned (.string (bs (packB low l))) ∧ Below w.heap.size w w' := by
  have hsz := ds_size l
  have hpl := packB_length low l
  have HPL := Lib.hid hpl
  clear hpl
  go_enter Try.func22, Try.ntmps22
  rw [zs8]
  go_wp2_with fail
  go_loopw [5, 6] (fun s i wr => ∃ k : Nat, k ≤ (l.length + 7) / 8 ∧ i = .int .i64 ((8 * k : Nat) : Int) ∧ s = .string (bs ((packB low l).take k)) ∧ Below w.heap.size w wr) (fun _ c _ => 8 * ((l.length + 7) / 8) - (intOf c).toNat)
  case atStart => exact ⟨0, by omega, rfl, rfl, Below.refl _ _⟩
  case round =>
    obtain ⟨k, hk, rfl, rfl, hF⟩ := hrel
    by_cases hlt : 8 * k < l.length
    · have hkp : k < (packB low l).length := by rw [HPL.out]; omega
      have hbN : (packB low l)[k] = byteN low l k := packB_get low l k hkp
      have htk : (packB low l).take (k + 1) = (packB low l).take k ++ [byteN low l k] := by rw [take_succ' _ k hkp, hbN]
      have x1 : (ds l).extract (8 * k) l.length = ds (l.drop (8 * k)) := by rw [ds_extract, List.take_of_length_le (by simp)]
      have x2 : ds (l.drop (8 * k)) ++ ds (zs 8) = ds (l.drop (8 * k) ++ zs 8) := ds_append _ _
      have hz1 : (ds (l.drop (8 * k))).size ≤ 100000 := by rw [ds_size, List.length_drop]; omega
      have hz2 : (ds (zs 8)).size = 8 := by rw [ds_size, zs_length]
      have hz3 : 8 ≤ (ds (l.drop (8 * k) ++ zs 8)).size := by rw [ds_size, List.length_append, zs_length]; omega
      have x3 : (ds (l.drop (8 * k) ++ zs 8)).extract 0 8 = ds (chunk l k) := by rw [ds_extract]; rfl
      have hcl := chunk_length l k
      have hbt := byteN_toNat low l k
      have hbb : (byteN low l k).toNat < 256 := (byteN low l k).toNat_lt
      have hzo : (bs ((packB low l).take k)).size ≤ 100000 := by rw [bs_size, List.length_take]; omega
      have HTK := Lib.hid htk
      have HCL := Lib.hid hcl
      have HBT := Lib.hid hbt
      have H8 := Lib.hid (show (((8 * k : Nat)) : Int) = 8 * (k : Int) by omega)
      have hd : ((8 * k : Nat) : Int) < (l.length : Int) := by omega
      have ht8 : ((8 : Int) * (k : Int)).toNat = 8 * k := by omega
      clear hbN htk hcl hbt
      have hcvr := fun w' : World => conv_row (w := w'.alloc (.cells #[.int .u8 ((byteN low l k).toNat : Int)] 5)) 1 1 (row_val w' ((byteN low l k).toNat : Int) (byteN low l k) rfl) rfl
      have hzb : (bs [byteN low l k]).size = 1 := by rw [bs_size]; rfl
      cases low
      · have hnm : num (chunk l k) = (byteN false l k).toNat := by rw [HBT.out]; rfl
        have HNM := Lib.hid hnm
        clear hnm
        go_wp2_with fail
        refine (rnumber_any _ _ (by rw [HCL.out]; omega)).mono ?_
        rintro e w' ⟨rfl, rfl⟩
        rw [HNM.out]
        go_wp2_with fail
        go_roundw
        case rel =>
          refine ⟨k + 1, by omega, by go_num, ?_, hF.alloc hF.size _⟩
          rw [HTK.out, ← bs_append]
        case measure => simp [intOf]; omega
      · have hnm : num (chunk l k).reverse = (byteN true l k).toNat := by rw [HBT.out]; rfl
        have HNM := Lib.hid hnm
        clear hnm
        go_wp2_with fail
        refine (dturn_any _ _ (by rw [HCL.out]; omega)).mono ?_
        rintro e w' ⟨rfl, rfl⟩
        go_wp2_with fail
        refine (rnumber_any _ _ (by rw [List.length_reverse, HCL.out]; omega)).mono ?_
        rintro e w' ⟨rfl, rfl⟩
        rw [HNM.out]
        go_wp2_with fail
        go_roundw
        case rel =>
          refine ⟨k + 1, by omega, by go_num, ?_, hF.alloc hF.size _⟩
          rw [HTK.out, ← bs_append]
        case measure => simp [intOf]; omega
    · have hfull : (packB low l).take k = packB low l := List.take_of_length_le (by rw [HPL.out]; omega)
      rw [hfull]
      clear hfull
      have hd : decide (((8 * k : Nat) : Int) < (l.length : Int)) = false := by simp; omega
      go_wp2_with fail
      go_ret
      exact ⟨rfl, hF⟩
end Go.Proofs.Ytkeplmnohenbnaa.Bit

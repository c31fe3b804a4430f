
/- The chapter's example holds. -/
import Derived.Test.YtgddpjnikgcamaaDoorMiG
import Derived.Test.YtgddpjnikgcamaaDoorRnK
import Derived.Test.YtgddpjnikgcamaaDoorFyK
namespace Go.Proofs.YtgddpjnikgcamaaDoor.Mh
open Go.RowKit Go.Proofs.YtgddpjnikgcamaaDoor.Oct Go.Proofs.YtgddpjnikgcamaaDoor.Bit
open Go.Proofs.YtgddpjnikgcamaaDoor.Fx (Tab Cd Out OutW WrP CW codes_any TrueT)
open Go.Proofs.YtgddpjnikgcamaaDoor.Rn (changes zl zl_length ints_new rsame_any)
open Go.Proofs.YtgddpjnikgcamaaDoor.Lp (VRow ints ints_length)
set_option linter.unusedVariables false
set_option linter.unusedSimpArgs false
set_option maxRecDepth 100000

theorem ex_len : (rowC [2, 4, 7] 8).length = 13 := by kernel_rfl
theorem ex_pack : packB false (rowC [2, 4, 7] 8) = [126, 16] := by kernel_rfl
theorem ex_read : (readRowA (bitsOf false [126, 16]) 8 0 [] false).1 = 13 ∧ rowL (readRowA (bitsOf false [126, 16]) 8 0 [] false).2 = [2, 4, 7] ∧ rowE (readRowA (bitsOf false [126, 16]) 8 0 [] false).2 = 0 := by
  refine ⟨by kernel_rfl, by kernel_rfl, by kernel_rfl⟩
theorem ex_valid : Rn.Valid [2, 4, 7] 8 := by
  refine ⟨by simp, fun x hx => ?_⟩
  simp at hx
  omega
set_option maxHeartbeats 4000000 in
theorem lives_any (w : World) (hT : Tab w) : Calls Tryd.prog 8 #[] w (TrueT w) := by
  have HT := Lib.hid hT
  clear hT
  go_enter Tryd.func8, Tryd.ntmps8
  go_wp2_with fail
  refine (newWriter_any false w).mono ?_
  rintro e w1 ⟨hb1, rfl, hw1⟩
  have HB1 := Lib.hid hb1
  have HW1 := Lib.hid hw1
  clear hb1 hw1
  go_wp2_with fail
  refine (codes_any w1 (HT.out.below HB1.out HT.out.lt)).mono ?_
  rintro e w2 ⟨hb2, c, rfl, hc⟩
  have HCW := Lib.hid (CW.first HW1.out rfl HB1.out hb2 hc)
  generalize hgwe : w.heap.size = gw at *
  have HGWE := Lib.hid hgwe
  generalize w1.heap.size = B at *
  generalize w2.heap.size = C at *
  clear hb2 hc HW1 hgwe
  have hba : Below w2.heap.size w2 (w2.alloc (.cells (ints (zl [2, 4, 7])).toArray 3)) := (Below.refl _ w2).alloc (Nat.le_refl _) _
  have HCA := Lib.hid (HCW.out.more hba)
  have hlt := Wr.lt HCW.out.ws
  have HWR : Hid (Calls Tryd.prog 13 #[.pointer (some ⟨gw, 0, none⟩), .pointer (some ⟨c, 0, none⟩), .slice (some ⟨w2.heap.size, 0, none⟩) 3 3, .int .i64 8] (w2.alloc (.cells #[.int .i64 2, .int .i64 4, .int .i64 7] 3)) (WrP (w2.alloc (.cells (ints (zl [2, 4, 7])).toArray 3)) gw (.slice none 0 0) [] (rowC [2, 4, 7] 8) false)) :=
    Lib.hid (writeRow_any (w2.alloc (.cells (ints (zl [2, 4, 7])).toArray 3)) B C c gw _ [] false (some ⟨w2.heap.size, 0, none⟩) 3 3 [2, 4, 7] 8 HCA.out.cd HCA.out.ws HCA.out.out (ints_new w2 (zl [2, 4, 7]) 3 (0, 0)) rfl ex_valid (by omega) (by omega) (by simp))
  clear hba hlt
  go_wp2_with fail
  refine HWR.out.mono ?_
  rintro e w3 ⟨rfl, ht⟩
  obtain ⟨v3, h3⟩ := HCA.out.wrote ht
  rw [List.nil_append] at h3
  have H3 := Lib.hid h3
  clear ht h3 HWR HCA HCW
  have hbb : Below w3.heap.size w3 (w3.alloc (.cells #[.int .u8 126, .int .u8 16] 5)) := (Below.refl _ w3).alloc (Nat.le_refl _) _
  have H3A := Lib.hid (H3.out.more hbb)
  have hrow : Row (w3.alloc (.cells #[.int .u8 126, .int .u8 16] 5)) (some ⟨w3.heap.size, 0, none⟩) [126, 16] := fun _ => ⟨w3.heap.size, 0, rfl, by simp, fun i hi => by
    rcases (show i = 0 ∨ i = 1 by simp at hi; omega) with rfl | rfl <;> simp⟩
  have HNR := Lib.hid (newReader_any _ 2 2 [126, 16] false _ hrow rfl (fun h => by cases h) (by omega))
  clear hbb hrow
  go_wp2_with fail
  refine HNR.out.mono ?_
  rintro e w4 ⟨hb4, gr, q4, c4, rfl, hg4, hr4, _⟩
  have H4 := Lib.hid (H3A.out.more hb4)
  have hg5 : w3.heap.size ≤ gr := by
    have e0 : (w3.alloc (.cells #[.int .u8 126, .int .u8 16] 5)).heap.size = w3.heap.size + 1 := by simp
    omega
  have HRD := Lib.hid (readRow_any w4 B C c gr q4 c4 [126, 16] 0 false 8 H4.out.cd (.inr (by have := H3.out.cd.1; omega)) hr4 (by omega) (by omega))
  have HG6 := Lib.hid hg5
  have HZ4 := Lib.hid (Nat.le_trans (H3A.out.dz) hb4.size)
  clear hb4 hr4 hg4 hg5 HNR
  go_wp2_with fail
  refine HRD.out.mono ?_
  rintro e w5 ⟨hr5, ho5, q5, c5, rfl, hv5, hn5, hl5, hm5, hf5⟩
  rw [ex_read.2.1] at hv5 hl5 ⊢
  rw [ex_read.2.2]
  have hz5 := ho5.2.2.2.1
  have hbel5 : Below gw w w5 := H4.out.bel.trans (ho5.below H4.out.dz (fun k hk e => by have := HG6.out; have := H3.out.dz; omega))
  have hws5 : Ws w5 gw v3 (rowC [2, 4, 7] 8) false := H4.out.ws.only ho5 (fun e => by have := H3.out.ws.lt; have := HG6.out; omega) (fun k hk e => by
    have := (H3.out.ws.2.1.lt k hk).2
    have := HG6.out
    omega)
  have HLEN := Lib.hid (len_any w5 gw v3 _ false hws5)
  have HBYT := Lib.hid (bytes_any w5 gw v3 _ false hws5 (by rw [ex_len]; omega))
  rw [ex_len] at HLEN
  rw [ex_pack] at HBYT
  have HV5 := Lib.hid hv5
  have HBE5 := Lib.hid hbel5
  have HDZ5 := Lib.hid (Nat.le_trans HZ4.out hz5)
  clear hr5 ho5 hv5 hbel5 hws5 hz5 hn5 hl5 hm5 hf5
  go_wp2_with fail
  refine HLEN.out.mono ?_
  rintro e w6 ⟨rfl, rfl⟩
  go_wp2_with fail
  refine HBYT.out.mono ?_
  rintro e w7 ⟨hb7, q7, c7, rfl, hr7, hc7, hm7, hn7, ha7⟩
  have cv := conv_row 2 c7 hr7 rfl
  have HSA : Hid (Calls Tryd.prog 24 #[.slice q5 3 c5, .slice (some ⟨w7.heap.size, 0, none⟩) 3 3] (w7.alloc (.cells #[.int .i64 2, .int .i64 4, .int .i64 7] 3)) fun e w' => e = .returned (.bool true) ∧ Drawn (w7.alloc (.cells #[.int .i64 2, .int .i64 4, .int .i64 7] 3)) w') := Lib.hid (by
    have h0 : Below w7.heap.size w7 (w7.alloc (.cells (ints (zl [2, 4, 7])).toArray 3)) := (Below.refl _ w7).alloc (Nat.le_refl _) _
    have h1 := rsame_any q5 (some ⟨w7.heap.size, 0, none⟩) 3 c5 3 3 (zl [2, 4, 7]) (zl [2, 4, 7]) (w7.alloc (.cells (ints (zl [2, 4, 7])).toArray 3)) _ _ ((HV5.out.below hb7 (Nat.le_refl _)).below h0 hb7.size) (ints_new w7 (zl [2, 4, 7]) 3 (0, 0)) rfl rfl (by omega)
    rw [show decide (zl [2, 4, 7] = zl [2, 4, 7]) = true from by simp] at h1
    exact h1)
  have HB7 := Lib.hid (HBE5.out.trans (hb7.mono HDZ5.out))
  have HZ7 := Lib.hid (Nat.le_trans HDZ5.out hb7.size)
  clear hb7 hr7 hc7 hm7 hn7 ha7
  rw [show ([126, 16] : List UInt8).length = 2 from rfl]
  simp only [List.length_cons, List.length_nil, zl] at *
  have hbs : (bs [126, 16]).toList = [126, 16] := bs_toList _
  go_wp2_with fail
  refine HSA.out.mono ?_
  rintro e w8 ⟨rfl, hd8⟩
  have hb8 : Below w7.heap.size w7 w8 := ((Below.refl _ w7).alloc (Nat.le_refl _) _).trans (hd8.below w7.heap.size)
  have HB8 := Lib.hid (HB7.out.trans (hb8.mono HZ7.out))
  clear hd8 hb8
  go_wp2_with fail
  go_ret
  exact ⟨rfl, by rw [HGWE.out]; exact HB8.out⟩
end Go.Proofs.YtgddpjnikgcamaaDoor.Mh

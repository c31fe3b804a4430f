
/- The contract of lives; the walk of the law RunsOf. -/
import Derived.Test.YtklofifmmcegpaaRnI
namespace Go.Proofs.Ytklofifmmcegpaa.Rn
open Go.RowKit Go.Proofs.Ytklofifmmcegpaa.Oct Go.Proofs.Ytklofifmmcegpaa.Bit
open Go.Proofs.Ytklofifmmcegpaa.Lp (VRow ints ints_length ints_append ints_one vrow_own wpList_append_vals Try.infoInt)
set_option linter.unusedVariables false
set_option linter.unusedSimpArgs false
set_option maxRecDepth 100000

set_option maxHeartbeats 1000000 in
theorem lives_any (w : World) : Calls Try.prog 9 #[] w fun e w' => e = .returned (.bool true) ∧ Below w.heap.size w w' := by
  have hr0 : Row (w.alloc (.cells #[.int .u8 49] 5)) (some ⟨w.heap.size, 0, none⟩) [49] := row_val w 49 49 rfl
  have hba : Below w.heap.size w (w.alloc (.cells #[.int .u8 49] 5)) := (Below.refl _ w).alloc (Nat.le_refl _) _
  have hof := of_any (some ⟨w.heap.size, 0, none⟩) 1 1 [49] 8 _ hr0 rfl (by decide)
  rw [show zl (ofL [49] 8) = [2, 4, 7] from by decide, show ofE 1 8 = 0 from by decide] at hof
  have HOF := Lib.hid hof
  have HBA := Lib.hid hba
  clear hr0 hba hof
  go_enter Try.func9, Try.ntmps9
  go_wp2_with fail
  refine HOF.out.mono ?_
  rintro e w1 ⟨hb1, q, c, rfl, hv, hq0, hlc, _⟩
  have hln := lengths_any q 3 c [2, 4, 7] 8 w1 hv rfl (by decide)
  rw [show lenL [2, 4, 7] 8 = [2, 2, 3, 1] from by decide, show errR [2, 4, 7] 8 = 0 from by decide] at hln
  have HB1 := Lib.hid (HBA.out.trans (hb1.mono HBA.out.size))
  have HLN := Lib.hid hln
  have HV := Lib.hid hv
  clear hb1 hln hv
  go_wp2_with fail
  refine HLN.out.mono ?_
  rintro e w2 ⟨hb2, q2, c2, rfl, hv2, _, _, _⟩
  have HB2 := Lib.hid (HB1.out.trans (hb2.mono HB1.out.size))
  have hv1 := HV.out.below hb2 (Nat.le_refl _)
  obtain ⟨b, off, hq, _⟩ := hv1.addr (by decide)
  obtain ⟨b2, off2, hq2, _⟩ := hv2.addr (by decide)
  subst hq
  subst hq2
  have k1 : w2.cell? ⟨b, off + 2, none⟩ = some (.int .i64 7) := hv1.int 2 (by decide)
  have k2 : w2.cell? ⟨b2, off2 + 2, none⟩ = some (.int .i64 3) := hv2.int 2 (by decide)
  clear hb2 hv1 hv2 HLN HV HOF
  go_wp2_with fail
  go_ret
  exact ⟨rfl, HB2.out⟩
/-- a row of bytes put behind nothing: a row of the call's own -/
theorem own_copy {w1 w2 : World} {v2 : Value} {len : Nat} {xs : List UInt8} (hx : xs.length = len) (hown2 : w2.ownsRow w1.heap.size 5 1 v2 len (cellsOf xs)) (hg : (w1.alloc (.cells #[] 5)).grownBy w2 (Value.slice (some ⟨w1.heap.size, 0, none⟩) 0 0).ownBlock) :
    Below w1.heap.size w1 w2 ∧ ∃ q c, v2 = .slice q len c ∧ (q = none → c = 0) ∧ len ≤ c ∧ c ≤ maxLen ∧ Row w2 q xs := by
  refine ⟨((Below.refl _ w1).alloc (Nat.le_refl _) _).grown hg (by simp) (fun k hk => by
      simp [Value.ownBlock] at hk; omega), ?_⟩
  exact own_shape hown2 hx
set_option maxHeartbeats 2000000 in
theorem of_walk (p : Option Addr) (len cap : Nat) (zs : List Int) (z : Int) (w : World) (h : IsRow .u8 w p len cap zs) (hz : (Lit.int .i64 z).wf = true) :
    Calls Try.prog 3 #[.slice p len cap, .int .i64 z] w fun e w' => e = .returned (.bool true) ∧ Below w.heap.size w w' := by
  obtain ⟨xs, hx, hr, hlc, hcm, hnil⟩ := h.row
  clear h hz
  by_cases hbig : 200 < len
  · have hd : decide (200 < (len : Int)) = true := by simp; omega
    clear hx hr hlc hcm hnil
    go_enter Try.func3, Try.ntmps3
    go_wp2_with fail
    refine (lives_any _).mono ?_
    rintro e w1 ⟨rfl, hb1⟩
    go_wp2_with fail
    refine (lives_any _).mono ?_
    rintro e w2 ⟨rfl, hb2⟩
    go_wp2_with fail
    go_ret
    exact ⟨rfl, hb1.trans (hb2.mono hb1.size)⟩
  · have hd : decide (200 < (len : Int)) = false := by simp; omega
    have hlen : len ≤ 200 := by omega
    have HX := Lib.hid hx
    have HR := Lib.hid hr
    clear hx hr hcm hbig
    go_enter Try.func3, Try.ntmps3
    go_wp2_with fail
    refine (lives_any _).mono ?_
    rintro e w1 ⟨rfl, hb1⟩
    have hown := World.ownsRow_made (base := w1.heap.size) (e := 5) (size := 1) w1 #[] 0 (Nat.le_refl _) (by simp [maxLen]) rfl
    have hrA := (HR.out.below hb1).below ((Below.refl _ w1).alloc (Nat.le_refl _) (.cells #[] 5))
    have HB1 := Lib.hid hb1
    clear hb1
    go_wp2_with (at_builtin; refine wpList_append_bytes rfl _ _ rfl w1.heap.size _ 0 [] rfl hown p len cap xs rfl hrA HX.out hnil (by omega) (by simp) ?_)
    intro v2 w2 hown2 hgrow2 hv2
    obtain ⟨hb2, q, c, rfl, hq0, hqc, hqm, hrow⟩ := own_copy HX.out hown2 hgrow2
    have HB2 := Lib.hid (HB1.out.trans (hb2.mono HB1.out.size))
    have HROW := Lib.hid hrow
    have HOF := Lib.hid (of_any q len c xs z w2 hrow HX.out (by omega))
    clear hown hrA hgrow2 hv2 hown2 hb2 hrow
    go_wp2_with fail
    refine HOF.out.mono ?_
    rintro e w3 ⟨hb3, q3, c3, rfl, hv3, _, _, _⟩
    have HB3 := Lib.hid (HB2.out.trans (hb3.mono HB2.out.size))
    have cv1 := conv_row (w := w3) len cap (HR.out.below HB3.out) HX.out
    have HROW3 := Lib.hid (HROW.out.below hb3)
    have hrf := rofr_any xs z w3 (by rw [HX.out]; omega)
    rw [HX.out] at hrf
    have HRF := Lib.hid hrf
    have HV3 := Lib.hid hv3
    have HL := Lib.hid (show (zl (ofL xs z)).length ≤ 100000 from by
      rw [zl_length]
      unfold ofL
      split
      · have := chg_len ((bitsOf false xs).take z.toNat) false 0
        rw [List.length_take, bitsOf_length, HX.out] at this
        unfold changes
        omega
      · simp)
    generalize ofE len z = er at HRF ⊢
    generalize zl (ofL xs z) = L at HRF HV3 HL ⊢
    clear hb3 hv3 hrf HOF HROW
    go_wp2_with fail
    refine HRF.out.mono ?_
    rintro e w4 ⟨hb4, q4, c4, rfl, hv4, _, hl4, hm4⟩
    have HB4 := Lib.hid (HB3.out.trans (hb4.mono HB3.out.size))
    have HV4 := Lib.hid hv4
    have HV3b := Lib.hid (HV3.out.below hb4 (Nat.le_refl _))
    have HROW4 := Lib.hid (HROW3.out.below hb4)
    have hsm := rsame_any q3 q4 L.length c3 L.length c4 L L w4 _ _ HV3b.out HV4.out rfl rfl (by have := HL.out; omega)
    rw [show decide (L = L) = true from by simp] at hsm
    have HSM := Lib.hid hsm
    clear hb4 hv4 hsm HRF cv1
    go_wp2_with fail
    refine HSM.out.mono ?_
    rintro e w5 ⟨rfl, hdr⟩
    have hb5 := hdr.below w4.heap.size
    have HB5 := Lib.hid (HB4.out.trans (hb5.mono HB4.out.size))
    have cv1 := conv_row (w := w5) len c (HROW4.out.below hb5) HX.out
    have cv2 := conv_row (w := w5) len cap (HR.out.below HB5.out) HX.out
    clear hb5 hdr
    go_wp2_with fail
    go_ret
    exact ⟨rfl, HB5.out⟩
end Go.Proofs.Ytklofifmmcegpaa.Rn


/- The walk of PredictRows. -/
import Derived.Test.YtgakegomanfccaaPdF
namespace Go.Proofs.Ytgakegomanfccaa.Pd
open Go.RowKit Go.Proofs.Ytgakegomanfccaa.Oct Go.Proofs.Ytgakegomanfccaa.Sa Go.Proofs.Ytgakegomanfccaa.Pr
open Go.Proofs.Ytgakegomanfccaa.Lp (VRow vrow_blk vrow_own wpList_append_vals blk_set blk_far blk_frozen)
set_option linter.unusedVariables false
set_option linter.unusedSimpArgs false
set_option maxRecDepth 100000

theorem same_yes {w : World} {q1 q2 : Option Addr} {n c1 c2 : Nat} {ys : List Nat} (h1 : VRow w w.heap.size q1 (u32s ys)) (h2 : VRow w w.heap.size q2 (u32s ys)) (hn : ys.length = n) (hl : n ≤ 10000000) :
    Calls Try.prog 11 #[.slice q1 n c1, .slice q2 n c2] w fun e w' => e = .returned (.bool true) ∧ Drawn w w' := by
  have h := same_any q1 c1 q2 c2 ys ys w w.heap.size h1 h2 (by omega) (by omega)
  rwa [show sameU ys ys = true from beq_self_eq_true _, hn] at h
set_option maxHeartbeats 1000000 in
theorem rows_walk (p : Option Addr) (len cap : Nat) (per wide : Int) (w : World) (h0 : IsU32 w p len cap) (hp0 : (Lit.int .i64 per).wf = true) (hw0 : (Lit.int .i64 wide).wf = true) :
    Calls Try.prog 3 #[.slice p len cap, .int .i64 per, .int .i64 wide] w (YesS w) := by
  obtain ⟨i0, hi, hz0, hz1, hz2⟩ := info_parts Try.infoU32
  obtain ⟨ns, hx, hr, hb, hlc, hcm, hnil⟩ := h0
  have hll : len ≤ maxLen := Nat.le_trans hlc hcm
  unfold maxLen at hll
  clear hw0 hp0 hlc hcm
  by_cases hl : 300 < len
  · have ql : decide ((300 : Int) < (len : Int)) = true := by simp; omega
    clear hr hx hb hl hnil
    go_enter Try.func3, Try.ntmps3
    go_wp2_with fail
    refine (lives_any w).mono ?_
    rintro e w1 ⟨rfl, hb1⟩
    have HB1 := Lib.hid hb1
    clear hb1
    go_wp2_with fail
    refine (lives_any w1).mono ?_
    rintro e w2 ⟨rfl, hb2⟩
    have HB2 := Lib.hid (HB1.out.trans (hb2.mono HB1.out.size))
    clear hb2
    go_wp2_with fail
    go_ret
    exact ⟨rfl, HB2.out⟩
  · have ql : decide ((300 : Int) < (len : Int)) = false := by simp; omega
    have HX := Lib.hid hx
    have HR := Lib.hid hr
    have HB := Lib.hid hb
    have HNIL := Lib.hid hnil
    have hl3 : len ≤ 300 := by omega
    clear hr hx hb hl hll hnil
    go_enter Try.func3, Try.ntmps3
    go_wp2_with fail
    refine (lives_any w).mono ?_
    rintro e w1 ⟨rfl, hb1⟩
    have hbA : Below w1.heap.size w1 (w1.alloc (.cells (u32s []).toArray 31)) := (Below.refl _ w1).alloc (Nat.le_refl _) _
    have hownA : (w1.alloc (.cells (u32s []).toArray 31)).ownsRow w1.heap.size 31 1 (.slice (some ⟨w1.heap.size, 0, none⟩) 0 0) 0 (u32s []) := World.ownsRow_made (base := w1.heap.size) (e := 31) (size := 1) w1 #[] 0 (Nat.le_refl _) (by simp [maxLen]) rfl
    have HB1 := Lib.hid hb1
    have HOA := Lib.hid hownA
    have HBA := Lib.hid hbA
    have HBAZ := Lib.hid hbA.size
    have HRA := Lib.hid (((HR.out.below hb1 (Nat.le_refl _)).mono hb1.size).below hbA (Nat.le_refl _) |>.mono hbA.size)
    have HXU : Hid ((u32s ns).length = len) := Lib.hid (by rw [u32s_length]; exact HX.out)
    clear hb1 hbA hownA
    go_wp2_with (at_builtin; refine wpList_append_vals Try.underlying22 hi hz0 hz1 hz2 rfl (by decide) rfl _ _ rfl w1.heap.size _ 0 (u32s []) rfl HOA.out p len cap (u32s ns) rfl HRA.out HXU.out HNIL.out u32s_one (by omega) HBAZ.out ?_)
    intro v2 w2 hown2 hgrow2 hb2
    have hown2 : w2.ownsRow w1.heap.size 31 1 v2 len (u32s ns) := by simpa [u32s] using hown2
    obtain ⟨q2, c2, hv, hnq, hq1, hq2, hrow, hqb⟩ := vrow_own hown2 HXU.out
    subst hv
    have HO := Lib.hid hrow
    have hb2' : Below w.heap.size w w2 := HB1.out.trans ((HBA.out.mono HB1.out.size).trans (hb2.mono HB1.out.size))
    have HB2 := Lib.hid hb2'
    have HD1 := Lib.hid (diff_any q2 len c2 per wide ns w2 hrow HX.out (by omega))
    clear hown2 hgrow2 hb2 hnq hq1 hq2 hrow hqb hb2' HOA HBA HBAZ HRA HB1
    go_wp2_with fail
    refine HD1.out.mono ?_
    intro e1 w3 hp1
    have hb3 := (un_str hp1).1
    have HB3 := Lib.hid (HB2.out.trans (hb3.mono HB2.out.size))
    have HO3 := Lib.hid ((HO.out.below hb3 (Nat.le_refl _)).mono hb3.size)
    have HD2 := Lib.hid (rdiff_any p len cap per wide ns w3 ((HR.out.below HB3.out (Nat.le_refl _)).mono HB3.out.size) HX.out (by omega) HB.out)
    obtain ⟨_, qa, na, ca, ya, he1, hva, hla, _, _, _, hya, _⟩ := un_str hp1
    subst he1
    have HVA := Lib.hid hva
    have HLA := Lib.hid hla
    have HYA := Lib.hid hya
    clear hp1 hb3 hva hla hya HD1 HO HB2
    go_wp2_with fail
    refine HD2.out.mono ?_
    intro e1 w4 hp1
    obtain ⟨hb4, qb, nb, cb, yb, he1, hvb, hlb, _, _, _, hyb, _⟩ := un_str hp1
    subst he1
    have hyy : yb = ya := by rw [hyb, HYA.out]
    subst hyy
    have hnn : nb = na := by rw [← hlb, HLA.out]
    subst hnn
    have hlb3 : nb ≤ 300 := by
      rw [← hlb, hyb]
      split
      · rw [diffL_length, HX.out]; exact hl3
      · simp
    have HB4 := Lib.hid (HB3.out.trans (hb4.mono HB3.out.size))
    have HO4 := Lib.hid ((HO3.out.below hb4 (Nat.le_refl _)).mono hb4.size)
    have HVA4 := Lib.hid ((HVA.out.below hb4 (Nat.le_refl _)).mono hb4.size)
    have HVB := Lib.hid hvb
    have HD3 := Lib.hid (undo_any q2 len c2 per wide ns w4 HO4.out HX.out (by omega))
    clear hp1 hb4 hvb hlb hyb HD2 HO3 HB3 HVA HYA
    go_wp2_with fail
    refine HD3.out.mono ?_
    intro e1 w5 hp1
    obtain ⟨hb5, qc, nc, cc, yc, he1, hvc, hlc, _, _, _, hyc, _⟩ := un_str hp1
    subst he1
    have HB5 := Lib.hid (HB4.out.trans (hb5.mono HB4.out.size))
    have HO5 := Lib.hid ((HO4.out.below hb5 (Nat.le_refl _)).mono hb5.size)
    have HVA5 := Lib.hid ((HVA4.out.below hb5 (Nat.le_refl _)).mono hb5.size)
    have HVB5 := Lib.hid ((HVB.out.below hb5 (Nat.le_refl _)).mono hb5.size)
    have HVC := Lib.hid hvc
    have HLC := Lib.hid hlc
    have HYC := Lib.hid hyc
    have HD4 := Lib.hid (rundo_any p len cap per wide ns w5 ((HR.out.below HB5.out (Nat.le_refl _)).mono HB5.out.size) HX.out (by omega) HB.out)
    clear hp1 hb5 hvc hlc hyc HD3 HO4 HB4 HVA4 HVB
    go_wp2_with fail
    refine HD4.out.mono ?_
    intro e1 w6 hp1
    obtain ⟨hb6, qd, nd, cd, yd, he1, hvd, hld, _, _, _, hyd, _⟩ := un_str hp1
    subst he1
    have hyy : yd = yc := by rw [hyd, HYC.out]
    subst hyy
    have hnn : nd = nc := by rw [← hld, HLC.out]
    subst hnn
    have hld3 : nd ≤ 300 := by
      rw [← hld, hyd]
      split
      · rw [undoL_length, HX.out]; exact hl3
      · simp
    have HB6 := Lib.hid (HB5.out.trans (hb6.mono HB5.out.size))
    have HO6 := Lib.hid ((HO5.out.below hb6 (Nat.le_refl _)).mono hb6.size)
    have HR6 := Lib.hid ((HR.out.below HB6.out (Nat.le_refl _)).mono HB6.out.size)
    have HVA6 := Lib.hid ((HVA5.out.below hb6 (Nat.le_refl _)).mono hb6.size)
    have HVB6 := Lib.hid ((HVB5.out.below hb6 (Nat.le_refl _)).mono hb6.size)
    have HVC6 := Lib.hid ((HVC.out.below hb6 (Nat.le_refl _)).mono hb6.size)
    have HVD := Lib.hid hvd
    have S1 := Lib.hid (same_yes (c1 := ca) (c2 := cb) HVA6.out HVB6.out HLA.out (by omega))
    generalize errD ns per wide = er
    have qe : (er == er) = true := by simp
    clear hp1 hb6 hvd hld hyd HD4 HO5 HB5 HVA5 HVB5 HVC HYC
    go_wp2_with fail
    refine S1.out.mono ?_
    rintro e w7 ⟨rfl, hd7⟩
    have hb7 := hd7.below w6.heap.size
    have HB7 := Lib.hid (HB6.out.trans (hb7.mono HB6.out.size))
    have S2 := Lib.hid (same_yes (c1 := cc) (c2 := cd) ((HVC6.out.below hb7 (Nat.le_refl _)).mono hb7.size) ((HVD.out.below hb7 (Nat.le_refl _)).mono hb7.size) HLC.out (by omega))
    have HO7 := Lib.hid ((HO6.out.below hb7 (Nat.le_refl _)).mono hb7.size)
    have HR7 := Lib.hid ((HR6.out.below hb7 (Nat.le_refl _)).mono hb7.size)
    clear hd7 hb7 S1 HB6 HO6 HR6 HVA6 HVB6 HVC6 HVD
    go_wp2_with fail
    refine S2.out.mono ?_
    rintro e w8 ⟨rfl, hd8⟩
    have hb8 := hd8.below w7.heap.size
    have HB8 := Lib.hid (HB7.out.trans (hb8.mono HB7.out.size))
    have S3 := Lib.hid (same_yes (c1 := c2) (c2 := cap) ((HO7.out.below hb8 (Nat.le_refl _)).mono hb8.size) ((HR7.out.below hb8 (Nat.le_refl _)).mono hb8.size) HX.out (by omega))
    clear hd8 hb8 S2 HB7 HO7 HR7
    go_wp2_with fail
    refine S3.out.mono ?_
    rintro e w9 ⟨rfl, hd9⟩
    have HB9 := Lib.hid (HB8.out.trans (hd9.below _))
    clear hd9 S3 HB8
    go_wp2_with fail
    go_ret
    exact ⟨rfl, HB9.out⟩
end Go.Proofs.Ytgakegomanfccaa.Pd

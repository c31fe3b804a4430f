
/- The walks of SamplesPacks and SamplesReads. -/
import Derived.Test.YtkeplmnohenbnaaSaI
import Derived.Test.YtkeplmnohenbnaaZlO
namespace Go.Proofs.Ytkeplmnohenbnaa.Sa
open Go.RowKit Go.Proofs.Ytkeplmnohenbnaa.Oct Go.Proofs.Ytkeplmnohenbnaa.Bit
open Go.Proofs.Ytkeplmnohenbnaa.Lp (VRow vrow_blk vrow_own wpList_append_vals blk_set blk_far blk_frozen fillV fillV_length fillV_zero fillV_all fillV_step)
set_option linter.unusedVariables false
set_option linter.unusedSimpArgs false
set_option maxRecDepth 100000

theorem pk_str {w w' : World} {X : List UInt8} {er : Int} {e : Ending} (h : PkP w X er e w') : Below w.heap.size w w' ∧ ∃ q n cap xs, e = .returned (.tuple #[.slice q n cap, .int .i64 er]) ∧ Row w' q xs ∧ xs.length = n ∧ n ≤ cap ∧ cap ≤ maxLen ∧ (q = none → cap = 0) ∧ xs = (if er = 0 then X else []) ∧ ∀ a, q = some a → w.heap.size ≤ a.block := by
  obtain ⟨hb, ⟨h0, q, cap, h1, h2, h3, h4, h5, h6⟩ | ⟨h0, h1⟩⟩ := h
  · subst h0
    exact ⟨hb, q, X.length, cap, X, h1, h2, rfl, h3, h4, h5, rfl, h6⟩
  · exact ⟨hb, none, 0, 0, [], h1, fun h => absurd h (by simp), rfl, Nat.le_refl _, by simp [maxLen], fun _ => rfl, by rw [if_neg h0], fun a h => by cases h⟩
theorem un_str {w w' : World} {Y : List Nat} {er : Int} {e : Ending} (h : UnP w Y er e w') : Below w.heap.size w w' ∧ ∃ q n cap ys, e = .returned (.tuple #[.slice q n cap, .int .i64 er]) ∧ VRow w' w'.heap.size q (u32s ys) ∧ ys.length = n ∧ n ≤ cap ∧ cap ≤ maxLen ∧ (q = none → cap = 0) ∧ ys = (if er = 0 then Y else []) ∧ ∀ a, q = some a → w.heap.size ≤ a.block := by
  obtain ⟨hb, ⟨h0, q, cap, h1, h2, h3, h4, h5, h6⟩ | ⟨h0, h1⟩⟩ := h
  · subst h0
    exact ⟨hb, q, Y.length, cap, Y, h1, h2, rfl, h3, h4, h5, rfl, h6⟩
  · exact ⟨hb, none, 0, 0, [], h1, fun h => absurd h (by simp [u32s]), rfl, Nat.le_refl _, by simp [maxLen], fun _ => rfl, by rw [if_neg h0], fun a h => by cases h⟩
def YesS (w : World) (e : Ending) (w' : World) : Prop := e = .returned (.bool true) ∧ Below w.heap.size w w'
set_option maxHeartbeats 1000000 in
theorem packs_walk (p : Option Addr) (len cap : Nat) (wide : Int) (big : Bool) (w : World) (h0 : IsU32 w p len cap) (hw0 : (Lit.int .i64 wide).wf = true) :
    Calls Try.prog 3 #[.slice p len cap, .int .i64 wide, .bool big] w (YesS w) := by
  obtain ⟨ns, hx, hr, hb, hlc, hcm, hnil⟩ := h0
  have hll : len ≤ maxLen := Nat.le_trans hlc hcm
  unfold maxLen at hll
  clear hw0 hnil hlc hcm
  by_cases hl : 300 < len
  · have ql : decide ((300 : Int) < (len : Int)) = true := by simp; omega
    clear hr hx hb hl
    go_enter Try.func3, Try.ntmps3
    go_wp2_with fail
    refine (lives_any w).mono ?_
    rintro e w1 ⟨rfl, hb1⟩
    have HB1 := Lib.hid hb1
    clear hb1
    go_wp2_with fail
    refine (lives_any w1).mono ?_
    rintro e w2 ⟨rfl, hb2⟩
    have HB2 := Lib.hid (HB1.out.trans (hb2.mono HB1.out.size))
    clear hb2
    go_wp2_with fail
    go_ret
    exact ⟨rfl, HB2.out⟩
  · have ql : decide ((300 : Int) < (len : Int)) = false := by simp; omega
    have HX := Lib.hid hx
    have HR := Lib.hid hr
    have HB := Lib.hid hb
    have hl3 : len ≤ 300 := by omega
    clear hr hx hb hl hll
    go_enter Try.func3, Try.ntmps3
    go_wp2_with fail
    refine (lives_any w).mono ?_
    rintro e w1 ⟨rfl, hb1⟩
    have hr1 := HR.out.below hb1 (Nat.le_refl _)
    have HP := Lib.hid (pack_any p len cap wide big ns w1 (hr1.mono hb1.size) HX.out (by omega) HB.out)
    have HR1 := Lib.hid hr1
    have HB1 := Lib.hid hb1
    clear hb1 hr1
    go_wp2_with fail
    refine HP.out.mono ?_
    rintro e w2 hp
    obtain ⟨hb2, q, n, c, xs, rfl, hrx, hxl, _, _, _, hxe, _⟩ := pk_str hp
    have hb12 := HB1.out.trans (hb2.mono HB1.out.size)
    have HP2 := Lib.hid (rpack_any p len cap wide big ns w2 ((HR.out.below hb12 (Nat.le_refl _)).mono hb12.size) HX.out (by omega) HB.out)
    have HRX := Lib.hid hrx
    have HXL := Lib.hid hxl
    have HXE := Lib.hid hxe
    have HB2 := Lib.hid hb12
    clear hp hb2 hb12 hrx hxl hxe HP HR1 HB1
    go_wp2_with fail
    refine HP2.out.mono ?_
    rintro e w3 ⟨hb3, rfl⟩
    have hcv := conv_row n c (HRX.out.below hb3) HXL.out
    rw [← HXE.out]
    have HB3 := Lib.hid (HB2.out.trans (hb3.mono HB2.out.size))
    generalize bs xs = S at hcv ⊢
    generalize packE wide ns = er at *
    clear hb3 HXE HRX HP2
    go_wp2_with fail
    go_ret
    exact ⟨by simp, HB3.out⟩
set_option maxHeartbeats 1000000 in
theorem reads_walk (p : Option Addr) (len cap : Nat) (zs : List Int) (n wide : Int) (big : Bool) (w : World) (hr0 : IsRow .u8 w p len cap zs) (hn0 : (Lit.int .i64 n).wf = true) (hw0 : (Lit.int .i64 wide).wf = true) :
    Calls Try.prog 4 #[.slice p len cap, .agg #[.int .i64 n, .int .i64 wide], .bool big] w (YesS w) := by
  obtain ⟨xs, hx, hr, hlc, hcm, hnil⟩ := hr0.row
  have hbw : Below w.heap.size w (w.alloc (.cells #[.int .i64 n, .int .i64 wide] 31)) := (Below.refl _ w).alloc (Nat.le_refl _) _
  have k0 : (w.alloc (.cells #[.int .i64 n, .int .i64 wide] 31)).cell? ⟨w.heap.size, 0, none⟩ = some (.int .i64 n) := by simp
  have k1 : (w.alloc (.cells #[.int .i64 n, .int .i64 wide] 31)).cell? ⟨w.heap.size, 1, none⟩ = some (.int .i64 wide) := by simp
  have HBX := Lib.hid hbw
  clear hr0 hbw hn0 hw0
  by_cases hl : 300 < len
  · have ql : decide ((300 : Int) < (len : Int)) = true := by simp; omega
    unfold maxLen at hcm
    have hcm2 : len ≤ 9223372036854775807 := by omega
    clear hr hx hl hnil hlc hcm
    go_enter Try.func4, Try.ntmps4
    go_wp2_with fail
    go_quiet (fail)
    have HB0 := Lib.hid (HBX.out.trans ((show Drawn _ _ from ⟨nq, rfl⟩ : Drawn (w.alloc (.cells #[.int .i64 n, .int .i64 wide] 31)) _).below w.heap.size))
    generalize (w.alloc (.cells #[.int .i64 n, .int .i64 wide] 31)).drewN nq = w0 at *
    clear k0 k1 HBX
    go_wp2_with fail
    refine (lives_any w0).mono ?_
    rintro e w1 ⟨rfl, hb1⟩
    have HB1 := Lib.hid (HB0.out.trans (hb1.mono HB0.out.size))
    clear hb1
    go_wp2_with fail
    refine (lives_any w1).mono ?_
    rintro e w2 ⟨rfl, hb2⟩
    have HB2 := Lib.hid (HB1.out.trans (hb2.mono HB1.out.size))
    clear hb2
    go_wp2_with fail
    go_ret
    exact ⟨rfl, HB2.out⟩
  · have ql : decide ((300 : Int) < (len : Int)) = false := by simp; omega
    have HX := Lib.hid hx
    have HR := Lib.hid hr
    have HCM := Lib.hid hcm
    have HLC := Lib.hid hlc
    have HNIL := Lib.hid hnil
    have hl3 : len ≤ 300 := by omega
    clear hr hx hl hnil hlc hcm
    go_enter Try.func4, Try.ntmps4
    go_wp2_with fail
    go_quiet (fail)
    have HB0 := Lib.hid (HBX.out.trans ((show Drawn _ _ from ⟨nq, rfl⟩ : Drawn (w.alloc (.cells #[.int .i64 n, .int .i64 wide] 31)) _).below w.heap.size))
    generalize (w.alloc (.cells #[.int .i64 n, .int .i64 wide] 31)).drewN nq = w0 at *
    clear k0 k1 HBX
    go_wp2_with fail
    refine (lives_any w0).mono ?_
    rintro e w1 ⟨rfl, hb1⟩
    have HB1 := Lib.hid (HB0.out.trans (hb1.mono HB0.out.size))
    have HSZ := Lib.hid (size_any n wide w1)
    have HSZ2 := Lib.hid (rsize_any n wide w1)
    have HR1 := Lib.hid (HR.out.below HB1.out)
    have HU := Lib.hid (unpack_any p len cap n wide big xs w1 HR1.out HX.out HLC.out HCM.out HNIL.out (by omega))
    unfold SizeP at HSZ HSZ2
    generalize sizeV n wide = sv at HSZ HSZ2
    generalize sizeE n wide = se at HSZ HSZ2
    clear hb1 HB0
    go_wp2_with fail
    refine HSZ.out.mono ?_
    rintro e w' ⟨rfl, rfl⟩
    go_wp2_with fail
    refine HSZ2.out.mono ?_
    rintro e w' ⟨rfl, rfl⟩
    have q1 : (sv != sv) = false := by simp
    have q2 : (se != se) = false := by simp
    clear HSZ HSZ2
    go_wp2_with fail
    refine HU.out.mono ?_
    rintro e w2 hp
    obtain ⟨hb2, q, m, c, ys, rfl, hvy, hyl, _, _, _, hye, _⟩ := un_str hp
    have hb12 := HB1.out.trans (hb2.mono HB1.out.size)
    have hcv := conv_row len cap (HR.out.below hb12) HX.out
    have HRU := Lib.hid (runpack_any n wide big xs w2 (by rw [HX.out]; omega))
    rw [HX.out] at HRU
    have HVY := Lib.hid hvy
    have HYL := Lib.hid hyl
    have HYE := Lib.hid hye
    have HB2 := Lib.hid hb12
    clear hp hb2 hb12 hvy hyl hye HU HR1 HB1
    generalize bs xs = S at hcv HRU
    go_wp2_with fail
    refine HRU.out.mono ?_
    rintro e w3 hp
    obtain ⟨hb3, q3, m3, c3, ys3, rfl, hvz, hzl, _, _, _, hze, _⟩ := un_str hp
    have hyz : ys3 = ys := by rw [hze, HYE.out]
    subst hyz
    have hyb : ys3.length ≤ 2400 := by
      rw [hze]
      split
      · rw [unpackS_length]
        by_cases hok : okS n wide = true
        · obtain ⟨g1, g2, g3, g4⟩ := ok_bounds hok
          by_cases hc : (len : Int) < sizeV n wide
          · rename_i h0
            unfold unE at h0
            rw [if_pos hok, if_pos hc] at h0
            omega
          · unfold sizeV at hc
            rw [if_pos hok] at hc
            have : n * 1 ≤ n * wide := Int.mul_le_mul_of_nonneg_left g3 g1
            omega
        · rename_i h0
          unfold unE at h0
          rw [if_neg hok] at h0
          omega
      · simp
    have hsm := same_any q c q3 c3 ys3 ys3 w3 w3.heap.size ((HVY.out.below hb3 (Nat.le_refl _)).mono hb3.size) hvz (by omega) (by omega)
    rw [HYL.out] at hsm
    rw [← hzl, HYL.out]
    rw [show sameU ys3 ys3 = true from beq_self_eq_true _] at hsm
    have HSM := Lib.hid hsm
    have HB3 := Lib.hid (HB2.out.trans (hb3.mono HB2.out.size))
    generalize unE len n wide = er at *
    have q3e : (er == er) = true := by simp
    clear hb3 hvz hzl hze hyb hsm HVY HYL HYE hp HRU
    go_wp2_with fail
    refine HSM.out.mono ?_
    rintro e w4 ⟨rfl, hd⟩
    have HB4 := Lib.hid (HB3.out.trans (hd.below _))
    clear hd
    go_wp2_with fail
    go_ret
    exact ⟨rfl, HB4.out⟩
end Go.Proofs.Ytkeplmnohenbnaa.Sa


/- The walks of SamplesPacks and SamplesReads. -/
import Derived.Test.YtkeplmnohenbnaaSaI
import Derived.Test.YtkeplmnohenbnaaZlO
namespace Go.Proofs.Ytkeplmnohenbnaa.Sa
open Go.RowKit Go.Proofs.Ytkeplmnohenbnaa.Oct Go.Proofs.Ytkeplmnohenbnaa.Bit
open Go.Proofs.Ytkeplmnohenbnaa.Lp (VRow vrow_blk vrow_own wpList_append_vals blk_set blk_far blk_frozen fillV fillV_length fillV_zero fillV_all fillV_step)
set_option linter.unusedVariables false
set_option linter.unusedSimpArgs false
set_option maxRecDepth 100000

theorem pk_str {w w' : World} {X : List UInt8} {er : Int} {e : Ending} (h : PkP w X er e w') : Below w.heap.size w w' ∧ ∃ q n cap xs, e = .returned (.tuple #[.slice q n cap, .int .i64 er]) ∧ Row w' q xs ∧ xs.length = n ∧ n ≤ cap ∧ cap ≤ maxLen ∧ (q = none → cap = 0) ∧ xs = (if er = 0 then X else []) ∧ ∀ a, q = some a → w.heap.size ≤ a.block := by
  obtain ⟨hb, ⟨h0, q, cap, h1, h2, h3, h4, h5, h6⟩ | ⟨h0, h1⟩⟩ := h
  · subst h0
    exact ⟨hb, q, X.length, cap, X, h1, h2, rfl, h3, h4, h5, rfl, h6⟩
  · exact ⟨hb, none, 0, 0, [], h1, fun h => absurd h (by simp), rfl, Nat.le_refl _, by simp [maxLen], fun _ => rfl, by rw [if_neg h0], fun a h => by cases h⟩
theorem un_str {w w' : World} {Y : List Nat} {er : Int} {e : Ending} (h : UnP w Y er e w') : Below w.heap.size w w' ∧ ∃ q n cap ys, e = .returned (.tuple #[.slice q n cap, .int .i64 er]) ∧ VRow w' w'.heap.size q (u32s ys) ∧ ys.length = n ∧ n ≤ cap ∧ cap ≤ maxLen ∧ (q = none → cap = 0) ∧ ys = (if er = 0 then Y else []) ∧ ∀ a, q = some a → w.heap.size ≤ a.block := by
  obtain ⟨hb, ⟨h0, q, cap, h1, h2, h3, h4, h5, h6⟩ | ⟨h0, h1⟩⟩ := h
  · subst h0
    exact ⟨hb, q, Y.length, cap, Y, h1, h2, rfl, h3, h4, h5, rfl, h6⟩
  · exact ⟨hb, none, 0, 0, [], h1, fun h => absurd h (by simp [u32s]), rfl, Nat.le_refl _, by simp [maxLen], fun _ => rfl, by rw [if_neg h0], fun a h => by cases h⟩
def YesS (w : World) (e : Ending) (w' : World) : Prop := e = .returned (.bool true) ∧ Below w.heap.size w w'
set_option maxHeartbeats 1000000 in
theorem packs_walk (p : Option Addr) (len cap : Nat) (wide : Int) (big : Bool) (w : World) (h0 : IsU32 w p len cap) (hw0 : (Lit.int .i64 wide).wf = true) :
    Calls Try.prog 3 #[.slice p len cap, .int .i64 wide, .bool big] w (YesS w) := by
  obtain ⟨ns, hx, hr, hb, hlc, hcm, hnil⟩ := h0
  have hll : len ≤ maxLen := Nat.le_trans hlc hcm
  unfold maxLen at hll
  clear hw0 hnil hlc hcm
  by_cases hl : 300 < len
  · have ql : decide ((300 : Int) < (len : Int)) = true := by simp; omega
    clear hr hx hb hl
    go_enter Try.func3, Try.ntmps3
    go_wp2_with fail
    refine (lives_any w).mono ?_
    rintro e w1 ⟨rfl, hb1⟩
    have HB1 := Lib.hid hb1
    clear hb1
    go_wp2_with fail
    refine (lives_any w1).mono ?_
    rintro e w2 ⟨rfl, hb2⟩
    have HB2 := Lib.hid (HB1.out.trans (hb2.mono HB1.out.size))
    clear hb2
    go_wp2_with fail
    go_ret
    exact ⟨rfl, HB2.out⟩
  · have ql : decide ((300 : Int) < (len : Int)) = false := by simp; omega
    have HX := Lib.hid hx
    have HR := Lib.hid hr
    have HB := Lib.hid hb
    have hl3 : len ≤ 300 := by omega
    clear hr hx hb hl hll
    go_enter Try.func3, Try.ntmps3
    go_wp2_with fail
    refine (lives_any w).mono ?_
    rintro e w1 ⟨rfl, hb1⟩
    have hr1 := HR.out.below hb1 (Nat.le_refl _)
    have HP := Lib.hid (pack_any p len cap wide big ns w1 (hr1.mono hb1.size) HX.out (by omega) HB.out)
    have HR1 := Lib.hid hr1
    have HB1 := Lib.hid hb1
    clear hb1 hr1
    go_wp2_with fail
    refine HP.out.mono ?_
    rintro e w2 hp
    obtain ⟨hb2, q, n, c, xs, rfl, hrx, hxl, _, _, _, hxe, _⟩ := pk_str hp
    have hb12 := HB1.out.trans (hb2.mono HB1.out.size)
    have HP2 := Lib.hid (rpack_any p len cap wide big ns w2 ((HR.out.below hb12 (Nat.le_refl _)).mono hb12.size) HX.out (by omega) HB.out)
    have HRX := Lib.hid hrx
    have HXL := Lib.hid hxl
    have HXE := Lib.hid hxe
    have HB2 := Lib.hid hb12
    clear hp hb2 hb12 hrx hxl hxe HP HR1 HB1
    go_wp2_with fail
    refine HP2.out.mono ?_
    rintro e w3 ⟨hb3, rfl⟩
    have hcv := conv_row n c (HRX.out.below hb3) HXL.out
    rw [← HXE.out]
    have HB3 := Lib.hid (HB2.out.trans (hb3.mono HB2.out.size))
    generalize bs xs = S at hcv ⊢
    generalize packE wide ns = er at *
    clear hb3 HXE HRX HP2
    go_wp2_with fail
    go_ret
    exact ⟨by simp, HB3.out⟩
end Go.Proofs.Ytkeplmnohenbnaa.Sa

/- The walk of OctetsWindows: it returns true for any bytes and any place, and nothing that was there is written. -/
import Derived.Test.YtmobdanpkojbbaaOctH
namespace Go.Proofs.Ytmobdanpkojbbaa.Oct
open Go.RowKit
set_option linter.unusedVariables false

/-- the boxed place -/
def Box (w : World) (g : Nat) (at_ n size : Int) (big : Bool) : Prop :=
  w.cell? ⟨g, 0, none⟩ = some (.int .u64 at_) ∧ w.cell? ⟨g, 1, none⟩ = some (.int .u64 n) ∧ w.cell? ⟨g, 2, none⟩ = some (.int .i64 size) ∧ w.cell? ⟨g, 3, none⟩ = some (.bool big)
theorem Box.below {w w' : World} {g B : Nat} {at_ n size : Int} {big : Bool} (h : Box w g at_ n size big) (hb : Below B w w') (hg : g < B) : Box w' g at_ n size big :=
  ⟨(hb.cell (by exact hg)).trans h.1, (hb.cell (by exact hg)).trans h.2.1, (hb.cell (by exact hg)).trans h.2.2.1, (hb.cell (by exact hg)).trans h.2.2.2⟩

/-- while the window's bytes are turned: all that lay before the window's row is as it was, and the row is so many bytes -/
def LoopW (w4 : World) (g n : Nat) (wr : World) : Prop := Below g w4 wr ∧ (0 < n → ∃ ys : List UInt8, ys.length = n ∧ Blk wr g ys)

theorem wrap_u8_bd (z : Int) : 0 ≤ IntKind.u8.wrap z ∧ IntKind.u8.wrap z < 256 := by
  rw [IntKind.wrap_u8]; omega
theorem LoopW.step {w4 wr : World} {g n : Nat} (h : LoopW w4 g n wr) (k : Nat) (z : Int) (hz : 0 ≤ z ∧ z < 256) : LoopW w4 g n (wr.setCell ⟨g, k, none⟩ (.int .u8 z)) := by
  refine ⟨h.1.setCell (Nat.le_refl _) _, fun hn => ?_⟩
  obtain ⟨ys, hy, hB⟩ := h.2 hn
  have e : z = (((UInt8.ofNat z.toNat).toNat : Nat) : Int) := by simp; omega
  rw [e]
  exact ⟨ys.set k (UInt8.ofNat z.toNat), by simpa using hy, hB.set_ k _⟩
theorem Row.below' {w w' : World} {g o B : Nat} {xs : List UInt8} (h : Row w (some ⟨g, o, none⟩) xs) (hb : Below B w w') (hg : g < B) : Row w' (some ⟨g, o, none⟩) xs := by
  intro hp
  obtain ⟨b, off, he, hlt, hc⟩ := h hp
  injection he with he
  injection he with e1 e2
  subst e1
  subst e2
  exact ⟨g, o, rfl, Nat.lt_of_lt_of_le hlt hb.size, fun i hi => (hb.cell (p := ⟨g, o + i, none⟩) hg).trans (hc i hi)⟩

theorem windows_walk (p : Option Addr) (len cap : Nat) (zs : List Int) (at_ n size : Int) (big : Bool) (w : World) (hr0 : IsRow .u8 w p len cap zs)
    (w0 : (Lit.int .u64 at_).wf = true) (w1 : (Lit.int .u64 n).wf = true) (w2 : (Lit.int .i64 size).wf = true) :
    Calls Try.prog 4 #[.slice p len cap, .agg #[.int .u64 at_, .int .u64 n, .int .i64 size, .bool big]] w fun e w' => e = .returned (.bool true) ∧ Below w.heap.size w w' := by
  obtain ⟨ha, ha'⟩ := bounds_u64 w0
  obtain ⟨hn, hn'⟩ := bounds_u64 w1
  clear w0 w1 w2
  obtain ⟨xs, hx, hr, hlc, hcm, hnil⟩ := hr0.row
  clear hr0
  have hl' : len ≤ maxLen := by omega
  have hl := hl'
  unfold maxLen at hl
  by_cases hbig : 500 < len
  · go_enter Try.func4, Try.ntmps4
    go_wp2_with fail
    refine (lives_any _).mono ?_
    rintro e w1 ⟨rfl, hb1⟩
    go_wp2_with fail
    refine (lives_any _).mono ?_
    rintro e w2 ⟨rfl, hb2⟩
    go_wp2_with fail
    go_ret
    have hz := hb1.size
    simp at hz
    exact ⟨rfl, (((Below.refl _ w).alloc (Nat.le_refl _) _).trans (hb1.mono (by simp))).trans (hb2.mono (by omega))⟩
  · obtain ⟨i0, hi, hz0, hz1, hz2⟩ := info_parts Try.infoByte
    have hlt : (len : Int) ≤ 500 := by omega
    have hdec : decide (500 < (len : Int)) = false := by simp; omega
    go_enter Try.func4, Try.ntmps4
    go_wp2_with fail
    refine (lives_any _).mono ?_
    rintro e w1 ⟨rfl, hb1⟩
    have hz := hb1.size
    have hbox1 : Box w1 w.heap.size at_ n size big := by
      refine Box.below (B := w.heap.size + 1) (w := w.alloc (.cells #[.int .u64 at_, .int .u64 n, .int .i64 size, .bool big] 32)) ?_ (hb1.mono (by simp)) (by omega)
      refine ⟨?_, ?_, ?_, ?_⟩ <;> simp
    have hbw1 : Below w.heap.size w w1 := ((Below.refl _ w).alloc (Nat.le_refl _) _).trans (hb1.mono (by simp))
    have hr1 : Row w1 p xs := hr.below hbw1
    simp at hz
    have HX := Lib.hid hx
    have HB1 := Lib.hid hbox1
    clear hbox1 hx hb1
    have hown := World.ownsRow_made (base := w1.heap.size) (e := 5) (size := 1) w1 #[] 0 (Nat.le_refl _) (by simp [maxLen]) rfl
    have hr2 := hr1.below ((Below.refl _ w1).alloc (Nat.le_refl _) (.cells #[] 5))
    go_wp2_with (at_builtin; refine wpList_append_bytes rfl _ _ rfl w1.heap.size _ 0 [] rfl hown p len cap xs rfl hr2 HX.out hnil (by omega) (by simp) ?_)
    intro v' w2 hown' hgrow hv
    obtain ⟨g, cap2, hv', hgc, hgm, hgb, hgl, hrow2⟩ := own_form hown' hv
    rw [hv']
    have hb12 : Below w1.heap.size w1 w2 := ((Below.refl _ w1).alloc (Nat.le_refl _) _).grown hgrow (by simp) (fun k hk => by
      simp [Value.ownBlock] at hk; omega)
    have hbw2 : Below w.heap.size w w2 := hbw1.trans (hb12.mono (by omega))
    have hr2' := hr1.below hb12
    have hbox2 := HB1.out.below hb12 (by omega)
    have hz12 := hb12.size
    obtain ⟨c0, c1, c2, c3⟩ := hbox2
    clear hown hr2 hown' hgrow hv hv' hr1 HB1 hb12
    go_wp2_with fail
    refine (window_any _ _ _ _ _ xs _ hrow2 HX.out hgc (by omega) ha ha' hn hn').mono ?_
    rintro e w3 ⟨hb3, hcase⟩
    have hbw3 : Below w.heap.size w w3 := hbw2.trans (hb3.mono (by omega))
    have hbox3 : Box w3 w.heap.size at_ n size big := Box.below ⟨c0, c1, c2, c3⟩ hb3 (by omega)
    have hrow3 := hrow2.below hb3
    have hr3 := hr.below hbw3
    have hz3 := hb3.size
    have cv3 := conv_row len cap hr3 HX.out
    have HXS : xs.length ≤ 500 := by rw [HX.out]; omega
    clear c0 c1 c2 c3
    obtain ⟨c0, c1, c2, c3⟩ := hbox3
    -- the value that Window hands back: whichever way
    obtain ⟨q, ql, hq, hql, hqr⟩ : ∃ q ql, e = .returned (.tuple #[.slice q ql ql, .int .i64 (winE xs at_ n)]) ∧ (winV xs at_ n).length = ql ∧ (0 < ql → q = some ⟨w2.heap.size, 0, none⟩ ∧ Blk w3 w2.heap.size (winV xs at_ n)) := by
      rcases hcase with ⟨h1, h2, h3⟩ | ⟨h1, h2, h3⟩
      · exact ⟨_, _, by rw [h1]; exact h2, rfl, fun _ => ⟨rfl, h3⟩⟩
      · exact ⟨none, 0, h3, by rw [h2]; rfl, fun h => by omega⟩
    subst hq
    have HQ := Lib.hid hqr
    have HQL := Lib.hid hql
    clear hcase hqr hql
    go_wp2_with fail
    refine (rwindow_any _ _ _ _ (by omega) ha ha' hn hn').mono ?_
    rintro e w3' ⟨rfl, rfl⟩
    go_wp2_with fail
    refine (get_any _ _ _ _ _ _ xs _ hrow3 HX.out hl' ha ha').mono ?_
    rintro e w4 ⟨rfl, hd⟩
    have hb34 := fun B => hd.below B
    obtain ⟨nq, rfl⟩ := hd
    have hbox4 : Box (w3.drewN nq) w.heap.size at_ n size big := ⟨c0, c1, c2, c3⟩
    clear c0 c1 c2 c3 cv3
    obtain ⟨c0, c1, c2, c3⟩ := hbox4
    have hr4 := hr3.below (hb34 _)
    have cv4 := conv_row len cap hr4 HX.out
    go_wp2_with fail
    refine (rget_any _ _ _ _ _ (by omega) ha ha').mono ?_
    rintro e w4' ⟨rfl, rfl⟩
    have hrq : Row (w3.drewN nq) q (winV xs at_ n) := by
      intro h0
      obtain ⟨e1, hB⟩ := HQ.out (by rw [← HQL.out]; exact h0)
      rw [e1]
      exact Blk.row (hB.below (hb34 (w2.heap.size + 1)) (by omega)) h0
    have cvq := conv_row ql ql hrq HQL.out
    clear cv4 c0 c1 c2 c3
    go_wp2_with fail
    have hw4 : Below w.heap.size w (w3.drewN nq) := hbw3.trans (hb34 _)
    have hrow4 := hrow3.below (hb34 _)
    have hz4 : w2.heap.size ≤ (w3.drewN nq).heap.size := hz3
    have HQ4 := Lib.hid (show 0 < ql → q = some ⟨w2.heap.size, 0, none⟩ ∧ Blk (w3.drewN nq) w2.heap.size (winV xs at_ n) from fun h => ⟨(HQ.out h).1, (HQ.out h).2.below (hb34 (w2.heap.size + 1)) (by omega)⟩)
    have hqlb : ql ≤ 500 := by
      have h1 := HQL.out
      have h2 : (winV xs at_ n).length ≤ xs.length := by unfold winV; split <;> simp; omega
      omega
    clear cvq hrq HQ hb34 hb3 hbw3 hrow3 hr3 hr4 hr2' hbw2 hrow2 hbw1 hdec
    generalize w3.drewN nq = w4 at *
    go_loopw [14, 89] (fun i c wr => ∃ k : Nat, k ≤ ql ∧ c = .int .i64 (k : Int) ∧ LoopW w4 w2.heap.size ql wr) (fun _ c _ => ql - (intOf c).toNat)
    case atStart => exact ⟨0, by omega, rfl, Below.refl _ _, fun h => ⟨_, HQL.out, (HQ4.out h).2⟩⟩
    case round =>
      obtain ⟨k, hk, rfl, hL⟩ := hrel
      by_cases hkl : k < ql
      · obtain ⟨rfl, _⟩ := HQ4.out (by omega)
        obtain ⟨ys, hyl, hB⟩ := hL.2 (by omega)
        have hky : k < ys.length := by omega
        have hc := hB.cell k hky
        have hf := hB.frozen k
        have hyb : ys[k].toNat < 256 := ys[k].toNat_lt
        have HB := Lib.hid hB
        have HYL := Lib.hid hyl
        clear hyl hB
        go_wp2_with fail
        go_roundw
        case rel => exact ⟨k + 1, by omega, by go_num, hL.step k _ (wrap_u8_bd _)⟩
        case measure => simp [intOf]; omega
      · have hwr : Below w.heap.size w wr := hw4.trans (hL.1.mono (by omega))
        have cb := conv_row len cap (hr.below hwr) HX.out
        have co := conv_row len cap2 (hrow4.below' hL.1 hgl) HX.out
        have hbeq : ((bs xs).toList == (bs xs).toList) = true := by simp
        clear HQ4
        go_wp2_with fail
        go_ret
        exact ⟨rfl, hwr⟩
end Go.Proofs.Ytmobdanpkojbbaa.Oct

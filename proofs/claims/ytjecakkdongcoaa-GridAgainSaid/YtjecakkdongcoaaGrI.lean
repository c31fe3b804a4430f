
/- Contracts of the laws of grids: of, like; a struct of two numbers, a row and a bool that came in. -/
import Derived.Test.YtjecakkdongcoaaGrG
namespace Go.Proofs.Ytjecakkdongcoaa.Gr
open Go.RowKit Go.Proofs.Ytjecakkdongcoaa.Oct
open Go.Proofs.Ytjecakkdongcoaa.Lp (VRow Only ints ints_length ints_append ints_one vrow_blk vrow_own blk_set blk_far blk_frozen)
open Go.Proofs.Ytjecakkdongcoaa.Fm (Ow)
set_option linter.unusedVariables false
set_option linter.unusedSimpArgs false
set_option maxRecDepth 100000

/-- are a grid and the document's alike? -/
theorem like_yes (W H : Int) (q1 q2 : Option Addr) (n c1 c2 : Nat) (zs : List Int) (w : World) (h1 : VRow w w.heap.size q1 (ints zs)) (h2 : VRow w w.heap.size q2 (ints zs)) (hn : zs.length = n) (hl : n ≤ 5000000) :
    Calls Try.prog 12 #[.agg #[.int .i64 W, .int .i64 H, .slice q1 n c1], .agg #[.int .i64 W, .int .i64 H, .slice q2 n c2]] w (BolP w true) := by
  obtain ⟨w2, hw2, HB2, HX2, HY2, hz2⟩ := box2 26 28 w (.int .i64 W) (.int .i64 H) (.slice q1 n c1) (.int .i64 W) (.int .i64 H) (.slice q2 n c2)
  have HW2 := Lib.hid hw2
  have HS := Lib.hid (same_yes q1 c1 q2 c2 n zs w2 w2.heap.size ((h1.below HB2.out (Nat.le_refl _)).mono HB2.out.size) ((h2.below HB2.out (Nat.le_refl _)).mono HB2.out.size) hn (by omega))
  have e1 : (W == W) = true := by simp
  have e2 : (H == H) = true := by simp
  clear h1 h2 hn hl hw2 hz2
  go_enter Try.func12, Try.ntmps12
  go_wp2_with fail
  rw [← HW2.out]
  refine HS.out.mono ?_
  rintro e w3 ⟨rfl, hd⟩
  have HB3 := Lib.hid (HB2.out.trans ((hd.below w2.heap.size).mono HB2.out.size))
  clear hd
  go_wp2_with fail
  go_ret
  exact ⟨rfl, HB3.out⟩
/-- two grids, alike, and whether they are small -/
def OfP (w : World) (e : Ending) (w' : World) : Prop :=
  Below w.heap.size w w' ∧ ∃ (W H : Int) (n : Nat) (zs : List Int) (q1 q2 : Option Addr) (c1 c2 : Nat) (ok : Bool), e = .returned (.tuple #[.agg #[.int .i64 W, .int .i64 H, .slice q1 n c1], .agg #[.int .i64 W, .int .i64 H, .slice q2 n c2], .bool ok]) ∧
    zs.length = n ∧ VRow w' w'.heap.size q1 (ints zs) ∧ VRow w' w'.heap.size q2 (ints zs) ∧ n ≤ c1 ∧ n ≤ c2 ∧ (q1 = none → c1 = 0) ∧ (q2 = none → c2 = 0) ∧ (ok = true → n ≤ 3600)
end Go.Proofs.Ytjecakkdongcoaa.Gr

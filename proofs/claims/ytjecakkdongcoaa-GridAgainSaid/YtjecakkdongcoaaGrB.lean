
/- Contracts of package grid: isSize, Right, has, line, copyOf; of the document's: Can, Right, Has. -/
import Derived.Test.YtjecakkdongcoaaGrA
import Derived.Test.YtjecakkdongcoaaTk
namespace Go.Proofs.Ytjecakkdongcoaa.Gr
open Go.RowKit Go.Proofs.Ytjecakkdongcoaa.Oct
open Go.Proofs.Ytjecakkdongcoaa.Lp (VRow ints ints_length ints_append ints_one vrow_blk vrow_own blk_set blk_far blk_frozen)
open Go.Proofs.Ytjecakkdongcoaa.Gd (canG)
open Go.Proofs.Ytjecakkdongcoaa.Fm (Ow)
set_option linter.unusedVariables false
set_option linter.unusedSimpArgs false
set_option maxRecDepth 100000

theorem mul_wrap {a b : Int} (h1 : 0 ≤ a) (h2 : a ≤ 4194304) (h3 : 0 ≤ b) (h4 : b ≤ 4194304) : IntKind.i64.wrap (a * b) = a * b ∧ wrap64 (a * b) = a * b := by
  have h5 : 0 ≤ a * b := Int.mul_nonneg h1 h3
  have h6 : a * b ≤ 4194304 * 4194304 := Int.mul_le_mul h2 h4 h3 (by omega)
  refine ⟨?_, ?_⟩
  · rw [IntKind.wrap_i64]; omega
  · unfold wrap64; omega
theorem isSize_any (a b : Int) (w : World) : Calls Try.prog 38 #[.int .i64 a, .int .i64 b] w fun e w' => e = .returned (.bool (canG a b)) ∧ w = w' := by
  by_cases h1 : 0 ≤ a
  case neg =>
    have d1 : decide (0 ≤ a) = false := by simpa using h1
    rw [show canG a b = false from decide_eq_false (fun h => h1 h.1)]
    clear h1
    go_enter Try.func38, Try.ntmps38
    go_wp2_with fail
    go_ret
    exact ⟨rfl, rfl⟩
  have d1 : decide (0 ≤ a) = true := by simpa using h1
  by_cases h2 : a ≤ 4194304
  case neg =>
    have d2 : decide (a ≤ 4194304) = false := by simpa using h2
    rw [show canG a b = false from decide_eq_false (fun h => h2 h.2.2.1)]
    clear h1 h2
    go_enter Try.func38, Try.ntmps38
    go_wp2_with fail
    go_ret
    exact ⟨rfl, rfl⟩
  have d2 : decide (a ≤ 4194304) = true := by simpa using h2
  by_cases h3 : 0 ≤ b
  case neg =>
    have d3 : decide (0 ≤ b) = false := by simpa using h3
    rw [show canG a b = false from decide_eq_false (fun h => h3 h.2.1)]
    clear h1 h2 h3
    go_enter Try.func38, Try.ntmps38
    go_wp2_with fail
    go_ret
    exact ⟨rfl, rfl⟩
  have d3 : decide (0 ≤ b) = true := by simpa using h3
  by_cases h4 : b ≤ 4194304
  case neg =>
    have d4 : decide (b ≤ 4194304) = false := by simpa using h4
    rw [show canG a b = false from decide_eq_false (fun h => h4 h.2.2.2.1)]
    clear h1 h2 h3 h4
    go_enter Try.func38, Try.ntmps38
    go_wp2_with fail
    go_ret
    exact ⟨rfl, rfl⟩
  have d4 : decide (b ≤ 4194304) = true := by simpa using h4
  obtain ⟨m1, m2⟩ := mul_wrap h1 h2 h3 h4
  have e : canG a b = decide (a * b ≤ 4194304) := by
    unfold canG
    by_cases h5 : a * b ≤ 4194304
    · rw [decide_eq_true h5, decide_eq_true ⟨h1, h3, h2, h4, h5⟩]
    · rw [decide_eq_false h5, decide_eq_false (fun h => h5 h.2.2.2.2)]
  rw [e]
  clear e h1 h2 h3 h4
  go_enter Try.func38, Try.ntmps38
  go_wp2_with fail
  go_ret
  exact ⟨rfl, rfl⟩
theorem rcan_any (a b : Int) (w : World) : Calls Try.prog 21 #[.int .i64 a, .int .i64 b] w fun e w' => e = .returned (.bool (canG a b)) ∧ w = w' := by
  by_cases h1 : a < 0
  case pos =>
    have d1 : decide (a < 0) = true := by simpa using h1
    rw [show canG a b = false from decide_eq_false (fun h => by omega)]
    clear h1
    go_enter Try.func21, Try.ntmps21
    go_wp2_with fail
    go_ret
    exact ⟨rfl, rfl⟩
  have d1 : decide (a < 0) = false := by simpa using h1
  by_cases h3 : b < 0
  case pos =>
    have d3 : decide (b < 0) = true := by simpa using h3
    rw [show canG a b = false from decide_eq_false (fun h => by omega)]
    clear h1 h3
    go_enter Try.func21, Try.ntmps21
    go_wp2_with fail
    go_ret
    exact ⟨rfl, rfl⟩
  have d3 : decide (b < 0) = false := by simpa using h3
  by_cases h2 : 4194304 < a
  case pos =>
    have d2 : decide (4194304 < a) = true := by simpa using h2
    rw [show canG a b = false from decide_eq_false (fun h => by omega)]
    clear h1 h2 h3
    go_enter Try.func21, Try.ntmps21
    go_wp2_with fail
    go_ret
    exact ⟨rfl, rfl⟩
  have d2 : decide (4194304 < a) = false := by simpa using h2
  by_cases h4 : 4194304 < b
  case pos =>
    have d4 : decide (4194304 < b) = true := by simpa using h4
    rw [show canG a b = false from decide_eq_false (fun h => by omega)]
    clear h1 h2 h3 h4
    go_enter Try.func21, Try.ntmps21
    go_wp2_with fail
    go_ret
    exact ⟨rfl, rfl⟩
  have d4 : decide (4194304 < b) = false := by simpa using h4
  obtain ⟨m1, m2⟩ := mul_wrap (a := a) (b := b) (by omega) (by omega) (by omega) (by omega)
  have e : canG a b = decide (a * b ≤ 4194304) := by
    unfold canG
    by_cases h5 : a * b ≤ 4194304
    · rw [decide_eq_true h5, decide_eq_true ⟨by omega, by omega, by omega, by omega, h5⟩]
    · rw [decide_eq_false h5, decide_eq_false (fun h => h5 h.2.2.2.2)]
  rw [e]
  clear e h1 h2 h3 h4
  go_enter Try.func21, Try.ntmps21
  go_wp2_with fail
  go_ret
  exact ⟨rfl, rfl⟩
theorem can_parts {a b : Int} (h : canG a b = true) : 0 ≤ a ∧ a ≤ 4194304 ∧ 0 ≤ b ∧ b ≤ 4194304 ∧ a * b ≤ 4194304 ∧ IntKind.i64.wrap (a * b) = a * b ∧ wrap64 (a * b) = a * b := by
  have h := of_decide_eq_true h
  obtain ⟨m1, m2⟩ := mul_wrap (a := a) (b := b) (by omega) (by omega) (by omega) (by omega)
  exact ⟨by omega, by omega, by omega, by omega, by omega, m1, m2⟩
def BolP (w : World) (b : Bool) (e : Ending) (w' : World) : Prop := e = .returned (.bool b) ∧ Below w.heap.size w w'
theorem right_any (W H : Int) (p : Option Addr) (n c : Nat) (w : World) : Calls Try.prog 19 #[.agg #[.int .i64 W, .int .i64 H, .slice p n c]] w (BolP w (rightI W H n)) := by
  have HS := Lib.hid (fun w => isSize_any W H w)
  have HB := Lib.hid ((Below.refl w.heap.size w).alloc (Nat.le_refl _) (.cells #[.int .i64 W, .int .i64 H, .slice p n c] 26))
  unfold rightI
  by_cases h : canG W H = true
  · obtain ⟨_, _, _, _, _, m1, m2⟩ := can_parts h
    rw [h, Bool.true_and]
    rw [h] at HS
    have e : decide ((n : Int) = W * H) = ((n : Int) == W * H) := by by_cases q : (n : Int) = W * H <;> simp [q]
    rw [e]
    clear e h
    go_enter Try.func19, Try.ntmps19
    go_wp2_with fail
    refine (HS.out _).mono ?_
    rintro e w' ⟨rfl, rfl⟩
    go_wp2_with fail
    go_ret
    exact ⟨rfl, HB.out⟩
  · have h0 : canG W H = false := by simpa using h
    rw [h0, Bool.false_and]
    rw [h0] at HS
    clear h h0
    go_enter Try.func19, Try.ntmps19
    go_wp2_with fail
    refine (HS.out _).mono ?_
    rintro e w' ⟨rfl, rfl⟩
    go_wp2_with fail
    go_ret
    exact ⟨rfl, HB.out⟩
theorem rright_any (W H : Int) (p : Option Addr) (n c : Nat) (w : World) : Calls Try.prog 17 #[.agg #[.int .i64 W, .int .i64 H, .slice p n c]] w (BolP w (rightI W H n)) := by
  have HS := Lib.hid (fun w => rcan_any W H w)
  have HB := Lib.hid ((Below.refl w.heap.size w).alloc (Nat.le_refl _) (.cells #[.int .i64 W, .int .i64 H, .slice p n c] 28))
  unfold rightI
  by_cases h : canG W H = true
  · obtain ⟨_, _, _, _, _, m1, m2⟩ := can_parts h
    rw [h, Bool.true_and]
    rw [h] at HS
    have e : decide ((n : Int) = W * H) = ((n : Int) == W * H) := by by_cases q : (n : Int) = W * H <;> simp [q]
    rw [e]
    clear e h
    go_enter Try.func17, Try.ntmps17
    go_wp2_with fail
    refine (HS.out _).mono ?_
    rintro e w' ⟨rfl, rfl⟩
    go_wp2_with fail
    go_ret
    exact ⟨rfl, HB.out⟩
  · have h0 : canG W H = false := by simpa using h
    rw [h0, Bool.false_and]
    rw [h0] at HS
    clear h h0
    go_enter Try.func17, Try.ntmps17
    go_wp2_with fail
    refine (HS.out _).mono ?_
    rintro e w' ⟨rfl, rfl⟩
    go_wp2_with fail
    go_ret
    exact ⟨rfl, HB.out⟩
theorem rightB_any (W H : Int) (p : Option Addr) (n c : Nat) (w : World) : Calls Try.prog 22 #[.agg #[.int .i64 W, .int .i64 H, .slice p n c]] w (BolP w (rightI W H n)) := by
  have HS := Lib.hid (fun w => isSize_any W H w)
  have HB := Lib.hid ((Below.refl w.heap.size w).alloc (Nat.le_refl _) (.cells #[.int .i64 W, .int .i64 H, .slice p n c] 46))
  unfold rightI
  by_cases h : canG W H = true
  · obtain ⟨_, _, _, _, _, m1, m2⟩ := can_parts h
    rw [h, Bool.true_and]
    rw [h] at HS
    have e : decide ((n : Int) = W * H) = ((n : Int) == W * H) := by by_cases q : (n : Int) = W * H <;> simp [q]
    rw [e]
    clear e h
    go_enter Try.func22, Try.ntmps22
    go_wp2_with fail
    refine (HS.out _).mono ?_
    rintro e w' ⟨rfl, rfl⟩
    go_wp2_with fail
    go_ret
    exact ⟨rfl, HB.out⟩
  · have h0 : canG W H = false := by simpa using h
    rw [h0, Bool.false_and]
    rw [h0] at HS
    clear h h0
    go_enter Try.func22, Try.ntmps22
    go_wp2_with fail
    refine (HS.out _).mono ?_
    rintro e w' ⟨rfl, rfl⟩
    go_wp2_with fail
    go_ret
    exact ⟨rfl, HB.out⟩
theorem has_any (W H : Int) (p : Option Addr) (n c : Nat) (x y : Int) (w : World) : Calls Try.prog 36 #[.agg #[.int .i64 W, .int .i64 H, .slice p n c], .int .i64 x, .int .i64 y] w (BolP w (hasI W H n x y)) := by
  have hb0 := (Below.refl w.heap.size w).alloc (Nat.le_refl _) (.cells #[.int .i64 W, .int .i64 H, .slice p n c] 26)
  have hbx := Bx.new 26 w (.int .i64 W) (.int .i64 H) (.slice p n c)
  generalize hv : w.alloc (.cells #[.int .i64 W, .int .i64 H, .slice p n c] 26) = v at hb0 hbx
  have HV := Lib.hid hv
  have HB := Lib.hid hb0
  have HX := Lib.hid hbx
  have HR := Lib.hid (right_any W H p n c v)
  have HH : Hid (∀ W', Below v.heap.size v W' → W'.cell? ⟨w.heap.size, 0, none⟩ = some (.int .i64 W) ∧ W'.cell? ⟨w.heap.size, 1, none⟩ = some (.int .i64 H)) := Lib.hid (fun W' h => ⟨(HX.out.go h).cells.1, (HX.out.go h).cells.2.1⟩)
  clear hb0 hbx hv
  unfold hasI
  by_cases h : rightI W H n = true
  case neg =>
    have h0 : rightI W H n = false := by simpa using h
    rw [h0, Bool.false_and]
    rw [h0] at HR
    clear h h0
    go_enter Try.func36, Try.ntmps36
    go_wp2_with fail
    rw [HV.out]
    refine HR.out.mono ?_
    rintro e w' ⟨rfl, hb⟩
    have HB2 := Lib.hid (HB.out.trans (hb.mono HB.out.size))
    clear hb
    go_wp2_with fail
    go_ret
    exact ⟨rfl, HB2.out⟩
  rw [h, Bool.true_and]
  rw [h] at HR
  obtain ⟨t, ht⟩ : ∃ t, t = decide (0 ≤ x ∧ x < W ∧ 0 ≤ y ∧ y < H) := ⟨_, rfl⟩
  rw [← ht]
  have HT := Lib.hid ht
  clear h ht
  go_enter Try.func36, Try.ntmps36
  go_wp2_with fail
  rw [HV.out]
  refine HR.out.mono ?_
  rintro e w' ⟨rfl, hb⟩
  have HB2 := Lib.hid (HB.out.trans (hb.mono HB.out.size))
  obtain ⟨k0, k1⟩ := HH.out _ hb
  clear hb HR HV HX HH
  by_cases h1 : 0 ≤ x
  case neg =>
    have d1 : decide (0 ≤ x) = false := by simpa using h1
    obtain rfl : t = false := HT.out.trans (decide_eq_false (fun h => h1 h.1))
    clear HT
    clear h1
    go_wp2_with fail
    go_ret
    exact ⟨rfl, HB2.out⟩
  have d1 : decide (0 ≤ x) = true := by simpa using h1
  by_cases h2 : x < W
  case neg =>
    have d2 : decide (x < W) = false := by simpa using h2
    obtain rfl : t = false := HT.out.trans (decide_eq_false (fun h => h2 h.2.1))
    clear HT
    clear h1 h2
    go_wp2_with fail
    go_ret
    exact ⟨rfl, HB2.out⟩
  have d2 : decide (x < W) = true := by simpa using h2
  by_cases h3 : 0 ≤ y
  case neg =>
    have d3 : decide (0 ≤ y) = false := by simpa using h3
    obtain rfl : t = false := HT.out.trans (decide_eq_false (fun h => h3 h.2.2.1))
    clear HT
    clear h1 h2 h3
    go_wp2_with fail
    go_ret
    exact ⟨rfl, HB2.out⟩
  have d3 : decide (0 ≤ y) = true := by simpa using h3
  obtain rfl : t = decide (y < H) := HT.out.trans (by simp only [h1, h2, h3, true_and])
  clear h1 h2 h3 HT
  go_wp2_with fail
  go_ret
  exact ⟨rfl, HB2.out⟩
theorem rhas_any (W H : Int) (p : Option Addr) (n c : Nat) (x y : Int) (w : World) : Calls Try.prog 16 #[.agg #[.int .i64 W, .int .i64 H, .slice p n c], .int .i64 x, .int .i64 y] w (BolP w (hasI W H n x y)) := by
  have hb0 := (Below.refl w.heap.size w).alloc (Nat.le_refl _) (.cells #[.int .i64 W, .int .i64 H, .slice p n c] 28)
  have hbx := Bx.new 28 w (.int .i64 W) (.int .i64 H) (.slice p n c)
  generalize hv : w.alloc (.cells #[.int .i64 W, .int .i64 H, .slice p n c] 28) = v at hb0 hbx
  have HV := Lib.hid hv
  have HB := Lib.hid hb0
  have HX := Lib.hid hbx
  have HR := Lib.hid (rright_any W H p n c v)
  have HH : Hid (∀ W', Below v.heap.size v W' → W'.cell? ⟨w.heap.size, 0, none⟩ = some (.int .i64 W) ∧ W'.cell? ⟨w.heap.size, 1, none⟩ = some (.int .i64 H)) := Lib.hid (fun W' h => ⟨(HX.out.go h).cells.1, (HX.out.go h).cells.2.1⟩)
  clear hb0 hbx hv
  unfold hasI
  by_cases h : rightI W H n = true
  case neg =>
    have h0 : rightI W H n = false := by simpa using h
    rw [h0, Bool.false_and]
    rw [h0] at HR
    clear h h0
    go_enter Try.func16, Try.ntmps16
    go_wp2_with fail
    rw [HV.out]
    refine HR.out.mono ?_
    rintro e w' ⟨rfl, hb⟩
    have HB2 := Lib.hid (HB.out.trans (hb.mono HB.out.size))
    clear hb
    go_wp2_with fail
    go_ret
    exact ⟨rfl, HB2.out⟩
  rw [h, Bool.true_and]
  rw [h] at HR
  obtain ⟨t, ht⟩ : ∃ t, t = decide (0 ≤ x ∧ x < W ∧ 0 ≤ y ∧ y < H) := ⟨_, rfl⟩
  rw [← ht]
  have HT := Lib.hid ht
  clear h ht
  go_enter Try.func16, Try.ntmps16
  go_wp2_with fail
  rw [HV.out]
  refine HR.out.mono ?_
  rintro e w' ⟨rfl, hb⟩
  have HB2 := Lib.hid (HB.out.trans (hb.mono HB.out.size))
  obtain ⟨k0, k1⟩ := HH.out _ hb
  clear hb HR HV HX HH
  by_cases h1 : 0 ≤ x
  case neg =>
    have d1 : decide (0 ≤ x) = false := by simpa using h1
    obtain rfl : t = false := HT.out.trans (decide_eq_false (fun h => h1 h.1))
    clear HT
    clear h1
    go_wp2_with fail
    go_ret
    exact ⟨rfl, HB2.out⟩
  have d1 : decide (0 ≤ x) = true := by simpa using h1
  by_cases h3 : 0 ≤ y
  case neg =>
    have d3 : decide (0 ≤ y) = false := by simpa using h3
    obtain rfl : t = false := HT.out.trans (decide_eq_false (fun h => h3 h.2.2.1))
    clear HT
    clear h1 h3
    go_wp2_with fail
    go_ret
    exact ⟨rfl, HB2.out⟩
  have d3 : decide (0 ≤ y) = true := by simpa using h3
  by_cases h2 : x < W
  case neg =>
    have d2 : decide (x < W) = false := by simpa using h2
    obtain rfl : t = false := HT.out.trans (decide_eq_false (fun h => h2 h.2.1))
    clear HT
    clear h1 h2 h3
    go_wp2_with fail
    go_ret
    exact ⟨rfl, HB2.out⟩
  have d2 : decide (x < W) = true := by simpa using h2
  obtain rfl : t = decide (y < H) := HT.out.trans (by simp only [h1, h2, h3, true_and])
  clear h1 h2 h3 HT
  go_wp2_with fail
  go_ret
  exact ⟨rfl, HB2.out⟩
/-- a row's cells where they stand -/
theorem line_any (wd : Nat) (H : Int) (p : Option Addr) (n c y : Nat) (w : World) (h1 : y * wd + wd ≤ c) (h2 : wd ≤ 4194304) (h3 : y * wd + wd ≤ 4194304) (h4 : y ≤ 4194304) :
    Calls Try.prog 37 #[.agg #[.int .i64 (wd : Int), .int .i64 H, .slice p n c], .int .i64 (y : Int)] w fun e w' => e = .returned (.slice (tailA p c (y * wd)) wd (c - y * wd)) ∧ Below w.heap.size w w' := by
  have HB := Lib.hid ((Below.refl w.heap.size w).alloc (Nat.le_refl _) (.cells #[.int .i64 (wd : Int), .int .i64 H, .slice p n c] 26))
  obtain ⟨k, hk⟩ : ∃ k : Nat, k = y * wd := ⟨_, rfl⟩
  have e1 : (y : Int) * (wd : Int) = (k : Int) := by rw [hk]; push_cast; rfl
  have e2 : ((y : Int) + 1) * (wd : Int) = ((k + wd : Nat) : Int) := by rw [Int.add_mul, e1]; push_cast; omega
  rw [← hk] at h1 h3 ⊢
  have hs := fun W => mid_int W p n c k (k + wd) (by omega) h1
  rw [show k + wd - k = wd from by omega] at hs
  have a1 : IntKind.i64.wrap (k : Int) = (k : Int) ∧ wrap64 (k : Int) = (k : Int) := by
    refine ⟨?_, ?_⟩
    · rw [IntKind.wrap_i64]; omega
    · unfold wrap64; omega
  have a2 : IntKind.i64.wrap ((k + wd : Nat) : Int) = ((k + wd : Nat) : Int) ∧ wrap64 ((k + wd : Nat) : Int) = ((k + wd : Nat) : Int) := by
    refine ⟨?_, ?_⟩
    · rw [IntKind.wrap_i64]; omega
    · unfold wrap64; omega
  have a3 : IntKind.i64.wrap ((y : Int) + 1) = (y : Int) + 1 ∧ wrap64 ((y : Int) + 1) = (y : Int) + 1 := by
    refine ⟨?_, ?_⟩
    · rw [IntKind.wrap_i64]; omega
    · unfold wrap64; omega
  generalize k + wd = m at *
  obtain ⟨b1, b2⟩ := a1
  obtain ⟨b3, b4⟩ := a2
  obtain ⟨b5, b6⟩ := a3
  clear h1 h2 h3 h4 hk
  go_enter Try.func37, Try.ntmps37
  go_wp2_with fail
  go_ret
  exact ⟨rfl, HB.out⟩
end Go.Proofs.Ytjecakkdongcoaa.Gr

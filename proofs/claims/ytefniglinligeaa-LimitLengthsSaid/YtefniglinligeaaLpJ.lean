
/- allowed, and Cost. -/
import Derived.Test.YtefniglinligeaaLpI
import Derived.Lib.MinMax
namespace Go.Proofs.Ytefniglinligeaa.Lp
open Go.RowKit Go.Proofs.Ytefniglinligeaa.Oct Go.Proofs.Ytefniglinligeaa.Lm
set_option linter.unusedVariables false
set_option linter.unusedSimpArgs false
set_option maxRecDepth 100000

/-- a thing that may not come so often -/
def badZ (z : Int) : Bool := decide (z < 0) || decide (1073741824 < z)
theorem bad_any (z : Int) (w : World) : Calls Try.prog 19 #[.int .i64 z] w fun e w' => e = .returned (.bool (badZ z)) ∧ w' = w := by
  have HB : Hid (badZ z = (decide (z < 0) || decide (1073741824 < z))) := rfl
  by_cases h : z < 0
  · have hd : decide (z < 0) = true := decide_eq_true h
    go_enter Try.func19, Try.ntmps19
    go_wp2
    go_ret
    exact ⟨by rw [HB.out, hd]; simp, rfl⟩
  · have hd : decide (z < 0) = false := decide_eq_false h
    go_enter Try.func19, Try.ntmps19
    go_wp2
    go_ret
    exact ⟨by rw [HB.out, hd]; simp, rfl⟩
def IdxP (zs : List Int) (w : World) (e : Ending) (w' : World) : Prop := ∃ r : Int, e = .returned (.int .i64 r) ∧ (0 ≤ r ↔ zs.any badZ = true) ∧ w' = w
set_option maxHeartbeats 2000000 in
theorem index_any (p : Option Addr) (len cap : Nat) (zs : List Int) (w : World) (hr : VRow w w.heap.size p (ints zs)) (hx : zs.length = len) (hl : len ≤ 100000) : Calls Try.prog 26 #[.slice p len cap, .func (.func 19) #[] #[]] w (IdxP zs w) := by
  have HR := Lib.hid hr
  have HX := Lib.hid hx
  clear hr hx
  have hbad := bad_any
  go_enter Try.func26, Try.ntmps26
  go_wp2
  go_loopg [8] len (fun kx s8 wr => ∃ (k : Nat), s8 = .int .i64 (k : Int) ∧ k ≤ len ∧ len - k ≤ kx ∧ Hid ((zs.take k).any badZ = false) ∧ w = wr)
  case atStart => exact ⟨0, rfl, by omega, by omega, (show Hid _ from rfl), rfl⟩
  case round =>
    obtain ⟨k, rfl, hk, hkx, HA, rfl⟩ := hrel
    by_cases hlt : k < len
    · have hkz : (k : Int) < (len : Int) := by omega
      have hk0 : (0 : Int) ≤ (k : Int) := by omega
      have hkl : k < zs.length := by rw [HX.out]; exact hlt
      obtain ⟨b, off, hp, hbl⟩ := HR.out.addr (by rw [ints_length]; omega)
      subst hp
      have hc := HR.out.int k hkl
      have HT : Hid ((zs.take (k + 1)).any badZ = badZ zs[k]) := by
        show _ = _
        rw [List.take_succ_eq_append_getElem hkl, List.any_append, HA.out]
        simp
      have HM : Hid (zs[k] ∈ zs) := List.getElem_mem hkl
      generalize zs[k] = z at hc HT HM
      have hz := bad_any z w
      cases hb : badZ z with
      | true =>
        rw [hb] at hz HT
        have HBT := Lib.hid hb
        clear hb
        go_wp2_with (go_at_call 19; refine hz.mono ?_; rintro e w' ⟨rfl, rfl⟩)
        go_ret
        exact ⟨_, rfl, ⟨fun _ => List.any_eq_true.2 ⟨z, HM.out, HBT.out⟩, fun _ => hk0⟩, rfl⟩
      | false =>
        rw [hb] at hz HT
        clear hb
        go_wp2_with (go_at_call 19; refine hz.mono ?_; rintro e w' ⟨rfl, rfl⟩)
        go_roundg (len - (k + 1))
        case measure => omega
        case rel => exact ⟨k + 1, by go_num, by omega, Nat.le_refl _, HT, rfl⟩
    · have hkz : ¬ (k : Int) < (len : Int) := by omega
      go_wp2
      go_ret
      have e : zs.take k = zs := List.take_of_length_le (by rw [HX.out]; omega)
      have hA := HA.out
      rw [e] at hA
      exact ⟨-1, rfl, by rw [hA]; simp, rfl⟩
theorem contains_any (p : Option Addr) (len cap : Nat) (zs : List Int) (w : World) (hr : VRow w w.heap.size p (ints zs)) (hx : zs.length = len) (hl : len ≤ 100000) : Calls Try.prog 20 #[.slice p len cap, .func (.func 19) #[] #[]] w fun e w' => e = .returned (.bool (zs.any badZ)) ∧ w' = w := by
  have hi := index_any p len cap zs w hr hx hl
  clear hr
  go_enter Try.func20, Try.ntmps20
  go_wp2_with (go_at_call 26; refine hi.mono ?_; rintro e w' ⟨r, rfl, hr, rfl⟩; have HRR := Lib.hid hr; clear hr)
  go_ret
  refine ⟨?_, rfl⟩
  have e : decide (0 ≤ r) = zs.any badZ := by rw [Bool.eq_iff_iff, decide_eq_true_eq]; exact HRR.out
  exact congrArg (fun b => Ending.returned (.bool b)) e
/-- arguments that are allowed -/
def okB (zs : List Int) (most : Int) : Bool := decide (1 ≤ most) && decide (most ≤ 30) && decide (zs.length ≤ 300) && !zs.any badZ
set_option maxHeartbeats 2000000 in
theorem allowed_any (p : Option Addr) (len cap : Nat) (most : Int) (zs : List Int) (w : World) (hr : VRow w w.heap.size p (ints zs)) (hx : zs.length = len) : Calls Try.prog 14 #[.slice p len cap, .int .i64 most] w fun e w' => e = .returned (.bool (okB zs most)) ∧ w' = w := by
  have HO : Hid (okB zs most = (decide (1 ≤ most) && decide (most ≤ 30) && decide (len ≤ 300) && !zs.any badZ)) := by show _ = _; unfold okB; rw [hx]
  have HC : Hid (len ≤ 300 → Calls Try.prog 20 #[.slice p len cap, .func (.func 19) #[] #[]] w fun e w' => e = .returned (.bool (zs.any badZ)) ∧ w' = w) := fun h => contains_any p len cap zs w hr hx (by omega)
  clear hr hx
  by_cases h1 : 1 ≤ most
  · have d1 : decide (1 ≤ most) = true := decide_eq_true h1
    by_cases h2 : most ≤ 30
    · have d2 : decide (most ≤ 30) = true := decide_eq_true h2
      by_cases h3 : len ≤ 300
      · have d3 : decide ((len : Int) ≤ 300) = true := decide_eq_true (by omega)
        have hc := HC.out h3
        go_enter Try.func14, Try.ntmps14
        go_wp2_with (go_at_call 20; refine hc.mono ?_; rintro e w' ⟨rfl, rfl⟩)
        go_ret
        exact ⟨by rw [HO.out, d1, d2]; simp [h3], rfl⟩
      · have d3 : decide ((len : Int) ≤ 300) = false := decide_eq_false (by omega)
        go_enter Try.func14, Try.ntmps14
        go_wp2
        go_ret
        exact ⟨by rw [HO.out, d1, d2]; simp [h3], rfl⟩
    · have d2 : decide (most ≤ 30) = false := decide_eq_false h2
      go_enter Try.func14, Try.ntmps14
      go_wp2
      go_ret
      exact ⟨by rw [HO.out, d1, d2]; simp, rfl⟩
  · have d1 : decide (1 ≤ most) = false := decide_eq_false h1
    go_enter Try.func14, Try.ntmps14
    go_wp2
    go_ret
    exact ⟨by rw [HO.out, d1]; simp, rfl⟩
/-- the cost of any lengths, in arithmetic that wraps -/
def sumI (a b : List Int) : Nat → Int
  | 0 => 0
  | k + 1 => IntKind.i64.wrap (sumI a b k + IntKind.i64.wrap (a.getD k 0 * b.getD k 0))
set_option maxHeartbeats 4000000 in
theorem cost_any (p1 p2 : Option Addr) (l1 c1 l2 c2 : Nat) (a b : List Int) (w : World) (r1 : VRow w w.heap.size p1 (ints a)) (r2 : VRow w w.heap.size p2 (ints b)) (x1 : a.length = l1) (x2 : b.length = l2) (h1 : l1 ≤ 100000) (h2 : l2 ≤ 100000) :
    Calls Try.prog 12 #[.slice p1 l1 c1, .slice p2 l2 c2] w fun e w' => e = .returned (.int .i64 (sumI a b (min a.length b.length))) ∧ Below w.heap.size w w' := by
  have H0 : Hid (VRow w w.heap.size p1 (ints a) ∧ VRow w w.heap.size p2 (ints b) ∧ a.length = l1 ∧ b.length = l2) := ⟨r1, r2, x1, x2⟩
  clear r1 r2 x1 x2
  obtain ⟨n, hn⟩ : ∃ n, n = min l1 l2 := ⟨_, rfl⟩
  have hmin : min (l1 : Int) (l2 : Int) = (n : Int) := by omega
  have HN : Hid (n = min l1 l2) := hn
  have hn3 : n ≤ 100000 := by omega
  clear hn
  go_enter Try.func12, Try.ntmps12
  go_wp2
  go_loopg [5, 12] n (fun kx s5 s12 wr => ∃ (k : Nat) (s : Int), s12 = .int .i64 (k : Int) ∧ s5 = .int .i64 s ∧ k ≤ n ∧ n - k ≤ kx ∧ Hid (s = sumI a b k ∧ Below w.heap.size w wr))
  case atStart => exact ⟨0, 0, rfl, rfl, by omega, by omega, ⟨rfl, Below.refl _ _⟩⟩
  case round =>
    obtain ⟨k, s, rfl, rfl, hk, hkx, HR⟩ := hrel
    by_cases hlt : k < n
    · have hkz : (k : Int) < (n : Int) := by omega
      have hk0 : (0 : Int) ≤ (k : Int) := by omega
      obtain ⟨e1, e2, e3, e4⟩ := H0.out
      have hn4 := HN.out
      have ha : k < a.length := by omega
      have hb : k < b.length := by omega
      obtain ⟨b1, o1, hp1, hbl1⟩ := e1.addr (by rw [ints_length]; omega)
      subst hp1
      obtain ⟨b2, o2, hp2, hbl2⟩ := e2.addr (by rw [ints_length]; omega)
      subst hp2
      have q1 := (HR.out.2.cell (p := ⟨b1, o1 + k, none⟩) hbl1).trans (e1.int k ha)
      have q2 := (HR.out.2.cell (p := ⟨b2, o2 + k, none⟩) hbl2).trans (e2.int k hb)
      have i1 : (k : Int) < (l1 : Int) := by omega
      have i2 : (k : Int) < (l2 : Int) := by omega
      have HS : Hid (sumI a b (k + 1) = IntKind.i64.wrap (sumI a b k + IntKind.i64.wrap (a[k] * b[k]))) := by
        show _ = _
        simp only [sumI]
        rw [List.getD_eq_getElem?_getD, List.getElem?_eq_getElem ha, List.getD_eq_getElem?_getD, List.getElem?_eq_getElem hb]
        rfl
      generalize a[k] = x at q1 HS
      generalize b[k] = y at q2 HS
      obtain ⟨t, ht⟩ : ∃ t, t = IntKind.i64.wrap (x * y) := ⟨_, rfl⟩
      have ht' := ht.symm
      obtain ⟨u, hu⟩ : ∃ u, u = IntKind.i64.wrap (s + t) := ⟨_, rfl⟩
      have hu' := hu.symm
      have HU : Hid (u = sumI a b (k + 1)) := by show _ = _; rw [HS.out, hu, ht, HR.out.1]
      clear e1 e2 e3 e4 hn4 ha hb ht hu
      have hq1 : ∀ j, (wr.drewN j).cell? ⟨b1, o1 + k, none⟩ = some (.int .i64 x) := fun j => q1
      have hq2 : ∀ j, (wr.drewN j).cell? ⟨b2, o2 + k, none⟩ = some (.int .i64 y) := fun j => q2
      go_wp2_with fail
      go_quiet (fail)
      go_wp2
      have HB2 : Hid (Below w.heap.size w (wr.drewN nq)) := HR.out.2.trans ⟨rfl, rfl, rfl, Nat.le_refl _, fun _ _ => rfl⟩
      go_roundg (n - (k + 1))
      case measure => omega
      case rel => exact ⟨k + 1, u, by go_num, rfl, by omega, Nat.le_refl _, ⟨HU.out, HB2.out⟩⟩
    · have hkz : ¬ (k : Int) < (n : Int) := by omega
      have hkn : k = n := by omega
      go_wp2
      go_ret
      have e := HR.out.1
      rw [hkn, HN.out] at e
      obtain ⟨_, _, x1, x2⟩ := H0.out
      exact ⟨by rw [x1, x2, ← e]; rfl, HR.out.2⟩
end Go.Proofs.Ytefniglinligeaa.Lp

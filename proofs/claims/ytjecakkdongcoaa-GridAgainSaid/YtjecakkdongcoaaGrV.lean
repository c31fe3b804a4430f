
/- The walk of GridPastes. -/
import Derived.Test.YtjecakkdongcoaaGrU
import Derived.Test.YtjecakkdongcoaaGrM
namespace Go.Proofs.Ytjecakkdongcoaa.Gr
open Go.RowKit Go.Proofs.Ytjecakkdongcoaa.Oct
open Go.Proofs.Ytjecakkdongcoaa.Lp (VRow Only ints ints_length ints_append ints_one vrow_blk vrow_own blk_set blk_far blk_frozen)
open Go.Proofs.Ytjecakkdongcoaa.Gd (canG pasteG pasteG_length)
open Go.Proofs.Ytjecakkdongcoaa.Fm (Ow)
set_option linter.unusedVariables false
set_option linter.unusedSimpArgs false
set_option maxRecDepth 100000

/-- a block of two numbers -/
def B2 (w : World) (g : Nat) (l0 l1 : Int) : Prop := w.heap[g]? = some (.cells #[.int .i64 l0, .int .i64 l1] 57 (0, 0))
theorem B2.go {w w' : World} {g : Nat} {l0 l1 : Int} (h : B2 w g l0 l1) (hb : Below w.heap.size w w') : B2 w' g l0 l1 := (hb.block g (blk_lt h)).trans h
theorem B2.cells {w : World} {g : Nat} {l0 l1 : Int} (h : B2 w g l0 l1) : w.cell? ⟨g, 0, none⟩ = some (.int .i64 l0) ∧ w.cell? ⟨g, 1, none⟩ = some (.int .i64 l1) :=
  ⟨blk_cell (vs := [.int .i64 l0, .int .i64 l1]) h (i := 0) (by simp), blk_cell (vs := [.int .i64 l0, .int .i64 l1]) h (i := 1) (by simp)⟩
theorem boxT (w : World) (l0 l1 : Int) : ∃ w1, w1 = w.alloc (.cells #[.int .i64 l0, .int .i64 l1] 57) ∧ Hid (Below w.heap.size w w1) ∧ Hid (B2 w1 w.heap.size l0 l1) ∧ w1.heap.size = w.heap.size + 1 :=
  ⟨_, rfl, Lib.hid ((Below.refl _ _).alloc (Nat.le_refl _) _), Lib.hid Array.getElem?_push_size, by simp⟩
/-- what the law holds -/
structure PwS (w : World) (g g' : Nat) (W1 H1 : Int) (q1 q2 : Option Addr) (n c1 c2 : Nat) (zs : List Int) (W2 H2 : Int) (q3 q4 : Option Addr) (m c3 c4 : Nat) (ys : List Int) (l0 l1 : Int) (wr : World) : Prop where
  bel : Below w.heap.size w wr
  b5 : B2 wr (w.heap.size + 2) l0 l1
  b7 : Bx 26 wr g (.int .i64 W1) (.int .i64 H1) (.slice q1 n c1)
  b8 : Bx 28 wr (g + 1) (.int .i64 W1) (.int .i64 H1) (.slice q2 n c2)
  b10 : Bx 26 wr g' (.int .i64 W2) (.int .i64 H2) (.slice q3 m c3)
  b11 : Bx 28 wr (g' + 1) (.int .i64 W2) (.int .i64 H2) (.slice q4 m c4)
  v1 : VRow wr wr.heap.size q1 (ints zs)
  v2 : VRow wr wr.heap.size q2 (ints zs)
  v3 : VRow wr wr.heap.size q3 (ints ys)
  v4 : VRow wr wr.heap.size q4 (ints ys)
theorem vrow_up {w w' : World} {q : Option Addr} {vs : List Value} (h : VRow w w.heap.size q vs) (hb : Below w.heap.size w w') : VRow w' w'.heap.size q vs := (h.below hb (Nat.le_refl _)).mono hb.size
theorem PwS.go {w : World} {g g' : Nat} {W1 H1 : Int} {q1 q2 : Option Addr} {n c1 c2 : Nat} {zs : List Int} {W2 H2 : Int} {q3 q4 : Option Addr} {m c3 c4 : Nat} {ys : List Int} {l0 l1 : Int} {wr wr' : World}
    (h : PwS w g g' W1 H1 q1 q2 n c1 c2 zs W2 H2 q3 q4 m c3 c4 ys l0 l1 wr) (hb : Below wr.heap.size wr wr') : PwS w g g' W1 H1 q1 q2 n c1 c2 zs W2 H2 q3 q4 m c3 c4 ys l0 l1 wr' :=
  ⟨h.bel.trans (hb.mono h.bel.size), h.b5.go hb, h.b7.go hb, h.b8.go hb, h.b10.go hb, h.b11.go hb, vrow_up h.v1 hb, vrow_up h.v2 hb, vrow_up h.v3 hb, vrow_up h.v4 hb⟩
theorem paste_two (W H : Int) (q1 q2 : Option Addr) (n c1 c2 : Nat) (zs : List Int) (W2 H2 : Int) (q3 q4 : Option Addr) (m c3 c4 : Nat) (ys : List Int) (x y : Int) (hx : zs.length = n) (hn : n ≤ 5000000) (hy : ys.length = m) (hc : m ≤ c3) : ∃ (er : Int) (Z : List Int), Z.length = n ∧
    (∀ w, VRow w w.heap.size q1 (ints zs) → VRow w w.heap.size q3 (ints ys) → Calls Try.prog 25 #[.agg #[.int .i64 W, .int .i64 H, .slice q1 n c1], .agg #[.int .i64 W2, .int .i64 H2, .slice q3 m c3], .int .i64 x, .int .i64 y] w (GeP w W H n Z er)) ∧
    (∀ w, VRow w w.heap.size q2 (ints zs) → VRow w w.heap.size q4 (ints ys) → Calls Try.prog 26 #[.agg #[.int .i64 W, .int .i64 H, .slice q2 n c2], .agg #[.int .i64 W2, .int .i64 H2, .slice q4 m c4], .int .i64 x, .int .i64 y] w (RPaP w W H n Z er)) :=
  ⟨_, _, by split <;> simp [pasteG_length, hx], fun w h1 h2 => paste_any W H q1 n c1 zs W2 H2 q3 m c3 ys x y w h1 hx hn h2 hy hc, fun w h1 h2 => rpaste_any W H q2 n c2 zs W2 H2 q4 m c4 ys x y w h1 hx h2 hy⟩
set_option maxHeartbeats 4000000 in
theorem pastes_walk (W H : Int) (p : Option Addr) (n0 c0 : Nat) (f : Bool) (W' H' : Int) (p' : Option Addr) (n0' c0' : Nat) (f' : Bool) (l0 l1 : Int) (w : World) (hs : IsSome_ w p n0 c0) (hs' : IsSome_ w p' n0' c0') :
    Calls Try.prog 5 #[.agg #[.int .i64 W, .int .i64 H, .slice p n0 c0, .bool f], .agg #[.int .i64 W', .int .i64 H', .slice p' n0' c0', .bool f'], .agg #[.int .i64 l0, .int .i64 l1]] w (BolP w true) := by
  obtain ⟨w1, hw1, HB1, HX1, hz1⟩ := box4 24 w (.int .i64 W) (.int .i64 H) (.slice p n0 c0) (.bool f)
  obtain ⟨w2, hw2, HB2, HX2, hz2⟩ := box4 24 w1 (.int .i64 W') (.int .i64 H') (.slice p' n0' c0') (.bool f')
  obtain ⟨w3, hw3, HB3, HX3, hz3⟩ := boxT w2 l0 l1
  rw [hz1] at HX2
  rw [hz2, hz1] at HX3
  rw [hw2, hw1] at hw3
  have HT3 : Hid (B2 w3 (w.heap.size + 2) l0 l1) := HX3
  have HBE := Lib.hid (HB1.out.trans ((HB2.out.trans (HB3.out.mono HB2.out.size)).mono HB1.out.size))
  have HOF := Lib.hid (of_any W H p n0 c0 f w3 (hs.go HBE.out))
  have HSO := Lib.hid (hs'.go HBE.out)
  have HX23 := Lib.hid (HX2.out.go HB3.out)
  have HW3 := Lib.hid hw3
  clear hw1 hw2 hw3 hz1 hz2 hz3 HB1 HX1 HB2 HX2 HB3 HX3 hs hs'
  go_enter Try.func5, Try.ntmps5
  go_wp2_with fail
  rw [← HW3.out]
  refine HOF.out.mono ?_
  rintro e w4 ⟨hb4, W1, H1, n, zs, q1, q2, c1, c2, ok, rfl, hx, hv1, hv2, hc1, hc2, hq1, hq2, hok⟩
  obtain ⟨w5, hw5, HB5, HX5, HY5, hz5⟩ := box2 26 28 w4 (.int .i64 W1) (.int .i64 H1) (.slice q1 n c1) (.int .i64 W1) (.int .i64 H1) (.slice q2 n c2)
  have hb45 := hb4.trans (HB5.out.mono hb4.size)
  have HB05 := Lib.hid (HBE.out.trans (hb45.mono HBE.out.size))
  have kk := (HX23.out.go hb45).cells
  rw [hw5] at kk
  obtain ⟨r0, r1, r2, r3⟩ := kk
  have HT5 := Lib.hid (HT3.out.go hb45)
  have HV1 := Lib.hid (vrow_up hv1 HB5.out)
  have HV2 := Lib.hid (vrow_up hv2 HB5.out)
  have HOF2 := Lib.hid (of_any W' H' p' n0' c0' f' w5 (HSO.out.go hb45))
  have HX := Lib.hid hx
  have HOK := Lib.hid hok
  have HW5 := Lib.hid hw5
  clear hb4 hx hv1 hv2 hc1 hc2 hq1 hq2 hok hw5 hz5 HB5 hb45 HOF HSO HX23 HW3 HBE HT3
  go_wp2_with fail
  rw [← HW5.out]
  refine HOF2.out.mono ?_
  rintro e w6 ⟨hb6, W2, H2, m, ys, q3, q4, c3, c4, is, rfl, hy, hv3, hv4, hc3, hc4, hq3, hq4, his⟩
  obtain ⟨w7, hw7, HB7, HX7, HY7, hz7⟩ := box2 26 28 w6 (.int .i64 W2) (.int .i64 H2) (.slice q3 m c3) (.int .i64 W2) (.int .i64 H2) (.slice q4 m c4)
  have hb57 := hb6.trans (HB7.out.mono hb6.size)
  have HS7 : Hid (PwS w w4.heap.size w6.heap.size W1 H1 q1 q2 n c1 c2 zs W2 H2 q3 q4 m c3 c4 ys l0 l1 w7) := Lib.hid
    ⟨HB05.out.trans (hb57.mono HB05.out.size), HT5.out.go hb57, HX5.out.go hb57, HY5.out.go hb57, HX7.out, HY7.out, vrow_up HV1.out hb57, vrow_up HV2.out hb57, vrow_up hv3 HB7.out, vrow_up hv4 HB7.out⟩
  have HY := Lib.hid hy
  have HC3 := Lib.hid hc3
  have HIS := Lib.hid his
  have HW7 := Lib.hid hw7
  clear hb6 hy hv3 hv4 hc3 hc4 hq3 hq4 his hw7 hz7 HB7 hb57 HX7 HY7 HOF2 HV1 HV2 HX5 HY5 HT5 HB05 HW5 r0 r1 r2 r3
  go_wp2_with fail
  rw [← HW7.out]
  refine (lives_any _).mono ?_
  rintro e w8 ⟨rfl, hb8⟩
  have HS8 := Lib.hid (HS7.out.go hb8)
  clear hb8 HS7 HW7
  cases ok
  · go_wp2_with fail
    refine (lives_any _).mono ?_
    rintro e w9 ⟨rfl, hb9⟩
    have HB9 := Lib.hid (HS8.out.bel.trans (hb9.mono HS8.out.bel.size))
    clear hb9
    go_wp2_with fail
    go_ret
    exact ⟨rfl, HB9.out⟩
  cases is
  · go_wp2_with fail
    refine (lives_any _).mono ?_
    rintro e w9 ⟨rfl, hb9⟩
    have HB9 := Lib.hid (HS8.out.bel.trans (hb9.mono HS8.out.bel.size))
    clear hb9
    go_wp2_with fail
    go_ret
    exact ⟨rfl, HB9.out⟩
  have hn36 := HOK.out rfl
  have hm36 := HIS.out rfl
  obtain ⟨er, Z, hZ, HC1, HC2⟩ := paste_two W1 H1 q1 q2 n c1 c2 zs W2 H2 q3 q4 m c3 c4 ys l0 l1 HX.out (by omega) HY.out HC3.out
  have HC1 := Lib.hid HC1
  have HC2 := Lib.hid HC2
  have HZ := Lib.hid hZ
  have qe : (er == er) = true := by simp
  obtain ⟨k0, k1, k2⟩ := HS8.out.b7.cells
  obtain ⟨m0, m1, m2⟩ := HS8.out.b10.cells
  obtain ⟨t0, t1⟩ := HS8.out.b5.cells
  clear hZ HOK HIS
  go_wp2_with fail
  refine (HC1.out _ HS8.out.v1 HS8.out.v3).mono ?_
  rintro e w9 ⟨G, rfl, ho⟩
  obtain ⟨w10, hw10, HB10, HX10, hz10⟩ := box1 26 w9 (.int .i64 W1) (.int .i64 H1) (.slice (some ⟨G, 0, none⟩) n n)
  have hb810 := ho.1.trans (HB10.out.mono ho.1.size)
  have HS10 := Lib.hid (HS8.out.go hb810)
  have kk := HS10.out.b8.cells
  have ll := HS10.out.b11.cells
  have tt := HS10.out.b5.cells
  rw [hw10] at kk ll tt
  obtain ⟨x0, x1, x2⟩ := kk
  obtain ⟨y0, y1, y2⟩ := ll
  obtain ⟨u0, u1⟩ := tt
  have HVZ := Lib.hid (vrow_up ho.row HB10.out)
  have HW10 := Lib.hid hw10
  clear ho hw10 hz10 hb810 HB10 HS8 k0 k1 k2 m0 m1 m2 t0 t1
  go_wp2_with fail
  rw [← HW10.out]
  refine (HC2.out _ HS10.out.v2 HS10.out.v4).mono ?_
  rintro e w11 ⟨hb11, q', c', rfl, hv'⟩
  obtain ⟨w12, hw12, HB12, HX12, hz12⟩ := box1 28 w11 (.int .i64 W1) (.int .i64 H1) (.slice q' n c')
  have hb1012 := hb11.trans (HB12.out.mono hb11.size)
  have HS12 := Lib.hid (HS10.out.go hb1012)
  have kk := (HX10.out.go hb1012).cells
  rw [hw12] at kk
  obtain ⟨k0, k1, k2⟩ := kk
  have HLK := Lib.hid (like_yes W1 H1 (some ⟨G, 0, none⟩) q' n n c' Z w12 (vrow_up HVZ.out hb1012) (vrow_up hv' HB12.out) HZ.out (by omega))
  have HW12 := Lib.hid hw12
  clear hb11 hv' hw12 hz12 hb1012 HB12 HX12 HS10 HX10 HVZ HW10 x0 x1 x2 y0 y1 y2 u0 u1
  go_wp2_with fail
  rw [← HW12.out]
  refine HLK.out.mono ?_
  rintro e w13 ⟨rfl, hb13⟩
  have HS13 := Lib.hid (HS12.out.go hb13)
  obtain ⟨x0, x1, x2⟩ := HS13.out.b7.cells
  obtain ⟨y0, y1, y2⟩ := HS13.out.b8.cells
  clear hb13 HS12 HLK HW12 k0 k1 k2
  go_wp2_with fail
  refine (like_yes W1 H1 q1 q2 n c1 c2 zs _ HS13.out.v1 HS13.out.v2 HX.out (by omega)).mono ?_
  rintro e w14 ⟨rfl, hb14⟩
  have HS14 := Lib.hid (HS13.out.go hb14)
  obtain ⟨k0, k1, k2⟩ := HS14.out.b10.cells
  obtain ⟨m0, m1, m2⟩ := HS14.out.b11.cells
  clear hb14 HS13 x0 x1 x2 y0 y1 y2
  go_wp2_with fail
  refine (like_yes W2 H2 q3 q4 m c3 c4 ys _ HS14.out.v3 HS14.out.v4 HY.out (by omega)).mono ?_
  rintro e w15 ⟨rfl, hb15⟩
  have HBF := Lib.hid (HS14.out.bel.trans (hb15.mono HS14.out.bel.size))
  clear hb15 HS14 k0 k1 k2 m0 m1 m2
  go_wp2_with fail
  go_ret
  exact ⟨rfl, HBF.out⟩
end Go.Proofs.Ytjecakkdongcoaa.Gr

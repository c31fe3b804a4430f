
/- The walk of GridTwice. -/
import Derived.Test.YtjecakkdongcoaaGrP
namespace Go.Proofs.Ytjecakkdongcoaa.Gr
open Go.RowKit Go.Proofs.Ytjecakkdongcoaa.Oct
open Go.Proofs.Ytjecakkdongcoaa.Lp (VRow Only ints ints_length ints_append ints_one vrow_blk vrow_own blk_set blk_far blk_frozen)
open Go.Proofs.Ytjecakkdongcoaa.Gd (canG cutG cutG_length cut_cut)
open Go.Proofs.Ytjecakkdongcoaa.Fm (Ow)
set_option linter.unusedVariables false
set_option linter.unusedSimpArgs false
set_option maxRecDepth 100000

/-- what stays in memory through the law -/
structure TwS (w0 : World) (g9 : Nat) (ra rb rc rd sa sb sc sd : Nat) (W H G n : Nat) (zs : List Int) (wr : World) : Prop where
  bel : Below w0.heap.size w0 wr
  b4 : Bx4 69 wr (w0.heap.size + 1) (.int .u8 (ra : Int)) (.int .u8 (rb : Int)) (.int .u8 (rc : Int)) (.int .u8 (rd : Int))
  b5 : Bx4 69 wr (w0.heap.size + 2) (.int .u8 (sa : Int)) (.int .u8 (sb : Int)) (.int .u8 (sc : Int)) (.int .u8 (sd : Int))
  b9 : Bx 26 wr g9 (.int .i64 (W : Int)) (.int .i64 (H : Int)) (.slice (some ⟨G, 0, none⟩) n n)
  vr : VRow wr g9 (some ⟨G, 0, none⟩) (ints zs)
  ne : w0.heap.size + 3 ≤ g9
theorem TwS.go {w0 : World} {g9 ra rb rc rd sa sb sc sd W H G n : Nat} {zs : List Int} {wr wr' : World} (h : TwS w0 g9 ra rb rc rd sa sb sc sd W H G n zs wr) (hb : Below wr.heap.size wr wr') : TwS w0 g9 ra rb rc rd sa sb sc sd W H G n zs wr' :=
  ⟨h.bel.trans (hb.mono h.bel.size), h.b4.go hb, h.b5.go hb, h.b9.go hb, h.vr.below (hb.mono (Nat.le_of_lt h.b9.lt)) (Nat.le_refl _), h.ne⟩
theorem vrow_one' {w : World} {C : Nat} {q : Option Addr} {vs : List Value} {g i : Nat} (h : VRow w C q vs) (hg : C < g) (v : Value) : VRow (w.setCell ⟨g, i, none⟩ v) C q vs := by
  intro hp
  obtain ⟨b, off, e, hb, hc⟩ := h hp
  refine ⟨b, off, e, hb, fun j hj => ?_⟩
  rw [World.cell?_setCell_other _ _ _ _ (by intro h; injection h with h1; omega)]
  exact hc j hj
theorem TwS.set {w0 : World} {g9 ra rb rc rd sa sb sc sd W H G n : Nat} {zs : List Int} {wr : World} (h : TwS w0 g9 ra rb rc rd sa sb sc sd W H G n zs wr) {k : Nat} (hk : g9 < k) (i : Nat) (v : Value) : TwS w0 g9 ra rb rc rd sa sb sc sd W H G n zs (wr.setCell ⟨k, i, none⟩ v) :=
  ⟨h.bel.setCell (by show _ ≤ k; have := h.ne; omega) v, blk_far h.b4 (by have := h.ne; omega) i v, blk_far h.b5 (by have := h.ne; omega) i v, h.b9.far (by omega) v, vrow_one' h.vr hk v, h.ne⟩
theorem bx4_set {T : TypeId} {W : World} {g : Nat} {a b c d : Value} (h : Bx4 T W g a b c d) (v u : Value) : Bx4 T (W.setCell ⟨g, 2, none⟩ v) g a b v d ∧ Bx4 T ((W.setCell ⟨g, 2, none⟩ v).setCell ⟨g, 3, none⟩ u) g a b v u := by
  have h1 := blk_set h 2 v
  exact ⟨h1, blk_set h1 3 u⟩
theorem bx4_fz {T : TypeId} {W : World} {g : Nat} {a b c d : Value} (h : Bx4 T W g a b c d) (i : Nat) : W.frozen? ⟨g, i, none⟩ = false := blk_frozen h i
/-- what a rest is, as it is reckoned -/
theorem rest_is (r m k : Nat) (hm : 0 < m) (hr : r ≤ 255) (hk : r % m = k) : Hid ((IntKind.i64.wrap (r : Int) = (r : Int)) ∧ (r : Int).tmod (m : Int) = (k : Int) ∧ IntKind.i64.wrap (k : Int) = (k : Int)) := Lib.hid (by
  have h1 : k ≤ r := by rw [← hk]; exact Nat.mod_le _ _
  refine ⟨?_, ?_, ?_⟩
  · rw [IntKind.wrap_i64]; omega
  · rw [show ((r : Int).tmod (m : Int)) = ((r % m : Nat) : Int) from Int.ofNat_tmod r m ▸ rfl, hk]
  · rw [IntKind.wrap_i64]; omega)
theorem minus_is (a b c : Nat) (h : b ≤ a) (hc : a - b = c) (ha : a ≤ 1000) : Hid ((a : Int) - (b : Int) = (c : Int) ∧ IntKind.i64.wrap (c : Int) = (c : Int)) := Lib.hid ⟨by omega, by rw [IntKind.wrap_i64]; omega⟩
theorem one_is (k c : Nat) (hc : 1 + k = c) (hk : k ≤ 1000) : Hid ((1 : Int) + (k : Int) = (c : Int) ∧ IntKind.i64.wrap (c : Int) = (c : Int)) := Lib.hid ⟨by omega, by rw [IntKind.wrap_i64]; omega⟩
theorem can_nat {a b : Nat} (ha : a ≤ 10) (hb : b ≤ 10) : canG (a : Int) (b : Int) = true := by
  have h1 : a * b ≤ 10 * 10 := Nat.mul_le_mul ha hb
  unfold canG
  rw [show (a : Int) * (b : Int) = ((a * b : Nat) : Int) from by push_cast; rfl]
  exact decide_eq_true ⟨by omega, by omega, by omega, by omega, by omega⟩
theorem has_yes {a b n i j : Nat} (hn : n = a * b) (ha : a ≤ 10) (hb : b ≤ 10) (hi : i < a) (hj : j < b) : hasI (a : Int) (b : Int) n (i : Int) (j : Int) = true := by
  unfold hasI rightI
  rw [can_nat ha hb, decide_eq_true (by rw [hn]; push_cast; rfl), decide_eq_true ⟨by omega, by omega, by omega, by omega⟩]
  rfl
theorem cut_yes {a b n i j c d : Nat} (hn : n = a * b) (ha : a ≤ 10) (hb : b ≤ 10) (hi : i < a) (hj : j < b) (hc : c ≤ 10) (hd : d ≤ 10) (p : Option Addr) (cap : Nat) (zs : List Int) (w : World) (hr : VRow w w.heap.size p (ints zs)) (hx : zs.length = n) (hcap : n ≤ cap) :
    Calls Try.prog 23 #[.agg #[.int .i64 (a : Int), .int .i64 (b : Int), .slice p n cap], .agg #[.int .i64 (i : Int), .int .i64 (j : Int), .int .i64 (c : Int), .int .i64 (d : Int)]] w (GeP w (c : Int) (d : Int) (c * d) (cutG a b zs 0 i j c d) 0) := by
  refine (cut_any (a : Int) (b : Int) p n cap zs (i : Int) (j : Int) (c : Int) (d : Int) w hr hx hcap (by omega) (by omega)).mono ?_
  rintro e wr (⟨_, h⟩ | ⟨h, _⟩)
  · rw [show ((c : Int) * (d : Int)).toNat = c * d from by rw [← Int.natCast_mul]; rfl] at h
    exact h
  · rw [has_yes hn ha hb hi hj, can_nat hc hd] at h
    cases h
set_option maxHeartbeats 8000000 in
theorem twice_walk (l0 l1 : Int) (ra rb rc rd sa sb sc sd : Nat) (w : World) (hra : ra ≤ 255) (hrb : rb ≤ 255) (hrc : rc ≤ 255) (hrd : rd ≤ 255) (hsa : sa ≤ 255) (hsb : sb ≤ 255) (hsc : sc ≤ 255) (hsd : sd ≤ 255) :
    Calls Try.prog 8 #[.agg #[.int .i64 l0, .int .i64 l1], .agg #[.int .u8 (ra : Int), .int .u8 (rb : Int), .int .u8 (rc : Int), .int .u8 (rd : Int)], .agg #[.int .u8 (sa : Int), .int .u8 (sb : Int), .int .u8 (sc : Int), .int .u8 (sd : Int)]] w (BolP w true) := by
  obtain ⟨w0, hw0⟩ : ∃ w0, w0 = w.alloc (.cells #[.int .i64 l0, .int .i64 l1] 57) := ⟨_, rfl⟩
  have hb0 : Below w.heap.size w w0 := by rw [hw0]; exact (Below.refl _ _).alloc (Nat.le_refl _) _
  have hz0 : w0.heap.size = w.heap.size + 1 := by rw [hw0]; simp
  have hg0 : w0.heap[w.heap.size]? = some (.cells #[.int .i64 l0, .int .i64 l1] 57 (0, 0)) := by rw [hw0]; exact Array.getElem?_push_size
  obtain ⟨w1, hw1, HB1, HX1, hz1⟩ := box4 69 w0 (.int .u8 (ra : Int)) (.int .u8 (rb : Int)) (.int .u8 (rc : Int)) (.int .u8 (rd : Int))
  obtain ⟨w2, hw2, HB2, HX2, hz2⟩ := box4 69 w1 (.int .u8 (sa : Int)) (.int .u8 (sb : Int)) (.int .u8 (sc : Int)) (.int .u8 (sd : Int))
  rw [hz0] at HX1
  rw [hz1, hz0] at HX2
  rw [hw1, hw0] at hw2
  have HW2 := Lib.hid hw2
  have hd2 := (show Drawn w2 w2.drew from ⟨1, rfl⟩).below w2.heap.size
  have hb02 : Below w0.heap.size w0 w2 := HB1.out.trans (HB2.out.mono HB1.out.size)
  have hb2 : Below w.heap.size w w2 := hb0.trans (hb02.mono hb0.size)
  have hg2 : w2.drew.heap[w.heap.size]? = some (.cells #[.int .i64 l0, .int .i64 l1] 57 (0, 0)) := (hb02.block _ (by omega)).trans hg0
  have c0 := blk_cell (W := w2.drew) (vs := [.int .i64 l0, .int .i64 l1]) hg2 (i := 0) (by simp)
  have c1 := blk_cell (W := w2.drew) (vs := [.int .i64 l0, .int .i64 l1]) hg2 (i := 1) (by simp)
  have HX4 : Hid (Bx4 69 w2 (w.heap.size + 1) (.int .u8 (ra : Int)) (.int .u8 (rb : Int)) (.int .u8 (rc : Int)) (.int .u8 (rd : Int))) := Lib.hid (HX1.out.go HB2.out)
  have HB := Lib.hid hb2
  have HZ : Hid (w2.heap.size = w.heap.size + 3) := Lib.hid (by omega)
  clear hw0 hb0 hz0 hg0 hw1 hw2 hz1 hz2 HB1 HB2 HX1 hd2 hb02 hb2 hg2
  go_enter Try.func8, Try.ntmps8
  go_wp2_with fail
  rw [← HW2.out]
  refine wp_region_held_drew (S := fun V => V.cell? ⟨w.heap.size, 0, none⟩ = some (.int .i64 l0) ∧ V.cell? ⟨w.heap.size, 1, none⟩ = some (.int .i64 l1)) (by kernel_rfl) ⟨c0, c1⟩ (fun hHeld => ?_)
  refine jt 0 ?_
  refine jt 1 ?_
  refine jt 2 ?_
  refine jt 3 ?_
  refine jt 4 ?_
  refine jt 5 ?_
  refine wpAnyH_done (by kernel_rfl) ?_ _
  have hd2 := (show Drawn w2 w2.drew from ⟨1, rfl⟩).below w2.heap.size
  have HX5 := Lib.hid (HX4.out.go hd2)
  have HX6 := Lib.hid (HX2.out.go hd2)
  have HB3 := Lib.hid (HB.out.trans (hd2.mono HB.out.size))
  clear hHeld c0 c1 HX4 HX2 hd2 HB
  go_wp2_with fail
  refine (lives_any _).mono ?_
  rintro e w3 ⟨rfl, hb3⟩
  have HX7 := Lib.hid (HX5.out.go hb3)
  have HX8 := Lib.hid (HX6.out.go hb3)
  have HB4 := Lib.hid (HB3.out.trans (hb3.mono HB3.out.size))
  have HZ3 : Hid (w.heap.size + 3 ≤ w3.heap.size) := Lib.hid (by have := hb3.size; have h := HZ.out; rw [← h]; exact this)
  clear hb3 HX5 HX6 HB3 HW2
  go_wp2_with fail
  obtain ⟨W, eW, hW1, hW2⟩ := spot9 2 l0 (by omega) (by omega)
  rw [eW]
  clear eW
  obtain ⟨H, eH, hH1, hH2⟩ := spot9 2 l1 (by omega) (by omega)
  rw [eH]
  clear eH
  have hnn : W * H ≤ 10 * 10 := Nat.mul_le_mul (by omega) (by omega)
  refine (sq_any W H w3 (by omega) (by omega) (by omega) (by omega)).mono ?_
  rintro e w4 ⟨G, rfl, ho⟩
  obtain ⟨n, hn⟩ : ∃ n, n = W * H := ⟨_, rfl⟩
  have HLN : Hid ((sqN W H n).length = n) := Lib.hid (by rw [sqN_length, hn])
  rw [← hn] at ho hnn ⊢
  have HNN := Lib.hid hn
  generalize sqN W H n = zs at *
  obtain ⟨w5, hw5, HB5, HX9, hz5⟩ := box1 26 w4 (.int .i64 (W : Int)) (.int .i64 (H : Int)) (.slice (some ⟨G, 0, none⟩) n n)
  have hb35 := ho.1.trans (HB5.out.mono ho.1.size)
  have HS5 : Hid (TwS w w4.heap.size ra rb rc rd sa sb sc sd W H G n zs w5) := Lib.hid ⟨HB4.out.trans (hb35.mono HB4.out.size), HX7.out.go hb35, HX8.out.go hb35, HX9.out, ho.row.below HB5.out (Nat.le_refl _), by have := HZ3.out; have := ho.1.size; omega⟩
  have HW5 := Lib.hid hw5
  have HZ5 : Hid (w4.heap.size < w5.heap.size) := Lib.hid (by omega)
  clear ho hb35 hw5 hz5 HX7 HX8 HB4 HX9 HB5 hn
  go_wp2_with fail
  rw [← HW5.out]
  obtain ⟨ax, hax⟩ : ∃ ax, ra % W = ax := ⟨_, rfl⟩
  obtain ⟨ay, hay⟩ : ∃ ay, rb % H = ay := ⟨_, rfl⟩
  have hltax : ax < W := by rw [← hax]; exact Nat.mod_lt _ (by omega)
  have hltay : ay < H := by rw [← hay]; exact Nat.mod_lt _ (by omega)
  have Rax := rest_is ra W ax (by omega) hra hax
  have Ray := rest_is rb H ay (by omega) hrb hay
  have Nax : Hid (¬ (W : Int) = 0 ∧ W ≠ 0) := Lib.hid ⟨by omega, by omega⟩
  have Nay : Hid (¬ (H : Int) = 0 ∧ H ≠ 0) := Lib.hid ⟨by omega, by omega⟩
  have HS5d := Lib.hid (HS5.out.go ((show Drawn w5 w5.drew from ⟨1, rfl⟩).below _))
  have hbx : Below w5.drew.heap.size w5.drew (w5.drew.alloc (.cells #[.int .i64 0, .int .i64 0, .int .i64 0, .int .i64 0] 52)) := (Below.refl _ _).alloc (Nat.le_refl _) _
  obtain ⟨a1, a2, a3⟩ := Rax.out
  obtain ⟨a4, a5, a6⟩ := Ray.out
  obtain ⟨a7, a8⟩ := Nax.out
  obtain ⟨a9, a10⟩ := Nay.out
  refine wp_region_held_drew (S := fun V => (V.cell? ⟨w.heap.size + 1, 0, none⟩ = some (.int .u8 (ra : Int)) ∧ V.cell? ⟨w.heap.size + 1, 1, none⟩ = some (.int .u8 (rb : Int))) ∧ V.cell? ⟨w4.heap.size, 0, none⟩ = some (.int .i64 (W : Int)) ∧ V.cell? ⟨w4.heap.size, 1, none⟩ = some (.int .i64 (H : Int))) (by kernel_rfl) (⟨⟨HS5d.out.b4.cells.1, HS5d.out.b4.cells.2.1⟩, HS5d.out.b9.cells.1, HS5d.out.b9.cells.2.1⟩) (fun hHeld => ?_)
  refine jt 0 ?_
  refine jt 1 ?_
  refine jt 2 ?_
  refine jt 3 ?_
  refine jt 4 ?_
  refine jt 5 ?_
  refine jt 6 ?_
  refine jt 7 ?_
  refine jt 8 ?_
  refine jt 9 ?_
  refine jt 10 ?_
  refine jt 11 ?_
  refine jt 12 ?_
  clear a1 a2 a3 a4 a5 a6 a7 a8 a9 a10
  refine js 13 (fun K hK => ?_)
  go_simp
  refine hK.out _ _ (⟨⟨(HS5d.out.go hbx).b4.cells.1, (HS5d.out.go hbx).b4.cells.2.1⟩, (HS5d.out.go hbx).b9.cells.1, (HS5d.out.go hbx).b9.cells.2.1⟩) (fun hH1 => ?_)
  clear hK K
  try simp only [Act.put, jA, jB, jC, jD, jE, jF]
  refine js 14 (fun K hK => ?_)
  go_simp
  have hby : Below w5.drew.heap.size w5.drew (w5.alloc (.cells #[.int .i64 (ax : Int), .int .i64 (ay : Int), .int .i64 0, .int .i64 0] 52)).drew := (show Below w5.drew.heap.size w5.drew (w5.drew.alloc (.cells #[.int .i64 (ax : Int), .int .i64 (ay : Int), .int .i64 0, .int .i64 0] 52)) from (Below.refl _ _).alloc (Nat.le_refl _) _)
  refine hK.out _ _ (⟨⟨(HS5d.out.go hby).b4.cells.1, (HS5d.out.go hby).b4.cells.2.1⟩, (HS5d.out.go hby).b9.cells.1, (HS5d.out.go hby).b9.cells.2.1⟩) (fun hH2 => ?_)
  clear hK K
  try simp only [Act.put, jA, jB, jC, jD, jE, jF]
  refine wpAnyH_done (by kernel_rfl) ?_ _
  have HS6 : Hid (TwS w w4.heap.size ra rb rc rd sa sb sc sd W H G n zs (w5.alloc (.cells #[.int .i64 (ax : Int), .int .i64 (ay : Int), .int .i64 0, .int .i64 0] 52)).drew) := Lib.hid (HS5d.out.go hby)
  have HR6 : Hid (Bx4 52 (w5.alloc (.cells #[.int .i64 (ax : Int), .int .i64 (ay : Int), .int .i64 0, .int .i64 0] 52)).drew w5.heap.size (.int .i64 (ax : Int)) (.int .i64 (ay : Int)) (.int .i64 0) (.int .i64 0)) := Lib.hid (show (w5.heap.push _)[w5.heap.size]? = _ from Array.getElem?_push_size)
  generalize (w5.alloc (.cells #[.int .i64 (ax : Int), .int .i64 (ay : Int), .int .i64 0, .int .i64 0] 52)).drew = w6 at *
  clear hHeld hH1 hH2 hbx hby
  go_wp2_with fail
  obtain ⟨uax, huax⟩ : ∃ u, W - ax = u := ⟨_, rfl⟩
  obtain ⟨uay, huay⟩ : ∃ u, H - ay = u := ⟨_, rfl⟩
  obtain ⟨vax, hvax⟩ : ∃ v, rc % uax = v := ⟨_, rfl⟩
  obtain ⟨vay, hvay⟩ : ∃ v, rd % uay = v := ⟨_, rfl⟩
  have hpax : 0 < uax := by omega
  have hpay : 0 < uay := by omega
  have hlax : vax < uax := by rw [← hvax]; exact Nat.mod_lt _ hpax
  have hlay : vay < uay := by rw [← hvay]; exact Nat.mod_lt _ hpay
  obtain ⟨sax, hsax⟩ : ∃ s, 1 + vax = s := ⟨_, rfl⟩
  obtain ⟨say, hsay⟩ : ∃ s, 1 + vay = s := ⟨_, rfl⟩
  have Dax := minus_is W ax uax (by omega) huax (by omega)
  have Day := minus_is H ay uay (by omega) huay (by omega)
  have Rax := rest_is rc uax vax hpax hrc hvax
  have Ray := rest_is rd uay vay hpay hrd hvay
  have Oax := one_is vax sax hsax (by omega)
  have Oay := one_is vay say hsay (by omega)
  have Nax : Hid (¬ (uax : Int) = 0 ∧ uax ≠ 0) := Lib.hid ⟨by omega, by omega⟩
  have Nay : Hid (¬ (uay : Int) = 0 ∧ uay ≠ 0) := Lib.hid ⟨by omega, by omega⟩
  have HS6d := Lib.hid (HS6.out.go ((show Drawn w6 w6.drew from ⟨1, rfl⟩).below _))
  have HR6d := Lib.hid (HR6.out.go ((show Drawn w6 w6.drew from ⟨1, rfl⟩).below _))
  obtain ⟨a1, a2, a3⟩ := Rax.out
  obtain ⟨a4, a5, a6⟩ := Ray.out
  obtain ⟨a7, a8⟩ := Nax.out
  obtain ⟨a9, a10⟩ := Nay.out
  obtain ⟨a11, a12⟩ := Dax.out
  obtain ⟨a13, a14⟩ := Day.out
  obtain ⟨a15, a16⟩ := Oax.out
  obtain ⟨a17, a18⟩ := Oay.out
  have hst1 := HS6d.out.set (k := w5.heap.size) HZ5.out 2 (.int .i64 (sax : Int))
  have hst2 := hst1.set (k := w5.heap.size) HZ5.out 3 (.int .i64 (say : Int))
  have hrs := bx4_set HR6d.out (.int .i64 (sax : Int)) (.int .i64 (say : Int))
  have hf1 := bx4_fz HR6d.out 2
  have hf2 := bx4_fz hrs.1 3
  have hc1 := HR6d.out.cells.2.2.1
  have hc2 := hrs.1.cells.2.2.2
  refine wp_region_held_drew (S := fun V => (V.cell? ⟨w.heap.size + 1, 2, none⟩ = some (.int .u8 (rc : Int)) ∧ V.cell? ⟨w.heap.size + 1, 3, none⟩ = some (.int .u8 (rd : Int))) ∧ (V.cell? ⟨w4.heap.size, 0, none⟩ = some (.int .i64 (W : Int)) ∧ V.cell? ⟨w4.heap.size, 1, none⟩ = some (.int .i64 (H : Int))) ∧ V.cell? ⟨w5.heap.size, 0, none⟩ = some (.int .i64 (ax : Int)) ∧ V.cell? ⟨w5.heap.size, 1, none⟩ = some (.int .i64 (ay : Int))) (by kernel_rfl) ⟨HS6d.out.b4.cells.2.2, ⟨HS6d.out.b9.cells.1, HS6d.out.b9.cells.2.1⟩, HR6d.out.cells.1, HR6d.out.cells.2.1⟩ (fun hHeld => ?_)
  refine jt 0 ?_
  refine jt 1 ?_
  refine jt 2 ?_
  refine jt 3 ?_
  refine jt 4 ?_
  refine jt 5 ?_
  refine jt 6 ?_
  refine jt 7 ?_
  refine jt 8 ?_
  refine jt 9 ?_
  refine jt 10 ?_
  refine jt 11 ?_
  refine jt 12 ?_
  refine jt 13 ?_
  refine jt 14 ?_
  refine jt 15 ?_
  refine jt 16 ?_
  refine jt 17 ?_
  refine jt 18 ?_
  refine jt 19 ?_
  refine jt 20 ?_
  clear a1 a2 a3 a4 a5 a6 a7 a8 a9 a10 a11 a12 a13 a14 a15 a16 a17 a18
  refine js 21 (fun K hK => ?_)
  go_simp
  refine hK.out _ _ ⟨hst1.b4.cells.2.2, ⟨hst1.b9.cells.1, hst1.b9.cells.2.1⟩, hrs.1.cells.1, hrs.1.cells.2.1⟩ (fun hH1 => ?_)
  clear hK K
  try simp only [Act.put, jA, jB, jC, jD, jE, jF]
  refine jt 22 ?_
  have hc3 : (w6.setCell ⟨w5.heap.size, 2, none⟩ (.int .i64 (sax : Int))).drew.cell? ⟨w5.heap.size, 3, none⟩ = some (.int .i64 0) := hc2
  have hf3 : (w6.setCell ⟨w5.heap.size, 2, none⟩ (.int .i64 (sax : Int))).drew.frozen? ⟨w5.heap.size, 3, none⟩ = false := hf2
  refine js 23 (fun K hK => ?_)
  go_simp
  refine hK.out _ _ ⟨hst2.b4.cells.2.2, ⟨hst2.b9.cells.1, hst2.b9.cells.2.1⟩, hrs.2.cells.1, hrs.2.cells.2.1⟩ (fun hH2 => ?_)
  clear hK K
  try simp only [Act.put, jA, jB, jC, jD, jE, jF]
  refine wpAnyH_done (by kernel_rfl) ?_ _
  have HS7 : Hid (TwS w w4.heap.size ra rb rc rd sa sb sc sd W H G n zs (((w6.setCell ⟨w5.heap.size, 2, none⟩ (.int .i64 (sax : Int))).setCell ⟨w5.heap.size, 3, none⟩ (.int .i64 (say : Int))).drew)) := Lib.hid hst2
  have HR7 : Hid (Bx4 52 (((w6.setCell ⟨w5.heap.size, 2, none⟩ (.int .i64 (sax : Int))).setCell ⟨w5.heap.size, 3, none⟩ (.int .i64 (say : Int))).drew) w5.heap.size (.int .i64 (ax : Int)) (.int .i64 (ay : Int)) (.int .i64 (sax : Int)) (.int .i64 (say : Int))) := Lib.hid hrs.2
  generalize (((w6.setCell ⟨w5.heap.size, 2, none⟩ (.int .i64 (sax : Int))).setCell ⟨w5.heap.size, 3, none⟩ (.int .i64 (say : Int))).drew) = w7 at HS7 HR7
  clear hHeld hH1 hH2 hst1 hst2 hrs hf1 hf2 hc1 hc2 hc3 hf3 HS6 HR6 HS6d HR6d HS5d HS5
  go_wp2_with fail
  obtain ⟨bx, hbx⟩ : ∃ bx, sa % sax = bx := ⟨_, rfl⟩
  obtain ⟨by', hby'⟩ : ∃ by', sb % say = by' := ⟨_, rfl⟩
  have hltbx : bx < sax := by rw [← hbx]; exact Nat.mod_lt _ (by omega)
  have hltby : by' < say := by rw [← hby']; exact Nat.mod_lt _ (by omega)
  have Rbx := rest_is sa sax bx (by omega) hsa hbx
  have Rby := rest_is sb say by' (by omega) hsb hby'
  have Nbx : Hid (¬ (sax : Int) = 0 ∧ sax ≠ 0) := Lib.hid ⟨by omega, by omega⟩
  have Nby : Hid (¬ (say : Int) = 0 ∧ say ≠ 0) := Lib.hid ⟨by omega, by omega⟩
  have hdr7 := (show Drawn w7 w7.drew from ⟨1, rfl⟩).below w7.heap.size
  have HS7d := Lib.hid (HS7.out.go hdr7)
  have HR7d := Lib.hid (HR7.out.go hdr7)
  have hb1 : Below w7.drew.heap.size w7.drew (w7.drew.alloc (.cells #[.int .i64 0, .int .i64 0, .int .i64 0, .int .i64 0] 52)) := (Below.refl _ _).alloc (Nat.le_refl _) _
  have hb2 : Below w7.drew.heap.size w7.drew (w7.alloc (.cells #[.int .i64 (bx : Int), .int .i64 (by' : Int), .int .i64 0, .int .i64 0] 52)).drew := (show Below w7.drew.heap.size w7.drew (w7.drew.alloc (.cells #[.int .i64 (bx : Int), .int .i64 (by' : Int), .int .i64 0, .int .i64 0] 52)) from (Below.refl _ _).alloc (Nat.le_refl _) _)
  obtain ⟨a1, a2, a3⟩ := Rbx.out
  obtain ⟨a4, a5, a6⟩ := Rby.out
  obtain ⟨a7, a8⟩ := Nbx.out
  obtain ⟨a9, a10⟩ := Nby.out
  refine wp_region_held_drew (S := fun V => (V.cell? ⟨w.heap.size + 2, 0, none⟩ = some (.int .u8 (sa : Int)) ∧ V.cell? ⟨w.heap.size + 2, 1, none⟩ = some (.int .u8 (sb : Int))) ∧ V.cell? ⟨w5.heap.size, 2, none⟩ = some (.int .i64 (sax : Int)) ∧ V.cell? ⟨w5.heap.size, 3, none⟩ = some (.int .i64 (say : Int))) (by kernel_rfl) ⟨⟨HS7d.out.b5.cells.1, HS7d.out.b5.cells.2.1⟩, HR7d.out.cells.2.2⟩ (fun hHeld => ?_)
  refine jt 0 ?_
  refine jt 1 ?_
  refine jt 2 ?_
  refine jt 3 ?_
  refine jt 4 ?_
  refine jt 5 ?_
  refine jt 6 ?_
  refine jt 7 ?_
  refine jt 8 ?_
  refine jt 9 ?_
  refine jt 10 ?_
  refine jt 11 ?_
  refine jt 12 ?_
  clear a1 a2 a3 a4 a5 a6 a7 a8 a9 a10
  refine js 13 (fun K hK => ?_)
  go_simp
  refine hK.out _ _ ⟨⟨(HS7d.out.go hb1).b5.cells.1, (HS7d.out.go hb1).b5.cells.2.1⟩, (HR7d.out.go hb1).cells.2.2⟩ (fun hH1 => ?_)
  clear hK K
  try simp only [Act.put, jA, jB, jC, jD, jE, jF]
  refine js 14 (fun K hK => ?_)
  go_simp
  refine hK.out _ _ ⟨⟨(HS7d.out.go hb2).b5.cells.1, (HS7d.out.go hb2).b5.cells.2.1⟩, (HR7d.out.go hb2).cells.2.2⟩ (fun hH2 => ?_)
  clear hK K
  try simp only [Act.put, jA, jB, jC, jD, jE, jF]
  refine wpAnyH_done (by kernel_rfl) ?_ _
  have HS8 : Hid (TwS w w4.heap.size ra rb rc rd sa sb sc sd W H G n zs (w7.alloc (.cells #[.int .i64 (bx : Int), .int .i64 (by' : Int), .int .i64 0, .int .i64 0] 52)).drew) := Lib.hid (HS7d.out.go hb2)
  have HR8 : Hid (Bx4 52 (w7.alloc (.cells #[.int .i64 (bx : Int), .int .i64 (by' : Int), .int .i64 0, .int .i64 0] 52)).drew w5.heap.size (.int .i64 (ax : Int)) (.int .i64 (ay : Int)) (.int .i64 (sax : Int)) (.int .i64 (say : Int))) := Lib.hid (HR7d.out.go hb2)
  have HQ8 : Hid (Bx4 52 (w7.alloc (.cells #[.int .i64 (bx : Int), .int .i64 (by' : Int), .int .i64 0, .int .i64 0] 52)).drew w7.heap.size (.int .i64 (bx : Int)) (.int .i64 (by' : Int)) (.int .i64 0) (.int .i64 0)) := Lib.hid (show (w7.heap.push _)[w7.heap.size]? = _ from Array.getElem?_push_size)
  have HZ7 : Hid (w5.heap.size < w7.heap.size) := Lib.hid HR7.out.lt
  generalize (w7.alloc (.cells #[.int .i64 (bx : Int), .int .i64 (by' : Int), .int .i64 0, .int .i64 0] 52)).drew = w8 at HS8 HR8 HQ8
  clear hHeld hH1 hH2 hb1 hb2 hdr7 HS7 HR7 HS7d HR7d
  go_wp2_with fail
  obtain ⟨ux, hux⟩ : ∃ u, sax - bx = u := ⟨_, rfl⟩
  obtain ⟨uy, huy⟩ : ∃ u, say - by' = u := ⟨_, rfl⟩
  obtain ⟨vx, hvx⟩ : ∃ v, sc % ux = v := ⟨_, rfl⟩
  obtain ⟨vy, hvy⟩ : ∃ v, sd % uy = v := ⟨_, rfl⟩
  have hpx : 0 < ux := by omega
  have hpy : 0 < uy := by omega
  have hlx : vx < ux := by rw [← hvx]; exact Nat.mod_lt _ hpx
  have hly : vy < uy := by rw [← hvy]; exact Nat.mod_lt _ hpy
  obtain ⟨sbx, hsbx⟩ : ∃ s, 1 + vx = s := ⟨_, rfl⟩
  obtain ⟨sby, hsby⟩ : ∃ s, 1 + vy = s := ⟨_, rfl⟩
  have Dx := minus_is sax bx ux (by omega) hux (by omega)
  have Dy := minus_is say by' uy (by omega) huy (by omega)
  have Rx := rest_is sc ux vx hpx hsc hvx
  have Ry := rest_is sd uy vy hpy hsd hvy
  have Ox := one_is vx sbx hsbx (by omega)
  have Oy := one_is vy sby hsby (by omega)
  have Nx : Hid (¬ (ux : Int) = 0 ∧ ux ≠ 0) := Lib.hid ⟨by omega, by omega⟩
  have Ny : Hid (¬ (uy : Int) = 0 ∧ uy ≠ 0) := Lib.hid ⟨by omega, by omega⟩
  have hdr8 := (show Drawn w8 w8.drew from ⟨1, rfl⟩).below w8.heap.size
  have HS8d := Lib.hid (HS8.out.go hdr8)
  have HR8d := Lib.hid (HR8.out.go hdr8)
  have HQ8d := Lib.hid (HQ8.out.go hdr8)
  have hg47 : w4.heap.size < w7.heap.size := Nat.lt_trans HZ5.out HZ7.out
  have hne57 : w7.heap.size ≠ w5.heap.size := Nat.ne_of_gt HZ7.out
  obtain ⟨a1, a2, a3⟩ := Rx.out
  obtain ⟨a4, a5, a6⟩ := Ry.out
  obtain ⟨a7, a8⟩ := Nx.out
  obtain ⟨a9, a10⟩ := Ny.out
  obtain ⟨a11, a12⟩ := Dx.out
  obtain ⟨a13, a14⟩ := Dy.out
  obtain ⟨a15, a16⟩ := Ox.out
  obtain ⟨a17, a18⟩ := Oy.out
  have hst1 := HS8d.out.set (k := w7.heap.size) hg47 2 (.int .i64 (sbx : Int))
  have hst2 := hst1.set (k := w7.heap.size) hg47 3 (.int .i64 (sby : Int))
  have hrs := bx4_set HQ8d.out (.int .i64 (sbx : Int)) (.int .i64 (sby : Int))
  have hr1 : Bx4 52 (w8.drew.setCell ⟨w7.heap.size, 2, none⟩ (.int .i64 (sbx : Int))) w5.heap.size (.int .i64 (ax : Int)) (.int .i64 (ay : Int)) (.int .i64 (sax : Int)) (.int .i64 (say : Int)) := blk_far HR8d.out hne57 2 _
  have hr2 : Bx4 52 ((w8.drew.setCell ⟨w7.heap.size, 2, none⟩ (.int .i64 (sbx : Int))).setCell ⟨w7.heap.size, 3, none⟩ (.int .i64 (sby : Int))) w5.heap.size (.int .i64 (ax : Int)) (.int .i64 (ay : Int)) (.int .i64 (sax : Int)) (.int .i64 (say : Int)) := blk_far hr1 hne57 3 _
  have hf1 := bx4_fz HQ8d.out 2
  have hf2 := bx4_fz hrs.1 3
  have hc1 := HQ8d.out.cells.2.2.1
  have hc2 := hrs.1.cells.2.2.2
  refine wp_region_held_drew (S := fun V => (V.cell? ⟨w.heap.size + 2, 2, none⟩ = some (.int .u8 (sc : Int)) ∧ V.cell? ⟨w.heap.size + 2, 3, none⟩ = some (.int .u8 (sd : Int))) ∧ (V.cell? ⟨w5.heap.size, 2, none⟩ = some (.int .i64 (sax : Int)) ∧ V.cell? ⟨w5.heap.size, 3, none⟩ = some (.int .i64 (say : Int))) ∧ V.cell? ⟨w7.heap.size, 0, none⟩ = some (.int .i64 (bx : Int)) ∧ V.cell? ⟨w7.heap.size, 1, none⟩ = some (.int .i64 (by' : Int))) (by kernel_rfl) ⟨HS8d.out.b5.cells.2.2, HR8d.out.cells.2.2, HQ8d.out.cells.1, HQ8d.out.cells.2.1⟩ (fun hHeld => ?_)
  refine jt 0 ?_
  refine jt 1 ?_
  refine jt 2 ?_
  refine jt 3 ?_
  refine jt 4 ?_
  refine jt 5 ?_
  refine jt 6 ?_
  refine jt 7 ?_
  refine jt 8 ?_
  refine jt 9 ?_
  refine jt 10 ?_
  refine jt 11 ?_
  refine jt 12 ?_
  refine jt 13 ?_
  refine jt 14 ?_
  refine jt 15 ?_
  refine jt 16 ?_
  refine jt 17 ?_
  refine jt 18 ?_
  refine jt 19 ?_
  refine jt 20 ?_
  clear a1 a2 a3 a4 a5 a6 a7 a8 a9 a10 a11 a12 a13 a14 a15 a16 a17 a18
  refine js 21 (fun K hK => ?_)
  go_simp
  refine hK.out _ _ ⟨hst1.b5.cells.2.2, hr1.cells.2.2, hrs.1.cells.1, hrs.1.cells.2.1⟩ (fun hH1 => ?_)
  clear hK K
  try simp only [Act.put, jA, jB, jC, jD, jE, jF]
  refine jt 22 ?_
  have hc3 : (w8.setCell ⟨w7.heap.size, 2, none⟩ (.int .i64 (sbx : Int))).drew.cell? ⟨w7.heap.size, 3, none⟩ = some (.int .i64 0) := hc2
  have hf3 : (w8.setCell ⟨w7.heap.size, 2, none⟩ (.int .i64 (sbx : Int))).drew.frozen? ⟨w7.heap.size, 3, none⟩ = false := hf2
  refine js 23 (fun K hK => ?_)
  go_simp
  refine hK.out _ _ ⟨hst2.b5.cells.2.2, hr2.cells.2.2, hrs.2.cells.1, hrs.2.cells.2.1⟩ (fun hH2 => ?_)
  clear hK K
  try simp only [Act.put, jA, jB, jC, jD, jE, jF]
  refine wpAnyH_done (by kernel_rfl) ?_ _
  have HS9 : Hid (TwS w w4.heap.size ra rb rc rd sa sb sc sd W H G n zs (((w8.setCell ⟨w7.heap.size, 2, none⟩ (.int .i64 (sbx : Int))).setCell ⟨w7.heap.size, 3, none⟩ (.int .i64 (sby : Int))).drew)) := Lib.hid hst2
  have HR9 : Hid (Bx4 52 (((w8.setCell ⟨w7.heap.size, 2, none⟩ (.int .i64 (sbx : Int))).setCell ⟨w7.heap.size, 3, none⟩ (.int .i64 (sby : Int))).drew) w5.heap.size (.int .i64 (ax : Int)) (.int .i64 (ay : Int)) (.int .i64 (sax : Int)) (.int .i64 (say : Int))) := Lib.hid hr2
  have HQ9 : Hid (Bx4 52 (((w8.setCell ⟨w7.heap.size, 2, none⟩ (.int .i64 (sbx : Int))).setCell ⟨w7.heap.size, 3, none⟩ (.int .i64 (sby : Int))).drew) w7.heap.size (.int .i64 (bx : Int)) (.int .i64 (by' : Int)) (.int .i64 (sbx : Int)) (.int .i64 (sby : Int))) := Lib.hid hrs.2
  generalize (((w8.setCell ⟨w7.heap.size, 2, none⟩ (.int .i64 (sbx : Int))).setCell ⟨w7.heap.size, 3, none⟩ (.int .i64 (sby : Int))).drew) = w9 at HS9 HR9 HQ9
  clear hHeld hH1 hH2 hst1 hst2 hrs hr1 hr2 hf1 hf2 hc1 hc2 hc3 hf3 HS8 HR8 HQ8 HS8d HR8d HQ8d hdr8
  have HC1 := Lib.hid (cut_yes (c := sax) (d := say) HNN.out hW2 hH2 hltax hltay (by omega) (by omega) (some ⟨G, 0, none⟩) n zs w9 (HS9.out.vr.mono (Nat.le_of_lt HS9.out.b9.lt)) HLN.out (Nat.le_refl _))
  obtain ⟨r0, r1, r2, r3⟩ := HR9.out.cells
  obtain ⟨k0, k1, k2⟩ := HS9.out.b9.cells
  go_wp2_with fail
  refine HC1.out.mono ?_
  rintro e wa ⟨G1, rfl, ho1⟩
  obtain ⟨wb, hwb, HBb, HXb, hzb⟩ := box1 26 wa (.int .i64 (sax : Int)) (.int .i64 (say : Int)) (.slice (some ⟨G1, 0, none⟩) (sax * say) (sax * say))
  have hb9b := ho1.1.trans (HBb.out.mono ho1.1.size)
  have HSb := Lib.hid (HS9.out.go hb9b)
  have HRb := Lib.hid (HR9.out.go hb9b)
  have HQb := Lib.hid (HQ9.out.go hb9b)
  have hcut2 := cut_yes (a := sax) (b := say) (n := sax * say) (i := bx) (j := by') (c := sbx) (d := sby) rfl (by omega) (by omega) hltbx hltby (by omega) (by omega) (some ⟨G1, 0, none⟩) (sax * say) (cutG W H zs 0 ax ay sax say) wb (ho1.go HBb.out).row (cutG_length _ _ _ _ _ _ _ _) (Nat.le_refl _)
  rw [cut_cut zs 0 (show ax + sax ≤ W by omega) (show ay + say ≤ H by omega) (show bx + sbx ≤ sax by omega) (show by' + sby ≤ say by omega)] at hcut2
  obtain ⟨X, hX⟩ : ∃ X, ax + bx = X := ⟨_, rfl⟩
  obtain ⟨Y, hY⟩ : ∃ Y, ay + by' = Y := ⟨_, rfl⟩
  rw [hX, hY] at hcut2
  have HC2 := Lib.hid hcut2
  have kk := HQb.out.cells
  rw [hwb] at kk
  obtain ⟨m0, m1, m2, m3⟩ := kk
  have HWb := Lib.hid hwb
  clear ho1 hb9b hwb hzb hcut2 HC1 HS9 HR9 HQ9 r0 r1 r2 r3 k0 k1 k2
  go_wp2_with fail
  rw [← HWb.out]
  refine HC2.out.mono ?_
  rintro e wc ⟨G2, rfl, ho2⟩
  obtain ⟨wd, hwd, HBd, HXd, hzd⟩ := box1 26 wc (.int .i64 (sbx : Int)) (.int .i64 (sby : Int)) (.slice (some ⟨G2, 0, none⟩) (sbx * sby) (sbx * sby))
  have hbbd := ho2.1.trans (HBd.out.mono ho2.1.size)
  have HSd := Lib.hid (HSb.out.go hbbd)
  have HRd := Lib.hid (HRb.out.go hbbd)
  have HQd := Lib.hid (HQb.out.go hbbd)
  have HVd := Lib.hid (ho2.go HBd.out).row
  have HXbd := Lib.hid (HXb.out.go hbbd)
  have HC3 := Lib.hid (cut_yes (i := X) (j := Y) (c := sbx) (d := sby) HNN.out hW2 hH2 (by omega) (by omega) (by omega) (by omega) (some ⟨G, 0, none⟩) n zs wd (HSd.out.vr.mono (Nat.le_of_lt HSd.out.b9.lt)) HLN.out (Nat.le_refl _))
  have kk := HQd.out.cells
  have ll := HRd.out.cells
  have pp := HSd.out.b9.cells
  rw [hwd] at kk ll pp
  obtain ⟨m0, m1, m2, m3⟩ := kk
  obtain ⟨r0, r1, r2, r3⟩ := ll
  obtain ⟨k0, k1, k2⟩ := pp
  have e1 : (ax : Int) + (bx : Int) = (X : Int) := by omega
  have e2 : (ay : Int) + (by' : Int) = (Y : Int) := by omega
  have x1 : ax ≤ 10 := by omega
  have x2 : bx ≤ 10 := by omega
  have x3 : ay ≤ 10 := by omega
  have x4 : by' ≤ 10 := by omega
  have HWd := Lib.hid hwd
  clear ho2 hbbd hwd hzd HC2 HSb HRb HQb HXb
  go_wp2_with fail
  rw [← HWd.out]
  refine HC3.out.mono ?_
  rintro e we ⟨G3, rfl, ho3⟩
  obtain ⟨wf, hwf, HBf, HXf, hzf⟩ := box1 26 we (.int .i64 (sbx : Int)) (.int .i64 (sby : Int)) (.slice (some ⟨G3, 0, none⟩) (sbx * sby) (sbx * sby))
  have hbdf := ho3.1.trans (HBf.out.mono ho3.1.size)
  have HXdf := Lib.hid (HXd.out.go hbdf)
  have HEQ := Lib.hid (equal_yes (some ⟨G2, 0, none⟩) (sbx * sby) (some ⟨G3, 0, none⟩) (sbx * sby) (sbx * sby) _ wf _ _ ((HVd.out.below hbdf (Nat.le_refl _)).mono hbdf.size) (ho3.go HBf.out).row (cutG_length _ _ _ _ _ _ _ _) (by have : sbx * sby ≤ 10 * 10 := Nat.mul_le_mul (by omega) (by omega); omega))
  have HBW := Lib.hid (HSd.out.bel.trans (hbdf.mono HSd.out.bel.size))
  have kk := HXdf.out.cells
  rw [hwf] at kk
  obtain ⟨m0, m1, m2⟩ := kk
  have HWf := Lib.hid hwf
  have q1 : ((sbx : Int) == (sbx : Int)) = true := by simp
  have q2 : ((sby : Int) == (sby : Int)) = true := by simp
  clear ho3 hbdf hwf hzf HC3 HVd r0 r1 r2 r3 k0 k1 k2
  go_wp2_with fail
  rw [← HWf.out]
  refine HEQ.out.mono ?_
  rintro e wg ⟨rfl, hdg⟩
  have HBG := Lib.hid (HBW.out.trans ((hdg.below _).mono HBW.out.size))
  clear hdg
  go_wp2_with fail
  go_ret
  exact ⟨rfl, HBG.out⟩
end Go.Proofs.Ytjecakkdongcoaa.Gr


/- Contracts of package grid: Cut. -/
import Derived.Test.YtjecakkdongcoaaGrD
import Derived.Test.YtjecakkdongcoaaGrE
import Derived.Lib.MinMax
namespace Go.Proofs.Ytjecakkdongcoaa.Gr
open Go.RowKit Go.Proofs.Ytjecakkdongcoaa.Oct
open Go.Proofs.Ytjecakkdongcoaa.Lp (VRow Only ints ints_length ints_append ints_one vrow_blk vrow_own blk_set blk_far blk_frozen)
open Go.Proofs.Ytjecakkdongcoaa.Gd (canG cutG cutG_length cutR cutR_length cutG_row cutG_none cutR_more cutR_in)
open Go.Proofs.Ytjecakkdongcoaa.Fm (Ow)
set_option linter.unusedVariables false
set_option linter.unusedSimpArgs false
set_option maxRecDepth 100000

/-- a part, so many of whose rows are done -/
def partN (a b : Nat) (zs : List Int) (x y wd ht k : Nat) : List Int := cutG a b zs 0 x y wd k ++ List.replicate (wd * (ht - k)) 0
theorem partN_length (a b : Nat) (zs : List Int) (x y wd ht k : Nat) (h : k ≤ ht) : (partN a b zs x y wd ht k).length = wd * ht := by
  rw [partN, List.length_append, cutG_length, List.length_replicate, ← Nat.mul_add]
  congr 1
  omega
theorem partN_zero (a b : Nat) (zs : List Int) (x y wd ht : Nat) : partN a b zs x y wd ht 0 = List.replicate (wd * ht) 0 := by rw [partN, cutG_none]; simp
theorem partN_all (a b : Nat) (zs : List Int) (x y wd ht : Nat) : partN a b zs x y wd ht ht = cutG a b zs 0 x y wd ht := by simp [partN]
theorem fill_cut {a b : Nat} {zs : List Int} (hL : zs.length = a * b) {x r wd : Nat} (hr : r < b) (hx : x < a) : fillR (((zs.drop (r * a)).take a).drop x) wd = cutR a zs 0 x r wd := by
  have hln : r * a + a ≤ zs.length := by
    rw [hL, Nat.mul_comm a b]
    have := Nat.mul_le_mul_right a (show r + 1 ≤ b from hr)
    rw [Nat.succ_mul] at this
    exact this
  have hlen : (((zs.drop (r * a)).take a).drop x).length = a - x := by rw [List.length_drop, List.length_take, List.length_drop]; omega
  rw [cutR_more (m := min wd (a - x)) 0 hx rfl, cutR_in hL 0 hr (by omega)]
  unfold fillR
  rw [hlen]
  congr 1
  · rw [List.drop_take, List.drop_drop, List.take_take]
  · rw [show wd - min wd (a - x) = wd - (a - x) from by omega]
    congr 1
    rw [List.getD_eq_getElem?_getD, List.getD_eq_getElem?_getD, List.getElem?_drop, List.getElem?_take, if_pos (by omega), List.getElem?_drop]
    congr 2
    omega
theorem partN_step {a b : Nat} {zs : List Int} {x y wd ht k : Nat} (hk : k < ht) {R : List Int} (hR : R = cutR a zs 0 x (min (y + k) (b - 1)) wd) : splice (partN a b zs x y wd ht k) (k * wd) R = partN a b zs x y wd ht (k + 1) := by
  have hl : (cutG a b zs 0 x y wd k).length = k * wd := by rw [cutG_length, Nat.mul_comm]
  have hRl : R.length = wd := by rw [hR, cutR_length]
  unfold splice partN
  rw [cutG_row, ← hR, List.take_append_of_le_length (by omega), List.take_of_length_le (by omega), List.append_assoc, hRl]
  congr 2
  rw [List.drop_append, List.drop_eq_nil_of_le (by omega), List.nil_append, hl, List.drop_replicate]
  congr 1
  rw [show k * wd + wd - k * wd = wd from by omega, show ht - k = (ht - (k + 1)) + 1 from by omega, Nat.mul_succ]
  omega
theorem sub1_wrap {b : Nat} (h : 1 ≤ b) (h2 : b ≤ 4194304) : IntKind.i64.wrap ((b : Int) - 1) = ((b - 1 : Nat) : Int) ∧ wrap64 ((b : Int) - 1) = ((b - 1 : Nat) : Int) := by
  refine ⟨?_, ?_⟩
  · rw [IntKind.wrap_i64]; omega
  · unfold wrap64; omega
theorem add_wrap {y k : Nat} (h : y ≤ 4194304) (h2 : k ≤ 4194304) : IntKind.i64.wrap ((y : Int) + (k : Int)) = ((y + k : Nat) : Int) ∧ wrap64 ((y : Int) + (k : Int)) = ((y + k : Nat) : Int) := by
  refine ⟨?_, ?_⟩
  · rw [IntKind.wrap_i64]; omega
  · unfold wrap64; omega
theorem min_nat (x y : Nat) : min (x : Int) (y : Int) = ((min x y : Nat) : Int) := by omega
theorem row_le {a b n j : Nat} (hn : a * b = n) (h : j < b) : j * a + a ≤ n := by
  rw [← hn, Nat.mul_comm a b]
  have := Nat.mul_le_mul_right a (show j + 1 ≤ b from h)
  rw [Nat.succ_mul] at this
  exact this
/-- a part, or none -/
def CutP (w : World) (W H : Int) (n : Nat) (zs : List Int) (X Y w' h' : Int) (e : Ending) (wr : World) : Prop :=
  ((hasI W H n X Y && canG w' h') = true ∧ GeP w w' h' (w' * h').toNat (cutG W.toNat H.toNat zs 0 X.toNat Y.toNat w'.toNat h'.toNat) 0 e wr) ∨
  ((hasI W H n X Y && canG w' h') = false ∧ Below w.heap.size w wr ∧ e = .returned (.tuple #[.agg #[.int .i64 0, .int .i64 0, .slice none 0 0], .int .i64 1]))
/-- what stands in memory while rows are cut -/
structure CutS (w : World) (g6 G : Nat) (W H : Value) (s : Value) (X Y wd ht s6 : Value) (Z : List Int) (wr : World) : Prop where
  bel : Below w.heap.size w wr
  b2 : Bx 26 wr w.heap.size W H s
  b3 : Bx4 52 wr (w.heap.size + 1) X Y wd ht
  b4 : Bx 26 wr (w.heap.size + 2) (.int .i64 0) (.int .i64 0) (.slice none 0 0)
  b6 : Bx 26 wr g6 wd ht s6
  own : wr.heap[G]? = some (.cells (ints Z).toArray 3 (0, 0))
  ne : w.heap.size + 3 ≤ G ∧ g6 ≠ G ∧ w.heap.size + 3 ≤ g6
theorem CutS.go {w : World} {g6 G : Nat} {W H s X Y wd ht s6 : Value} {Z : List Int} {wr wr' : World} (h : CutS w g6 G W H s X Y wd ht s6 Z wr) (hb : Below wr.heap.size wr wr') : CutS w g6 G W H s X Y wd ht s6 Z wr' :=
  ⟨h.bel.trans (hb.mono h.bel.size), h.b2.go hb, h.b3.go hb, h.b4.go hb, h.b6.go hb, (hb.block G (blk_lt h.own)).trans h.own, h.ne⟩
theorem only_below {w wr wr' : World} {G : Nat} (hb : Below w.heap.size w wr) (ho : Only (· = G) wr wr') (hG : w.heap.size ≤ G) : Below w.heap.size w wr' := hb.trans (ho.below hb.size (fun k hk h => by omega))
theorem CutS.fil {w : World} {g6 G : Nat} {W H s X Y wd ht s6 : Value} {Z Z' : List Int} {wr wr' : World} (h : CutS w g6 G W H s X Y wd ht s6 Z wr) (ho : FilP wr G Z' wr') : CutS w g6 G W H s X Y wd ht s6 Z' wr' :=
  ⟨only_below h.bel ho.1 (by have := h.ne; omega), h.b2.only ho.1 (by have := h.ne; omega), h.b3.only ho.1 (by have := h.ne; omega), h.b4.only ho.1 (by have := h.ne; omega), h.b6.only ho.1 h.ne.2.1, ho.2, h.ne⟩
set_option maxHeartbeats 1000000 in
theorem cut_any (W H : Int) (p : Option Addr) (n c : Nat) (zs : List Int) (X Y wd ht : Int) (w : World) (hr : VRow w w.heap.size p (ints zs)) (hx : zs.length = n) (hc : n ≤ c) (hX : X < 4611686018427387904) (hY : Y < 4611686018427387904) :
    Calls Try.prog 23 #[.agg #[.int .i64 W, .int .i64 H, .slice p n c], .agg #[.int .i64 X, .int .i64 Y, .int .i64 wd, .int .i64 ht]] w (CutP w W H n zs X Y wd ht) := by
  obtain ⟨w1, hw1, HB1, HX1, hz1⟩ := box1 26 w (.int .i64 W) (.int .i64 H) (.slice p n c)
  obtain ⟨w2, hw2, HB2, HX2, hz2⟩ := box4 52 w1 (.int .i64 X) (.int .i64 Y) (.int .i64 wd) (.int .i64 ht)
  obtain ⟨w3, hw3, HB3, HX3, hz3⟩ := box1 26 w2 (.int .i64 0) (.int .i64 0) (.slice none 0 0)
  rw [hz2, hz1] at HX3
  rw [hz1] at HX2
  rw [hw2, hw1] at hw3
  have HW3 := Lib.hid hw3
  have HBE := Lib.hid (HB1.out.trans ((HB2.out.trans (HB3.out.mono HB2.out.size)).mono HB1.out.size))
  have HA := Lib.hid (HX1.out.go (HB2.out.trans (HB3.out.mono HB2.out.size)))
  have HR4 := Lib.hid (HX2.out.go HB3.out)
  have HSZ : Hid (w3.heap.size = w.heap.size + 3) := Lib.hid (by omega)
  have HHS := Lib.hid (has_any W H p n c X Y w3)
  have k4 := HR4.out.cells
  have k1 := HA.out.cells
  rw [hw3] at k4 k1
  obtain ⟨r0, r1, r2, r3⟩ := k4
  obtain ⟨a0, a1, a2⟩ := k1
  clear hw1 hz1 hw2 hz2 hw3 hz3 HB1 HX1 HB2 HX2 HB3
  by_cases h : hasI W H n X Y = true
  case neg =>
    have h0 : hasI W H n X Y = false := by simpa using h
    have HQ : Hid ((hasI W H n X Y && canG wd ht) = false) := Lib.hid (by rw [h0]; rfl)
    rw [h0] at HHS
    clear h h0 hr hx hc
    go_enter Try.func23, Try.ntmps23
    go_wp2_with fail
    rw [← HW3.out]
    refine HHS.out.mono ?_
    rintro e w4 ⟨rfl, hb⟩
    have hx4 := HX3.out.go hb
    have HX4 := Lib.hid (hx4.put (.int .i64 0) (.int .i64 0) (.slice none 0 0))
    have HB4 := Lib.hid ((((HBE.out.trans (hb.mono HBE.out.size)).setCell (p := ⟨w.heap.size + 2, 0, none⟩) (by show _ ≤ w.heap.size + 2; omega) (.int .i64 0)).setCell (p := ⟨w.heap.size + 2, 1, none⟩) (by show _ ≤ w.heap.size + 2; omega) (.int .i64 0)).setCell (p := ⟨w.heap.size + 2, 2, none⟩) (by show _ ≤ w.heap.size + 2; omega) (.slice none 0 0))
    obtain ⟨j0, j1, j2⟩ := hx4.cells
    have f := hx4.fz
    have f0 := f 0
    have f1 := f 1
    have f2 := f 2
    clear hb f hx4
    go_wp2_with fail
    refine bodyPost_ret (res_two Try.underlying26 size_gi rfl _ _ (w.heap.size + 2) _ _ _ rfl HX4.out) rfl ?_
    exact .inr ⟨HQ.out, HB4.out, rfl⟩
  rw [h] at HHS
  have HNW := Lib.hid (fun w => new_any wd ht w)
  by_cases hcn : canG wd ht = true
  case neg =>
    have h0 : canG wd ht = false := by simpa using hcn
    have HQ : Hid ((hasI W H n X Y && canG wd ht) = false) := Lib.hid (by rw [h0, Bool.and_false])
    clear h hr hx hc
    go_enter Try.func23, Try.ntmps23
    go_wp2_with fail
    rw [← HW3.out]
    refine HHS.out.mono ?_
    rintro e w4 ⟨rfl, hb4⟩
    have HB4 := Lib.hid (HBE.out.trans (hb4.mono HBE.out.size))
    obtain ⟨r0, r1, r2, r3⟩ := (HR4.out.go hb4).cells
    have HX4 := Lib.hid (HX3.out.go hb4)
    clear hb4
    go_wp2_with fail
    refine (HNW.out w4).mono ?_
    rintro e w5 (⟨hq, _⟩ | ⟨_, hb5, rfl⟩)
    · rw [h0] at hq; cases hq
    obtain ⟨w6, hw6, HB6, HX6, hz6⟩ := box1 26 w5 (.int .i64 0) (.int .i64 0) (.slice none 0 0)
    have hx6 := (HX4.out.go hb5).go HB6.out
    have HX7 := Lib.hid (hx6.put (.int .i64 0) (.int .i64 0) (.slice none 0 0))
    have hb6 := HB4.out.trans ((hb5.trans (HB6.out.mono hb5.size)).mono HB4.out.size)
    have HB7 := Lib.hid (((hb6.setCell (p := ⟨w.heap.size + 2, 0, none⟩) (by show _ ≤ w.heap.size + 2; omega) (.int .i64 0)).setCell (p := ⟨w.heap.size + 2, 1, none⟩) (by show _ ≤ w.heap.size + 2; omega) (.int .i64 0)).setCell (p := ⟨w.heap.size + 2, 2, none⟩) (by show _ ≤ w.heap.size + 2; omega) (.slice none 0 0))
    have hc6 := hx6.cells
    have f := hx6.fz
    have f0 := f 0
    have f1 := f 1
    have f2 := f 2
    rw [hw6] at hc6 f0 f1 f2 HX7 HB7
    obtain ⟨j0, j1, j2⟩ := hc6
    clear hb5 hx6 hb6 f hw6 hz6 HX6 HB6
    go_wp2_with fail
    refine bodyPost_ret (res_two Try.underlying26 size_gi rfl _ _ (w.heap.size + 2) _ _ _ rfl HX7.out) rfl ?_
    exact .inr ⟨HQ.out, HB7.out, rfl⟩
  have HQ : Hid ((hasI W H n X Y && canG wd ht) = true) := Lib.hid (by rw [h, hcn]; rfl)
  obtain ⟨a, b, x, y, rfl, rfl, rfl, rfl, hn, hm, ha, hb, hxa, hyb⟩ := has_nat h
  obtain ⟨hw0, hw1, hh0, hh1, hwh, _, _⟩ := can_parts hcn
  obtain ⟨ww, rfl⟩ : ∃ ww : Nat, wd = (ww : Int) := ⟨wd.toNat, by omega⟩
  obtain ⟨hh, rfl⟩ : ∃ hh : Nat, ht = (hh : Int) := ⟨ht.toNat, by omega⟩
  have hL : zs.length = a * b := by rw [hx, hn]
  obtain ⟨nn, hnn⟩ : ∃ nn : Nat, nn = ww * hh := ⟨_, rfl⟩
  have hni : (ww : Int) * (hh : Int) = (nn : Int) := by rw [hnn, Int.natCast_mul]
  rw [hni] at hwh
  have hn4 : nn ≤ 4194304 := by omega
  rw [hni, Int.toNat_natCast] at HNW
  have HR := Lib.hid hr
  have HLL := Lib.hid hL
  have HNN := Lib.hid hnn
  have HCN := Lib.hid hcn
  have HNI := Lib.hid hni
  clear h hr hx hwh hL hcn hni hnn
  go_enter Try.func23, Try.ntmps23
  go_wp2_with fail
  rw [← HW3.out]
  refine HHS.out.mono ?_
  rintro e w4 ⟨rfl, hb4⟩
  have HB4 := Lib.hid (HBE.out.trans (hb4.mono HBE.out.size))
  have HY4 := Lib.hid (HR4.out.go hb4)
  obtain ⟨r0, r1, r2, r3⟩ := HY4.out.cells
  have HX4 := Lib.hid (HX3.out.go hb4)
  have HA4 := Lib.hid (HA.out.go hb4)
  have HS4 : Hid (w.heap.size + 3 ≤ w4.heap.size) := Lib.hid (by rw [← HSZ.out]; exact hb4.size)
  clear hb4 HX3 HR4 HA HHS HBE HW3 a0 a1 a2
  go_wp2_with fail
  refine (HNW.out w4).mono ?_
  rintro e w5 (⟨_, G, rfl, ho⟩ | ⟨hq, _, _⟩)
  case inr => rw [HCN.out] at hq; cases hq
  obtain ⟨w6, hw6, HB6, HX6, hz6⟩ := box1 26 w5 (.int .i64 (ww : Int)) (.int .i64 (hh : Int)) (.slice (some ⟨G, 0, none⟩) nn nn)
  have hb6 := ho.1.trans (HB6.out.mono ho.1.size)
  have HS : Hid (CutS w w5.heap.size G (.int .i64 (a : Int)) (.int .i64 (b : Int)) (.slice p n c) (.int .i64 (x : Int)) (.int .i64 (y : Int)) (.int .i64 (ww : Int)) (.int .i64 (hh : Int)) (.slice (some ⟨G, 0, none⟩) nn nn) (partN a b zs x y ww hh 0) w6) := Lib.hid
    ⟨HB4.out.trans (hb6.mono HB4.out.size), HA4.out.go hb6, HY4.out.go hb6, HX4.out.go hb6, HX6.out, by
      rw [partN_zero, ← HNN.out]
      exact (ho.go HB6.out).2.2.2, by have := ho.2.1; have := ho.2.2.1; have := HS4.out; have := ho.1.size; omega⟩
  have HW6 := Lib.hid hw6
  have k4 := HS.out.b3.cells
  have k1 := HS.out.b2.cells
  rw [hw6] at k4 k1
  obtain ⟨r0, r1, r2, r3⟩ := k4
  obtain ⟨a0, a1, a2⟩ := k1
  clear hw6 hz6 HX6 HB6 ho hb6 HX4 HA4 HY4 HB4 hX hY
  go_wp2_with fail
  rw [← HW6.out]
  go_loopw [8, 9, 32] (fun s8 s9 i wr => ∃ k : Nat, k ≤ hh ∧ i = .int .i64 (k : Int) ∧ Hid (CutS w w5.heap.size G (.int .i64 (a : Int)) (.int .i64 (b : Int)) (.slice p n c) (.int .i64 (x : Int)) (.int .i64 (y : Int)) (.int .i64 (ww : Int)) (.int .i64 (hh : Int)) (.slice (some ⟨G, 0, none⟩) nn nn) (partN a b zs x y ww hh k) wr)) (fun _ _ i _ => hh - (intOf i).toNat)
  case atStart => exact ⟨0, Nat.zero_le _, rfl, HS⟩
  case round =>
    clear HS r0 r1 r2 r3 a0 a1 a2
    obtain ⟨k, hk, rfl, HS⟩ := hrel
    obtain ⟨a0, a1, a2⟩ := HS.out.b2.cells
    obtain ⟨r0, r1, r2, r3⟩ := HS.out.b3.cells
    obtain ⟨p0, p1, p2⟩ := HS.out.b6.cells
    by_cases hlt : k < hh
    · have Q1 := Lib.hid (add_wrap (y := y) (k := k) (by omega) (by omega)).2
      have Q3 := Lib.hid (sub1_wrap (b := b) (by omega) hb).2
      have Q5 := Lib.hid (min_nat (y + k) (b - 1))
      have Q6 : Hid (min ((y + k : Nat) : Int) ((b : Int) - 1) = ((min (y + k) (b - 1) : Nat) : Int)) := Lib.hid (by omega)
      have hblb : min (y + k) (b - 1) < b := by omega
      have hln := row_le hn hblb
      have hmn := row_le HNN.out.symm hlt
      generalize hyk : y + k = yk at *
      generalize hb1 : b - 1 = b1 at *
      generalize hbl : min yk b1 = bl at *
      generalize hm1 : k * ww = m at *
      generalize hm2 : bl * a = m2 at *
      have HL1 := Lib.hid (fun w => line_any ww (hh : Int) (some ⟨G, 0, none⟩) nn nn k w (by rw [hm1]; exact hmn) (by omega) (by rw [hm1]; omega) (by omega))
      have HL2 := Lib.hid (fun w => line_any a (b : Int) p n c bl w (by rw [hm2]; omega) ha (by rw [hm2]; omega) (by omega))
      rw [hm1] at HL1
      rw [hm2] at HL2
      have HRL := Lib.hid (tail_v (c - m2) x (mid_v c m2 a HR.out (by rw [HLL.out]; omega)) (by rw [List.length_take, List.length_drop, HLL.out]; omega))
      have hYL : (((zs.drop m2).take a).drop x).length = a - x := by rw [List.length_drop, List.length_take, List.length_drop, HLL.out]; omega
      have HYL := Lib.hid hYL
      have HFC : Hid (fillR (((zs.drop m2).take a).drop x) ww = cutR a zs 0 x (min (y + k) (b - 1)) ww) := Lib.hid (by rw [← hm2, fill_cut HLL.out hblb hxa, ← hbl, ← hyk, ← hb1])
      have HPS : Hid (splice (partN a b zs x y ww hh k) m (fillR (((zs.drop m2).take a).drop x) ww) = partN a b zs x y ww hh (k + 1)) := Lib.hid (by rw [← hm1]; exact partN_step hlt HFC.out)
      have HPT : Hid (0 < ww → tailA (some ⟨G, 0, none⟩) nn m = some ⟨G, m, none⟩) := Lib.hid (fun h => by rw [tail_at (by omega), Nat.zero_add])
      have hts := fun W => tail_int W (tailA p c m2) a (c - m2) x (by omega)
      have HLP : Hid (m + ww ≤ (partN a b zs x y ww hh k).length) := Lib.hid (by rw [partN_length _ _ _ _ _ _ _ _ hk, ← HNN.out]; exact hmn)
      have hax : a - x ≤ 4194304 ∧ 1 ≤ a - x := by omega
      have HAX := Lib.hid hax
      generalize tailA (tailA p c m2) (c - m2) x = q6 at HRL hts
      generalize c - m2 - x = c6 at hts
      generalize tailA p c m2 = q7 at HL2 hts
      generalize c - m2 = c7 at HL2 hts
      generalize tailA (some ⟨G, 0, none⟩) nn m = q8 at HL1 HPT
      generalize nn - m = c8 at HL1
      generalize hys : ((zs.drop m2).take a).drop x = ys at HRL HYL HPS
      generalize hax2 : a - x = ax at HYL HAX hts
      have HHY := Lib.hid hys
      have ql : decide ((k : Int) < (hh : Int)) = true := by simpa using hlt
      clear hyk hb1 hbl hm1 hm2 hblb hln hmn hYL HFC hax hys hn hxa hyb
      have q1 := Q1.out
      have q3 := Q3.out
      have q5 := Q5.out
      have q6 := Q6.out
      go_wp2_with fail
      clear q1 q3 q5 q6 Q1 Q3 Q5 Q6
      have hdr := (show Drawn wr wr.drew from ⟨1, rfl⟩).below wr.heap.size
      have HSD := Lib.hid (HS.out.go hdr)
      refine wp_region_held_drew (S := fun V => (V.cell? ⟨w.heap.size, 0, none⟩ = some (.int .i64 (a : Int)) ∧ V.cell? ⟨w.heap.size, 1, none⟩ = some (.int .i64 (b : Int)) ∧ V.cell? ⟨w.heap.size, 2, none⟩ = some (.slice p n c)) ∧ (V.cell? ⟨w5.heap.size, 0, none⟩ = some (.int .i64 (ww : Int)) ∧ V.cell? ⟨w5.heap.size, 1, none⟩ = some (.int .i64 (hh : Int)) ∧ V.cell? ⟨w5.heap.size, 2, none⟩ = some (.slice (some ⟨G, 0, none⟩) nn nn)) ∧ V.cell? ⟨w.heap.size + 1, 0, none⟩ = some (.int .i64 (x : Int))) (by kernel_rfl) ⟨HSD.out.b2.cells, HSD.out.b6.cells, HSD.out.b3.cells.1⟩ (fun hHeld => ?_)
      refine jt 0 ?_
      refine jt 1 ?_
      refine jt 3 ?_
      refine jt 4 ?_
      refine jt 6 ?_
      refine jt 7 ?_
      refine js 2 (fun K hK => ?_)
      go_simp
      refine (HL1.out _).mono ?_
      rintro e v1 ⟨rfl, hv1⟩
      have HS1 := Lib.hid (HSD.out.go hv1)
      clear hv1
      go_wp2_with fail
      refine hK.out _ _ ⟨HS1.out.b2.cells, HS1.out.b6.cells, HS1.out.b3.cells.1⟩ (fun hH1 => ?_)
      clear hK K hHeld
      try simp only [Act.put, jA, jB, jC, jD, jE, jF]
      refine js 5 (fun K hK => ?_)
      go_simp
      refine (HL2.out _).mono ?_
      rintro e v2 ⟨rfl, hv2⟩
      have HS2 := Lib.hid (HS1.out.go hv2)
      clear hv2
      go_wp2_with fail
      refine hK.out _ _ ⟨HS2.out.b2.cells, HS2.out.b6.cells, HS2.out.b3.cells.1⟩ (fun hH2 => ?_)
      clear hK K hH1
      try simp only [Act.put, jA, jB, jC, jD, jE, jF]
      refine jt 8 ?_
      have HFI := Lib.hid (fill_any G m ww c8 q8 _ q6 ax c6 w.heap.size ys v2 HS2.out.own HPT.out HLP.out (HRL.out.below HS2.out.bel (Nat.le_refl _)) HYL.out HAX.out.2 (by have := HS2.out.ne; omega) (by omega) HAX.out.1)
      rw [HPS.out] at HFI
      refine js 9 (fun K hK => ?_)
      go_simp
      refine HFI.out.mono ?_
      rintro e v3 ⟨rfl, hv3⟩
      have HS3 := Lib.hid (HS2.out.fil hv3)
      clear hv3
      go_wp2_with fail
      refine hK.out _ _ ⟨HS3.out.b2.cells, HS3.out.b6.cells, HS3.out.b3.cells.1⟩ (fun hH3 => ?_)
      clear hK K hH2
      try simp only [Act.put, jA, jB, jC, jD, jE, jF]
      refine wpAnyH_done (by kernel_rfl) ?_ _
      clear hH3 HS1 HS2 HSD HFI HL1 HL2
      go_wp2_with fail
      go_roundw
      case rel => exact ⟨k + 1, by omega, by go_num, HS3⟩
      case measure => simp [intOf]; omega
    · obtain rfl : k = hh := by omega
      have ql : decide ((k : Int) < (k : Int)) = false := by simp
      have h4 := HS.out.b4
      have hne := HS.out.ne
      have f := h4.fz
      have f0 := f 0
      have f1 := f 1
      have f2 := f 2
      obtain ⟨j0, j1, j2⟩ := h4.cells
      have HR4 := Lib.hid (h4.put (.int .i64 (ww : Int)) (.int .i64 (k : Int)) (.slice (some ⟨G, 0, none⟩) nn nn))
      have hO : Ow w G 3 (ints (cutG a b zs 0 x y ww k)) wr := ⟨HS.out.bel, by omega, blk_lt HS.out.own, by have := HS.out.own; rwa [partN_all] at this⟩
      have hk2 : w.heap.size + 2 ≠ G := by omega
      have HO := Lib.hid (ow_far (i := 2) (ow_far (i := 1) (ow_far (i := 0) hO hk2 (by omega) (.int .i64 (ww : Int))) hk2 (by omega) (.int .i64 (k : Int))) hk2 (by omega) (.slice (some ⟨G, 0, none⟩) nn nn))
      clear h4 hne f hO hk2 HS hlt hk
      go_wp2_with fail
      refine bodyPost_ret (res_two Try.underlying26 size_gi rfl _ _ (w.heap.size + 2) _ _ _ rfl HR4.out) rfl ?_
      refine .inl ⟨HQ.out, G, ?_, HO.out⟩
      rw [HNI.out]
      rfl
end Go.Proofs.Ytjecakkdongcoaa.Gr

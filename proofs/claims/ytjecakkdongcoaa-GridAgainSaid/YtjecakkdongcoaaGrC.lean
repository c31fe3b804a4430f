
/- Contracts of package grid: copyOf, Clone, At, Row, Set, New. -/
import Derived.Test.YtjecakkdongcoaaGrB
import Derived.StillTailTactics
namespace Go.Proofs.Ytjecakkdongcoaa.Gr
open Go.RowKit Go.Proofs.Ytjecakkdongcoaa.Oct
open Go.Proofs.Ytjecakkdongcoaa.Lp (VRow ints ints_length ints_append ints_one vrow_blk vrow_own blk_set blk_far blk_frozen)
open Go.Proofs.Ytjecakkdongcoaa.Gd (canG)
open Go.Proofs.Ytjecakkdongcoaa.Fm (Ow)
set_option linter.unusedVariables false
set_option linter.unusedSimpArgs false
set_option maxRecDepth 100000

theorem sizeInt : (Try.prog.info? 3).map (fun i => i.size) = some 1 := by kernel_rfl
theorem blk_lt {w : World} {g : Nat} {o : Obj} (h : w.heap[g]? = some o) : g < w.heap.size := by
  rcases Nat.lt_or_ge g w.heap.size with h' | h'
  · exact h'
  · rw [Array.getElem?_eq_none h'] at h; cases h
theorem ow_row {w0 w : World} {G : Nat} {zs : List Int} (h : Ow w0 G 3 (ints zs) w) : VRow w w.heap.size (some ⟨G, 0, none⟩) (ints zs) := h.row
theorem ow_mono {w0 w1 w : World} {G T : Nat} {vs : List Value} (h : Ow w1 G T vs w) (hb : Below w0.heap.size w0 w1) : Ow w0 G T vs w :=
  ⟨hb.trans (h.1.mono hb.size), Nat.le_trans hb.size h.2.1, h.2.2.1, h.2.2.2⟩
theorem ow_far {w0 w : World} {G T k i : Nat} {vs : List Value} (h : Ow w0 G T vs w) (hk : k ≠ G) (h0 : w0.heap.size ≤ k) (v : Value) : Ow w0 G T vs (w.setCell ⟨k, i, none⟩ v) :=
  ⟨h.1.setCell h0 _, h.2.1, by simpa [World.setCell] using h.2.2.1, blk_far h.2.2.2 hk i v⟩
set_option maxHeartbeats 1000000 in
theorem copyOf_any (p : Option Addr) (len cap : Nat) (zs : List Int) (w : World) (hr : VRow w w.heap.size p (ints zs)) (hx : zs.length = len) (hl : len ≤ 5000000) :
    Calls Try.prog 35 #[.slice p len cap] w fun e w' => e = .returned (.slice (some ⟨w.heap.size, 0, none⟩) len len) ∧ Ow w w.heap.size 3 (ints zs) w' := by
  obtain ⟨i0, hi, hz0, hz1, hz2⟩ := info_parts Lp.Try.infoInt
  have HX := Lib.hid hx
  have HR := Lib.hid hr
  have HXU : Hid ((ints zs).length = len) := Lib.hid (by rw [ints_length]; exact hx)
  clear hx hr
  go_enter Try.func35, Try.ntmps35
  go_wp2_with (at_make; refine wpList_make_full _ rfl _ _ 22 rfl w.heap.size 3 i0 (.int .i64 0) 1 Try.underlying22 hi hz0 hz1 .i64 .i64 (len : Int) (len : Int) len rfl rfl rfl rfl ?c2 ?c3 ?c4 ?_)
  case c2 => rw [hz2]; omega
  case c3 => unfold maxLen; omega
  case c4 => omega
  intro w1 hown hgrow
  have hb1 : Below w.heap.size w w1 := (Below.refl _ _).grown hgrow (Nat.le_refl _) (fun k hk => by cases hk)
  have hg0 := blk_of_own hown
  have HG := Lib.hid hg0
  have HGL := Lib.hid (blk_lt hg0)
  have hlen : (madeCells #[Value.int IntKind.i64 0] len).toList.length = len := by simp [size_madeCells]
  have HL := Lib.hid hlen
  clear hown hgrow hg0 hlen hz0 hz1 hz2 hi
  generalize (madeCells #[Value.int IntKind.i64 0] len).toList = cur at HG HL
  go_wp2_with (with_reducible refine wpList_copy_splice rfl (.tmp 7) (.tmp 8) 22 22 rfl 3 Try.underlying22 sizeInt _ _ _ _ _ _ rfl rfl w.heap.size 0 cur 3 HG.out (ints zs) ?d1 ?d2 ?d3 ints_one w.heap.size w hb1 (Nat.le_refl _) ?_)
  case d1 => rw [HXU.out]; exact (Nat.min_self _).symm
  case d2 =>
    intro h0
    obtain ⟨b, off, hq, hbl, hc⟩ := HR.out h0
    refine ⟨_, hq, fun j v hj => ?_⟩
    obtain ⟨hj', hv⟩ := List.getElem?_eq_some_iff.1 hj
    rw [add_plain, hb1.cell (by exact hbl), ← hv]
    exact hc j hj'
  case d3 => rw [HXU.out, HL.out]; omega
  intro w2 HG2 hB2
  have HN : Hid (Ow w w.heap.size 3 (ints zs) w2) := Lib.hid (by
    have := HG2.out
    rw [splice_all _ _ (by rw [HXU.out, HL.out])] at this
    exact ⟨hB2, Nat.le_refl _, blk_lt this, this⟩)
  clear HG2 hB2 hb1
  go_wp2_with fail
  go_ret
  exact ⟨rfl, HN.out⟩
/-- a grid in cells of the call's own -/
def GrP (w : World) (W H : Int) (n : Nat) (zs : List Int) (e : Ending) (w' : World) : Prop :=
  ∃ G, e = .returned (.agg #[.int .i64 W, .int .i64 H, .slice (some ⟨G, 0, none⟩) n n]) ∧ Ow w G 3 (ints zs) w'
set_option maxHeartbeats 1000000 in
theorem clone_any (W H : Int) (p : Option Addr) (n c : Nat) (zs : List Int) (w : World) (hr : VRow w w.heap.size p (ints zs)) (hx : zs.length = n) (hl : n ≤ 5000000) :
    Calls Try.prog 11 #[.agg #[.int .i64 W, .int .i64 H, .slice p n c]] w (GrP w W H n zs) := by
  obtain ⟨w2, hw2, HB2, HX2, HY2, hz2⟩ := box2 26 26 w (.int .i64 W) (.int .i64 H) (.slice p n c) (.int .i64 0) (.int .i64 0) (.slice none 0 0)
  have HD2 := Lib.hid ((show Drawn w2 w2.drew from ⟨1, rfl⟩).below w2.heap.size)
  have HB3 := Lib.hid (HB2.out.trans (HD2.out.mono HB2.out.size))
  have HCP := Lib.hid (copyOf_any p n c zs w2.drew ((hr.below HB3.out (Nat.le_refl _)).mono HB3.out.size) hx hl)
  have HY3 := Lib.hid (HY2.out.go HD2.out)
  obtain ⟨k0, k1, k2⟩ := HX2.out.cells
  have HW2 := Lib.hid hw2
  have HZ := Lib.hid hz2
  clear hr hx hw2 hz2
  go_enter Try.func11, Try.ntmps11
  go_wp2_with fail
  rw [← HW2.out]
  refine wp_region_held_drew (S := fun V => V.cell? ⟨w.heap.size, 0, none⟩ = some (.int .i64 W) ∧ V.cell? ⟨w.heap.size, 1, none⟩ = some (.int .i64 H) ∧ V.cell? ⟨w.heap.size, 2, none⟩ = some (.slice p n c)) (by kernel_rfl) ⟨k0, k1, k2⟩ (fun hHeld => ?_)
  refine jt 0 ?_
  refine jt 1 ?_
  refine jt 2 ?_
  refine jt 3 ?_
  refine jt 4 ?_
  refine jt 5 ?_
  refine js 6 (fun K hK => ?_)
  go_simp
  refine HCP.out.mono ?_
  rintro e w3 ⟨rfl, ho⟩
  have hx3 := HX2.out.go (HD2.out.trans (ho.1.mono HD2.out.size))
  have HX4 := Lib.hid (((hx3.far (i := 0) (Nat.succ_ne_self _) (.int .i64 W)).far (i := 1) (Nat.succ_ne_self _) (.int .i64 H)).far (i := 2) (Nat.succ_ne_self _) (.slice (some ⟨w2.drew.heap.size, 0, none⟩) n n)).cells
  have HBX := Lib.hid ((HY3.out.go ho.1).put (.int .i64 W) (.int .i64 H) (.slice (some ⟨w2.drew.heap.size, 0, none⟩) n n))
  obtain ⟨j0, j1, j2⟩ := (HY3.out.go ho.1).cells
  have hf := (HY3.out.go ho.1).fz
  have f0 := hf 0
  have f1 := hf 1
  have f2 := hf 2
  have hlt : w.heap.size + 1 ≠ w2.drew.heap.size := by
    have := HZ.out
    show w.heap.size + 1 ≠ w2.heap.size
    omega
  have HO := Lib.hid (ow_far (i := 2) (ow_far (i := 1) (ow_far (i := 0) (ow_mono ho HB3.out) hlt (Nat.le_succ _) (.int .i64 W)) hlt (Nat.le_succ _) (.int .i64 H)) hlt (Nat.le_succ _) (.slice (some ⟨w2.drew.heap.size, 0, none⟩) n n))
  clear ho hf hlt HCP HX2 HY2
  go_wp2_with fail
  refine hK.out _ _ hx3.cells (fun hH1 => ?_)
  clear hK K
  try simp only [Act.put, jA, jB, jC, jD, jE, jF]
  refine jt 7 ?_
  refine js 8 (fun K hK => ?_)
  go_simp
  refine hK.out _ _ HX4.out (fun hH2 => ?_)
  clear hK K
  try simp only [Act.put, jA, jB, jC, jD, jE, jF]
  refine wpAnyH_done (by kernel_rfl) ?_ _
  go_wp2_with fail
  refine bodyPost_ret (res_one Try.underlying26 size_gi rfl _ _ (w.heap.size + 1) _ _ _ rfl HBX.out) rfl ?_
  exact ⟨_, rfl, HO.out⟩
theorem at_any (W H : Int) (p : Option Addr) (n c : Nat) (zs : List Int) (x y : Int) (w : World) (hr : VRow w w.heap.size p (ints zs)) (hx : zs.length = n) (hc : n ≤ c) :
    Calls Try.prog 13 #[.agg #[.int .i64 W, .int .i64 H, .slice p n c], .int .i64 x, .int .i64 y] w fun e w' =>
      Below w.heap.size w w' ∧ e = .returned (.tuple #[.int .i64 (if hasI W H n x y then zs.getD (y.toNat * W.toNat + x.toNat) 0 else 0), .bool (hasI W H n x y)]) := by
  obtain ⟨w1, hw1, HB1, HX1, hz1⟩ := box1 26 w (.int .i64 W) (.int .i64 H) (.slice p n c)
  have HHS := Lib.hid (has_any W H p n c x y w1)
  have HW := Lib.hid hw1
  by_cases h : hasI W H n x y = true
  case neg =>
    have h0 : hasI W H n x y = false := by simpa using h
    rw [h0] at HHS ⊢
    clear h h0 hr hx hc hw1 hz1
    go_enter Try.func13, Try.ntmps13
    go_wp2_with fail
    rw [← HW.out]
    refine HHS.out.mono ?_
    rintro e w' ⟨rfl, hb⟩
    have HB2 := Lib.hid (HB1.out.trans (hb.mono HB1.out.size))
    clear hb
    go_wp2_with fail
    go_ret2
    exact ⟨HB2.out, rfl⟩
  rw [h] at HHS ⊢
  obtain ⟨a, b, i, j, rfl, rfl, rfl, rfl, hn, hm, ha, hb, hia, hjb⟩ := has_nat h
  rw [if_pos rfl]
  simp only [Int.toNat_natCast]
  have hpl := Gd.place_lt hia hjb
  have hln : j * a + a ≤ n := by
    have := Gd.place_lt (W := a) (H := b) (i := a - 1) (j := j) (by omega) hjb
    omega
  obtain ⟨m, hm2⟩ : ∃ m, m = j * a := ⟨_, rfl⟩
  rw [← hm2] at hln hpl ⊢
  have HLN := Lib.hid (fun w => line_any a (b : Int) p n c j w (by rw [← hm2]; omega) ha (by rw [← hm2]; omega) (by omega))
  rw [← hm2] at HLN
  obtain ⟨bb, off, hq, hbl, hcell⟩ := hr (by rw [ints_length]; omega)
  have hce := hcell (m + i) (by rw [ints_length]; omega)
  have hv : (ints zs)[m + i]'(by rw [ints_length]; omega) = .int .i64 (zs.getD (m + i) 0) := by
    simp only [ints, List.getElem_map]
    rw [List.getD_eq_getElem?_getD, List.getElem?_eq_getElem (by omega)]
    rfl
  rw [hv] at hce
  have hta : tailA p c m = some ⟨bb, off + m, none⟩ := by
    unfold tailA
    rw [if_neg (by omega), hq]
    simp [add_plain]
  rw [hta] at HLN
  rw [show off + (m + i) = off + m + i from by omega] at hce
  have HCE : Hid (∀ V, Below w.heap.size w V → V.cell? ⟨bb, off + m + i, none⟩ = some (.int .i64 (zs.getD (m + i) 0))) := Lib.hid (fun V hV => (hV.cell (p := ⟨bb, off + m + i, none⟩) hbl).trans hce)
  obtain ⟨v, hvz⟩ : ∃ v, v = zs.getD (m + i) 0 := ⟨_, rfl⟩
  rw [← hvz] at HCE ⊢
  have i1 : (0 : Int) ≤ (i : Int) := by omega
  have i2 : (i : Int) < (a : Int) := by omega
  clear h hr hx hc hw1 hz1 hcell hce hta hq hbl hpl hln hn hm hv hvz hm2
  go_enter Try.func13, Try.ntmps13
  go_wp2_with fail
  rw [← HW.out]
  refine HHS.out.mono ?_
  rintro e w' ⟨rfl, hb'⟩
  have HB2 := Lib.hid (HB1.out.trans (hb'.mono HB1.out.size))
  obtain ⟨k0, k1, k2⟩ := (HX1.out.go hb').cells
  clear hb' HW HX1 HHS
  go_wp2_with fail
  refine (HLN.out _).mono ?_
  rintro e w3 ⟨rfl, hb3⟩
  have HB3 := Lib.hid (HB2.out.trans (hb3.mono HB2.out.size))
  have hce := HCE.out _ HB3.out
  clear hb3 k0 k1 k2
  go_wp2_with fail
  go_ret2
  exact ⟨HB3.out, rfl⟩
def someI (W H : Int) (n : Nat) (y : Int) : Bool := rightI W H n && decide (0 ≤ y ∧ y < H)
/-- a row, or none -/
def RowP (w : World) (W H : Int) (n : Nat) (zs : List Int) (y : Int) (e : Ending) (w' : World) : Prop :=
  Below w.heap.size w w' ∧ ((someI W H n y = true ∧ ∃ q, e = .returned (.tuple #[.slice q W.toNat W.toNat, .int .i64 0]) ∧ VRow w' w'.heap.size q (ints ((zs.drop (y.toNat * W.toNat)).take W.toNat))) ∨ (someI W H n y = false ∧ e = .returned (.tuple #[.slice none 0 0, .int .i64 1])))
theorem row_any (W H : Int) (p : Option Addr) (n c : Nat) (zs : List Int) (y : Int) (w : World) (hr : VRow w w.heap.size p (ints zs)) (hx : zs.length = n) (hc : n ≤ c) :
    Calls Try.prog 14 #[.agg #[.int .i64 W, .int .i64 H, .slice p n c], .int .i64 y] w (RowP w W H n zs y) := by
  obtain ⟨w1, hw1, HB1, HX1, hz1⟩ := box1 26 w (.int .i64 W) (.int .i64 H) (.slice p n c)
  have HHS := Lib.hid (right_any W H p n c w1)
  have HW := Lib.hid hw1
  by_cases h : rightI W H n = true
  case neg =>
    have h0 : rightI W H n = false := by simpa using h
    have HS : Hid (someI W H n y = false) := Lib.hid (by rw [someI, h0]; rfl)
    rw [h0] at HHS
    clear h h0 hr hx hc hw1 hz1
    go_enter Try.func14, Try.ntmps14
    go_wp2_with fail
    rw [← HW.out]
    refine HHS.out.mono ?_
    rintro e w' ⟨rfl, hb⟩
    have HB2 := Lib.hid (HB1.out.trans (hb.mono HB1.out.size))
    clear hb
    go_wp2_with fail
    go_ret2
    exact ⟨HB2.out, .inr ⟨HS.out, rfl⟩⟩
  by_cases hy0 : y < 0
  case pos =>
    have HS : Hid (someI W H n y = false) := Lib.hid (by rw [someI, decide_eq_false (fun q => by omega), Bool.and_false])
    have d1 : decide (y < 0) = true := by simpa using hy0
    rw [h] at HHS
    clear h hr hx hc hw1 hz1 hy0
    go_enter Try.func14, Try.ntmps14
    go_wp2_with fail
    rw [← HW.out]
    refine HHS.out.mono ?_
    rintro e w' ⟨rfl, hb⟩
    have HB2 := Lib.hid (HB1.out.trans (hb.mono HB1.out.size))
    clear hb
    go_wp2_with fail
    go_ret2
    exact ⟨HB2.out, .inr ⟨HS.out, rfl⟩⟩
  by_cases hy1 : H ≤ y
  case pos =>
    have HS : Hid (someI W H n y = false) := Lib.hid (by rw [someI, decide_eq_false (fun q => by omega), Bool.and_false])
    have d1 : decide (y < 0) = false := by simpa using hy0
    have d2 : decide (H ≤ y) = true := by simpa using hy1
    rw [h] at HHS
    clear h hr hx hc hw1 hz1 hy0 hy1
    go_enter Try.func14, Try.ntmps14
    go_wp2_with fail
    rw [← HW.out]
    refine HHS.out.mono ?_
    rintro e w' ⟨rfl, hb⟩
    have HB2 := Lib.hid (HB1.out.trans (hb.mono HB1.out.size))
    obtain ⟨k0, k1, k2⟩ := (HX1.out.go hb).cells
    clear hb
    go_wp2_with fail
    go_ret2
    exact ⟨HB2.out, .inr ⟨HS.out, rfl⟩⟩
  have hyy : 0 ≤ y ∧ y < H := ⟨by omega, by omega⟩
  have hs : someI W H n y = true := by rw [someI, h, decide_eq_true hyy]; rfl
  rw [h] at HHS
  obtain ⟨a, b, rfl, rfl, hn, hm, ha, hb⟩ := right_nat h
  obtain ⟨j, rfl⟩ : ∃ j : Nat, y = (j : Int) := ⟨y.toNat, by omega⟩
  have hjb : j < b := by omega
  have d1 : decide ((j : Int) < 0) = false := by simp
  have d2 : decide (b ≤ j) = false := by simpa using hjb
  have HS := Lib.hid hs
  have hln : j * a + a ≤ n := by
    rw [← hn, Nat.mul_comm a b]
    have := Nat.mul_le_mul_right a (show j + 1 ≤ b from hjb)
    rw [Nat.succ_mul] at this
    exact this
  obtain ⟨m, hm2⟩ : ∃ m, m = j * a := ⟨_, rfl⟩
  have HM := Lib.hid hm2
  rw [← hm2] at hln
  have HLN := Lib.hid (fun w => line_any a (b : Int) p n c j w (by rw [← hm2]; omega) ha (by rw [← hm2]; omega) (by omega))
  rw [← hm2] at HLN
  have HR := Lib.hid (mid_v (p := p) c m a hr (by omega))
  have HL : Hid (((zs.drop m).take a).length = a) := Lib.hid (by rw [List.length_take, List.length_drop]; omega)
  clear h hs hr hx hc hw1 hz1 hy0 hy1 hyy hjb hln hm2 hn hm hb
  go_enter Try.func14, Try.ntmps14
  go_wp2_with fail
  rw [← HW.out]
  refine HHS.out.mono ?_
  rintro e w' ⟨rfl, hb'⟩
  have HB2 := Lib.hid (HB1.out.trans (hb'.mono HB1.out.size))
  obtain ⟨k0, k1, k2⟩ := (HX1.out.go hb').cells
  clear hb' HW HX1 HHS
  go_wp2_with fail
  refine (HLN.out _).mono ?_
  rintro e w3 ⟨rfl, hb3⟩
  have HB3 := Lib.hid (HB2.out.trans (hb3.mono HB2.out.size))
  have HCP := Lib.hid (copyOf_any (tailA p c m) a (c - m) _ w3 ((HR.out.below HB3.out (Nat.le_refl _)).mono HB3.out.size) HL.out (by omega))
  clear hb3 k0 k1 k2
  go_wp2_with fail
  refine HCP.out.mono ?_
  rintro e w4 ⟨rfl, ho⟩
  have HO := Lib.hid (ow_mono ho HB3.out)
  clear ho
  go_wp2_with fail
  go_ret2
  refine ⟨HO.out.1, .inl ⟨HS.out, _, rfl, ?_⟩⟩
  have := HO.out.row
  rw [Int.toNat_natCast, Int.toNat_natCast, ← HM.out]
  exact this
end Go.Proofs.Ytjecakkdongcoaa.Gr

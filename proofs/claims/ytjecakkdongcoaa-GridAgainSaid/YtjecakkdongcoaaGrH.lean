
/- Contracts of the document's answer: Cut. -/
import Derived.Test.YtjecakkdongcoaaGrG
namespace Go.Proofs.Ytjecakkdongcoaa.Gr
open Go.RowKit Go.Proofs.Ytjecakkdongcoaa.Oct
open Go.Proofs.Ytjecakkdongcoaa.Lp (VRow Only ints ints_length ints_append ints_one vrow_blk vrow_own blk_set blk_far blk_frozen)
open Go.Proofs.Ytjecakkdongcoaa.Gd (canG cutG cutG_length cutG_cells)
open Go.Proofs.Ytjecakkdongcoaa.Fm (Ow)
set_option linter.unusedVariables false
set_option linter.unusedSimpArgs false
set_option maxRecDepth 100000

/-- the document's part, or none -/
def RCutP (w : World) (W H : Int) (n : Nat) (zs : List Int) (X Y w' h' : Int) (e : Ending) (wr : World) : Prop :=
  Below w.heap.size w wr ∧ (((hasI W H n X Y && canG w' h') = true ∧ ∃ q c, e = .returned (.tuple #[.agg #[.int .i64 w', .int .i64 h', .slice q (w' * h').toNat c], .int .i64 0]) ∧ VRow wr wr.heap.size q (ints (cutG W.toNat H.toNat zs 0 X.toNat Y.toNat w'.toNat h'.toNat))) ∨
  ((hasI W H n X Y && canG w' h') = false ∧ e = .returned (.tuple #[.agg #[.int .i64 0, .int .i64 0, .slice none 0 0], .int .i64 1])))
theorem own_in {w w' : World} {base e n B : Nat} {v : Value} {cs : List Value} (h : w.ownsRow base e 1 v n cs) (hb : Below B w w') (hB : ∀ g, v.ownBlock = some g → g < B) : w'.ownsRow base e 1 v n cs := by
  refine ⟨h.1, ?_⟩
  rcases h.2 with ⟨h1, h2⟩ | ⟨g, cap, cur, h1, h2, h3, h4⟩
  · exact .inl ⟨h1, h2⟩
  · exact .inr ⟨g, cap, cur, h1, h2, (hb.block g (hB g (by rw [h1]; rfl))).trans h3, h4⟩
theorem div_facts {k w : Nat} (hw : 0 < w) : ((k : Int).tmod (w : Int)) = ((k % w : Nat) : Int) ∧ ((k : Int).tdiv (w : Int)) = ((k / w : Nat) : Int) := ⟨Int.ofNat_tmod k w ▸ rfl, Int.ofNat_tdiv k w ▸ rfl⟩
theorem coord (x xi a : Nat) (hx : x < a) (ha : a ≤ 4194304) (hi : xi ≤ 4194304) : ∃ xm : Nat, min (x + xi) (a - 1) = xm ∧ xm < a ∧
    Hid ((decide (a ≤ xm) = false ∧ (x : Int) + (xi : Int) = (xm : Int) ∧ wrap64 ((x : Int) + (xi : Int)) = (xm : Int)) ∨
     (∃ X1 : Nat, decide (a ≤ X1) = true ∧ (x : Int) + (xi : Int) = (X1 : Int) ∧ wrap64 ((x : Int) + (xi : Int)) = (X1 : Int) ∧ (a : Int) - 1 = (xm : Int) ∧ wrap64 ((a : Int) - 1) = (xm : Int))) := by
  by_cases h : a ≤ x + xi
  · refine ⟨a - 1, by omega, by omega, Lib.hid (.inr ⟨x + xi, by simpa using h, by omega, ?_, by omega, ?_⟩)⟩
    · unfold wrap64; omega
    · unfold wrap64; omega
  · refine ⟨x + xi, by omega, by omega, Lib.hid (.inl ⟨by simpa using h, by omega, ?_⟩)⟩
    unfold wrap64; omega
/-- a row elsewhere stays where one cell is stored -/
theorem vrow_far {w : World} {q : Option Addr} {vs : List Value} {g i : Nat} (h : VRow w w.heap.size q vs) (hg : ∀ a, q = some a → g ≠ a.block) (v : Value) : VRow (w.setCell ⟨g, i, none⟩ v) (w.setCell ⟨g, i, none⟩ v).heap.size q vs := by
  intro hp
  obtain ⟨b, off, e, hb, hc⟩ := h hp
  have hne := hg _ e
  refine ⟨b, off, e, by simpa [World.setCell] using hb, fun j hj => ?_⟩
  rw [World.cell?_setCell_other _ _ _ _ (by intro h; injection h with h1; exact hne h1)]
  exact hc j hj
theorem wr_small (z c : Int) (e : z = c) (h0 : 0 ≤ c) (h1 : c ≤ 1000000000) : wrap64 z = c := by
  subst e
  unfold wrap64
  omega
theorem wr_wrap (z c : Int) (e : z = c) (h0 : 0 ≤ c) (h1 : c ≤ 1000000000) : IntKind.i64.wrap z = c := by
  subst e
  rw [IntKind.wrap_i64]
  omega
set_option maxHeartbeats 16000000 in
theorem rcut_any (W H : Int) (p : Option Addr) (n c : Nat) (zs : List Int) (X Y wd ht : Int) (w : World) (hr : VRow w w.heap.size p (ints zs)) (hx : zs.length = n) :
    Calls Try.prog 24 #[.agg #[.int .i64 W, .int .i64 H, .slice p n c], .agg #[.int .i64 X, .int .i64 Y, .int .i64 wd, .int .i64 ht]] w (RCutP w W H n zs X Y wd ht) := by
  obtain ⟨w1, hw1, HB1, HX1, hz1⟩ := box1 28 w (.int .i64 W) (.int .i64 H) (.slice p n c)
  obtain ⟨w2, hw2, HB2, HX2, hz2⟩ := box4 52 w1 (.int .i64 X) (.int .i64 Y) (.int .i64 wd) (.int .i64 ht)
  obtain ⟨w3, hw3, HB3, HX3, hz3⟩ := box1 28 w2 (.int .i64 0) (.int .i64 0) (.slice none 0 0)
  rw [hz2, hz1] at HX3
  rw [hz1] at HX2
  rw [hw2, hw1] at hw3
  have HW3 := Lib.hid hw3
  have HBE := Lib.hid (HB1.out.trans ((HB2.out.trans (HB3.out.mono HB2.out.size)).mono HB1.out.size))
  have HA := Lib.hid (HX1.out.go (HB2.out.trans (HB3.out.mono HB2.out.size)))
  have HR4 := Lib.hid (HX2.out.go HB3.out)
  have HSZ : Hid (w3.heap.size = w.heap.size + 3) := Lib.hid (by omega)
  have HHS := Lib.hid (fun w => rhas_any W H p n c X Y w)
  have HCA := Lib.hid (fun w => rcan_any wd ht w)
  have k4 := HR4.out.cells
  have k1 := HA.out.cells
  have k0 := HX3.out.cells
  have f := HX3.out.fz
  have f0 := f 0
  have f1 := f 1
  have f2 := f 2
  rw [hw3] at k4 k1 k0 f0 f1 f2
  obtain ⟨r0, r1, r2, r3⟩ := k4
  obtain ⟨a0, a1, a2⟩ := k1
  obtain ⟨j0, j1, j2⟩ := k0
  clear hw1 hz1 hw2 hz2 hw3 hz3 HB1 HX1 HB2 HX2 HB3 f
  by_cases hcn : canG wd ht = true
  case neg =>
    have h0 : canG wd ht = false := by simpa using hcn
    have HQ : Hid ((hasI W H n X Y && canG wd ht) = false) := Lib.hid (by rw [h0, Bool.and_false])
    rw [h0] at HCA
    have HX4 := Lib.hid (HX3.out.put (.int .i64 0) (.int .i64 0) (.slice none 0 0))
    have HB4 := Lib.hid (((HBE.out.setCell (p := ⟨w.heap.size + 2, 0, none⟩) (by show _ ≤ w.heap.size + 2; omega) (.int .i64 0)).setCell (p := ⟨w.heap.size + 2, 1, none⟩) (by show _ ≤ w.heap.size + 2; omega) (.int .i64 0)).setCell (p := ⟨w.heap.size + 2, 2, none⟩) (by show _ ≤ w.heap.size + 2; omega) (.slice none 0 0))
    clear h0 hcn hr hx
    go_enter Try.func24, Try.ntmps24
    go_wp2_with fail
    rw [← HW3.out]
    refine (HCA.out _).mono ?_
    rintro e w4 ⟨rfl, rfl⟩
    rw [HW3.out]
    go_wp2_with fail
    try rw [← HW3.out]
    refine bodyPost_ret (res_two Try.underlying28 size_gr rfl _ _ (w.heap.size + 2) _ _ _ rfl HX3.out) rfl ?_
    exact ⟨HBE.out, .inr ⟨HQ.out, rfl⟩⟩
  rw [hcn] at HCA
  by_cases h : hasI W H n X Y = true
  case neg =>
    have h0 : hasI W H n X Y = false := by simpa using h
    have HQ : Hid ((hasI W H n X Y && canG wd ht) = false) := Lib.hid (by rw [h0]; rfl)
    rw [h0] at HHS
    clear h h0 hr hx hcn
    go_enter Try.func24, Try.ntmps24
    go_wp2_with fail
    refine (HCA.out _).mono ?_
    rintro e w4 ⟨rfl, rfl⟩
    go_wp2_with fail
    rw [← HW3.out]
    refine (HHS.out _).mono ?_
    rintro e w4 ⟨rfl, hb⟩
    have hx4 := HX3.out.go hb
    have HX4 := Lib.hid (hx4.put (.int .i64 0) (.int .i64 0) (.slice none 0 0))
    have HB4 := Lib.hid ((((HBE.out.trans (hb.mono HBE.out.size)).setCell (p := ⟨w.heap.size + 2, 0, none⟩) (by show _ ≤ w.heap.size + 2; omega) (.int .i64 0)).setCell (p := ⟨w.heap.size + 2, 1, none⟩) (by show _ ≤ w.heap.size + 2; omega) (.int .i64 0)).setCell (p := ⟨w.heap.size + 2, 2, none⟩) (by show _ ≤ w.heap.size + 2; omega) (.slice none 0 0))
    obtain ⟨j0, j1, j2⟩ := hx4.cells
    have f := hx4.fz
    have f0 := f 0
    have f1 := f 1
    have f2 := f 2
    clear hb f hx4
    go_wp2_with fail
    refine bodyPost_ret (res_two Try.underlying28 size_gr rfl _ _ (w.heap.size + 2) _ _ _ rfl HX4.out) rfl ?_
    exact ⟨HB4.out, .inr ⟨HQ.out, rfl⟩⟩
  have HQ : Hid ((hasI W H n X Y && canG wd ht) = true) := Lib.hid (by rw [h, hcn]; rfl)
  rw [h] at HHS
  obtain ⟨a, b, x, y, rfl, rfl, rfl, rfl, hn, hm, ha, hb, hxa, hyb⟩ := has_nat h
  obtain ⟨hw0, hw1, hh0, hh1, hwh, _, _⟩ := can_parts hcn
  obtain ⟨ww, rfl⟩ : ∃ ww : Nat, wd = (ww : Int) := ⟨wd.toNat, by omega⟩
  obtain ⟨hh, rfl⟩ : ∃ hh : Nat, ht = (hh : Int) := ⟨ht.toNat, by omega⟩
  have hL : zs.length = a * b := by rw [hx, hn]
  obtain ⟨nn, hnn⟩ : ∃ nn : Nat, nn = ww * hh := ⟨_, rfl⟩
  have hni : (ww : Int) * (hh : Int) = (nn : Int) := by rw [hnn, Int.natCast_mul]
  rw [hni] at hwh
  have hn4 : nn ≤ 4194304 := by omega
  have HR := Lib.hid hr
  have HLL := Lib.hid hL
  have HNN := Lib.hid hnn
  have HNI := Lib.hid hni
  have HMW : Hid (wrap64 ((ww : Int) * (hh : Int)) = (nn : Int)) := Lib.hid (by rw [hni]; unfold wrap64; omega)
  clear h hr hx hwh hL hcn hni hnn
  go_enter Try.func24, Try.ntmps24
  go_wp2_with fail
  refine (HCA.out _).mono ?_
  rintro e w4 ⟨rfl, rfl⟩
  go_wp2_with fail
  rw [← HW3.out]
  refine (HHS.out _).mono ?_
  rintro e w4 ⟨rfl, hb4⟩
  have HB4 := Lib.hid (HBE.out.trans (hb4.mono HBE.out.size))
  have HY4 := Lib.hid (HR4.out.go hb4)
  have HX4 := Lib.hid (HX3.out.go hb4)
  have HA4 := Lib.hid (HA.out.go hb4)
  have HS4 : Hid (w.heap.size + 3 ≤ w4.heap.size) := Lib.hid (by rw [← HSZ.out]; exact hb4.size)
  obtain ⟨w6, hw6, HB6, HX6, hz6⟩ := box1 28 w4 (.int .i64 (ww : Int)) (.int .i64 (hh : Int)) (.slice none 0 0)
  have HS : Hid (RcS w w6.heap.size w4.heap.size (.int .i64 (a : Int)) (.int .i64 (b : Int)) (.slice p n c) (.cells #[.int .i64 (x : Int), .int .i64 (y : Int), .int .i64 (ww : Int), .int .i64 (hh : Int)] 52 (0, 0)) (.int .i64 (ww : Int)) (.int .i64 (hh : Int)) (.slice none 0 0) 0 [] w6) := Lib.hid
    ⟨HB4.out.trans (HB6.out.mono HB4.out.size), HA4.out.go HB6.out, HY4.out.go HB6.out, HX4.out.go HB6.out, HX6.out, World.ownsRow_nil w6 w6.heap.size 3 1, by have := HS4.out; omega, by omega, Nat.le_refl _⟩
  have HW6 := Lib.hid hw6
  obtain ⟨r0, r1, r2, r3⟩ := HY4.out.cells
  clear hb4 HX3 HR4 HA HHS HBE HW3 a0 a1 a2 j0 j1 j2 f0 f1 f2 HB4 HX4 HA4 hw6 hz6 HX6 HB6
  go_wp2_with fail
  rw [← HW6.out]
  generalize w6.heap.size = B at HS
  go_loopw [7, 8, 9] (fun i s8 s9 wr => ∃ (k : Nat) (v : Value), k ≤ nn ∧ i = .int .i64 (k : Int) ∧ Hid (RcS w B w4.heap.size (.int .i64 (a : Int)) (.int .i64 (b : Int)) (.slice p n c) (.cells #[.int .i64 (x : Int), .int .i64 (y : Int), .int .i64 (ww : Int), .int .i64 (hh : Int)] 52 (0, 0)) (.int .i64 (ww : Int)) (.int .i64 (hh : Int)) v k ((cutG a b zs 0 x y ww hh).take k) wr)) (fun i _ _ _ => nn - (intOf i).toNat)
  case atStart => exact ⟨0, _, Nat.zero_le _, rfl, by rw [List.take_zero]; exact HS⟩
  case round =>
    clear HS r0 r1 r2 r3
    obtain ⟨k, v, hk, rfl, HS⟩ := hrel
    obtain ⟨a0, a1, a2⟩ := HS.out.b2.cells
    obtain ⟨r0, r1, r2, r3⟩ := (show Bx4 52 wr (w.heap.size + 1) _ _ _ _ from HS.out.b3).cells
    obtain ⟨p0, p1, p2⟩ := HS.out.b6.cells
    have qm := HMW.out
    have qm2 := HNI.out
    by_cases hlt : k < nn
    · have hww : 0 < ww := by
        rcases Nat.eq_zero_or_pos ww with e | e
        · rw [HNN.out, e, Nat.zero_mul] at hlt; omega
        · exact e
      have ql : decide ((k : Int) < (nn : Int)) = true := by simpa using hlt
      have HED := Lib.hid (div_facts (k := k) hww)
      have hxi : k % ww < ww := Nat.mod_lt _ hww
      have hyi : k / ww ≤ k := Nat.div_le_self _ _
      have HG := Lib.hid (cutG_cells a b zs 0 x y ww hh k (by rw [← HNN.out]; exact hlt))
      obtain ⟨xm, hxm, hxa2, HXC⟩ := coord x (k % ww) a hxa ha (by omega)
      obtain ⟨ym, hym, hyb2, HYC⟩ := coord y (k / ww) b hyb hb (by omega)
      rw [hxm, hym] at HG
      have hpl := Gd.place_lt hxa2 hyb2
      have hlen : ((cutG a b zs 0 x y ww hh).take k).length = k := by rw [List.length_take, cutG_length, ← HNN.out]; omega
      have hym2 : (ym : Int) * (a : Int) = ((ym * a : Nat) : Int) := by push_cast; rfl
      generalize hmm : ym * a = m at *
      have hid1 : m + xm < zs.length := by rw [HLL.out]; exact hpl
      obtain ⟨bb, off, hq, hbl, hcell⟩ := vrow_int HR.out (m + xm) hid1
      obtain ⟨z, hz⟩ : ∃ z, z = zs[m + xm] := ⟨_, rfl⟩
      rw [← hz] at hcell
      have hgd : zs.getD (m + xm) 0 = z := by rw [List.getD_eq_getElem?_getD, List.getElem?_eq_getElem hid1, hz]; rfl
      rw [hgd] at HG
      have HCE : Hid (∀ V, Below w.heap.size w V → V.cell? ⟨bb, off + (m + xm), none⟩ = some (.int .i64 z)) := Lib.hid (fun V hV => (hV.cell (p := ⟨bb, off + (m + xm), none⟩) hbl).trans hcell)
      have i1 : (0 : Int) ≤ ((m + xm : Nat) : Int) := by omega
      have i2 : ((m + xm : Nat) : Int) < (n : Int) := by rw [HLL.out] at hid1; omega
      have u2 : (m : Int) + (xm : Int) = ((m + xm : Nat) : Int) := by push_cast; rfl
      have b1 : (m : Int) ≤ 1000000000 := by omega
      have b2 : ((m + xm : Nat) : Int) ≤ 1000000000 := by omega
      have b3 : (0 : Int) ≤ (m : Int) := by omega
      have V1 : Hid (IntKind.i64.wrap (m : Int) = (m : Int)) := Lib.hid (wr_wrap _ _ rfl b3 b1)
      have V2 : Hid (IntKind.i64.wrap ((m + xm : Nat) : Int) = ((m + xm : Nat) : Int)) := Lib.hid (wr_wrap _ _ rfl i1 b2)
      have w0 : ¬ (ww : Int) = 0 := by omega
      have w1 : ((ww : Int) == 0) = false := by simp; omega
      have w2 : ww ≠ 0 := by omega
      have hk5 : k ≤ 5000000 := by omega
      have hs0 := HS.out.ne
      clear b1 b2 b3
      subst hq
      generalize hid : m + xm = id at *
      clear hxm hym hpl hid1 hcell hz hgd hmm hid hbl hn
      obtain ⟨em, ed⟩ := HED.out
      generalize k % ww = xi at *
      generalize k / ww = yi at *
      have c0 := HCE.out wr.drew (HS.out.bel.trans ((show Drawn wr wr.drew from ⟨1, rfl⟩).below _))
      rcases HXC.out with ⟨d1, e1, e2⟩ | ⟨X1, d1, e1, e2, e3, e4⟩ <;> rcases HYC.out with ⟨d2, e5, e6⟩ | ⟨Y1, d2, e5, e6, e7, e8⟩
      all_goals clear HXC HYC
      all_goals (try clear e2)
      all_goals (try clear e4)
      all_goals (try clear e6)
      all_goals (try clear e8)
      all_goals go_wp2_with fail
      all_goals go_quiet (fail)
      all_goals go_wp2_with fail
      all_goals
        generalize hWQ : wr.drewN _ = wq
        have hd0 : Drawn wr wq := ⟨_, hWQ.symm⟩
        have HSD := Lib.hid ((HS.out.go (hd0.below wr.heap.size)).go ((show Drawn wq wq.drew from ⟨1, rfl⟩).below wq.heap.size))
        have c1 := HCE.out wq.drew HSD.out.bel
        have v1 := V1.out
        have v2 := V2.out
        clear hd0 hWQ
        have HS9 : Hid (RcS w B w4.heap.size (.int .i64 (a : Int)) (.int .i64 (b : Int)) (.slice (some ⟨bb, off, none⟩) n c) (.cells #[.int .i64 (x : Int), .int .i64 (y : Int), .int .i64 (ww : Int), .int .i64 (hh : Int)] 52 (0, 0)) (.int .i64 (ww : Int)) (.int .i64 (hh : Int)) v k ((cutG a b zs 0 x y ww hh).take k) (wq.alloc (.cells #[.int .i64 z] 3)).drew) :=
          Lib.hid (HSD.out.go (show Below wq.drew.heap.size wq.drew (wq.drew.alloc (.cells #[.int .i64 z] 3)) from (Below.refl _ _).alloc (Nat.le_refl _) _))
        have c2 := HCE.out _ HS9.out.bel
        have p8 := HSD.out.b6.cells.2.2
        have p9 := HS9.out.b6.cells.2.2
        refine wp_region_held_drew (S := fun V => (V.cell? ⟨w.heap.size, 0, none⟩ = some (.int .i64 (a : Int)) ∧ V.cell? ⟨w.heap.size, 2, none⟩ = some (.slice (some ⟨bb, off, none⟩) n c)) ∧ V.cell? ⟨bb, off + id, none⟩ = some (.int .i64 z)) (by kernel_rfl) ⟨⟨HSD.out.b2.cells.1, HSD.out.b2.cells.2.2⟩, c1⟩ (fun hHeld => ?_)
        refine jt 0 ?_
        refine jt 2 ?_
        refine jt 3 ?_
        refine jt 4 ?_
        refine jt 5 ?_
        refine jt 6 ?_
        refine jt 7 ?_
        refine jt 8 ?_
        refine jt 9 ?_
        refine jt 10 ?_
        refine jt 11 ?_
        apply jz2 1 12 (by kernel_rfl) rfl rfl
        · intro HT K hK
          go_simp
          refine hK.out _ _ hHeld (fun _ => ?_)
          clear hK K
          try simp only [Act.put, jA, jB, jC, jD, jE, jF]
          refine js 12 (fun K hK => ?_)
          go_simp
          refine hK.out _ _ ⟨⟨HS9.out.b2.cells.1, HS9.out.b2.cells.2.2⟩, c2⟩ (fun _ => ?_)
          clear hK K
          try simp only [Act.put, jA, jB, jC, jD, jE, jF]
          exact HT
        · intro HT K hK
          go_simp
          refine hK.out _ _ ⟨⟨HS9.out.b2.cells.1, HS9.out.b2.cells.2.2⟩, c2⟩ (fun hH => ?_)
          clear hK K
          try simp only [Act.put, jA, jB, jC, jD, jE, jF]
          refine js 1 (fun K hK => ?_)
          go_simp
          refine hK.out _ _ hH (fun _ => ?_)
          clear hK K
          try simp only [Act.put, jA, jB, jC, jD, jE, jF]
          exact HT _ (by kernel_rfl)
        have c9 : (wq.alloc (.cells #[.int .i64 z] 3)).drew.cell? ⟨wq.heap.size, 0, none⟩ = some (.int .i64 z) := blk_cell (W := (wq.alloc (.cells #[.int .i64 z] 3)).drew) (vs := [.int .i64 z]) (show (wq.heap.push _)[wq.heap.size]? = _ from Array.getElem?_push_size) (by simp)
        clear hHeld p8 p9 c1
        generalize (wq.alloc (.cells #[.int .i64 z] 3)).drew = W9 at *
        refine js 13 (fun K hK => ?_)
        refine step_app rfl (.tmp 69) (.tmp 80) rfl B v k _ rfl HS9.out.own _ z rfl c9 hk5 HS9.out.ne.2.2 ?_
        intro v5 w5 HO5 HB5
        obtain ⟨q5, c5, hv5, -⟩ := vrow_own HO5.out (by rw [ints_length, List.length_append, hlen]; rfl)
        subst hv5
        have HS5 := Lib.hid (HS9.out.app HB5.out HO5.out)
        have hB2 : ∀ i, i < B → w5.heap[i]? = W9.heap[i]? := fun i hi => HB5.out.block i hi
        have hn5 := HS9.out.ne
        have hb5 : Below w.heap.size w w5 := HS9.out.bel.trans (HB5.out.mono (by omega))
        have x2 : Bx 28 w5 w.heap.size _ _ _ := (hB2 _ (by omega)).trans HS9.out.b2
        have x6 : Bx 28 w5 w4.heap.size _ _ _ := (hB2 _ hn5.2.1).trans HS9.out.b6
        refine hK.out _ _ ⟨⟨x2.cells.1, x2.cells.2.2⟩, HCE.out w5 hb5⟩ (fun hH2 => ?_)
        have y2 := x6.cells.2.2
        have y3 := x6.fz 2
        have hcc := HCE.out (w5.setCell ⟨w4.heap.size, 2, none⟩ (.slice q5 (k + 1) c5)) HS5.out.bel
        clear hK K hB2 hn5 hb5 x2 x6
        try simp only [Act.put, jA, jB, jC, jD, jE, jF]
        refine jt 14 ?_
        refine js 15 (fun K hK => ?_)
        go_simp
        refine hK.out _ _ ⟨⟨HS5.out.b2.cells.1, HS5.out.b2.cells.2.2⟩, hcc⟩ (fun hH3 => ?_)
        clear hK K hH2 y2 y3 hcc
        try simp only [Act.put, jA, jB, jC, jD, jE, jF]
        refine wpAnyH_done (by kernel_rfl) ?_ _
        clear hH3 v1 v2
        rw [← HG.out] at HS5
        clear HG
        go_wp2_with fail
        go_roundw
        case rel => exact ⟨k + 1, .slice q5 (k + 1) c5, by omega, by go_num, HS5⟩
        case measure => simp [intOf]; omega
    · obtain rfl : k = nn := by omega
      have ql : decide ((k : Int) < (k : Int)) = false := by simp
      have hS := HS.out
      have hL2 : (cutG a b zs 0 x y ww hh).take k = cutG a b zs 0 x y ww hh := List.take_of_length_le (by rw [cutG_length, HNN.out]; exact Nat.le_refl _)
      rw [hL2] at hS
      obtain ⟨q, c2, hv, _, _, _, hrow, hbl⟩ := vrow_own hS.own (by rw [ints_length, cutG_length, HNN.out])
      subst hv
      obtain ⟨q0, q1, q2⟩ := hS.b6.cells
      have hX4 := hS.b4
      have hne := hS.ne
      obtain ⟨j0, j1, j2⟩ := hX4.cells
      have f := hX4.fz
      have f0 := f 0
      have f1 := f 1
      have f2 := f 2
      have HR2 := Lib.hid (hX4.put (.int .i64 (ww : Int)) (.int .i64 (hh : Int)) (.slice q k c2))
      have HB2 := Lib.hid (((hS.bel.setCell (p := ⟨w.heap.size + 2, 0, none⟩) (by show _ ≤ w.heap.size + 2; omega) (.int .i64 (ww : Int))).setCell (p := ⟨w.heap.size + 2, 1, none⟩) (by show _ ≤ w.heap.size + 2; omega) (.int .i64 (hh : Int))).setCell (p := ⟨w.heap.size + 2, 2, none⟩) (by show _ ≤ w.heap.size + 2; omega) (.slice q k c2))
      have HV := Lib.hid (vrow_far (i := 2) (vrow_far (i := 1) (vrow_far (i := 0) hrow (fun a0 h => by have := hbl a0 h; show w.heap.size + 2 ≠ _; omega) (.int .i64 (ww : Int))) (fun a0 h => by have := hbl a0 h; show w.heap.size + 2 ≠ _; omega) (.int .i64 (hh : Int))) (fun a0 h => by have := hbl a0 h; show w.heap.size + 2 ≠ _; omega) (.slice q k c2))
      clear hbl hrow
      clear hS hX4 hne f HS hk hlt p0 p1 p2
      go_wp2_with fail
      refine bodyPost_ret (res_two Try.underlying28 size_gr rfl _ _ (w.heap.size + 2) _ _ _ rfl HR2.out) rfl ?_
      refine ⟨HB2.out, .inl ⟨HQ.out, q, c2, by rw [HNI.out]; rfl, ?_⟩⟩
      exact HV.out
end Go.Proofs.Ytjecakkdongcoaa.Gr

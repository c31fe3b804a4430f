
/- Contracts of the document's answer: Paste. -/
import Derived.Test.YtjecakkdongcoaaGrT
import Derived.Test.YtjecakkdongcoaaGrH
namespace Go.Proofs.Ytjecakkdongcoaa.Gr
open Go.RowKit Go.Proofs.Ytjecakkdongcoaa.Oct
open Go.Proofs.Ytjecakkdongcoaa.Lp (VRow Only ints ints_length ints_append ints_one vrow_blk vrow_own blk_set blk_far blk_frozen)
open Go.Proofs.Ytjecakkdongcoaa.Gd (canG pasteG pasteG_length)
open Go.Proofs.Ytjecakkdongcoaa.Fm (Ow)
set_option linter.unusedVariables false
set_option linter.unusedSimpArgs false
set_option maxRecDepth 100000

/-- a cell more of a grid with another one over it -/
theorem pasteG_cells (W : Nat) (L : List Int) (w h : Nat) (P : List Int) (x y k : Nat) (hk : k < L.length) : (pasteG W L 0 w h P x y).take (k + 1) = (pasteG W L 0 w h P x y).take k ++ [if x ≤ k % W ∧ y ≤ k / W ∧ k % W - x < w ∧ k / W - y < h then P.getD ((k / W - y) * w + (k % W - x)) 0 else L.getD k 0] := by
  have hl : k < (pasteG W L 0 w h P x y).length := by rw [pasteG_length]; exact hk
  rw [List.take_succ_eq_append_getElem hl]
  congr 2
  simp [pasteG]
theorem getD_eq {L : List Int} {k : Nat} (hk : k < L.length) : L.getD k 0 = L[k] := by
  rw [List.getD_eq_getElem?_getD, List.getElem?_eq_getElem hk]; rfl
/-- the document's answer to Paste: a row of numbers, and an error -/
def RPaP (w : World) (W H : Int) (n : Nat) (Z : List Int) (er : Int) (e : Ending) (wr : World) : Prop :=
  Below w.heap.size w wr ∧ ∃ q c, e = .returned (.tuple #[.agg #[.int .i64 W, .int .i64 H, .slice q n c], .int .i64 er]) ∧ VRow wr wr.heap.size q (ints Z)
/-- a row stays where a result is stored -/
theorem put3_v {w : World} {B : Nat} {q : Option Addr} {vs : List Value} {G : Nat} (h : VRow w B q vs) (hB : B ≤ w.heap.size) (hg : ∀ a, q = some a → a.block ≠ G) (a b c : Value) : VRow (((w.setCell ⟨G, 0, none⟩ a).setCell ⟨G, 1, none⟩ b).setCell ⟨G, 2, none⟩ c) (((w.setCell ⟨G, 0, none⟩ a).setCell ⟨G, 1, none⟩ b).setCell ⟨G, 2, none⟩ c).heap.size q vs :=
  vrow_far (vrow_far (vrow_far (h.mono hB) (fun a0 e => (hg a0 e).symm) a) (fun a0 e => (hg a0 e).symm) b) (fun a0 e => (hg a0 e).symm) c
set_option maxHeartbeats 16000000 in
theorem rpaste_any (W H : Int) (q1 : Option Addr) (n c1 : Nat) (zs : List Int) (W2 H2 : Int) (q2 : Option Addr) (n2 c2 : Nat) (zs2 : List Int) (X Y : Int) (w : World)
    (hr1 : VRow w w.heap.size q1 (ints zs)) (hx1 : zs.length = n) (hr2 : VRow w w.heap.size q2 (ints zs2)) (hx2 : zs2.length = n2) :
    Calls Try.prog 26 #[.agg #[.int .i64 W, .int .i64 H, .slice q1 n c1], .agg #[.int .i64 W2, .int .i64 H2, .slice q2 n2 c2], .int .i64 X, .int .i64 Y] w
      (RPaP w W H n (if pasI W H n W2 H2 n2 X Y then pasteG W.toNat zs 0 W2.toNat H2.toNat zs2 X.toNat Y.toNat else zs) (if pasI W H n W2 H2 n2 X Y then 0 else 1)) := by
  obtain ⟨w2, hw2, HB2, HX2, HY2, hz2⟩ := box2 28 28 w (.int .i64 W) (.int .i64 H) (.slice q1 n c1) (.int .i64 W2) (.int .i64 H2) (.slice q2 n2 c2)
  obtain ⟨w3, hw3, HB3, HX3, hz3⟩ := box1 28 w2 (.int .i64 0) (.int .i64 0) (.slice none 0 0)
  rw [hz2] at HX3
  rw [hw2] at hw3
  have HW3 := Lib.hid hw3
  have HBE := Lib.hid (HB2.out.trans (HB3.out.mono HB2.out.size))
  have HA := Lib.hid (HX2.out.go HB3.out)
  have HP3 := Lib.hid (HY2.out.go HB3.out)
  have HSZ : Hid (w3.heap.size = w.heap.size + 3) := Lib.hid (by omega)
  have HRT := Lib.hid (fun w => rright_any W2 H2 q2 n2 c2 w)
  have HHS := Lib.hid (fun w => rhas_any W H q1 n c1 X Y w)
  have kk := HP3.out.cells
  rw [hw3] at kk
  obtain ⟨k0, k1, k2⟩ := kk
  clear hw2 hz2 hw3 hz3 HB2 HX2 HY2 HB3
  by_cases hR : rightI W2 H2 n2 = true
  case neg =>
    have hR : rightI W2 H2 n2 = false := by simpa using hR
    rw [show pasI W H n W2 H2 n2 X Y = false from by rw [pasI, hR]; rfl, if_neg (by simp), if_neg (by simp)]
    rw [hR] at HRT
    have HR1 := Lib.hid hr1
    clear hr1 hr2 hx1 hx2 hR HHS
    go_enter Try.func26, Try.ntmps26
    go_wp2_with fail
    rw [← HW3.out]
    refine (HRT.out _).mono ?_
    rintro e w4 ⟨rfl, hb⟩
    have hx4 := HX3.out.go hb
    have HX4 := Lib.hid (hx4.put (.int .i64 W) (.int .i64 H) (.slice q1 n c1))
    have hbe := HBE.out.trans (hb.mono HBE.out.size)
    have HB4 := Lib.hid (((hbe.setCell (p := ⟨w.heap.size + 2, 0, none⟩) (by show _ ≤ w.heap.size + 2; omega) (.int .i64 W)).setCell (p := ⟨w.heap.size + 2, 1, none⟩) (by show _ ≤ w.heap.size + 2; omega) (.int .i64 H)).setCell (p := ⟨w.heap.size + 2, 2, none⟩) (by show _ ≤ w.heap.size + 2; omega) (.slice q1 n c1))
    have HV := Lib.hid ((HR1.out.below HB4.out (Nat.le_refl _)).mono HB4.out.size)
    obtain ⟨a0, a1, a2⟩ := (HA.out.go hb).cells
    obtain ⟨j0, j1, j2⟩ := hx4.cells
    have f := hx4.fz
    have f0 := f 0
    have f1 := f 1
    have f2 := f 2
    clear hb f hx4 hbe
    go_wp2_with fail
    refine bodyPost_ret (res_two Try.underlying28 size_gr rfl _ _ (w.heap.size + 2) _ _ _ rfl HX4.out) rfl ?_
    exact ⟨HB4.out, q1, c1, rfl, HV.out⟩
  rw [hR] at HRT
  by_cases hH : hasI W H n X Y = true
  case neg =>
    have hH : hasI W H n X Y = false := by simpa using hH
    rw [show pasI W H n W2 H2 n2 X Y = false from by rw [pasI, hH, Bool.and_false], if_neg (by simp), if_neg (by simp)]
    rw [hH] at HHS
    have HR1 := Lib.hid hr1
    clear hr1 hr2 hx1 hx2 hR hH
    go_enter Try.func26, Try.ntmps26
    go_wp2_with fail
    rw [← HW3.out]
    refine (HRT.out _).mono ?_
    rintro e w4 ⟨rfl, hb⟩
    obtain ⟨a0, a1, a2⟩ := (HA.out.go hb).cells
    have HX4 := Lib.hid (HX3.out.go hb)
    have HA4 := Lib.hid (HA.out.go hb)
    have HBE4 := Lib.hid (HBE.out.trans (hb.mono HBE.out.size))
    clear hb HX3 HA HBE
    go_wp2_with fail
    refine (HHS.out _).mono ?_
    rintro e w5 ⟨rfl, hb⟩
    have hx4 := HX4.out.go hb
    have HX5 := Lib.hid (hx4.put (.int .i64 W) (.int .i64 H) (.slice q1 n c1))
    have hbe := HBE4.out.trans (hb.mono HBE4.out.size)
    have HB4 := Lib.hid (((hbe.setCell (p := ⟨w.heap.size + 2, 0, none⟩) (by show _ ≤ w.heap.size + 2; omega) (.int .i64 W)).setCell (p := ⟨w.heap.size + 2, 1, none⟩) (by show _ ≤ w.heap.size + 2; omega) (.int .i64 H)).setCell (p := ⟨w.heap.size + 2, 2, none⟩) (by show _ ≤ w.heap.size + 2; omega) (.slice q1 n c1))
    have HV := Lib.hid ((HR1.out.below HB4.out (Nat.le_refl _)).mono HB4.out.size)
    obtain ⟨g0, g1, g2⟩ := (HA4.out.go hb).cells
    obtain ⟨j0, j1, j2⟩ := hx4.cells
    have f := hx4.fz
    have f0 := f 0
    have f1 := f 1
    have f2 := f 2
    clear hb f hx4 hbe a0 a1 a2
    go_wp2_with fail
    refine bodyPost_ret (res_two Try.underlying28 size_gr rfl _ _ (w.heap.size + 2) _ _ _ rfl HX5.out) rfl ?_
    exact ⟨HB4.out, q1, c1, rfl, HV.out⟩
  rw [hH] at HHS
  rw [show pasI W H n W2 H2 n2 X Y = true from by rw [pasI, hR, hH]; rfl, if_pos rfl, if_pos rfl]
  obtain ⟨a, b, x, y, rfl, rfl, rfl, rfl, hn, hm, ha, hb, hxa, hyb⟩ := has_nat hH
  obtain ⟨pw, ph, rfl, rfl, hpn, hpm, hpa, hpb⟩ := right_nat hR
  simp only [Int.toNat_natCast]
  have HR1 := Lib.hid hr1
  have HR2 := Lib.hid hr2
  have HL1 := Lib.hid hx1
  have HL2 := Lib.hid hx2
  have HPN := Lib.hid hpn
  clear hR hH hr1 hr2 hx1 hx2 hpn
  go_enter Try.func26, Try.ntmps26
  go_wp2_with fail
  rw [← HW3.out]
  refine (HRT.out _).mono ?_
  rintro e w4' ⟨rfl, hb'⟩
  obtain ⟨a0, a1, a2⟩ := (HA.out.go hb').cells
  have HX4' := Lib.hid (HX3.out.go hb')
  have HA4' := Lib.hid (HA.out.go hb')
  have HP4' := Lib.hid (HP3.out.go hb')
  have HBE' := Lib.hid (HBE.out.trans (hb'.mono HBE.out.size))
  have HS4' : Hid (w.heap.size + 3 ≤ w4'.heap.size) := Lib.hid (by rw [← HSZ.out]; exact hb'.size)
  clear hb' HX3 HA HP3 HBE HSZ k0 k1 k2 HRT HW3
  go_wp2_with fail
  refine (HHS.out _).mono ?_
  rintro e w4 ⟨rfl, hb4⟩
  have HB4 := Lib.hid (HBE'.out.trans (hb4.mono HBE'.out.size))
  have HP4 := Lib.hid (HP4'.out.go hb4)
  have HX4 := Lib.hid (HX4'.out.go hb4)
  have HA4 := Lib.hid (HA4'.out.go hb4)
  have HS4 : Hid (w.heap.size + 3 ≤ w4.heap.size) := Lib.hid (Nat.le_trans HS4'.out hb4.size)
  obtain ⟨w6, hw6, HB6, HX6, hz6⟩ := box1 28 w4 (.int .i64 (a : Int)) (.int .i64 (b : Int)) (.slice none 0 0)
  have HS : Hid (RcS w w6.heap.size w4.heap.size (.int .i64 (a : Int)) (.int .i64 (b : Int)) (.slice q1 n c1) (.cells #[.int .i64 (pw : Int), .int .i64 (ph : Int), .slice q2 n2 c2] 28 (0, 0)) (.int .i64 (a : Int)) (.int .i64 (b : Int)) (.slice none 0 0) 0 [] w6) := Lib.hid
    ⟨HB4.out.trans (HB6.out.mono HB4.out.size), HA4.out.go HB6.out, HP4.out.go HB6.out, HX4.out.go HB6.out, HX6.out, World.ownsRow_nil w6 w6.heap.size 3 1, by have := HS4.out; omega, by omega, Nat.le_refl _⟩
  have HW6 := Lib.hid hw6
  obtain ⟨g0, g1, g2⟩ := HA4.out.cells
  clear hb4 HX4' HA4' HP4' HBE' HS4' HHS a0 a1 a2 HB4 HX4 HP4 HA4 hw6 hz6 HX6 HB6
  go_wp2_with fail
  rw [← HW6.out]
  generalize w6.heap.size = B at HS
  go_loopw [11, 12, 13] (fun i s12 s13 wr => ∃ (k : Nat) (v : Value), k ≤ n ∧ i = .int .i64 (k : Int) ∧ Hid (RcS w B w4.heap.size (.int .i64 (a : Int)) (.int .i64 (b : Int)) (.slice q1 n c1) (.cells #[.int .i64 (pw : Int), .int .i64 (ph : Int), .slice q2 n2 c2] 28 (0, 0)) (.int .i64 (a : Int)) (.int .i64 (b : Int)) v k ((pasteG a zs 0 pw ph zs2 x y).take k) wr)) (fun i _ _ _ => n - (intOf i).toNat)
  case atStart => exact ⟨0, _, Nat.zero_le _, rfl, by rw [List.take_zero]; exact HS⟩
  case round =>
    clear HS g0 g1 g2
    obtain ⟨k, v, hk, rfl, HS⟩ := hrel
    obtain ⟨a0, a1, a2⟩ := HS.out.b2.cells
    obtain ⟨r0, r1, r2⟩ := (show Bx 28 wr (w.heap.size + 1) _ _ _ from HS.out.b3).cells
    obtain ⟨p0, p1, p2⟩ := HS.out.b6.cells
    by_cases hlt : k < n
    · have hww : 0 < a := by omega
      have ql : decide ((k : Int) < (n : Int)) = true := by simpa using hlt
      have HED := Lib.hid (div_facts (k := k) hww)
      have hxi : k % a < a := Nat.mod_lt _ hww
      have hyi : k / a ≤ k := Nat.div_le_self _ _
      have HG := Lib.hid (pasteG_cells a zs pw ph zs2 x y k (by rw [HL1.out]; exact hlt))
      have hlen : ((pasteG a zs 0 pw ph zs2 x y).take k).length = k := by rw [List.length_take, pasteG_length, HL1.out]; omega
      have w0 : ¬ (a : Int) = 0 := by omega
      have w1 : ((a : Int) == 0) = false := by simp; omega
      have w2 : a ≠ 0 := by omega
      have hk5 : k ≤ 5000000 := by omega
      have hs0 := HS.out.ne
      obtain ⟨em, ed⟩ := HED.out
      generalize k % a = xi at *
      generalize k / a = yi at *
      by_cases hin : x ≤ xi ∧ y ≤ yi ∧ xi - x < pw ∧ yi - y < ph
      · rw [if_pos hin] at HG
        obtain ⟨hi1, hi2, hi3, hi4⟩ := hin
        have e1 : (xi : Int) - (x : Int) = ((xi - x : Nat) : Int) := by omega
        have e5 : (yi : Int) - (y : Int) = ((yi - y : Nat) : Int) := by omega
        generalize xi - x = A at *
        generalize yi - y = D at *
        have hA5 : A ≤ 5000000 := by omega
        have hD5 : D ≤ 5000000 := by omega
        have hpl := Gd.place_lt hi3 hi4
        rw [HPN.out] at hpl
        have hym2 : (D : Int) * (pw : Int) = ((D * pw : Nat) : Int) := by push_cast; rfl
        generalize hmm : D * pw = m at *
        have hid1 : m + A < zs2.length := by rw [HL2.out]; exact hpl
        obtain ⟨bb, off, hq, hbl, hcell⟩ := vrow_int HR2.out (m + A) hid1
        obtain ⟨z, hz⟩ : ∃ z, z = zs2[m + A] := ⟨_, rfl⟩
        rw [← hz] at hcell
        rw [getD_eq hid1, ← hz] at HG
        have HCE : Hid (∀ V, Below w.heap.size w V → V.cell? ⟨bb, off + (m + A), none⟩ = some (.int .i64 z)) := Lib.hid (fun V hV => (hV.cell (p := ⟨bb, off + (m + A), none⟩) hbl).trans hcell)
        have i1 : (0 : Int) ≤ ((m + A : Nat) : Int) := by omega
        have i2 : ((m + A : Nat) : Int) < (n2 : Int) := by omega
        have u2 : (m : Int) + (A : Int) = ((m + A : Nat) : Int) := by push_cast; rfl
        have b1 : (m : Int) ≤ 1000000000 := by omega
        have b2 : ((m + A : Nat) : Int) ≤ 1000000000 := by omega
        have b3 : (0 : Int) ≤ (m : Int) := by omega
        have V1 : Hid (IntKind.i64.wrap (m : Int) = (m : Int)) := Lib.hid (wr_wrap _ _ rfl b3 b1)
        have V2 : Hid (IntKind.i64.wrap ((m + A : Nat) : Int) = ((m + A : Nat) : Int)) := Lib.hid (wr_wrap _ _ rfl i1 b2)
        have d1 : decide ((0 : Int) ≤ (A : Int)) = true := by simp
        have d2 : decide ((0 : Int) ≤ (D : Int)) = true := by simp
        have d3 : decide (A < pw) = true := by simpa using hi3
        have d4 : decide (D < ph) = true := by simpa using hi4
        have d5 : decide ((A : Int) < (pw : Int)) = true := by simpa using hi3
        have d6 : decide ((D : Int) < (ph : Int)) = true := by simpa using hi4
        clear b1 b2 b3
        subst hq
        generalize hid : m + A = id at *
        clear hpl hid1 hcell hz hmm hid hbl hn hi1 hi2
        have c0 := HCE.out wr.drew (HS.out.bel.trans ((show Drawn wr wr.drew from ⟨1, rfl⟩).below _))
        go_wp2_with fail
        go_quiet (fail)
        go_wp2_with fail
        generalize hWQ : wr.drewN _ = wq
        have hd0 : Drawn wr wq := ⟨_, hWQ.symm⟩
        have HSD := Lib.hid ((HS.out.go (hd0.below wr.heap.size)).go ((show Drawn wq wq.drew from ⟨1, rfl⟩).below wq.heap.size))
        have cc1 := HCE.out wq.drew HSD.out.bel
        have v1 := V1.out
        have v2 := V2.out
        clear hd0 hWQ
        have HS9 : Hid (RcS w B w4.heap.size (.int .i64 (a : Int)) (.int .i64 (b : Int)) (.slice q1 n c1) (.cells #[.int .i64 (pw : Int), .int .i64 (ph : Int), .slice (some ⟨bb, off, none⟩) n2 c2] 28 (0, 0)) (.int .i64 (a : Int)) (.int .i64 (b : Int)) v k ((pasteG a zs 0 pw ph zs2 x y).take k) (wq.alloc (.cells #[.int .i64 z] 3)).drew) :=
          Lib.hid (HSD.out.go (show Below wq.drew.heap.size wq.drew (wq.drew.alloc (.cells #[.int .i64 z] 3)) from (Below.refl _ _).alloc (Nat.le_refl _) _))
        have cc2 := HCE.out _ HS9.out.bel
        have p8 := HSD.out.b6.cells.2.2
        have p9 := HS9.out.b6.cells.2.2
        refine wp_region_held_drew (S := fun V => (V.cell? ⟨w.heap.size + 1, 0, none⟩ = some (.int .i64 (pw : Int)) ∧ V.cell? ⟨w.heap.size + 1, 2, none⟩ = some (.slice (some ⟨bb, off, none⟩) n2 c2)) ∧ V.cell? ⟨bb, off + id, none⟩ = some (.int .i64 z)) (by kernel_rfl) ⟨⟨(show Bx 28 _ (w.heap.size + 1) _ _ _ from HSD.out.b3).cells.1, (show Bx 28 _ (w.heap.size + 1) _ _ _ from HSD.out.b3).cells.2.2⟩, cc1⟩ (fun hHeld => ?_)
        refine jt 0 ?_
        refine jt 2 ?_
        refine jt 3 ?_
        refine jt 4 ?_
        refine jt 5 ?_
        refine jt 6 ?_
        refine jt 7 ?_
        refine jt 8 ?_
        refine jt 9 ?_
        refine jt 10 ?_
        refine jt 11 ?_
        apply jz2 1 12 (by kernel_rfl) rfl rfl
        · intro HT K hK
          go_simp
          refine hK.out _ _ hHeld (fun _ => ?_)
          clear hK K
          try simp only [Act.put, jA, jB, jC, jD, jE, jF]
          refine js 12 (fun K hK => ?_)
          go_simp
          refine hK.out _ _ ⟨⟨(show Bx 28 _ (w.heap.size + 1) _ _ _ from HS9.out.b3).cells.1, (show Bx 28 _ (w.heap.size + 1) _ _ _ from HS9.out.b3).cells.2.2⟩, cc2⟩ (fun _ => ?_)
          clear hK K
          try simp only [Act.put, jA, jB, jC, jD, jE, jF]
          exact HT
        · intro HT K hK
          go_simp
          refine hK.out _ _ ⟨⟨(show Bx 28 _ (w.heap.size + 1) _ _ _ from HS9.out.b3).cells.1, (show Bx 28 _ (w.heap.size + 1) _ _ _ from HS9.out.b3).cells.2.2⟩, cc2⟩ (fun hH => ?_)
          clear hK K
          try simp only [Act.put, jA, jB, jC, jD, jE, jF]
          refine js 1 (fun K hK => ?_)
          go_simp
          refine hK.out _ _ hH (fun _ => ?_)
          clear hK K
          try simp only [Act.put, jA, jB, jC, jD, jE, jF]
          exact HT _ (by kernel_rfl)
        have c9 : (wq.alloc (.cells #[.int .i64 z] 3)).drew.cell? ⟨wq.heap.size, 0, none⟩ = some (.int .i64 z) := blk_cell (W := (wq.alloc (.cells #[.int .i64 z] 3)).drew) (vs := [.int .i64 z]) (show (wq.heap.push _)[wq.heap.size]? = _ from Array.getElem?_push_size) (by simp)
        clear hHeld p8 p9 cc1
        generalize (wq.alloc (.cells #[.int .i64 z] 3)).drew = W9 at *
        refine js 13 (fun K hK => ?_)
        refine step_app rfl (.tmp 68) (.tmp 79) rfl B v k _ rfl HS9.out.own _ z rfl c9 hk5 HS9.out.ne.2.2 ?_
        intro v5 w5 HO5 HB5
        obtain ⟨q5, c5, hv5, -⟩ := vrow_own HO5.out (by rw [ints_length, List.length_append, hlen]; rfl)
        subst hv5
        have HS5 := Lib.hid (HS9.out.app HB5.out HO5.out)
        have hB2 : ∀ i, i < B → w5.heap[i]? = W9.heap[i]? := fun i hi => HB5.out.block i hi
        have hn5 := HS9.out.ne
        have hb5 : Below w.heap.size w w5 := HS9.out.bel.trans (HB5.out.mono (by omega))
        have x2 : Bx 28 w5 (w.heap.size + 1) _ _ _ := (hB2 _ (by omega)).trans HS9.out.b3
        have x6 : Bx 28 w5 w4.heap.size _ _ _ := (hB2 _ hn5.2.1).trans HS9.out.b6
        refine hK.out _ _ ⟨⟨x2.cells.1, x2.cells.2.2⟩, HCE.out w5 hb5⟩ (fun hH2 => ?_)
        have y2 := x6.cells.2.2
        have y3 := x6.fz 2
        have hcc := HCE.out (w5.setCell ⟨w4.heap.size, 2, none⟩ (.slice q5 (k + 1) c5)) HS5.out.bel
        clear hK K hB2 hn5 hb5 x2 x6
        try simp only [Act.put, jA, jB, jC, jD, jE, jF]
        refine jt 14 ?_
        refine js 15 (fun K hK => ?_)
        go_simp
        refine hK.out _ _ ⟨⟨(show Bx 28 _ (w.heap.size + 1) _ _ _ from HS5.out.b3).cells.1, (show Bx 28 _ (w.heap.size + 1) _ _ _ from HS5.out.b3).cells.2.2⟩, hcc⟩ (fun hH3 => ?_)
        clear hK K hH2 y2 y3 hcc
        try simp only [Act.put, jA, jB, jC, jD, jE, jF]
        refine wpAnyH_done (by kernel_rfl) ?_ _
        clear hH3 v1 v2
        rw [← HG.out] at HS5
        clear HG
        go_wp2_with fail
        go_roundw
        case rel => exact ⟨k + 1, .slice q5 (k + 1) c5, by omega, by go_num, HS5⟩
        case measure => simp [intOf]; omega
      · rw [if_neg hin, getD_eq (by rw [HL1.out]; exact hlt)] at HG
        obtain ⟨bb, off, hq, hbl, hcell⟩ := vrow_int HR1.out k (by rw [HL1.out]; exact hlt)
        obtain ⟨z, hz⟩ : ∃ z, z = zs[k]'(by rw [HL1.out]; exact hlt) := ⟨_, rfl⟩
        rw [← hz] at hcell HG
        have HCE : Hid (∀ V, Below w.heap.size w V → V.cell? ⟨bb, off + k, none⟩ = some (.int .i64 z)) := Lib.hid (fun V hV => (hV.cell (p := ⟨bb, off + k, none⟩) hbl).trans hcell)
        have i1 : (0 : Int) ≤ (k : Int) := by omega
        have i2 : (k : Int) < (n : Int) := by omega
        subst hq
        obtain ⟨da, e1⟩ : ∃ da : Int, (xi : Int) - (x : Int) = da := ⟨_, rfl⟩
        obtain ⟨db, e5⟩ : ∃ db : Int, (yi : Int) - (y : Int) = db := ⟨_, rfl⟩
        have a5 : -5000000 ≤ da ∧ da ≤ 5000000 := by omega
        have b5 : -5000000 ≤ db ∧ db ≤ 5000000 := by omega
        obtain ⟨a6, a7⟩ := a5
        obtain ⟨b6, b7⟩ := b5
        have hout : Hid ((decide ((0 : Int) ≤ da) = false) ∨ (decide ((0 : Int) ≤ da) = true ∧ decide ((0 : Int) ≤ db) = false) ∨ (decide ((0 : Int) ≤ da) = true ∧ decide ((0 : Int) ≤ db) = true ∧ decide (da < (pw : Int)) = false) ∨ (decide ((0 : Int) ≤ da) = true ∧ decide ((0 : Int) ≤ db) = true ∧ decide (da < (pw : Int)) = true ∧ decide (db < (ph : Int)) = false)) := Lib.hid (by
          simp only [decide_eq_true_eq, decide_eq_false_iff_not]
          omega)
        clear hin hz hcell hbl hn
        have c0 := HCE.out wr.drew (HS.out.bel.trans ((show Drawn wr wr.drew from ⟨1, rfl⟩).below _))
        rcases hout.out with d1 | ⟨d1, d2⟩ | ⟨d1, d2, d3⟩ | ⟨d1, d2, d3, d4⟩
        all_goals clear hout
        all_goals go_wp2_with fail
        all_goals go_quiet (fail)
        all_goals go_wp2_with fail
        all_goals
          generalize hWQ : wr.drewN _ = wq
          have hd0 : Drawn wr wq := ⟨_, hWQ.symm⟩
          have HSD := Lib.hid ((HS.out.go (hd0.below wr.heap.size)).go ((show Drawn wq wq.drew from ⟨1, rfl⟩).below wq.heap.size))
          have cc1 := HCE.out wq.drew HSD.out.bel
          clear hd0 hWQ
          have HS9 : Hid (RcS w B w4.heap.size (.int .i64 (a : Int)) (.int .i64 (b : Int)) (.slice (some ⟨bb, off, none⟩) n c1) (.cells #[.int .i64 (pw : Int), .int .i64 (ph : Int), .slice q2 n2 c2] 28 (0, 0)) (.int .i64 (a : Int)) (.int .i64 (b : Int)) v k ((pasteG a zs 0 pw ph zs2 x y).take k) (wq.alloc (.cells #[.int .i64 z] 3)).drew) :=
            Lib.hid (HSD.out.go (show Below wq.drew.heap.size wq.drew (wq.drew.alloc (.cells #[.int .i64 z] 3)) from (Below.refl _ _).alloc (Nat.le_refl _) _))
          have cc2 := HCE.out _ HS9.out.bel
          have p8 := HSD.out.b6.cells.2.2
          have p9 := HS9.out.b6.cells.2.2
          refine wp_region_held_drew (S := fun V => (V.cell? ⟨w.heap.size, 0, none⟩ = some (.int .i64 (a : Int)) ∧ V.cell? ⟨w.heap.size, 2, none⟩ = some (.slice (some ⟨bb, off, none⟩) n c1)) ∧ V.cell? ⟨bb, off + k, none⟩ = some (.int .i64 z)) (by kernel_rfl) ⟨⟨HSD.out.b2.cells.1, HSD.out.b2.cells.2.2⟩, cc1⟩ (fun hHeld => ?_)
          refine jt 0 ?_
          refine jt 2 ?_
          refine jt 3 ?_
          refine jt 4 ?_
          refine jt 5 ?_
          refine jt 6 ?_
          apply jz2 1 7 (by kernel_rfl) rfl rfl
          · intro HT K hK
            go_simp
            refine hK.out _ _ hHeld (fun _ => ?_)
            clear hK K
            try simp only [Act.put, jA, jB, jC, jD, jE, jF]
            refine js 7 (fun K hK => ?_)
            go_simp
            refine hK.out _ _ ⟨⟨HS9.out.b2.cells.1, HS9.out.b2.cells.2.2⟩, cc2⟩ (fun _ => ?_)
            clear hK K
            try simp only [Act.put, jA, jB, jC, jD, jE, jF]
            exact HT
          · intro HT K hK
            go_simp
            refine hK.out _ _ ⟨⟨HS9.out.b2.cells.1, HS9.out.b2.cells.2.2⟩, cc2⟩ (fun hH => ?_)
            clear hK K
            try simp only [Act.put, jA, jB, jC, jD, jE, jF]
            refine js 1 (fun K hK => ?_)
            go_simp
            refine hK.out _ _ hH (fun _ => ?_)
            clear hK K
            try simp only [Act.put, jA, jB, jC, jD, jE, jF]
            exact HT _ (by kernel_rfl)
          have c9 : (wq.alloc (.cells #[.int .i64 z] 3)).drew.cell? ⟨wq.heap.size, 0, none⟩ = some (.int .i64 z) := blk_cell (W := (wq.alloc (.cells #[.int .i64 z] 3)).drew) (vs := [.int .i64 z]) (show (wq.heap.push _)[wq.heap.size]? = _ from Array.getElem?_push_size) (by simp)
          clear hHeld p8 p9 cc1
          generalize (wq.alloc (.cells #[.int .i64 z] 3)).drew = W9 at *
          refine js 8 (fun K hK => ?_)
          refine step_app rfl (.tmp 83) (.tmp 89) rfl B v k _ rfl HS9.out.own _ z rfl c9 hk5 HS9.out.ne.2.2 ?_
          intro v5 w5 HO5 HB5
          obtain ⟨q5, c5, hv5, -⟩ := vrow_own HO5.out (by rw [ints_length, List.length_append, hlen]; rfl)
          subst hv5
          have HS5 := Lib.hid (HS9.out.app HB5.out HO5.out)
          have hB2 : ∀ i, i < B → w5.heap[i]? = W9.heap[i]? := fun i hi => HB5.out.block i hi
          have hn5 := HS9.out.ne
          have hb5 : Below w.heap.size w w5 := HS9.out.bel.trans (HB5.out.mono (by omega))
          have x2 : Bx 28 w5 w.heap.size _ _ _ := (hB2 _ (by omega)).trans HS9.out.b2
          have x6 : Bx 28 w5 w4.heap.size _ _ _ := (hB2 _ hn5.2.1).trans HS9.out.b6
          refine hK.out _ _ ⟨⟨x2.cells.1, x2.cells.2.2⟩, HCE.out w5 hb5⟩ (fun hH2 => ?_)
          have y2 := x6.cells.2.2
          have y3 := x6.fz 2
          have hcc := HCE.out (w5.setCell ⟨w4.heap.size, 2, none⟩ (.slice q5 (k + 1) c5)) HS5.out.bel
          clear hK K hB2 hn5 hb5 x2 x6
          try simp only [Act.put, jA, jB, jC, jD, jE, jF]
          refine jt 9 ?_
          refine js 10 (fun K hK => ?_)
          go_simp
          refine hK.out _ _ ⟨⟨HS5.out.b2.cells.1, HS5.out.b2.cells.2.2⟩, hcc⟩ (fun hH3 => ?_)
          clear hK K hH2 y2 y3 hcc
          try simp only [Act.put, jA, jB, jC, jD, jE, jF]
          refine wpAnyH_done (by kernel_rfl) ?_ _
          clear hH3
          rw [← HG.out] at HS5
          clear HG
          go_wp2_with fail
          go_roundw
          case rel => exact ⟨k + 1, .slice q5 (k + 1) c5, by omega, by go_num, HS5⟩
          case measure => simp [intOf]; omega
    · obtain rfl : k = n := by omega
      have ql : decide ((k : Int) < (k : Int)) = false := by simp
      have hS := HS.out
      have hL2 : (pasteG a zs 0 pw ph zs2 x y).take k = pasteG a zs 0 pw ph zs2 x y := List.take_of_length_le (by rw [pasteG_length, HL1.out]; exact Nat.le_refl _)
      rw [hL2] at hS
      obtain ⟨q, c3, hv, _, _, _, hrow, hbl⟩ := vrow_own hS.own (by rw [ints_length, pasteG_length, HL1.out])
      subst hv
      obtain ⟨t0, t1, t2⟩ := hS.b6.cells
      have hX4 := hS.b4
      have hne := hS.ne
      obtain ⟨j0, j1, j2⟩ := hX4.cells
      have f := hX4.fz
      have f0 := f 0
      have f1 := f 1
      have f2 := f 2
      have HRZ := Lib.hid (hX4.put (.int .i64 (a : Int)) (.int .i64 (b : Int)) (.slice q k c3))
      have HBZ := Lib.hid (((hS.bel.setCell (p := ⟨w.heap.size + 2, 0, none⟩) (by show _ ≤ w.heap.size + 2; omega) (.int .i64 (a : Int))).setCell (p := ⟨w.heap.size + 2, 1, none⟩) (by show _ ≤ w.heap.size + 2; omega) (.int .i64 (b : Int))).setCell (p := ⟨w.heap.size + 2, 2, none⟩) (by show _ ≤ w.heap.size + 2; omega) (.slice q k c3))
      have HV := Lib.hid (vrow_far (i := 2) (vrow_far (i := 1) (vrow_far (i := 0) hrow (fun a0 h => by have := hbl a0 h; show w.heap.size + 2 ≠ _; omega) (.int .i64 (a : Int))) (fun a0 h => by have := hbl a0 h; show w.heap.size + 2 ≠ _; omega) (.int .i64 (b : Int))) (fun a0 h => by have := hbl a0 h; show w.heap.size + 2 ≠ _; omega) (.slice q k c3))
      clear hbl hrow
      clear hS hX4 hne f HS hk hlt p0 p1 p2
      go_wp2_with fail
      refine bodyPost_ret (res_two Try.underlying28 size_gr rfl _ _ (w.heap.size + 2) _ _ _ rfl HRZ.out) rfl ?_
      exact ⟨HBZ.out, q, c3, rfl, HV.out⟩
end Go.Proofs.Ytjecakkdongcoaa.Gr

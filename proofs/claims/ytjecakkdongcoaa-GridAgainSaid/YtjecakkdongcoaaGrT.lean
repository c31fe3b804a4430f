
/- Contracts of package grid: Paste. -/
import Derived.Test.YtjecakkdongcoaaGrF
namespace Go.Proofs.Ytjecakkdongcoaa.Gr
open Go.RowKit Go.Proofs.Ytjecakkdongcoaa.Oct
open Go.Proofs.Ytjecakkdongcoaa.Lp (VRow Only ints ints_length ints_append ints_one vrow_blk vrow_own blk_set blk_far blk_frozen)
open Go.Proofs.Ytjecakkdongcoaa.Gd (canG pasteG pasteN pasteG_length pasteN_zero pasteN_row pasteG_out)
open Go.Proofs.Ytjecakkdongcoaa.Fm (Ow)
set_option linter.unusedVariables false
set_option linter.unusedSimpArgs false
set_option maxRecDepth 100000

/-- may one grid be laid over another one there? -/
def pasI (W H : Int) (n : Nat) (W2 H2 : Int) (n2 : Nat) (x y : Int) : Bool := rightI W2 H2 n2 && hasI W H n x y
/-- what stands in memory while rows are laid over others -/
structure PaS (w : World) (g10 G : Nat) (W H s : Value) (W2 H2 s2 : Value) (s10 : Value) (Z : List Int) (wr : World) : Prop where
  bel : Below w.heap.size w wr
  b4 : Bx 26 wr w.heap.size W H s
  b5 : Bx 26 wr (w.heap.size + 1) W2 H2 s2
  b8 : Bx 26 wr (w.heap.size + 2) (.int .i64 0) (.int .i64 0) (.slice none 0 0)
  b10 : Bx 26 wr g10 W H s10
  own : wr.heap[G]? = some (.cells (ints Z).toArray 3 (0, 0))
  ne : w.heap.size + 3 ≤ G ∧ g10 ≠ G ∧ w.heap.size + 3 ≤ g10
theorem PaS.go {w : World} {g10 G : Nat} {W H s W2 H2 s2 s10 : Value} {Z : List Int} {wr wr' : World} (h : PaS w g10 G W H s W2 H2 s2 s10 Z wr) (hb : Below wr.heap.size wr wr') : PaS w g10 G W H s W2 H2 s2 s10 Z wr' :=
  ⟨h.bel.trans (hb.mono h.bel.size), h.b4.go hb, h.b5.go hb, h.b8.go hb, h.b10.go hb, (hb.block G (blk_lt h.own)).trans h.own, h.ne⟩
theorem PaS.fil {w : World} {g10 G : Nat} {W H s W2 H2 s2 s10 : Value} {Z Z' : List Int} {wr wr' : World} (h : PaS w g10 G W H s W2 H2 s2 s10 Z wr) (ho : FilP wr G Z' wr') : PaS w g10 G W H s W2 H2 s2 s10 Z' wr' :=
  ⟨only_below h.bel ho.1 (by have := h.ne; omega), h.b4.only ho.1 (by have := h.ne; omega), h.b5.only ho.1 (by have := h.ne; omega), h.b8.only ho.1 (by have := h.ne; omega), h.b10.only ho.1 h.ne.2.1, ho.2, h.ne⟩
/-- what is laid: so many rows -/
theorem paste_row {a b : Nat} {zs zs2 : List Int} (hL : zs.length = a * b) {w2 x y k : Nat} (hx : x < a) (hy : y + k < b) (hP : (k + 1) * w2 ≤ zs2.length) :
    splice (pasteN a zs 0 w2 zs2 x y k) ((y + k) * a + x) ((zs2.drop (k * w2)).take (min w2 (a - x))) = pasteN a zs 0 w2 zs2 x y (k + 1) := by
  have hl : ((zs2.drop (k * w2)).take (min w2 (a - x))).length = min w2 (a - x) := by
    rw [Nat.succ_mul] at hP
    rw [List.length_take, List.length_drop]
    omega
  rw [pasteN_row hL 0 zs2 hx hy hP rfl, List.append_assoc]
  unfold splice
  rw [hl]
set_option maxHeartbeats 2000000 in
theorem paste_any (W H : Int) (q1 : Option Addr) (n c1 : Nat) (zs : List Int) (W2 H2 : Int) (q2 : Option Addr) (n2 c2 : Nat) (zs2 : List Int) (x y : Int) (w : World)
    (hr1 : VRow w w.heap.size q1 (ints zs)) (hx1 : zs.length = n) (hl1 : n ≤ 5000000) (hr2 : VRow w w.heap.size q2 (ints zs2)) (hx2 : zs2.length = n2) (hc2 : n2 ≤ c2) :
    Calls Try.prog 25 #[.agg #[.int .i64 W, .int .i64 H, .slice q1 n c1], .agg #[.int .i64 W2, .int .i64 H2, .slice q2 n2 c2], .int .i64 x, .int .i64 y] w
      (GeP w W H n (if pasI W H n W2 H2 n2 x y then pasteG W.toNat zs 0 W2.toNat H2.toNat zs2 x.toNat y.toNat else zs) (if pasI W H n W2 H2 n2 x y then 0 else 1)) := by
  obtain ⟨w2, hw2, HB2, HX2, HY2, hz2⟩ := box2 26 26 w (.int .i64 W) (.int .i64 H) (.slice q1 n c1) (.int .i64 W2) (.int .i64 H2) (.slice q2 n2 c2)
  obtain ⟨w3, hw3, HB3, HX3, hz3⟩ := box1 26 w2 (.int .i64 0) (.int .i64 0) (.slice none 0 0)
  rw [hz2] at HX3
  rw [hw2] at hw3
  have HW3 := Lib.hid hw3
  have hb03 := HB2.out.trans (HB3.out.mono HB2.out.size)
  have HA3 := Lib.hid (HX2.out.go HB3.out)
  have HP3 := Lib.hid (HY2.out.go HB3.out)
  have HCL := Lib.hid (clone_any W H q1 n c1 zs w3 ((hr1.below hb03 (Nat.le_refl _)).mono hb03.size) hx1 hl1)
  have HB03 := Lib.hid hb03
  have HZ3 : Hid (w3.heap.size = w.heap.size + 3) := Lib.hid (by omega)
  obtain ⟨Z, hZ⟩ : ∃ Z, Z = (if pasI W H n W2 H2 n2 x y then pasteG W.toNat zs 0 W2.toNat H2.toNat zs2 x.toNat y.toNat else zs) := ⟨_, rfl⟩
  obtain ⟨er, her⟩ : ∃ er : Int, er = (if pasI W H n W2 H2 n2 x y then 0 else 1) := ⟨_, rfl⟩
  rw [← hZ, ← her]
  have HZR := Lib.hid (And.intro hZ her)
  have HR2 := Lib.hid hr2
  have HX1 := Lib.hid hx1
  have HX2' := Lib.hid hx2
  clear hw2 hw3 hz2 hz3 hb03 hr1 hr2 HB2 HB3 HX2 HY2 hZ her hx1 hx2
  go_enter Try.func25, Try.ntmps25
  go_wp2_with fail
  rw [← HW3.out]
  refine HCL.out.mono ?_
  rintro e w4 ⟨G, rfl, ho⟩
  obtain ⟨w5, hw5, HB5, HX5, hz5⟩ := box1 26 w4 (.int .i64 W) (.int .i64 H) (.slice (some ⟨G, 0, none⟩) n n)
  have hb35 := ho.1.trans (HB5.out.mono ho.1.size)
  have HS5 : Hid (PaS w w4.heap.size G (.int .i64 W) (.int .i64 H) (.slice q1 n c1) (.int .i64 W2) (.int .i64 H2) (.slice q2 n2 c2) (.slice (some ⟨G, 0, none⟩) n n) zs w5) := Lib.hid
    ⟨HB03.out.trans (hb35.mono HB03.out.size), HA3.out.go hb35, HP3.out.go hb35, HX3.out.go hb35, HX5.out, (ho.go HB5.out).2.2.2, by have := ho.2.1; have := ho.2.2.1; have := HZ3.out; have := ho.1.size; omega⟩
  have HW5 := Lib.hid hw5
  have HRT := Lib.hid (right_any W2 H2 q2 n2 c2 w5)
  have kk := HS5.out.b5.cells
  rw [hw5] at kk
  obtain ⟨k0, k1, k2⟩ := kk
  clear ho hw5 hz5 hb35 HCL HA3 HP3 HX3 HX5 HB5 HB03
  go_wp2_with fail
  rw [← HW5.out]
  refine HRT.out.mono ?_
  rintro e w6 ⟨rfl, hb6⟩
  have HS6 := Lib.hid (HS5.out.go hb6)
  have HHS := Lib.hid (has_any W H q1 n c1 x y w6)
  obtain ⟨l0, l1, l2⟩ := HS6.out.b4.cells
  obtain ⟨m0, m1, m2⟩ := HS6.out.b10.cells
  have h8 := HS6.out.b8
  obtain ⟨j0, j1, j2⟩ := h8.cells
  have f := h8.fz
  have f0 := f 0
  have f1 := f 1
  have f2 := f 2
  clear hb6 HS5 HRT HW5 k0 k1 k2 f h8
  by_cases hR : rightI W2 H2 n2 = true
  case neg =>
    have hR : rightI W2 H2 n2 = false := by simpa using hR
    obtain ⟨hZ, her⟩ := HZR.out
    rw [show pasI W H n W2 H2 n2 x y = false from by rw [pasI, hR]; rfl, if_neg (by simp)] at hZ her
    subst hZ her
    rw [hR]
    have HRR := Lib.hid (HS6.out.b8.put (.int .i64 W) (.int .i64 H) (.slice (some ⟨G, 0, none⟩) n n))
    have hn := HS6.out.ne
    have hO : Ow w G 3 (ints Z) w6 := ⟨HS6.out.bel, by omega, blk_lt HS6.out.own, HS6.out.own⟩
    have hg : w.heap.size + 2 ≠ G := by omega
    have HO := Lib.hid (ow_far (i := 2) (ow_far (i := 1) (ow_far (i := 0) hO hg (by omega) (.int .i64 W)) hg (by omega) (.int .i64 H)) hg (by omega) (.slice (some ⟨G, 0, none⟩) n n))
    clear hn hO hg HZR hR HHS
    go_wp2_with fail
    refine bodyPost_ret (res_two Try.underlying26 size_gi rfl _ _ (w.heap.size + 2) _ _ _ rfl HRR.out) rfl ?_
    exact ⟨G, rfl, HO.out⟩
  rw [hR]
  by_cases hH : hasI W H n x y = true
  case neg =>
    have hH : hasI W H n x y = false := by simpa using hH
    obtain ⟨hZ, her⟩ := HZR.out
    rw [show pasI W H n W2 H2 n2 x y = false from by rw [pasI, hH, Bool.and_false], if_neg (by simp)] at hZ her
    subst hZ her
    rw [hH] at HHS
    have HS6' := HS6
    clear HZR hR hH j0 j1 j2 f0 f1 f2 m0 m1 m2
    go_wp2_with fail
    refine HHS.out.mono ?_
    rintro e w7 ⟨rfl, hb7⟩
    have HS7 := Lib.hid (HS6.out.go hb7)
    have h8 := HS7.out.b8
    obtain ⟨j0, j1, j2⟩ := h8.cells
    have f := h8.fz
    have f0 := f 0
    have f1 := f 1
    have f2 := f 2
    obtain ⟨m0, m1, m2⟩ := HS7.out.b10.cells
    have HRR := Lib.hid (h8.put (.int .i64 W) (.int .i64 H) (.slice (some ⟨G, 0, none⟩) n n))
    have hn := HS7.out.ne
    have hO : Ow w G 3 (ints Z) w7 := ⟨HS7.out.bel, by omega, blk_lt HS7.out.own, HS7.out.own⟩
    have hg : w.heap.size + 2 ≠ G := by omega
    have HO := Lib.hid (ow_far (i := 2) (ow_far (i := 1) (ow_far (i := 0) hO hg (by omega) (.int .i64 W)) hg (by omega) (.int .i64 H)) hg (by omega) (.slice (some ⟨G, 0, none⟩) n n))
    clear hn hO hg f h8 hb7 l0 l1 l2
    go_wp2_with fail
    refine bodyPost_ret (res_two Try.underlying26 size_gi rfl _ _ (w.heap.size + 2) _ _ _ rfl HRR.out) rfl ?_
    exact ⟨G, rfl, HO.out⟩
  rw [hH] at HHS
  obtain ⟨hZ, her⟩ := HZR.out
  rw [show pasI W H n W2 H2 n2 x y = true from by rw [pasI, hR, hH]; rfl, if_pos rfl] at hZ her
  subst her
  obtain ⟨a, b, i, j, rfl, rfl, rfl, rfl, hn, hm, ha, hb, hia, hjb⟩ := has_nat hH
  obtain ⟨pw, ph, rfl, rfl, hpn, hpm, hpa, hpb⟩ := right_nat hR
  simp only [Int.toNat_natCast] at hZ
  have HZZ := Lib.hid hZ
  have HN := Lib.hid hn
  have HPN := Lib.hid hpn
  clear HZR hZ hR hH j0 j1 j2 f0 f1 f2 m0 m1 m2
  go_wp2_with fail
  refine HHS.out.mono ?_
  rintro e w7 ⟨rfl, hb7⟩
  have HS7 := Lib.hid (HS6.out.go hb7)
  obtain ⟨l0, l1, l2⟩ := HS7.out.b4.cells
  obtain ⟨k0, k1, k2⟩ := HS7.out.b5.cells
  obtain ⟨mm, hmm⟩ : ∃ mm, mm = min ph (b - j) := ⟨_, rfl⟩
  have hmi : min (ph : Int) ((b : Int) - (j : Int)) = (mm : Int) := by omega
  have HMM := Lib.hid hmm
  clear hb7 HS6 HHS hmm
  go_wp2_with fail
  go_loopw [11, 32] (fun s11 t wr => ∃ k : Nat, k ≤ mm ∧ t = .int .i64 (k : Int) ∧ Hid (PaS w w4.heap.size G (.int .i64 (a : Int)) (.int .i64 (b : Int)) (.slice q1 n c1) (.int .i64 (pw : Int)) (.int .i64 (ph : Int)) (.slice q2 n2 c2) (.slice (some ⟨G, 0, none⟩) n n) (pasteN a zs 0 pw zs2 i j k) wr)) (fun _ t _ => mm - (intOf t).toNat)
  case atStart => exact ⟨0, Nat.zero_le _, rfl, Lib.hid (by rw [pasteN_zero (H := b) (by rw [HX1.out, HN.out])]; exact HS7.out)⟩
  case round =>
    clear HS7 l0 l1 l2 k0 k1 k2 hmi
    obtain ⟨k, hk, rfl, HS⟩ := hrel
    have hmm := HMM.out
    by_cases hlt : k < mm
    · have hjk : j + k < b := by omega
      have hln := row_le HN.out hjk
      have hpl := row_le HPN.out (show k < ph by omega)
      have HST := Lib.hid (paste_row (a := a) (b := b) (w2 := pw) (by rw [HX1.out, HN.out]) hia hjk (by rw [HX2'.out, Nat.succ_mul]; exact hpl))
      obtain ⟨yk, hyk⟩ : ∃ yk, j + k = yk := ⟨_, rfl⟩
      rw [hyk] at hln HST hjk
      have e1 : (j : Int) + (k : Int) = (yk : Int) := by omega
      have E2 : Hid (IntKind.i64.wrap (yk : Int) = (yk : Int)) := Lib.hid (by rw [IntKind.wrap_i64]; omega)
      obtain ⟨m, hm1⟩ : ∃ m, yk * a = m := ⟨_, rfl⟩
      obtain ⟨m2, hm2⟩ : ∃ m2, k * pw = m2 := ⟨_, rfl⟩
      have HL1 := Lib.hid (fun w => line_any a (b : Int) (some ⟨G, 0, none⟩) n n yk w hln ha (by omega) (by omega))
      have HL2 := Lib.hid (fun w => line_any pw (ph : Int) q2 n2 c2 k w (by omega) hpa (by omega) (by omega))
      rw [hm1] at HL1 HST hln
      rw [hm2] at HL2 HST hpl
      have hlz : (pasteN a zs 0 pw zs2 i j k).length = n := by rw [pasteN, pasteG_length, HX1.out]
      have HLZ := Lib.hid hlz
      obtain ⟨ml, hml⟩ : ∃ ml, ml = min pw (a - i) := ⟨_, rfl⟩
      rw [← hml] at HST
      have HCS : Hid ((ints ((zs2.drop m2).take ml)).length = ml) := Lib.hid (by rw [ints_length, List.length_take, List.length_drop, HX2'.out]; omega)
      have HDP : Hid (0 < ml → tailA (tailA (some ⟨G, 0, none⟩) n m) (n - m) i = some ⟨G, m + i, none⟩) := Lib.hid (fun h => by rw [tail_at (by omega), tail_at (by omega), Nat.zero_add])
      have hts := fun W' => tail_int W' (tailA (some ⟨G, 0, none⟩) n m) a (n - m) i (by omega)
      have HRS : Hid (VRow w w.heap.size (tailA q2 c2 m2) (ints ((zs2.drop m2).take pw))) := Lib.hid (mid_v c2 m2 pw HR2.out (by rw [HX2'.out]; exact hc2))
      have HFIT : Hid (m + i + ml ≤ n ∧ ml ≤ pw ∧ ml = min pw (a - i) ∧ m2 + pw ≤ n2) := Lib.hid ⟨by omega, by omega, hml, by omega⟩
      generalize tailA (tailA (some ⟨G, 0, none⟩) n m) (n - m) i = dp at HDP hts
      generalize tailA (some ⟨G, 0, none⟩) n m = dq at HL1 hts
      generalize n - m - i = dc at hts
      generalize n - m = dc2 at HL1 hts
      generalize tailA q2 c2 m2 = sp at HL2 HRS
      generalize c2 - m2 = sc at HL2
      obtain ⟨ai, hai⟩ : ∃ ai, a - i = ai := ⟨_, rfl⟩
      rw [hai] at hts HFIT
      have ql : decide ((k : Int) < (mm : Int)) = true := by simpa using hlt
      have hkb : k ≤ 4194304 := by omega
      have hdr := (show Drawn wr wr.drew from ⟨1, rfl⟩).below wr.heap.size
      have HSD := Lib.hid (HS.out.go hdr)
      clear hmm hjk hln hpl hlz hml hai hdr hyk hm1 hm2
      go_wp2_with fail
      have e2 := E2.out
      refine wp_region_held_drew (S := fun V => (V.cell? ⟨w4.heap.size, 0, none⟩ = some (.int .i64 (a : Int)) ∧ V.cell? ⟨w4.heap.size, 1, none⟩ = some (.int .i64 (b : Int)) ∧ V.cell? ⟨w4.heap.size, 2, none⟩ = some (.slice (some ⟨G, 0, none⟩) n n)) ∧ (V.cell? ⟨w.heap.size + 1, 0, none⟩ = some (.int .i64 (pw : Int)) ∧ V.cell? ⟨w.heap.size + 1, 1, none⟩ = some (.int .i64 (ph : Int)) ∧ V.cell? ⟨w.heap.size + 1, 2, none⟩ = some (.slice q2 n2 c2))) (by kernel_rfl) ⟨HSD.out.b10.cells, HSD.out.b5.cells⟩ (fun hHeld => ?_)
      refine jt 0 ?_
      refine jt 1 ?_
      refine jt 2 ?_
      refine jt 3 ?_
      refine jt 5 ?_
      refine jt 7 ?_
      refine jt 8 ?_
      clear e2
      refine js 4 (fun K hK => ?_)
      go_simp
      refine (HL1.out _).mono ?_
      rintro e v1 ⟨rfl, hv1⟩
      have HS1 := Lib.hid (HSD.out.go hv1)
      clear hv1
      go_wp2_with fail
      refine hK.out _ _ ⟨HS1.out.b10.cells, HS1.out.b5.cells⟩ (fun hH1 => ?_)
      clear hK K hHeld
      try simp only [Act.put, jA, jB, jC, jD, jE, jF]
      refine jt 6 ?_
      refine js 9 (fun K hK => ?_)
      go_simp
      refine (HL2.out _).mono ?_
      rintro e v2 ⟨rfl, hv2⟩
      have HS2 := Lib.hid (HS1.out.go hv2)
      clear hv2
      go_wp2_with fail
      refine hK.out _ _ ⟨HS2.out.b10.cells, HS2.out.b5.cells⟩ (fun hH2 => ?_)
      clear hK K hH1
      try simp only [Act.put, jA, jB, jC, jD, jE, jF]
      refine js 10 (fun K hK => ?_)
      refine step_copy_in rfl (.tmp 41) (.tmp 44) rfl dp sp ai dc pw sc rfl rfl G (m + i) (ints (pasteN a zs 0 pw zs2 i j k)) 3 HS2.out.own (ints ((zs2.drop m2).take ml)) ?d1 ?d2 ?d3 ints_one ?_
      case d1 => rw [HCS.out]; have := HFIT.out; show _ = min pw ai; omega
      case d2 =>
        intro h0
        rw [HCS.out] at h0
        have hrs := HRS.out.below HS2.out.bel (Nat.le_refl _)
        obtain ⟨bb, off, hq, _, hc⟩ := hrs (by rw [ints_length, List.length_take, List.length_drop, HX2'.out]; have := HFIT.out; omega)
        refine ⟨HDP.out h0, _, hq, fun jj u hj => ?_⟩
        obtain ⟨hj', hu⟩ := List.getElem?_eq_some_iff.1 hj
        rw [HCS.out] at hj'
        rw [add_plain, hc jj (by rw [ints_length, List.length_take, List.length_drop, HX2'.out]; have := HFIT.out; omega), ← hu]
        simp [ints]
      case d3 => rw [HCS.out, ints_length, HLZ.out]; have := HFIT.out; omega
      intro v3 HG3 HO3
      have HS3 : Hid (PaS w w4.heap.size G (.int .i64 (a : Int)) (.int .i64 (b : Int)) (.slice q1 n c1) (.int .i64 (pw : Int)) (.int .i64 (ph : Int)) (.slice q2 n2 c2) (.slice (some ⟨G, 0, none⟩) n n) (pasteN a zs 0 pw zs2 i j (k + 1)) v3) := Lib.hid (HS2.out.fil ⟨HO3.out, by rw [← HST.out, ints_splice]; exact HG3.out⟩)
      refine hK.out _ _ ⟨HS3.out.b10.cells, HS3.out.b5.cells⟩ (fun hH3 => ?_)
      clear hK K hH2
      try simp only [Act.put, jA, jB, jC, jD, jE, jF]
      refine wpAnyH_done (by kernel_rfl) ?_ _
      clear hH3 HS1 HS2 HSD HL1 HL2
      go_wp2_with fail
      go_roundw
      case rel => exact ⟨k + 1, by omega, by go_num, HS3⟩
      case measure => simp [intOf]; omega
    · obtain rfl : k = mm := by omega
      have ql : decide ((k : Int) < (k : Int)) = false := by simp
      have hS := HS.out
      rw [show pasteN a zs 0 pw zs2 i j k = Z from by
        rw [pasteN, HZZ.out]
        by_cases hq : ph ≤ b - j
        · obtain rfl : k = ph := by omega
          rfl
        · exact (pasteG_out (H := b) (by rw [HX1.out, HN.out]) 0 zs2 (by omega) (by omega)).symm] at hS
      have h8 := hS.b8
      obtain ⟨j0, j1, j2⟩ := h8.cells
      have f := h8.fz
      have f0 := f 0
      have f1 := f 1
      have f2 := f 2
      obtain ⟨m0, m1, m2⟩ := hS.b10.cells
      have HRR := Lib.hid (h8.put (.int .i64 (a : Int)) (.int .i64 (b : Int)) (.slice (some ⟨G, 0, none⟩) n n))
      have hn := hS.ne
      have hO : Ow w G 3 (ints Z) wr := ⟨hS.bel, by omega, blk_lt hS.own, hS.own⟩
      have hg : w.heap.size + 2 ≠ G := by omega
      have HO := Lib.hid (ow_far (i := 2) (ow_far (i := 1) (ow_far (i := 0) hO hg (by omega) (.int .i64 (a : Int))) hg (by omega) (.int .i64 (b : Int))) hg (by omega) (.slice (some ⟨G, 0, none⟩) n n))
      clear hn hO hg f h8 hS HS hmm hk hlt
      go_wp2_with fail
      refine bodyPost_ret (res_two Try.underlying26 size_gi rfl _ _ (w.heap.size + 2) _ _ _ rfl HRR.out) rfl ?_
      exact ⟨G, rfl, HO.out⟩
end Go.Proofs.Ytjecakkdongcoaa.Gr

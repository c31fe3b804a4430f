
/- The walk of GridAgain. -/
import Derived.Test.YtjecakkdongcoaaGrV
import Derived.Test.YtjecakkdongcoaaGrW
namespace Go.Proofs.Ytjecakkdongcoaa.Gr
open Go.RowKit Go.Proofs.Ytjecakkdongcoaa.Oct
open Go.Proofs.Ytjecakkdongcoaa.Lp (VRow Only ints ints_length ints_append ints_one vrow_blk vrow_own blk_set blk_far blk_frozen)
open Go.Proofs.Ytjecakkdongcoaa.Gd (canG pasteG pasteG_length cutG cutG_length)
open Go.Proofs.Ytjecakkdongcoaa.Fm (Ow)
set_option linter.unusedVariables false
set_option linter.unusedSimpArgs false
set_option maxRecDepth 100000

/-- a number without a sign, and what is left of it -/
theorem left_of (l : Int) (a : Nat) (h0 : 0 < a) (h1 : a ≤ 4194304) : ∃ u i : Nat, i < a ∧ IntKind.u64.wrap l = (u : Int) ∧ IntKind.u64.wrap (a : Int) = (a : Int) ∧ (u : Int).tmod (a : Int) = (i : Int) ∧ IntKind.u64.wrap (i : Int) = (i : Int) := by
  have h3 : 0 ≤ IntKind.u64.wrap l := by rw [IntKind.wrap_u64]; omega
  refine ⟨(IntKind.u64.wrap l).toNat, (IntKind.u64.wrap l).toNat % a, Nat.mod_lt _ h0, by omega, by rw [IntKind.wrap_u64]; omega, rfl, ?_⟩
  have := Nat.mod_lt (IntKind.u64.wrap l).toNat h0
  rw [IntKind.wrap_u64]; omega
theorem enterE (args : Array Value) (w : World) : (callFunc 28 args).run Try.prog w = .ok (.enter 28 args) w := by
  have h1 : ¬ Try.f28.name = "runtime.NumGoroutine" := of_decide_eq_false (by kernel_rfl)
  have h2 : ¬ Try.f28.body = none := fun e => by
    have : Try.f28.body.isSome = true := by kernel_rfl
    rw [e] at this
    cases this
  simp [callFunc, go_sem, Try.func28, h1, h2]
/-- is a number even, as the program reckons it? -/
def evenI (z : Int) : Bool := z.tmod 2 == 0
theorem funE (z : Int) (w : World) : Calls Try.prog 28 (#[.int .i64 z] ++ #[]) w fun e w' => e = .returned (.bool (evenI z)) ∧ w = w' := by
  show Calls Try.prog 28 #[.int .i64 z] w _
  go_enter Try.func28, Try.ntmps28
  go_wp2_with fail
  go_ret
  exact ⟨rfl, rfl⟩
set_option maxHeartbeats 8000000 in
theorem again_walk (W H : Int) (p : Option Addr) (n0 c0 : Nat) (f : Bool) (W' H' : Int) (p' : Option Addr) (n0' c0' : Nat) (f' : Bool) (l0 l1 : Int) (w : World) (hs : IsSome_ w p n0 c0) (hs' : IsSome_ w p' n0' c0') :
    Calls Try.prog 6 #[.agg #[.int .i64 W, .int .i64 H, .slice p n0 c0, .bool f], .agg #[.int .i64 W', .int .i64 H', .slice p' n0' c0', .bool f'], .agg #[.int .i64 l0, .int .i64 l1]] w (BolP w true) := by
  obtain ⟨w1, hw1, HB1, HX1, hz1⟩ := box4 24 w (.int .i64 W) (.int .i64 H) (.slice p n0 c0) (.bool f)
  obtain ⟨w2, hw2, HB2, HX2, hz2⟩ := box4 24 w1 (.int .i64 W') (.int .i64 H') (.slice p' n0' c0') (.bool f')
  obtain ⟨w3, hw3, HB3, HX3, hz3⟩ := boxT w2 l0 l1
  rw [hz1] at HX2
  rw [hz2, hz1] at HX3
  rw [hw2, hw1] at hw3
  have HT3 : Hid (B2 w3 (w.heap.size + 2) l0 l1) := HX3
  have HBE := Lib.hid (HB1.out.trans ((HB2.out.trans (HB3.out.mono HB2.out.size)).mono HB1.out.size))
  have HOF := Lib.hid (of_any W H p n0 c0 f w3 (hs.go HBE.out))
  have HSO := Lib.hid (hs'.go HBE.out)
  have HX23 := Lib.hid (HX2.out.go HB3.out)
  have HW3 := Lib.hid hw3
  clear hw1 hw2 hw3 hz1 hz2 hz3 HB1 HX1 HB2 HX2 HB3 HX3 hs hs'
  go_enter Try.func6, Try.ntmps6
  go_wp2_with fail
  rw [← HW3.out]
  refine HOF.out.mono ?_
  rintro e w4 ⟨hb4, W1, H1, n, zs, q1, q2, c1, c2, ok, rfl, hx, hv1, hv2, hc1, hc2, hq1, hq2, hok⟩
  obtain ⟨w5, hw5, HB5, HX5, HY5, hz5⟩ := box2 26 28 w4 (.int .i64 W1) (.int .i64 H1) (.slice q1 n c1) (.int .i64 W1) (.int .i64 H1) (.slice q2 n c2)
  have hb45 := hb4.trans (HB5.out.mono hb4.size)
  have HB05 := Lib.hid (HBE.out.trans (hb45.mono HBE.out.size))
  have kk := (HX23.out.go hb45).cells
  rw [hw5] at kk
  obtain ⟨r0, r1, r2, r3⟩ := kk
  have HT5 := Lib.hid (HT3.out.go hb45)
  have HV1 := Lib.hid (vrow_up hv1 HB5.out)
  have HV2 := Lib.hid (vrow_up hv2 HB5.out)
  have HOF2 := Lib.hid (of_any W' H' p' n0' c0' f' w5 (HSO.out.go hb45))
  have HX := Lib.hid hx
  have HC1L := Lib.hid hc1
  have HOK := Lib.hid hok
  have HW5 := Lib.hid hw5
  clear hb4 hx hv1 hv2 hc1 hc2 hq1 hq2 hok hw5 hz5 HB5 hb45 HOF HSO HX23 HW3 HBE HT3
  go_wp2_with fail
  rw [← HW5.out]
  refine HOF2.out.mono ?_
  rintro e w6 ⟨hb6, W2, H2, m, ys, q3, q4, c3, c4, is, rfl, hy, hv3, hv4, hc3, hc4, hq3, hq4, his⟩
  obtain ⟨w7, hw7, HB7, HX7, HY7, hz7⟩ := box2 26 28 w6 (.int .i64 W2) (.int .i64 H2) (.slice q3 m c3) (.int .i64 W2) (.int .i64 H2) (.slice q4 m c4)
  have hb57 := hb6.trans (HB7.out.mono hb6.size)
  have HS7 : Hid (PwS w w4.heap.size w6.heap.size W1 H1 q1 q2 n c1 c2 zs W2 H2 q3 q4 m c3 c4 ys l0 l1 w7) := Lib.hid
    ⟨HB05.out.trans (hb57.mono HB05.out.size), HT5.out.go hb57, HX5.out.go hb57, HY5.out.go hb57, HX7.out, HY7.out, vrow_up HV1.out hb57, vrow_up HV2.out hb57, vrow_up hv3 HB7.out, vrow_up hv4 HB7.out⟩
  have HY := Lib.hid hy
  have HC3 := Lib.hid hc3
  have HIS := Lib.hid his
  have HW7 := Lib.hid hw7
  clear hb6 hy hv3 hv4 hc3 hc4 hq3 hq4 his hw7 hz7 HB7 hb57 HX7 HY7 HOF2 HV1 HV2 HX5 HY5 HT5 HB05 HW5 r0 r1 r2 r3
  go_wp2_with fail
  rw [← HW7.out]
  refine (lives_any _).mono ?_
  rintro e w8 ⟨rfl, hb8⟩
  have HS8 := Lib.hid (HS7.out.go hb8)
  clear hb8 HS7 HW7
  cases ok
  · go_wp2_with fail
    refine (lives_any _).mono ?_
    rintro e w9 ⟨rfl, hb9⟩
    have HB9 := Lib.hid (HS8.out.bel.trans (hb9.mono HS8.out.bel.size))
    clear hb9
    go_wp2_with fail
    go_ret
    exact ⟨rfl, HB9.out⟩
  cases is
  · go_wp2_with fail
    refine (lives_any _).mono ?_
    rintro e w9 ⟨rfl, hb9⟩
    have HB9 := Lib.hid (HS8.out.bel.trans (hb9.mono HS8.out.bel.size))
    clear hb9
    go_wp2_with fail
    go_ret
    exact ⟨rfl, HB9.out⟩
  have hn36 := HOK.out rfl
  have hm36 := HIS.out rfl
  obtain ⟨k0, k1, k2⟩ := HS8.out.b7.cells
  clear HOK HIS
  have HMP := Lib.hid (fun w h => mapB_any 28 enterE #[] evenI W1 H1 q1 n c1 zs w (fun z w' _ => funE z w') h HX.out (by omega))
  go_wp2_with fail
  refine (HMP.out _ HS8.out.v1).mono ?_
  rintro e w9 ⟨G, rfl, ho⟩
  obtain ⟨w10, hw10, HB10, HX10, hz10⟩ := box1 46 w9 (.int .i64 W1) (.int .i64 H1) (.slice (some ⟨G, 0, none⟩) n n)
  have hb810 := ho.1.trans (HB10.out.mono ho.1.size)
  have HS10 := Lib.hid (HS8.out.go hb810)
  have kk := HS10.out.b7.cells
  rw [hw10] at kk
  obtain ⟨x0, x1, x2⟩ := kk
  have HG := Lib.hid (ho.go HB10.out).2.2.2
  have HW10 := Lib.hid hw10
  have qa : (W1 != W1) = false := by simp
  have qb : (H1 != H1) = false := by simp
  have qc : ((n : Int) != (n : Int)) = false := by simp
  clear ho hw10 hz10 hb810 HB10 HS8 k0 k1 k2 HMP
  go_wp2_with fail
  rw [← HW10.out]
  clear HW10 x0 x1 x2
  go_loopw [14, 15, 75] (fun s14 s15 i wr => ∃ k : Nat, k ≤ n ∧ i = .int .i64 (k : Int) ∧ Hid (PwS w w4.heap.size w6.heap.size W1 H1 q1 q2 n c1 c2 zs W2 H2 q3 q4 m c3 c4 ys l0 l1 wr) ∧ Hid (Bx 46 wr w9.heap.size (.int .i64 W1) (.int .i64 H1) (.slice (some ⟨G, 0, none⟩) n n)) ∧ Hid (wr.heap[G]? = some (.cells (bools (zs.map evenI)).toArray 4 (0, 0)))) (fun _ _ i _ => n - (intOf i).toNat)
  case atStart => exact ⟨0, Nat.zero_le _, rfl, HS10, HX10, HG⟩
  case round =>
    clear HS10 HX10 HG
    obtain ⟨k, hk, rfl, HS10, HX10, HG⟩ := hrel
    by_cases hlt : k < n
    · have hkz : k < zs.length := by rw [HX.out]; exact hlt
      obtain ⟨bb, off, hq, hbl, hc⟩ := vrow_int' HS10.out.v1 k hkz
      obtain ⟨z, hz⟩ : ∃ z, z = zs[k] := ⟨_, rfl⟩
      rw [← hz] at hc
      have hkb : k < (bools (zs.map evenI)).length := by rw [bools_length, List.length_map]; exact hkz
      have hd := blk_cell HG.out hkb
      rw [show (bools (zs.map evenI))[k] = .bool (evenI z) from by rw [hz]; simp [bools]] at hd
      obtain ⟨y0, y1, y2⟩ := HX10.out.cells
      have ql : decide ((k : Int) < (n : Int)) = true := by simpa using hlt
      have i1 : (0 : Int) ≤ (k : Int) := by omega
      have i2 : (k : Int) < (n : Int) := by omega
      subst hq
      clear hkz hz hkb
      by_cases hz2 : z.tmod 2 = 0
      · have ev : evenI z = true := by simp [evenI, hz2]
        rw [ev] at hd
        have ew : (z.tmod 2 == 0) = true := by simp [hz2]
        clear hz2 ev
        go_wp2_with fail
        go_roundw
        case rel => exact ⟨k + 1, by omega, by go_num, HS10, HX10, HG⟩
        case measure => simp [intOf]; omega
      · have ev : evenI z = false := by simp [evenI, hz2]
        rw [ev] at hd
        have ew : (z.tmod 2 == 0) = false := by simp [hz2]
        clear hz2 ev
        go_wp2_with fail
        go_roundw
        case rel => exact ⟨k + 1, by omega, by go_num, HS10, HX10, HG⟩
        case measure => simp [intOf]; omega
    · obtain rfl : k = n := by omega
      have ql : decide ((k : Int) < (k : Int)) = false := by simp
      obtain ⟨m0, m1, m2⟩ := HS10.out.b8.cells
      clear hlt hk
      go_wp2_with fail
      refine (rright_any W1 H1 q2 k c2 _).mono ?_
      rintro e w11 ⟨rfl, hb11⟩
      have HS11 := Lib.hid (HS10.out.go hb11)
      clear hb11 HS10 m0 m1 m2
      by_cases hR : rightI W1 H1 k = true
      case neg =>
        rw [show rightI W1 H1 k = false from by simpa using hR]
        have HBF := Lib.hid HS11.out.bel
        clear hR
        go_wp2_with fail
        go_ret
        exact ⟨rfl, HBF.out⟩
      rw [hR]
      obtain ⟨m0, m1, m2⟩ := HS11.out.b11.cells
      go_wp2_with fail
      refine (rright_any W2 H2 q4 m c4 _).mono ?_
      rintro e w12 ⟨rfl, hb12⟩
      have HS12 := Lib.hid (HS11.out.go hb12)
      clear hb12 HS11 m0 m1 m2
      by_cases hR2 : rightI W2 H2 m = true
      case neg =>
        rw [show rightI W2 H2 m = false from by simpa using hR2]
        have HBF := Lib.hid HS12.out.bel
        clear hR hR2
        go_wp2_with fail
        go_ret
        exact ⟨rfl, HBF.out⟩
      rw [hR2]
      obtain ⟨a, b, rfl, rfl, hn, hm, ha, hb⟩ := right_nat hR
      obtain ⟨pw, ph, rfl, rfl, hpn, hpm, hpa, hpb⟩ := right_nat hR2
      obtain ⟨m0, m1, m2⟩ := HS12.out.b8.cells
      have HRI := Lib.hid (And.intro hR hR2)
      clear hR hR2
      by_cases ha0 : a = 0
      · have q0 : ((a : Int) == 0) = true := by simp [ha0]
        have HBF := Lib.hid HS12.out.bel
        clear ha0
        go_wp2_with fail
        go_ret
        exact ⟨rfl, HBF.out⟩
      have q0 : ((a : Int) == 0) = false := by simp; omega
      by_cases hb0 : b = 0
      · have q1 : ((b : Int) == 0) = true := by simp [hb0]
        have HBF := Lib.hid HS12.out.bel
        clear ha0 hb0
        go_wp2_with fail
        go_ret
        exact ⟨rfl, HBF.out⟩
      have q1' : ((b : Int) == 0) = false := by simp; omega
      obtain ⟨t0, t1⟩ := HS12.out.b5.cells
      have qa0 : ¬ (a : Int) = 0 := by omega
      have qb0 : ¬ (b : Int) = 0 := by omega
      obtain ⟨v0, i, hia, e1, e2, e3, e4⟩ := left_of l0 a (by omega) ha
      obtain ⟨v1, j, hjb, e5, e6, e7, e8⟩ := left_of l1 b (by omega) hb
      go_wp2_with fail
      go_quiet (fail)
      generalize hWQ : w12.drewN _ = wq
      have hdq := (show Drawn w12 wq from ⟨_, hWQ.symm⟩).below w12.heap.size
      have HSQ := Lib.hid (HS12.out.go hdq)
      obtain ⟨k0, k1, k2⟩ := HSQ.out.b7.cells
      obtain ⟨y0, y1, y2⟩ := HSQ.out.b11.cells
      have HIA := Lib.hid hia
      have HJB := Lib.hid hjb
      have HCT := Lib.hid (fun w h => cut_any (a : Int) (b : Int) q1 k c1 zs (i : Int) (j : Int) (pw : Int) (ph : Int) w h HX.out (HC1L.out) (by omega) (by omega))
      have HCI : Hid ((hasI (a : Int) (b : Int) k (i : Int) (j : Int) && canG (pw : Int) (ph : Int)) = true) := Lib.hid (by
        obtain ⟨r1, r2⟩ := HRI.out
        have r3 : canG (pw : Int) (ph : Int) = true := by
          unfold rightI at r2
          rw [Bool.and_eq_true] at r2
          exact r2.1
        rw [r3, Bool.and_true, hasI, r1, Bool.true_and]
        simp
        omega)
      obtain ⟨M, hM⟩ : ∃ M, M = pw * ph := ⟨_, rfl⟩
      have hMi : ((pw : Int) * (ph : Int)).toNat = m := by rw [← Int.natCast_mul, Int.toNat_natCast, hpn]
      have HN := Lib.hid hn
      have HPN := Lib.hid hpn
      have HMI := Lib.hid hMi
      clear e1 e2 e3 e4 e5 e6 e7 e8 hWQ hdq HS12 m0 m1 m2 t0 t1 hM hn hpn hMi
      go_wp2_with fail
      refine (HCT.out _ HSQ.out.v1).mono ?_
      rintro e w13 (⟨_, G2, rfl, ho⟩ | ⟨h0, _⟩)
      rotate_left
      · rw [HCI.out] at h0; cases h0
      simp only [Int.toNat_natCast] at ho
      rw [HMI.out]
      generalize hZC : cutG a b zs 0 i j pw ph = Z at ho
      have hZL : Z.length = m := by rw [← hZC, cutG_length, HPN.out]
      obtain ⟨w14, hw14, HB14, HX14, hz14⟩ := box1 26 w13 (.int .i64 (pw : Int)) (.int .i64 (ph : Int)) (.slice (some ⟨G2, 0, none⟩) m m)
      have hbq := ho.1.trans (HB14.out.mono ho.1.size)
      have HS14 := Lib.hid (HSQ.out.go hbq)
      have kk := HS14.out.b7.cells
      rw [hw14] at kk
      obtain ⟨k0, k1, k2⟩ := kk
      have HVZ := Lib.hid (ho.go HB14.out).row
      have HZC := Lib.hid hZC
      have HZL := Lib.hid hZL
      have HW14 := Lib.hid hw14
      have HPI : Hid (pasI (a : Int) (b : Int) k (pw : Int) (ph : Int) m (i : Int) (j : Int) = true) := Lib.hid (by
        have h := HCI.out
        rw [Bool.and_eq_true] at h
        rw [pasI, HRI.out.2, h.1]; rfl)
      have HPC := Lib.hid (fun w h h' => paste_any (a : Int) (b : Int) q1 k c1 zs (pw : Int) (ph : Int) (some ⟨G2, 0, none⟩) m m Z (i : Int) (j : Int) w h HX.out (by omega) h' hZL (Nat.le_refl _))
      clear ho hbq hw14 hz14 HSQ HCT y0 y1 y2 hZC hZL
      go_wp2_with fail
      rw [← HW14.out]
      refine (HPC.out _ HS14.out.v1 HVZ.out).mono ?_
      rw [HPI.out, if_pos rfl, if_pos rfl]
      simp only [Int.toNat_natCast]
      rw [show pasteG a zs 0 pw ph Z i j = zs from by rw [← HZC.out]; exact Gd.paste_cut (by rw [HX.out, HN.out]) 0 pw ph i j]
      rintro e w15 ⟨G3, rfl, ho⟩
      obtain ⟨w16, hw16, HB16, HX16, hz16⟩ := box1 26 w15 (.int .i64 (a : Int)) (.int .i64 (b : Int)) (.slice (some ⟨G3, 0, none⟩) k k)
      have hbq := ho.1.trans (HB16.out.mono ho.1.size)
      have HS16 := Lib.hid (HS14.out.go hbq)
      have kk := HS16.out.b7.cells
      have ll := HS16.out.b10.cells
      rw [hw16] at kk ll
      obtain ⟨k0, k1, k2⟩ := kk
      obtain ⟨y0, y1, y2⟩ := ll
      have HV3 := Lib.hid (ho.go HB16.out).row
      have HW16 := Lib.hid hw16
      have HPD := Lib.hid (fun w h h' => paste_any (a : Int) (b : Int) q1 k c1 zs (pw : Int) (ph : Int) q3 m c3 ys (i : Int) (j : Int) w h HX.out (by omega) h' HY.out HC3.out)
      clear ho hbq hw16 hz16 HS14 HPC HVZ HX14 HB14 HW14 HB16
      go_wp2_with fail
      rw [← HW16.out]
      refine (HPD.out _ HS16.out.v1 HS16.out.v3).mono ?_
      rw [HPI.out, if_pos rfl, if_pos rfl]
      simp only [Int.toNat_natCast]
      generalize hZ2 : pasteG a zs 0 pw ph ys i j = Z2
      have HZ2 := Lib.hid hZ2
      have HZ2L : Hid (Z2.length = k) := Lib.hid (by rw [← hZ2, pasteG_length, HX.out])
      rintro e w17 ⟨G4, rfl, ho⟩
      obtain ⟨w18, hw18, HB18, HX18, hz18⟩ := box1 26 w17 (.int .i64 (a : Int)) (.int .i64 (b : Int)) (.slice (some ⟨G4, 0, none⟩) k k)
      have hbq := ho.1.trans (HB18.out.mono ho.1.size)
      have HS18 := Lib.hid (HS16.out.go hbq)
      have kk := (HX16.out.go hbq).cells
      have ll := HS18.out.b8.cells
      rw [hw18] at kk ll
      obtain ⟨k0, k1, k2⟩ := kk
      obtain ⟨y0, y1, y2⟩ := ll
      have HV4 := Lib.hid (ho.go HB18.out).row
      have HLK := Lib.hid (like_yes (a : Int) (b : Int) (some ⟨G3, 0, none⟩) q2 k k c2 zs w18 (vrow_up HV3.out hbq) HS18.out.v2 HX.out (by omega))
      have HW18 := Lib.hid hw18
      clear ho hbq hw18 hz18 hZ2 HS16 HPD HX16 HW16 HV3 HB18
      go_wp2_with fail
      rw [← HW18.out]
      refine HLK.out.mono ?_
      rintro e w19 ⟨rfl, hb19⟩
      have HS19 := Lib.hid (HS18.out.go hb19)
      have HX19 := Lib.hid (HX18.out.go hb19)
      have HV9 := Lib.hid (vrow_up HV4.out hb19)
      obtain ⟨k0, k1, k2⟩ := HS19.out.b8.cells
      obtain ⟨y0, y1, y2⟩ := HS19.out.b11.cells
      clear hb19 HS18 HX18 HV4 HLK HW18
      have hia := HIA.out
      have hjb := HJB.out
      obtain ⟨s1, hs1⟩ : ∃ s1, i + pw = s1 := ⟨_, rfl⟩
      obtain ⟨s2, hs2⟩ : ∃ s2, j + ph = s2 := ⟨_, rfl⟩
      have u1 : (i : Int) + (pw : Int) = (s1 : Int) := by omega
      have u2 : (j : Int) + (ph : Int) = (s2 : Int) := by omega
      have u3 : s1 ≤ 100000000 := by omega
      have u4 : s2 ≤ 100000000 := by omega
      by_cases hA : a < s1
      · have d1 : decide ((a : Int) < (s1 : Int)) = true := by simpa using hA
        have d2 : decide (a < s1) = true := by simpa using hA
        have HBF := Lib.hid HS19.out.bel
        go_wp2_with fail
        go_ret
        exact ⟨rfl, HBF.out⟩
      have d1 : decide ((a : Int) < (s1 : Int)) = false := by simpa using hA
      have d2 : decide (a < s1) = false := by simpa using hA
      by_cases hB : b < s2
      · have d3 : decide ((b : Int) < (s2 : Int)) = true := by simpa using hB
        have d4 : decide (b < s2) = true := by simpa using hB
        have HBF := Lib.hid HS19.out.bel
        clear hA
        go_wp2_with fail
        go_ret
        exact ⟨rfl, HBF.out⟩
      have d3 : decide ((b : Int) < (s2 : Int)) = false := by simpa using hB
      have d4 : decide (b < s2) = false := by simpa using hB
      have HCT := Lib.hid (fun w h => cut_any (a : Int) (b : Int) (some ⟨G4, 0, none⟩) k k Z2 (i : Int) (j : Int) (pw : Int) (ph : Int) w h HZ2L.out (Nat.le_refl _) (by omega) (by omega))
      have HYS : Hid (cutG a b Z2 0 i j pw ph = ys) := Lib.hid (by rw [← HZ2.out]; exact Gd.cut_paste (by rw [HX.out, HN.out]) 0 (by rw [HY.out, HPN.out]) (by omega) (by omega))
      obtain ⟨x0, x1, x2⟩ := HX19.out.cells
      clear hA hB hs1 hs2
      go_wp2_with fail
      refine (HCT.out _ HV9.out).mono ?_
      rintro e w20 (⟨_, G5, rfl, ho⟩ | ⟨h0, _⟩)
      rotate_left
      · rw [HCI.out] at h0; cases h0
      simp only [Int.toNat_natCast] at ho
      rw [HYS.out] at ho
      rw [HMI.out]
      obtain ⟨w21, hw21, HB21, HX21, hz21⟩ := box1 26 w20 (.int .i64 (pw : Int)) (.int .i64 (ph : Int)) (.slice (some ⟨G5, 0, none⟩) m m)
      have hbq := ho.1.trans (HB21.out.mono ho.1.size)
      have HS21 := Lib.hid (HS19.out.go hbq)
      have kk := HS21.out.b11.cells
      rw [hw21] at kk
      obtain ⟨y0, y1, y2⟩ := kk
      have HLK := Lib.hid (like_yes (pw : Int) (ph : Int) (some ⟨G5, 0, none⟩) q4 m m c4 ys w21 (ho.go HB21.out).row HS21.out.v4 HY.out (by omega))
      have HW21 := Lib.hid hw21
      clear ho hbq hw21 hz21 HS19 HCT x0 x1 x2 k0 k1 k2
      go_wp2_with fail
      rw [← HW21.out]
      refine HLK.out.mono ?_
      rintro e w22 ⟨rfl, hb22⟩
      have HBF := Lib.hid (HS21.out.bel.trans (hb22.mono HS21.out.bel.size))
      clear hb22
      go_wp2_with fail
      go_ret
      exact ⟨rfl, HBF.out⟩
end Go.Proofs.Ytjecakkdongcoaa.Gr

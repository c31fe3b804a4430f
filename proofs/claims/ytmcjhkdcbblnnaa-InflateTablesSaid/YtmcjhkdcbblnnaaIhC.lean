
/- The walk of the law InflateTables. -/
import Derived.Test.YtmcjhkdcbblnnaaIhB
import Derived.Deep.RegionHeld3
namespace Go.Proofs.Ytmcjhkdcbblnnaa.Inf
open Go.RowKit Go.Proofs.Ytmcjhkdcbblnnaa.Oct Go.Proofs.Ytmcjhkdcbblnnaa.Bit Go.Proofs.Ytmcjhkdcbblnnaa.Hf
set_option linter.unusedVariables false
set_option linter.unusedSimpArgs false
set_option maxRecDepth 100000

/-- a table: where it lies -/
def TabAt (w : World) (b : Nat) (far : Bool) : Prop := b < w.heap.size ∧ ∀ w' : World, w'.heap[b]? = w.heap[b]? → TabR w' b far
theorem TabAt.below {w w' : World} {b : Nat} {far : Bool} (h : TabAt w b far) (hb : Below w.heap.size w w') : TabAt w' b far :=
  ⟨Nat.lt_of_lt_of_le h.1 hb.size, fun w2 h2 => h.2 w2 (h2.trans (hb.block b h.1))⟩
theorem TabAt.now {w : World} {b : Nat} {far : Bool} (h : TabAt w b far) : TabR w b far := h.2 w rfl
def TabQ (w : World) (far : Bool) (e : Ending) (w' : World) : Prop := ∃ b c, e = .returned (.slice (some ⟨b, 0, none⟩) (froms far).length c) ∧ Below w.heap.size w w' ∧ TabAt w' b far
theorem lens_q (w : World) : Calls Try.prog 14 #[] w (TabQ w false) := (lens_any w).mono fun e w' ⟨v, h1, h2, h3⟩ => by
  obtain ⟨b, c, hv, _, hlt, _, ht⟩ := tab_own h3
  exact ⟨b, c, by rw [h1, hv], h2, hlt, ht⟩
theorem dists_q (w : World) : Calls Try.prog 15 #[] w (TabQ w true) := (dists_any w).mono fun e w' ⟨v, h1, h2, h3⟩ => by
  obtain ⟨b, c, hv, _, hlt, _, ht⟩ := tab_own h3
  exact ⟨b, c, by rw [h1, hv], h2, hlt, ht⟩
theorem no_gap : ∀ far : Bool, ∀ i, i < (froms far).length → 0 < i → i ≠ 28 → (froms far).getD i 0 = (froms far).getD (i - 1) 0 + 2 ^ (extras far).getD (i - 1) 0 := by decide +kernel
theorem vrow_get9 {w : World} {C b i : Nat} {L : List Nat} (h : VRow w C (some ⟨b, 0, none⟩) (ints (castZ L))) (hi : i < L.length) : w.cell? ⟨b, i, none⟩ = some (.int .i64 ((L.getD i 0 : Nat) : Int)) := by
  have h1 := h.int i (by rw [castZ_length]; exact hi)
  rw [Nat.zero_add] at h1
  rw [h1]
  simp [castZ, List.getD_eq_getElem?_getD, List.getElem?_eq_getElem hi]
theorem len_eq : ∀ far : Bool, (extras far).length = (froms far).length := by decide
theorem rise : ∀ i, i < 28 → (froms false).getD i 0 < (froms false).getD (i + 1) 0 := by decide +kernel
set_option maxHeartbeats 8000000 in
theorem walk (at_ : Int) (w : World) : Calls Try.prog 4 #[.int .i64 at_] w (TrueP w) := by
  go_enter Try.func4, Try.ntmps4
  go_wp2_with fail
  refine (fixed_any w).mono ?_
  rintro e w1 ⟨hb1, q, c, r, d, rfl, hq, hq0, hr, hr0⟩
  have HB1 := Lib.hid hb1
  have HQ := Lib.hid hq
  have HR := Lib.hid hr
  clear hb1 hq hr hq0 hr0
  go_wp2_with fail
  refine (rfixed_any w1).mono ?_
  rintro e w2 ⟨hb2, q2, c2, r2, d2, rfl, hq2, hq02, hr2, hr02⟩
  have HB2 := Lib.hid (HB1.out.trans (hb2.mono HB1.out.size))
  have HQA := Lib.hid ((HQ.out.below hb2 (Nat.le_refl _)).mono hb2.size)
  have HRA := Lib.hid ((HR.out.below hb2 (Nat.le_refl _)).mono hb2.size)
  have HQ2 := Lib.hid hq2
  have HR2 := Lib.hid hr2
  clear hb2 hq2 hr2 hq02 hr02
  go_wp2_with fail
  refine (lives_any w2).mono ?_
  rintro e w3 ⟨rfl, hb3⟩
  have HB3 := Lib.hid (HB2.out.trans (hb3.mono HB2.out.size))
  have HS1 := Lib.hid (same_eq q q2 c c2 288 (castZ fixedA) w3 _ _ (HQA.out.below hb3 (Nat.le_refl _)) (HQ2.out.below hb3 (Nat.le_refl _)) (by rw [castZ_length]; decide) (by omega))
  have HRA3 := Lib.hid (HRA.out.below hb3 (Nat.le_refl _))
  have HR23 := Lib.hid (HR2.out.below hb3 (Nat.le_refl _))
  have HCZ : Hid (w2.heap.size ≤ w3.heap.size) := Lib.hid hb3.size
  clear hb3
  go_wp2_with fail
  refine HS1.out.mono ?_
  rintro e w4 ⟨rfl, hd4⟩
  have hb4 := hd4.below w3.heap.size
  have HB4 := Lib.hid (HB3.out.trans (hb4.mono HB3.out.size))
  have HS2 := Lib.hid (same_eq r r2 d d2 30 (castZ fixedB) w4 _ _ (HRA3.out.below hb4 HCZ.out) (HR23.out.below hb4 HCZ.out) (by rw [castZ_length]; decide) (by omega))
  clear hd4 hb4
  go_wp2_with fail
  refine HS2.out.mono ?_
  rintro e w5 ⟨rfl, hd5⟩
  have HB5 := Lib.hid (HB4.out.trans ((hd5.below w4.heap.size).mono HB4.out.size))
  clear hd5
  go_wp2_with fail
  refine (order_any w5).mono ?_
  rintro e w6 ⟨rfl, hb6, hv6⟩
  have HB6 := Lib.hid (HB5.out.trans (hb6.mono HB5.out.size))
  have HV6 := Lib.hid hv6
  clear hb6 hv6
  go_wp2_with fail
  refine (rorder_any w6).mono ?_
  rintro e w7 ⟨rfl, hb7, hv7⟩
  have HB7 := Lib.hid (HB6.out.trans (hb7.mono HB6.out.size))
  have HS3 := Lib.hid (same_eq _ _ 19 19 19 (castZ order) w7 _ _ (HV6.out.below hb7 (Nat.le_refl _)) hv7 (by decide) (by omega))
  clear hb7 hv7
  go_wp2_with fail
  refine HS3.out.mono ?_
  rintro e w8 ⟨rfl, hd8⟩
  have HB8 := Lib.hid (HB7.out.trans ((hd8.below w7.heap.size).mono HB7.out.size))
  clear hd8
  obtain ⟨w9, hw9⟩ : ∃ w9, w9 = w8.alloc (.cells #[.bool false, .bool true] 4) := ⟨_, rfl⟩
  have hb9 : Below w8.heap.size w8 w9 := by rw [hw9]; exact (Below.refl _ w8).alloc (Nat.le_refl _) _
  have hbk : w9.heap[w8.heap.size]? = some (.cells #[.bool false, .bool true] 4 (0, 0)) := by rw [hw9]; exact Array.getElem?_push_size
  obtain ⟨kb0, kb1, kb2, kb3⟩ := two_cells hbk
  have hz9 : w9.heap.size = w8.heap.size + 1 := by rw [hw9]; exact Array.size_push _
  have HB9 := Lib.hid (HB8.out.trans (hb9.mono HB8.out.size))
  have HK := Lib.hid (show ∀ wr, Below w9.heap.size w9 wr → wr.cell? ⟨w8.heap.size, 0, none⟩ = some (.bool false) ∧ wr.cell? ⟨w8.heap.size, 1, none⟩ = some (.bool true) from fun wr hb =>
    ⟨(hb.cell (p := ⟨w8.heap.size, 0, none⟩) (by show w8.heap.size < _; omega)).trans kb0, (hb.cell (p := ⟨w8.heap.size, 1, none⟩) (by show w8.heap.size < _; omega)).trans kb1⟩)
  have HW9 := Lib.hid hw9
  clear hw9 hb9 hbk kb0 kb1 kb2 kb3 HB1 HB2 HB3 HB4 HB5 HB6 HB7 HS1 HS2 HS3 HQ HR HQA HRA HQ2 HR2 HRA3 HR23 HV6
  go_wp2_with fail
  rw [← HW9.out]
  go_loopw [8, 9, 10, 11, 12, 13, 45, 64] (fun _ _ _ _ _ _ i _ wr => ∃ k : Nat, k ≤ 2 ∧ i = .int .i64 (k : Int) ∧ Hid (Below w9.heap.size w9 wr)) (fun _ _ _ _ _ _ i _ _ => 2 - (intOf i).toNat)
  case atStart => exact ⟨0, by omega, rfl, Lib.hid (Below.refl _ _)⟩
  case round =>
    obtain ⟨k, hk, rfl, HB⟩ := hrel
    obtain ⟨wB, rfl⟩ : ∃ wB, wB = wr := ⟨_, rfl⟩
    obtain ⟨kb0, kb1⟩ := HK.out wB HB.out
    match k, hk with
    | 0, _ =>
      go_wp2_with fail
      refine (lens_q wB).mono ?_
      rintro e w12 ⟨b, c9, rfl, hb12, hta⟩
      have HBC := Lib.hid (HB.out.trans (hb12.mono HB.out.size))
      clear hb12
      go_wp2_with fail
      refine (froms_any false w12).mono ?_
      rintro e w13 ⟨rfl, hb5, hv1, hv2⟩
      have HT := Lib.hid (hta.below hb5)
      have HV1 := Lib.hid hv1
      have HV2 := Lib.hid hv2
      have HBF := Lib.hid (HBC.out.trans (hb5.mono HBC.out.size))
      clear hta hb5 hv1 hv2
      generalize hH1 : w12.heap.size = H1 at HV1 HV2 ⊢
      clear hH1
      go_wp2_with fail
      obtain ⟨wA, rfl⟩ : ∃ wA, wA = w13 := ⟨_, rfl⟩
      go_loopw [12, 13, 64] (fun _ _ i wq => ∃ k : Nat, k ≤ 29 ∧ i = .int .i64 (k : Int) ∧ Hid (Below wA.heap.size wA wq)) (fun _ _ i _ => 29 - (intOf i).toNat)
      case atStart => exact ⟨0, by omega, rfl, Lib.hid (Below.refl _ _)⟩
      case round =>
        obtain ⟨i, hi, rfl, HJ⟩ := hrel
        by_cases hlt : i < 29
        · have qj : decide ((i : Int) < 29) = true := by simp; omega
          have j0 : (0 : Int) ≤ (i : Int) := by omega
          have j1 : (i : Int) < 29 := by omega
          obtain ⟨t1, t2⟩ := (HT.out.below HJ.out).now i hlt
          have v1 := vrow_get9 (HV1.out.below HJ.out (Nat.le_refl _)) hlt
          have v2 := vrow_get9 (HV2.out.below HJ.out (Nat.le_refl _)) (show i < (extras false).length from hlt)
          obtain ⟨x, hx⟩ : ∃ x, (froms false).getD i 0 = x := ⟨_, rfl⟩
          obtain ⟨e, he⟩ : ∃ e, (extras false).getD i 0 = e := ⟨_, rfl⟩
          rw [hx] at t1 v1
          rw [he] at t2 v2
          obtain ⟨wx, hwx⟩ : ∃ wx, wx = wr.alloc (.cells #[.int .i64 (x : Int), .int .i64 (e : Int)] 40) := ⟨_, rfl⟩
          have hbx : Below wr.heap.size wr wx := by rw [hwx]; exact (Below.refl _ wr).alloc (Nat.le_refl _) _
          have hblk : wx.heap[wr.heap.size]? = some (.cells #[.int .i64 (x : Int), .int .i64 (e : Int)] 40 (0, 0)) := by rw [hwx]; exact Array.getElem?_push_size
          obtain ⟨b0, b1, b2, b3⟩ := two_cells hblk
          have v1x := vrow_get9 ((HV1.out.below HJ.out (Nat.le_refl _)).below hbx HJ.out.size) hlt
          have v2x := vrow_get9 ((HV2.out.below HJ.out (Nat.le_refl _)).below hbx HJ.out.size) (show i < (extras false).length from hlt)
          rw [hx] at v1x
          rw [he] at v2x
          have HNX : Hid (∀ n, Below wA.heap.size wA (wx.drewN n)) := Lib.hid fun n => (HJ.out.trans (hbx.mono HJ.out.size)).trans ((show Drawn wx (wx.drewN n) from ⟨n, rfl⟩).below _)
          have HWX := Lib.hid hwx
          have HTX := Lib.hid ((HT.out.below HJ.out).below hbx)
          have HXE := Lib.hid hx
          clear hwx hbx hblk v1 v2 HJ
          by_cases hi0 : i = 0
          · have q0 : decide (0 < (i : Int)) = false := by simp; omega
            have q0n : decide (0 < i) = false := by simp; omega
            clear hx he hi0
            go_wp2_with fail
            rw [← HWX.out]
            go_quiet (fail)
            go_wp2_with fail
            go_roundw
            case rel => exact ⟨i + 1, by omega, by first | rfl | (push_cast; rfl), Lib.hid (HNX.out _)⟩
            case measure => simp [intOf]; omega
          · have q0 : decide (0 < (i : Int)) = true := by simp; omega
            have q0n : decide (0 < i) = true := by simp; omega
            by_cases hi28 : i = 28
            · have q28 : ((i : Int) != 28) = false := by simp; omega
              clear hx he hi28 hi0
              go_wp2_with fail
              rw [← HWX.out]
              go_quiet (fail)
              go_wp2_with fail
              go_roundw
              case rel => exact ⟨i + 1, by omega, by first | rfl | (push_cast; rfl), Lib.hid (HNX.out _)⟩
              case measure => simp [intOf]; omega
            · have q28 : ((i : Int) != 28) = true := by simp; omega
              obtain ⟨j, hj⟩ : ∃ j, j = i - 1 := ⟨_, rfl⟩
              have hji : (i : Int) - 1 = (j : Int) := by omega
              have hjl : j < (froms false).length := by show j < 29; omega
              obtain ⟨p1, p2⟩ := HTX.out.now j hjl
              have hgap := no_gap false i hlt (by omega) hi28
              obtain ⟨y1, y2, y3⟩ := froms_big false j hjl
              rw [← hj, hx] at hgap
              obtain ⟨x', hx'⟩ : ∃ x', (froms false).getD j 0 = x' := ⟨_, rfl⟩
              obtain ⟨e', he'⟩ : ∃ e', (extras false).getD j 0 = e' := ⟨_, rfl⟩
              rw [hx'] at p1 hgap y1 y2
              rw [he'] at p2 hgap y3
              have hadd : wrap64 ((x' : Int) + wrap64 ((2 : Int) ^ e')) = (x : Int) := add_pow x' e' x (by omega) (by omega) hgap
              have jj0 : (0 : Int) ≤ (j : Int) := by omega
              have jj1 : (j : Int) < 29 := by omega
              clear hx he hx' he' hgap hj hjl
              go_wp2_with fail
              rw [← HWX.out]
              go_quiet (fail)
              go_wp2_with fail
              go_roundw
              case rel => exact ⟨i + 1, by omega, by first | rfl | (push_cast; rfl), Lib.hid (HNX.out _)⟩
              case measure => simp [intOf]; omega
        · have qj : decide ((i : Int) < 29) = false := by simp; omega
          have HN : Hid (Below w9.heap.size w9 wr) := Lib.hid (HBF.out.trans (HJ.out.mono HBF.out.size))
          clear HJ
          go_wp2_with fail
          go_roundw
          case rel => exact ⟨1, by omega, by first | rfl | (push_cast; rfl), HN⟩
          case measure => simp [intOf]
    | 1, _ =>
      go_wp2_with fail
      refine (lens_q wB).mono ?_
      rintro e w11 ⟨b', c9', rfl, hb11, hta'⟩
      have HBA := Lib.hid (HB.out.trans (hb11.mono HB.out.size))
      clear hb11 hta'
      go_wp2_with fail
      refine (dists_q w11).mono ?_
      rintro e w12 ⟨b, c9, rfl, hb12, hta⟩
      have HBC := Lib.hid (HBA.out.trans (hb12.mono HBA.out.size))
      clear hb12
      go_wp2_with fail
      refine (froms_any true w12).mono ?_
      rintro e w13 ⟨rfl, hb5, hv1, hv2⟩
      have HT := Lib.hid (hta.below hb5)
      have HV1 := Lib.hid hv1
      have HV2 := Lib.hid hv2
      have HBF := Lib.hid (HBC.out.trans (hb5.mono HBC.out.size))
      clear hta hb5 hv1 hv2
      generalize hH1 : w12.heap.size = H1 at HV1 HV2 ⊢
      clear hH1
      go_wp2_with fail
      obtain ⟨wA, rfl⟩ : ∃ wA, wA = w13 := ⟨_, rfl⟩
      go_loopw [12, 13, 64] (fun _ _ i wq => ∃ k : Nat, k ≤ 30 ∧ i = .int .i64 (k : Int) ∧ Hid (Below wA.heap.size wA wq)) (fun _ _ i _ => 30 - (intOf i).toNat)
      case atStart => exact ⟨0, by omega, rfl, Lib.hid (Below.refl _ _)⟩
      case round =>
        obtain ⟨i, hi, rfl, HJ⟩ := hrel
        by_cases hlt : i < 30
        · have qj : decide ((i : Int) < 30) = true := by simp; omega
          have j0 : (0 : Int) ≤ (i : Int) := by omega
          have j1 : (i : Int) < 30 := by omega
          obtain ⟨t1, t2⟩ := (HT.out.below HJ.out).now i hlt
          have v1 := vrow_get9 (HV1.out.below HJ.out (Nat.le_refl _)) hlt
          have v2 := vrow_get9 (HV2.out.below HJ.out (Nat.le_refl _)) (show i < (extras true).length from hlt)
          obtain ⟨x, hx⟩ : ∃ x, (froms true).getD i 0 = x := ⟨_, rfl⟩
          obtain ⟨e, he⟩ : ∃ e, (extras true).getD i 0 = e := ⟨_, rfl⟩
          rw [hx] at t1 v1
          rw [he] at t2 v2
          obtain ⟨wx, hwx⟩ : ∃ wx, wx = wr.alloc (.cells #[.int .i64 (x : Int), .int .i64 (e : Int)] 40) := ⟨_, rfl⟩
          have hbx : Below wr.heap.size wr wx := by rw [hwx]; exact (Below.refl _ wr).alloc (Nat.le_refl _) _
          have hblk : wx.heap[wr.heap.size]? = some (.cells #[.int .i64 (x : Int), .int .i64 (e : Int)] 40 (0, 0)) := by rw [hwx]; exact Array.getElem?_push_size
          obtain ⟨b0, b1, b2, b3⟩ := two_cells hblk
          have v1x := vrow_get9 ((HV1.out.below HJ.out (Nat.le_refl _)).below hbx HJ.out.size) hlt
          have v2x := vrow_get9 ((HV2.out.below HJ.out (Nat.le_refl _)).below hbx HJ.out.size) (show i < (extras true).length from hlt)
          rw [hx] at v1x
          rw [he] at v2x
          have HNX : Hid (∀ n, Below wA.heap.size wA (wx.drewN n)) := Lib.hid fun n => (HJ.out.trans (hbx.mono HJ.out.size)).trans ((show Drawn wx (wx.drewN n) from ⟨n, rfl⟩).below _)
          have HWX := Lib.hid hwx
          have HTX := Lib.hid ((HT.out.below HJ.out).below hbx)
          have HXE := Lib.hid hx
          clear hwx hbx hblk v1 v2 HJ
          by_cases hi0 : i = 0
          · have q0 : decide (0 < (i : Int)) = false := by simp; omega
            have q0n : decide (0 < i) = false := by simp; omega
            clear hx he hi0
            go_wp2_with fail
            rw [← HWX.out]
            go_quiet (fail)
            go_wp2_with fail
            go_roundw
            case rel => exact ⟨i + 1, by omega, by first | rfl | (push_cast; rfl), Lib.hid (HNX.out _)⟩
            case measure => simp [intOf]; omega
          · have q0 : decide (0 < (i : Int)) = true := by simp; omega
            have q0n : decide (0 < i) = true := by simp; omega
            by_cases hi28 : i = 28
            · have q28 : ((i : Int) != 28) = false := by simp; omega
              clear hx he hi28 hi0
              go_wp2_with fail
              rw [← HWX.out]
              go_quiet (fail)
              go_wp2_with fail
              go_roundw
              case rel => exact ⟨i + 1, by omega, by first | rfl | (push_cast; rfl), Lib.hid (HNX.out _)⟩
              case measure => simp [intOf]; omega
            · have q28 : ((i : Int) != 28) = true := by simp; omega
              obtain ⟨j, hj⟩ : ∃ j, j = i - 1 := ⟨_, rfl⟩
              have hji : (i : Int) - 1 = (j : Int) := by omega
              have hjl : j < (froms true).length := by show j < 30; omega
              obtain ⟨p1, p2⟩ := HTX.out.now j hjl
              have hgap := no_gap true i hlt (by omega) hi28
              obtain ⟨y1, y2, y3⟩ := froms_big true j hjl
              rw [← hj, hx] at hgap
              obtain ⟨x', hx'⟩ : ∃ x', (froms true).getD j 0 = x' := ⟨_, rfl⟩
              obtain ⟨e', he'⟩ : ∃ e', (extras true).getD j 0 = e' := ⟨_, rfl⟩
              rw [hx'] at p1 hgap y1 y2
              rw [he'] at p2 hgap y3
              have hadd : wrap64 ((x' : Int) + wrap64 ((2 : Int) ^ e')) = (x : Int) := add_pow x' e' x (by omega) (by omega) hgap
              have jj0 : (0 : Int) ≤ (j : Int) := by omega
              have jj1 : (j : Int) < 30 := by omega
              clear hx he hx' he' hgap hj hjl
              go_wp2_with fail
              rw [← HWX.out]
              go_quiet (fail)
              go_wp2_with fail
              go_roundw
              case rel => exact ⟨i + 1, by omega, by first | rfl | (push_cast; rfl), Lib.hid (HNX.out _)⟩
              case measure => simp [intOf]; omega
        · have qj : decide ((i : Int) < 30) = false := by simp; omega
          have HN : Hid (Below w9.heap.size w9 wr) := Lib.hid (HBF.out.trans (HJ.out.mono HBF.out.size))
          clear HJ
          go_wp2_with fail
          go_roundw
          case rel => exact ⟨2, by omega, by first | rfl | (push_cast; rfl), HN⟩
          case measure => simp [intOf]
    | 2, _ =>
      obtain ⟨i, hi⟩ : ∃ i, i = spot at_ 28 := ⟨_, rfl⟩
      have hi28 : i < 28 := by rw [hi]; exact spot_lt at_ 28 (by decide)
      have hsp : wrap64 ((IntKind.u64.wrap at_).tmod 28) = (i : Int) := by
        have h1 := spot_cast at_ 28
        rw [show ((28 : Nat) : Int) = 28 from rfl] at h1
        rw [h1, hi]
        exact w64_small _ (by omega) (by rw [← hi]; omega)
      have j0 : (0 : Int) ≤ (i : Int) := by omega
      have j1 : (i : Int) < 29 := by omega
      obtain ⟨k2, hk2⟩ : ∃ k2, k2 = i + 1 := ⟨_, rfl⟩
      have j2 : (i : Int) + 1 = (k2 : Int) := by omega
      have j5 : IntKind.i64.wrap ((i : Int) + 1) = (k2 : Int) := by rw [j2]; exact IntWalk.i64_in _ (by omega)
      have j6 : wrap64 ((i : Int) + 1) = (k2 : Int) := by rw [j2]; exact w64_small _ (by omega) (by omega)
      clear j2
      have j3 : (0 : Int) ≤ (k2 : Int) := by omega
      have j4 : (k2 : Int) < 29 := by omega
      have hrise : (froms false).getD i 0 < (froms false).getD k2 0 := by rw [hk2]; exact rise i hi28
      obtain ⟨x, hx⟩ : ∃ x, (froms false).getD i 0 = x := ⟨_, rfl⟩
      obtain ⟨y, hy⟩ : ∃ y, (froms false).getD k2 0 = y := ⟨_, rfl⟩
      rw [hx, hy] at hrise
      have HX := Lib.hid hx
      have HY := Lib.hid hy
      have hxy : decide ((x : Int) < (y : Int)) = true := by simpa using hrise
      have hxyn : decide (x < y) = true := by simpa using hrise
      have hxy2 : (x : Int) < (y : Int) := by omega
      have HLQ : Hid (∀ V, Calls Try.prog 14 #[] V fun e w' => ∃ b c, e = .returned (.slice (some ⟨b, 0, none⟩) 29 c) ∧ Below V.heap.size V w' ∧ TabAt w' b false) := Lib.hid (fun V => lens_q V)
      have HDQ : Hid (∀ V, Calls Try.prog 15 #[] V fun e w' => ∃ b c, e = .returned (.slice (some ⟨b, 0, none⟩) 30 c) ∧ Below V.heap.size V w' ∧ TabAt w' b true) := Lib.hid (fun V => dists_q V)
      have HBW := Lib.hid (HB9.out.trans (HB.out.mono HB9.out.size))
      have HI1 : Hid (i < (froms false).length ∧ k2 < (froms false).length) := Lib.hid ⟨by show i < 29; omega, by show k2 < 29; omega⟩
      clear hx hy hrise hi hi28 hk2
      have HFIN : Hid (∀ w11, Below wB.heap.size wB w11 → ∀ w12, Below w11.heap.size w11 w12 → ∀ w13, Below w12.heap.size w12 w13 → ∀ w14, Below w13.heap.size w13 w14 → ∀ w15, Below w14.heap.size w14 w15 → TrueP w (.returned (.bool true)) w15) := Lib.hid (by
        intro w11 h1 w12 h2 w13 h3 w14 h4 w15 h5
        have z0 := HBW.out.size
        have z1 := h1.size
        have z2 := h2.size
        have z3 := h3.size
        have z4 := h4.size
        exact ⟨rfl, ((((HBW.out.trans (h1.mono z0)).trans (h2.mono (by omega))).trans (h3.mono (by omega))).trans (h4.mono (by omega))).trans (h5.mono (by omega))⟩)
      go_wp2_with fail
      refine wp_region_held_drew (S := (fun _ => True)) (by kernel_rfl) trivial (fun hHeld => ?_)
      refine wpAnyH_take (i := 1) (v := ?v1) rfl (by kernel_rfl) (by kernel_rfl) (by kernel_rfl) (fun _ _ _ h => h) (Or.inl ⟨by rfl, fun w hSw => ?y1⟩) hHeld ?r1
      case y1 => first | (go_simp; done) | (go_simp; with_reducible rfl)
      try simp only [Act.put, List.setIfInBounds_toArray, List.set_cons_zero, List.set_cons_succ, List.getElem_toArray, List.getElem_cons_zero, List.getElem_cons_succ]
      refine wpAnyH_take (i := 6) (v := ?v2) rfl (by kernel_rfl) (by kernel_rfl) (by kernel_rfl) (fun _ _ _ h => h) (Or.inl ⟨by rfl, fun w hSw => ?y2⟩) hHeld ?r2
      case y2 => first | (go_simp; done) | (go_simp; with_reducible rfl)
      try simp only [Act.put, List.setIfInBounds_toArray, List.set_cons_zero, List.set_cons_succ, List.getElem_toArray, List.getElem_cons_zero, List.getElem_cons_succ]
      refine wpAnyH_take (i := 7) (v := ?v3) rfl (by kernel_rfl) (by kernel_rfl) (by kernel_rfl) (fun _ _ _ h => h) (Or.inl ⟨by rfl, fun w hSw => ?y3⟩) hHeld ?r3
      case y3 => first | (go_simp; done) | (go_simp; with_reducible rfl)
      try simp only [Act.put, List.setIfInBounds_toArray, List.set_cons_zero, List.set_cons_succ, List.getElem_toArray, List.getElem_cons_zero, List.getElem_cons_succ]
      refine wpAnyH_ready (rs := [0]) (by kernel_rfl) (by simp) ?_
      refine AllReadyH.cons rfl (fun K hK => ?_) AllReadyH.nil
      go_simp
      refine (HLQ.out wB.drew).mono ?_
      rintro e w11 ⟨b1, c1, rfl, hb11, ht11⟩
      have HT1 := Lib.hid ht11
      have HB1 := Lib.hid (((show Drawn wB wB.drew from ⟨1, rfl⟩).below _).trans hb11)
      have p1 := (ht11.now i HI1.out.1).1
      rw [HX.out] at p1
      clear hb11 ht11
      go_wp2_with fail
      refine hK.out _ _ trivial (fun hH4 => ?_)
      clear hK K
      try simp only [Act.put, List.setIfInBounds_toArray, List.set_cons_zero, List.set_cons_succ, List.getElem_toArray, List.getElem_cons_zero, List.getElem_cons_succ]
      refine wpAnyH_take (i := 2) (v := ?v5) rfl (by kernel_rfl) (by kernel_rfl) (by kernel_rfl) (fun _ _ _ h => h) (Or.inl ⟨by rfl, fun w hSw => ?y5⟩) hH4 ?r5
      case y5 => first | (go_simp; done) | (go_simp; with_reducible rfl)
      try simp only [Act.put, List.setIfInBounds_toArray, List.set_cons_zero, List.set_cons_succ, List.getElem_toArray, List.getElem_cons_zero, List.getElem_cons_succ]
      refine wpAnyH_take (i := 3) (v := ?v6) rfl (by kernel_rfl) (by kernel_rfl) (by kernel_rfl) (fun _ _ _ h => h) (Or.inl ⟨by rfl, fun w hSw => ?y6⟩) hH4 ?r6
      case y6 => first | (go_simp; done) | (go_simp; with_reducible rfl)
      try simp only [Act.put, List.setIfInBounds_toArray, List.set_cons_zero, List.set_cons_succ, List.getElem_toArray, List.getElem_cons_zero, List.getElem_cons_succ]
      refine wpAnyH_ready (rs := [4, 5]) (by kernel_rfl) (by simp) ?_
      refine AllReadyH.cons rfl (fun K hK => ?_) ?_
      · go_simp
        refine hK.out _ _ trivial (fun hH7 => ?_)
        clear hK K
        try simp only [Act.put, List.setIfInBounds_toArray, List.set_cons_zero, List.set_cons_succ, List.getElem_toArray, List.getElem_cons_zero, List.getElem_cons_succ]
        refine wpAnyH_ready (rs := [5]) (by kernel_rfl) (by simp) ?_
        refine AllReadyH.cons rfl (fun K hK => ?_) AllReadyH.nil
        go_simp
        refine (HLQ.out w11).mono ?_
        rintro e w12 ⟨b2, c2, rfl, hb12, ht12⟩
        have HB2 := Lib.hid hb12
        have p1' := ((HT1.out.below hb12).now i HI1.out.1).1
        rw [HX.out] at p1'
        have p2 := (ht12.now k2 HI1.out.2).1
        rw [HY.out] at p2
        clear hb12 ht12
        go_wp2_with fail
        refine hK.out _ _ trivial (fun hH8 => ?_)
        clear hK K
        try simp only [Act.put, List.setIfInBounds_toArray, List.set_cons_zero, List.set_cons_succ, List.getElem_toArray, List.getElem_cons_zero, List.getElem_cons_succ]
        refine wpAnyH_take (i := 8) (v := ?v9) rfl (by kernel_rfl) (by kernel_rfl) (by kernel_rfl) (fun _ _ _ h => h) (Or.inl ⟨by rfl, fun w hSw => ?y9⟩) hH8 ?r9
        case y9 => first | (go_simp; done) | (go_simp; with_reducible rfl)
        try simp only [Act.put, List.setIfInBounds_toArray, List.set_cons_zero, List.set_cons_succ, List.getElem_toArray, List.getElem_cons_zero, List.getElem_cons_succ]
        refine wpAnyH_take (i := 9) (v := ?v10) rfl (by kernel_rfl) (by kernel_rfl) (by kernel_rfl) (fun _ _ _ h => h) (Or.inl ⟨by rfl, fun w hSw => ?y10⟩) hH8 ?r10
        case y10 => first | (go_simp; done) | (go_simp; with_reducible rfl)
        try simp only [Act.put, List.setIfInBounds_toArray, List.set_cons_zero, List.set_cons_succ, List.getElem_toArray, List.getElem_cons_zero, List.getElem_cons_succ]
        refine wpAnyH_ready (rs := [10]) (by kernel_rfl) (by simp) ?_
        refine AllReadyH.cons rfl (fun K hK => ?_) AllReadyH.nil
        go_simp
        refine hK.out _ _ trivial (fun hH11 => ?_)
        clear hK K
        try simp only [Act.put, List.setIfInBounds_toArray, List.set_cons_zero, List.set_cons_succ, List.getElem_toArray, List.getElem_cons_zero, List.getElem_cons_succ]
        refine wpAnyH_take (i := 11) (v := ?v12) rfl (by kernel_rfl) (by kernel_rfl) (by kernel_rfl) (fun _ _ _ h => h) (Or.inl ⟨by rfl, fun w hSw => ?y12⟩) hH11 ?r12
        case y12 => first | (go_simp; done) | (go_simp; with_reducible rfl)
        try simp only [Act.put, List.setIfInBounds_toArray, List.set_cons_zero, List.set_cons_succ, List.getElem_toArray, List.getElem_cons_zero, List.getElem_cons_succ]
        refine wpAnyH_take (i := 12) (v := ?v13) rfl (by kernel_rfl) (by kernel_rfl) (by kernel_rfl) (fun _ _ _ h => h) (Or.inl ⟨by rfl, fun w hSw => ?y13⟩) hH11 ?r13
        case y13 => first | (go_simp; done) | (go_simp; with_reducible rfl)
        try simp only [Act.put, List.setIfInBounds_toArray, List.set_cons_zero, List.set_cons_succ, List.getElem_toArray, List.getElem_cons_zero, List.getElem_cons_succ]
        refine wpAnyH_ready (rs := [13]) (by kernel_rfl) (by simp) ?_
        refine AllReadyH.cons rfl (fun K hK => ?_) AllReadyH.nil
        go_simp
        refine (HLQ.out w12).mono ?_
        rintro e w13 ⟨b3, c3, rfl, hb13, ht13⟩
        have HB3 := Lib.hid hb13
        have p3 : w13.cell? ⟨b3, 0, none⟩ = some (.int .i64 3) := (ht13.now 0 (by decide)).1
        clear hb13 ht13
        go_wp2_with fail
        refine hK.out _ _ trivial (fun hH14 => ?_)
        clear hK K
        try simp only [Act.put, List.setIfInBounds_toArray, List.set_cons_zero, List.set_cons_succ, List.getElem_toArray, List.getElem_cons_zero, List.getElem_cons_succ]
        refine wpAnyH_take (i := 14) (v := ?v15) rfl (by kernel_rfl) (by kernel_rfl) (by kernel_rfl) (fun _ _ _ h => h) (Or.inl ⟨by rfl, fun w hSw => ?y15⟩) hH14 ?r15
        case y15 => first | (go_simp; done) | (go_simp; with_reducible rfl)
        try simp only [Act.put, List.setIfInBounds_toArray, List.set_cons_zero, List.set_cons_succ, List.getElem_toArray, List.getElem_cons_zero, List.getElem_cons_succ]
        refine wpAnyH_take (i := 15) (v := ?v16) rfl (by kernel_rfl) (by kernel_rfl) (by kernel_rfl) (fun _ _ _ h => h) (Or.inl ⟨by rfl, fun w hSw => ?y16⟩) hH14 ?r16
        case y16 => first | (go_simp; done) | (go_simp; with_reducible rfl)
        try simp only [Act.put, List.setIfInBounds_toArray, List.set_cons_zero, List.set_cons_succ, List.getElem_toArray, List.getElem_cons_zero, List.getElem_cons_succ]
        refine wpAnyH_ready (rs := [16]) (by kernel_rfl) (by simp) ?_
        refine AllReadyH.cons rfl (fun K hK => ?_) AllReadyH.nil
        go_simp
        refine hK.out _ _ trivial (fun hH17 => ?_)
        clear hK K
        try simp only [Act.put, List.setIfInBounds_toArray, List.set_cons_zero, List.set_cons_succ, List.getElem_toArray, List.getElem_cons_zero, List.getElem_cons_succ]
        refine wpAnyH_take (i := 17) (v := ?v18) rfl (by kernel_rfl) (by kernel_rfl) (by kernel_rfl) (fun _ _ _ h => h) (Or.inl ⟨by rfl, fun w hSw => ?y18⟩) hH17 ?r18
        case y18 => first | (go_simp; done) | (go_simp; with_reducible rfl)
        try simp only [Act.put, List.setIfInBounds_toArray, List.set_cons_zero, List.set_cons_succ, List.getElem_toArray, List.getElem_cons_zero, List.getElem_cons_succ]
        refine wpAnyH_take (i := 18) (v := ?v19) rfl (by kernel_rfl) (by kernel_rfl) (by kernel_rfl) (fun _ _ _ h => h) (Or.inl ⟨by rfl, fun w hSw => ?y19⟩) hH17 ?r19
        case y19 => first | (go_simp; done) | (go_simp; with_reducible rfl)
        try simp only [Act.put, List.setIfInBounds_toArray, List.set_cons_zero, List.set_cons_succ, List.getElem_toArray, List.getElem_cons_zero, List.getElem_cons_succ]
        refine wpAnyH_take (i := 19) (v := ?v20) rfl (by kernel_rfl) (by kernel_rfl) (by kernel_rfl) (fun _ _ _ h => h) (Or.inl ⟨by rfl, fun w hSw => ?y20⟩) hH17 ?r20
        case y20 => first | (go_simp; done) | (go_simp; with_reducible rfl)
        try simp only [Act.put, List.setIfInBounds_toArray, List.set_cons_zero, List.set_cons_succ, List.getElem_toArray, List.getElem_cons_zero, List.getElem_cons_succ]
        refine wpAnyH_ready (rs := [20]) (by kernel_rfl) (by simp) ?_
        refine AllReadyH.cons rfl (fun K hK => ?_) AllReadyH.nil
        go_simp
        refine (HLQ.out w13).mono ?_
        rintro e w14 ⟨b4, c4, rfl, hb14, ht14⟩
        have HB4 := Lib.hid hb14
        have p4 : w14.cell? ⟨b4, 56, none⟩ = some (.int .i64 258) := (ht14.now 28 (by decide)).1
        clear hb14 ht14
        go_wp2_with fail
        refine hK.out _ _ trivial (fun hH21 => ?_)
        clear hK K
        try simp only [Act.put, List.setIfInBounds_toArray, List.set_cons_zero, List.set_cons_succ, List.getElem_toArray, List.getElem_cons_zero, List.getElem_cons_succ]
        refine wpAnyH_take (i := 21) (v := ?v22) rfl (by kernel_rfl) (by kernel_rfl) (by kernel_rfl) (fun _ _ _ h => h) (Or.inl ⟨by rfl, fun w hSw => ?y22⟩) hH21 ?r22
        case y22 => first | (go_simp; done) | (go_simp; with_reducible rfl)
        try simp only [Act.put, List.setIfInBounds_toArray, List.set_cons_zero, List.set_cons_succ, List.getElem_toArray, List.getElem_cons_zero, List.getElem_cons_succ]
        refine wpAnyH_take (i := 22) (v := ?v23) rfl (by kernel_rfl) (by kernel_rfl) (by kernel_rfl) (fun _ _ _ h => h) (Or.inl ⟨by rfl, fun w hSw => ?y23⟩) hH21 ?r23
        case y23 => first | (go_simp; done) | (go_simp; with_reducible rfl)
        try simp only [Act.put, List.setIfInBounds_toArray, List.set_cons_zero, List.set_cons_succ, List.getElem_toArray, List.getElem_cons_zero, List.getElem_cons_succ]
        refine wpAnyH_ready (rs := [23]) (by kernel_rfl) (by simp) ?_
        refine AllReadyH.cons rfl (fun K hK => ?_) AllReadyH.nil
        go_simp
        refine hK.out _ _ trivial (fun hH24 => ?_)
        clear hK K
        try simp only [Act.put, List.setIfInBounds_toArray, List.set_cons_zero, List.set_cons_succ, List.getElem_toArray, List.getElem_cons_zero, List.getElem_cons_succ]
        refine wpAnyH_take (i := 24) (v := ?v25) rfl (by kernel_rfl) (by kernel_rfl) (by kernel_rfl) (fun _ _ _ h => h) (Or.inl ⟨by rfl, fun w hSw => ?y25⟩) hH24 ?r25
        case y25 => first | (go_simp; done) | (go_simp; with_reducible rfl)
        try simp only [Act.put, List.setIfInBounds_toArray, List.set_cons_zero, List.set_cons_succ, List.getElem_toArray, List.getElem_cons_zero, List.getElem_cons_succ]
        refine wpAnyH_take (i := 25) (v := ?v26) rfl (by kernel_rfl) (by kernel_rfl) (by kernel_rfl) (fun _ _ _ h => h) (Or.inl ⟨by rfl, fun w hSw => ?y26⟩) hH24 ?r26
        case y26 => first | (go_simp; done) | (go_simp; with_reducible rfl)
        try simp only [Act.put, List.setIfInBounds_toArray, List.set_cons_zero, List.set_cons_succ, List.getElem_toArray, List.getElem_cons_zero, List.getElem_cons_succ]
        refine wpAnyH_take (i := 26) (v := ?v27) rfl (by kernel_rfl) (by kernel_rfl) (by kernel_rfl) (fun _ _ _ h => h) (Or.inl ⟨by rfl, fun w hSw => ?y27⟩) hH24 ?r27
        case y27 => first | (go_simp; done) | (go_simp; with_reducible rfl)
        try simp only [Act.put, List.setIfInBounds_toArray, List.set_cons_zero, List.set_cons_succ, List.getElem_toArray, List.getElem_cons_zero, List.getElem_cons_succ]
        refine wpAnyH_ready (rs := [27]) (by kernel_rfl) (by simp) ?_
        refine AllReadyH.cons rfl (fun K hK => ?_) AllReadyH.nil
        go_simp
        refine (HDQ.out w14).mono ?_
        rintro e w15 ⟨b5, c5, rfl, hb15, ht15⟩
        have HB5 := Lib.hid hb15
        have p5 : w15.cell? ⟨b5, 58, none⟩ = some (.int .i64 24577) := (ht15.now 29 (by decide)).1
        clear hb15 ht15
        go_wp2_with fail
        refine hK.out _ _ trivial (fun hH28 => ?_)
        clear hK K
        try simp only [Act.put, List.setIfInBounds_toArray, List.set_cons_zero, List.set_cons_succ, List.getElem_toArray, List.getElem_cons_zero, List.getElem_cons_succ]
        refine wpAnyH_take (i := 28) (v := ?v29) rfl (by kernel_rfl) (by kernel_rfl) (by kernel_rfl) (fun _ _ _ h => h) (Or.inl ⟨by rfl, fun w hSw => ?y29⟩) hH28 ?r29
        case y29 => first | (go_simp; done) | (go_simp; with_reducible rfl)
        try simp only [Act.put, List.setIfInBounds_toArray, List.set_cons_zero, List.set_cons_succ, List.getElem_toArray, List.getElem_cons_zero, List.getElem_cons_succ]
        refine wpAnyH_take (i := 29) (v := ?v30) rfl (by kernel_rfl) (by kernel_rfl) (by kernel_rfl) (fun _ _ _ h => h) (Or.inl ⟨by rfl, fun w hSw => ?y30⟩) hH28 ?r30
        case y30 => first | (go_simp; done) | (go_simp; with_reducible rfl)
        try simp only [Act.put, List.setIfInBounds_toArray, List.set_cons_zero, List.set_cons_succ, List.getElem_toArray, List.getElem_cons_zero, List.getElem_cons_succ]
        refine wpAnyH_ready (rs := [30]) (by kernel_rfl) (by simp) ?_
        refine AllReadyH.cons rfl (fun K hK => ?_) AllReadyH.nil
        go_simp
        refine hK.out _ _ trivial (fun hH31 => ?_)
        clear hK K
        try simp only [Act.put, List.setIfInBounds_toArray, List.set_cons_zero, List.set_cons_succ, List.getElem_toArray, List.getElem_cons_zero, List.getElem_cons_succ]
        refine wpAnyH_take (i := 31) (v := ?v32) rfl (by kernel_rfl) (by kernel_rfl) (by kernel_rfl) (fun _ _ _ h => h) (Or.inl ⟨by rfl, fun w hSw => ?y32⟩) hH31 ?r32
        case y32 => first | (go_simp; done) | (go_simp; with_reducible rfl)
        try simp only [Act.put, List.setIfInBounds_toArray, List.set_cons_zero, List.set_cons_succ, List.getElem_toArray, List.getElem_cons_zero, List.getElem_cons_succ]
        refine wpAnyH_take (i := 32) (v := ?v33) rfl (by kernel_rfl) (by kernel_rfl) (by kernel_rfl) (fun _ _ _ h => h) (Or.inl ⟨by rfl, fun w hSw => ?y33⟩) hH31 ?r33
        case y33 => first | (go_simp; done) | (go_simp; with_reducible rfl)
        try simp only [Act.put, List.setIfInBounds_toArray, List.set_cons_zero, List.set_cons_succ, List.getElem_toArray, List.getElem_cons_zero, List.getElem_cons_succ]
        refine wpAnyH_take (i := 33) (v := ?v34) rfl (by kernel_rfl) (by kernel_rfl) (by kernel_rfl) (fun _ _ _ h => h) (Or.inl ⟨by rfl, fun w hSw => ?y34⟩) hH31 ?r34
        case y34 => first | (go_simp; done) | (go_simp; with_reducible rfl)
        try simp only [Act.put, List.setIfInBounds_toArray, List.set_cons_zero, List.set_cons_succ, List.getElem_toArray, List.getElem_cons_zero, List.getElem_cons_succ]
        refine wpAnyH_take (i := 34) (v := ?v35) rfl (by kernel_rfl) (by kernel_rfl) (by kernel_rfl) (fun _ _ _ h => h) (Or.inl ⟨by rfl, fun w hSw => ?y35⟩) hH31 ?r35
        case y35 => first | (go_simp; done) | (go_simp; with_reducible rfl)
        try simp only [Act.put, List.setIfInBounds_toArray, List.set_cons_zero, List.set_cons_succ, List.getElem_toArray, List.getElem_cons_zero, List.getElem_cons_succ]
        refine wpAnyH_take (i := 35) (v := ?v36) rfl (by kernel_rfl) (by kernel_rfl) (by kernel_rfl) (fun _ _ _ h => h) (Or.inl ⟨by rfl, fun w hSw => ?y36⟩) hH31 ?r36
        case y36 => first | (go_simp; done) | (go_simp; with_reducible rfl)
        try simp only [Act.put, List.setIfInBounds_toArray, List.set_cons_zero, List.set_cons_succ, List.getElem_toArray, List.getElem_cons_zero, List.getElem_cons_succ]
        refine wpAnyH_done (by kernel_rfl) ?_ _
        go_wp2_with fail
        go_ret
        exact HFIN.out _ HB1.out _ HB2.out _ HB3.out _ HB4.out _ HB5.out
      refine AllReadyH.cons rfl (fun K hK => ?_) AllReadyH.nil
      go_simp
      refine (HLQ.out w11).mono ?_
      rintro e w12 ⟨b2, c2, rfl, hb12, ht12⟩
      have HB2 := Lib.hid hb12
      have p1' := ((HT1.out.below hb12).now i HI1.out.1).1
      rw [HX.out] at p1'
      have p2 := (ht12.now k2 HI1.out.2).1
      rw [HY.out] at p2
      clear hb12 ht12
      go_wp2_with fail
      refine hK.out _ _ trivial (fun hH37 => ?_)
      clear hK K
      try simp only [Act.put, List.setIfInBounds_toArray, List.set_cons_zero, List.set_cons_succ, List.getElem_toArray, List.getElem_cons_zero, List.getElem_cons_succ]
      refine wpAnyH_take (i := 8) (v := ?v38) rfl (by kernel_rfl) (by kernel_rfl) (by kernel_rfl) (fun _ _ _ h => h) (Or.inl ⟨by rfl, fun w hSw => ?y38⟩) hH37 ?r38
      case y38 => first | (go_simp; done) | (go_simp; with_reducible rfl)
      try simp only [Act.put, List.setIfInBounds_toArray, List.set_cons_zero, List.set_cons_succ, List.getElem_toArray, List.getElem_cons_zero, List.getElem_cons_succ]
      refine wpAnyH_take (i := 9) (v := ?v39) rfl (by kernel_rfl) (by kernel_rfl) (by kernel_rfl) (fun _ _ _ h => h) (Or.inl ⟨by rfl, fun w hSw => ?y39⟩) hH37 ?r39
      case y39 => first | (go_simp; done) | (go_simp; with_reducible rfl)
      try simp only [Act.put, List.setIfInBounds_toArray, List.set_cons_zero, List.set_cons_succ, List.getElem_toArray, List.getElem_cons_zero, List.getElem_cons_succ]
      refine wpAnyH_ready (rs := [4, 10]) (by kernel_rfl) (by simp) ?_
      refine AllReadyH.cons rfl (fun K hK => ?_) ?_
      · go_simp
        refine hK.out _ _ trivial (fun hH40 => ?_)
        clear hK K
        try simp only [Act.put, List.setIfInBounds_toArray, List.set_cons_zero, List.set_cons_succ, List.getElem_toArray, List.getElem_cons_zero, List.getElem_cons_succ]
        refine wpAnyH_ready (rs := [10]) (by kernel_rfl) (by simp) ?_
        refine AllReadyH.cons rfl (fun K hK => ?_) AllReadyH.nil
        go_simp
        refine hK.out _ _ trivial (fun hH41 => ?_)
        clear hK K
        try simp only [Act.put, List.setIfInBounds_toArray, List.set_cons_zero, List.set_cons_succ, List.getElem_toArray, List.getElem_cons_zero, List.getElem_cons_succ]
        refine wpAnyH_take (i := 11) (v := ?v42) rfl (by kernel_rfl) (by kernel_rfl) (by kernel_rfl) (fun _ _ _ h => h) (Or.inl ⟨by rfl, fun w hSw => ?y42⟩) hH41 ?r42
        case y42 => first | (go_simp; done) | (go_simp; with_reducible rfl)
        try simp only [Act.put, List.setIfInBounds_toArray, List.set_cons_zero, List.set_cons_succ, List.getElem_toArray, List.getElem_cons_zero, List.getElem_cons_succ]
        refine wpAnyH_take (i := 12) (v := ?v43) rfl (by kernel_rfl) (by kernel_rfl) (by kernel_rfl) (fun _ _ _ h => h) (Or.inl ⟨by rfl, fun w hSw => ?y43⟩) hH41 ?r43
        case y43 => first | (go_simp; done) | (go_simp; with_reducible rfl)
        try simp only [Act.put, List.setIfInBounds_toArray, List.set_cons_zero, List.set_cons_succ, List.getElem_toArray, List.getElem_cons_zero, List.getElem_cons_succ]
        refine wpAnyH_ready (rs := [13]) (by kernel_rfl) (by simp) ?_
        refine AllReadyH.cons rfl (fun K hK => ?_) AllReadyH.nil
        go_simp
        refine (HLQ.out w12).mono ?_
        rintro e w13 ⟨b3, c3, rfl, hb13, ht13⟩
        have HB3 := Lib.hid hb13
        have p3 : w13.cell? ⟨b3, 0, none⟩ = some (.int .i64 3) := (ht13.now 0 (by decide)).1
        clear hb13 ht13
        go_wp2_with fail
        refine hK.out _ _ trivial (fun hH44 => ?_)
        clear hK K
        try simp only [Act.put, List.setIfInBounds_toArray, List.set_cons_zero, List.set_cons_succ, List.getElem_toArray, List.getElem_cons_zero, List.getElem_cons_succ]
        refine wpAnyH_take (i := 14) (v := ?v45) rfl (by kernel_rfl) (by kernel_rfl) (by kernel_rfl) (fun _ _ _ h => h) (Or.inl ⟨by rfl, fun w hSw => ?y45⟩) hH44 ?r45
        case y45 => first | (go_simp; done) | (go_simp; with_reducible rfl)
        try simp only [Act.put, List.setIfInBounds_toArray, List.set_cons_zero, List.set_cons_succ, List.getElem_toArray, List.getElem_cons_zero, List.getElem_cons_succ]
        refine wpAnyH_take (i := 15) (v := ?v46) rfl (by kernel_rfl) (by kernel_rfl) (by kernel_rfl) (fun _ _ _ h => h) (Or.inl ⟨by rfl, fun w hSw => ?y46⟩) hH44 ?r46
        case y46 => first | (go_simp; done) | (go_simp; with_reducible rfl)
        try simp only [Act.put, List.setIfInBounds_toArray, List.set_cons_zero, List.set_cons_succ, List.getElem_toArray, List.getElem_cons_zero, List.getElem_cons_succ]
        refine wpAnyH_ready (rs := [16]) (by kernel_rfl) (by simp) ?_
        refine AllReadyH.cons rfl (fun K hK => ?_) AllReadyH.nil
        go_simp
        refine hK.out _ _ trivial (fun hH47 => ?_)
        clear hK K
        try simp only [Act.put, List.setIfInBounds_toArray, List.set_cons_zero, List.set_cons_succ, List.getElem_toArray, List.getElem_cons_zero, List.getElem_cons_succ]
        refine wpAnyH_take (i := 17) (v := ?v48) rfl (by kernel_rfl) (by kernel_rfl) (by kernel_rfl) (fun _ _ _ h => h) (Or.inl ⟨by rfl, fun w hSw => ?y48⟩) hH47 ?r48
        case y48 => first | (go_simp; done) | (go_simp; with_reducible rfl)
        try simp only [Act.put, List.setIfInBounds_toArray, List.set_cons_zero, List.set_cons_succ, List.getElem_toArray, List.getElem_cons_zero, List.getElem_cons_succ]
        refine wpAnyH_take (i := 18) (v := ?v49) rfl (by kernel_rfl) (by kernel_rfl) (by kernel_rfl) (fun _ _ _ h => h) (Or.inl ⟨by rfl, fun w hSw => ?y49⟩) hH47 ?r49
        case y49 => first | (go_simp; done) | (go_simp; with_reducible rfl)
        try simp only [Act.put, List.setIfInBounds_toArray, List.set_cons_zero, List.set_cons_succ, List.getElem_toArray, List.getElem_cons_zero, List.getElem_cons_succ]
        refine wpAnyH_take (i := 19) (v := ?v50) rfl (by kernel_rfl) (by kernel_rfl) (by kernel_rfl) (fun _ _ _ h => h) (Or.inl ⟨by rfl, fun w hSw => ?y50⟩) hH47 ?r50
        case y50 => first | (go_simp; done) | (go_simp; with_reducible rfl)
        try simp only [Act.put, List.setIfInBounds_toArray, List.set_cons_zero, List.set_cons_succ, List.getElem_toArray, List.getElem_cons_zero, List.getElem_cons_succ]
        refine wpAnyH_ready (rs := [20]) (by kernel_rfl) (by simp) ?_
        refine AllReadyH.cons rfl (fun K hK => ?_) AllReadyH.nil
        go_simp
        refine (HLQ.out w13).mono ?_
        rintro e w14 ⟨b4, c4, rfl, hb14, ht14⟩
        have HB4 := Lib.hid hb14
        have p4 : w14.cell? ⟨b4, 56, none⟩ = some (.int .i64 258) := (ht14.now 28 (by decide)).1
        clear hb14 ht14
        go_wp2_with fail
        refine hK.out _ _ trivial (fun hH51 => ?_)
        clear hK K
        try simp only [Act.put, List.setIfInBounds_toArray, List.set_cons_zero, List.set_cons_succ, List.getElem_toArray, List.getElem_cons_zero, List.getElem_cons_succ]
        refine wpAnyH_take (i := 21) (v := ?v52) rfl (by kernel_rfl) (by kernel_rfl) (by kernel_rfl) (fun _ _ _ h => h) (Or.inl ⟨by rfl, fun w hSw => ?y52⟩) hH51 ?r52
        case y52 => first | (go_simp; done) | (go_simp; with_reducible rfl)
        try simp only [Act.put, List.setIfInBounds_toArray, List.set_cons_zero, List.set_cons_succ, List.getElem_toArray, List.getElem_cons_zero, List.getElem_cons_succ]
        refine wpAnyH_take (i := 22) (v := ?v53) rfl (by kernel_rfl) (by kernel_rfl) (by kernel_rfl) (fun _ _ _ h => h) (Or.inl ⟨by rfl, fun w hSw => ?y53⟩) hH51 ?r53
        case y53 => first | (go_simp; done) | (go_simp; with_reducible rfl)
        try simp only [Act.put, List.setIfInBounds_toArray, List.set_cons_zero, List.set_cons_succ, List.getElem_toArray, List.getElem_cons_zero, List.getElem_cons_succ]
        refine wpAnyH_ready (rs := [23]) (by kernel_rfl) (by simp) ?_
        refine AllReadyH.cons rfl (fun K hK => ?_) AllReadyH.nil
        go_simp
        refine hK.out _ _ trivial (fun hH54 => ?_)
        clear hK K
        try simp only [Act.put, List.setIfInBounds_toArray, List.set_cons_zero, List.set_cons_succ, List.getElem_toArray, List.getElem_cons_zero, List.getElem_cons_succ]
        refine wpAnyH_take (i := 24) (v := ?v55) rfl (by kernel_rfl) (by kernel_rfl) (by kernel_rfl) (fun _ _ _ h => h) (Or.inl ⟨by rfl, fun w hSw => ?y55⟩) hH54 ?r55
        case y55 => first | (go_simp; done) | (go_simp; with_reducible rfl)
        try simp only [Act.put, List.setIfInBounds_toArray, List.set_cons_zero, List.set_cons_succ, List.getElem_toArray, List.getElem_cons_zero, List.getElem_cons_succ]
        refine wpAnyH_take (i := 25) (v := ?v56) rfl (by kernel_rfl) (by kernel_rfl) (by kernel_rfl) (fun _ _ _ h => h) (Or.inl ⟨by rfl, fun w hSw => ?y56⟩) hH54 ?r56
        case y56 => first | (go_simp; done) | (go_simp; with_reducible rfl)
        try simp only [Act.put, List.setIfInBounds_toArray, List.set_cons_zero, List.set_cons_succ, List.getElem_toArray, List.getElem_cons_zero, List.getElem_cons_succ]
        refine wpAnyH_take (i := 26) (v := ?v57) rfl (by kernel_rfl) (by kernel_rfl) (by kernel_rfl) (fun _ _ _ h => h) (Or.inl ⟨by rfl, fun w hSw => ?y57⟩) hH54 ?r57
        case y57 => first | (go_simp; done) | (go_simp; with_reducible rfl)
        try simp only [Act.put, List.setIfInBounds_toArray, List.set_cons_zero, List.set_cons_succ, List.getElem_toArray, List.getElem_cons_zero, List.getElem_cons_succ]
        refine wpAnyH_ready (rs := [27]) (by kernel_rfl) (by simp) ?_
        refine AllReadyH.cons rfl (fun K hK => ?_) AllReadyH.nil
        go_simp
        refine (HDQ.out w14).mono ?_
        rintro e w15 ⟨b5, c5, rfl, hb15, ht15⟩
        have HB5 := Lib.hid hb15
        have p5 : w15.cell? ⟨b5, 58, none⟩ = some (.int .i64 24577) := (ht15.now 29 (by decide)).1
        clear hb15 ht15
        go_wp2_with fail
        refine hK.out _ _ trivial (fun hH58 => ?_)
        clear hK K
        try simp only [Act.put, List.setIfInBounds_toArray, List.set_cons_zero, List.set_cons_succ, List.getElem_toArray, List.getElem_cons_zero, List.getElem_cons_succ]
        refine wpAnyH_take (i := 28) (v := ?v59) rfl (by kernel_rfl) (by kernel_rfl) (by kernel_rfl) (fun _ _ _ h => h) (Or.inl ⟨by rfl, fun w hSw => ?y59⟩) hH58 ?r59
        case y59 => first | (go_simp; done) | (go_simp; with_reducible rfl)
        try simp only [Act.put, List.setIfInBounds_toArray, List.set_cons_zero, List.set_cons_succ, List.getElem_toArray, List.getElem_cons_zero, List.getElem_cons_succ]
        refine wpAnyH_take (i := 29) (v := ?v60) rfl (by kernel_rfl) (by kernel_rfl) (by kernel_rfl) (fun _ _ _ h => h) (Or.inl ⟨by rfl, fun w hSw => ?y60⟩) hH58 ?r60
        case y60 => first | (go_simp; done) | (go_simp; with_reducible rfl)
        try simp only [Act.put, List.setIfInBounds_toArray, List.set_cons_zero, List.set_cons_succ, List.getElem_toArray, List.getElem_cons_zero, List.getElem_cons_succ]
        refine wpAnyH_ready (rs := [30]) (by kernel_rfl) (by simp) ?_
        refine AllReadyH.cons rfl (fun K hK => ?_) AllReadyH.nil
        go_simp
        refine hK.out _ _ trivial (fun hH61 => ?_)
        clear hK K
        try simp only [Act.put, List.setIfInBounds_toArray, List.set_cons_zero, List.set_cons_succ, List.getElem_toArray, List.getElem_cons_zero, List.getElem_cons_succ]
        refine wpAnyH_take (i := 31) (v := ?v62) rfl (by kernel_rfl) (by kernel_rfl) (by kernel_rfl) (fun _ _ _ h => h) (Or.inl ⟨by rfl, fun w hSw => ?y62⟩) hH61 ?r62
        case y62 => first | (go_simp; done) | (go_simp; with_reducible rfl)
        try simp only [Act.put, List.setIfInBounds_toArray, List.set_cons_zero, List.set_cons_succ, List.getElem_toArray, List.getElem_cons_zero, List.getElem_cons_succ]
        refine wpAnyH_take (i := 32) (v := ?v63) rfl (by kernel_rfl) (by kernel_rfl) (by kernel_rfl) (fun _ _ _ h => h) (Or.inl ⟨by rfl, fun w hSw => ?y63⟩) hH61 ?r63
        case y63 => first | (go_simp; done) | (go_simp; with_reducible rfl)
        try simp only [Act.put, List.setIfInBounds_toArray, List.set_cons_zero, List.set_cons_succ, List.getElem_toArray, List.getElem_cons_zero, List.getElem_cons_succ]
        refine wpAnyH_take (i := 33) (v := ?v64) rfl (by kernel_rfl) (by kernel_rfl) (by kernel_rfl) (fun _ _ _ h => h) (Or.inl ⟨by rfl, fun w hSw => ?y64⟩) hH61 ?r64
        case y64 => first | (go_simp; done) | (go_simp; with_reducible rfl)
        try simp only [Act.put, List.setIfInBounds_toArray, List.set_cons_zero, List.set_cons_succ, List.getElem_toArray, List.getElem_cons_zero, List.getElem_cons_succ]
        refine wpAnyH_take (i := 34) (v := ?v65) rfl (by kernel_rfl) (by kernel_rfl) (by kernel_rfl) (fun _ _ _ h => h) (Or.inl ⟨by rfl, fun w hSw => ?y65⟩) hH61 ?r65
        case y65 => first | (go_simp; done) | (go_simp; with_reducible rfl)
        try simp only [Act.put, List.setIfInBounds_toArray, List.set_cons_zero, List.set_cons_succ, List.getElem_toArray, List.getElem_cons_zero, List.getElem_cons_succ]
        refine wpAnyH_take (i := 35) (v := ?v66) rfl (by kernel_rfl) (by kernel_rfl) (by kernel_rfl) (fun _ _ _ h => h) (Or.inl ⟨by rfl, fun w hSw => ?y66⟩) hH61 ?r66
        case y66 => first | (go_simp; done) | (go_simp; with_reducible rfl)
        try simp only [Act.put, List.setIfInBounds_toArray, List.set_cons_zero, List.set_cons_succ, List.getElem_toArray, List.getElem_cons_zero, List.getElem_cons_succ]
        refine wpAnyH_done (by kernel_rfl) ?_ _
        go_wp2_with fail
        go_ret
        exact HFIN.out _ HB1.out _ HB2.out _ HB3.out _ HB4.out _ HB5.out
      refine AllReadyH.cons rfl (fun K hK => ?_) AllReadyH.nil
      go_simp
      refine hK.out _ _ trivial (fun hH67 => ?_)
      clear hK K
      try simp only [Act.put, List.setIfInBounds_toArray, List.set_cons_zero, List.set_cons_succ, List.getElem_toArray, List.getElem_cons_zero, List.getElem_cons_succ]
      refine wpAnyH_ready (rs := [4]) (by kernel_rfl) (by simp) ?_
      refine AllReadyH.cons rfl (fun K hK => ?_) AllReadyH.nil
      go_simp
      refine hK.out _ _ trivial (fun hH68 => ?_)
      clear hK K
      try simp only [Act.put, List.setIfInBounds_toArray, List.set_cons_zero, List.set_cons_succ, List.getElem_toArray, List.getElem_cons_zero, List.getElem_cons_succ]
      refine wpAnyH_take (i := 11) (v := ?v69) rfl (by kernel_rfl) (by kernel_rfl) (by kernel_rfl) (fun _ _ _ h => h) (Or.inl ⟨by rfl, fun w hSw => ?y69⟩) hH68 ?r69
      case y69 => first | (go_simp; done) | (go_simp; with_reducible rfl)
      try simp only [Act.put, List.setIfInBounds_toArray, List.set_cons_zero, List.set_cons_succ, List.getElem_toArray, List.getElem_cons_zero, List.getElem_cons_succ]
      refine wpAnyH_take (i := 12) (v := ?v70) rfl (by kernel_rfl) (by kernel_rfl) (by kernel_rfl) (fun _ _ _ h => h) (Or.inl ⟨by rfl, fun w hSw => ?y70⟩) hH68 ?r70
      case y70 => first | (go_simp; done) | (go_simp; with_reducible rfl)
      try simp only [Act.put, List.setIfInBounds_toArray, List.set_cons_zero, List.set_cons_succ, List.getElem_toArray, List.getElem_cons_zero, List.getElem_cons_succ]
      refine wpAnyH_ready (rs := [13]) (by kernel_rfl) (by simp) ?_
      refine AllReadyH.cons rfl (fun K hK => ?_) AllReadyH.nil
      go_simp
      refine (HLQ.out w12).mono ?_
      rintro e w13 ⟨b3, c3, rfl, hb13, ht13⟩
      have HB3 := Lib.hid hb13
      have p3 : w13.cell? ⟨b3, 0, none⟩ = some (.int .i64 3) := (ht13.now 0 (by decide)).1
      clear hb13 ht13
      go_wp2_with fail
      refine hK.out _ _ trivial (fun hH71 => ?_)
      clear hK K
      try simp only [Act.put, List.setIfInBounds_toArray, List.set_cons_zero, List.set_cons_succ, List.getElem_toArray, List.getElem_cons_zero, List.getElem_cons_succ]
      refine wpAnyH_take (i := 14) (v := ?v72) rfl (by kernel_rfl) (by kernel_rfl) (by kernel_rfl) (fun _ _ _ h => h) (Or.inl ⟨by rfl, fun w hSw => ?y72⟩) hH71 ?r72
      case y72 => first | (go_simp; done) | (go_simp; with_reducible rfl)
      try simp only [Act.put, List.setIfInBounds_toArray, List.set_cons_zero, List.set_cons_succ, List.getElem_toArray, List.getElem_cons_zero, List.getElem_cons_succ]
      refine wpAnyH_take (i := 15) (v := ?v73) rfl (by kernel_rfl) (by kernel_rfl) (by kernel_rfl) (fun _ _ _ h => h) (Or.inl ⟨by rfl, fun w hSw => ?y73⟩) hH71 ?r73
      case y73 => first | (go_simp; done) | (go_simp; with_reducible rfl)
      try simp only [Act.put, List.setIfInBounds_toArray, List.set_cons_zero, List.set_cons_succ, List.getElem_toArray, List.getElem_cons_zero, List.getElem_cons_succ]
      refine wpAnyH_ready (rs := [16]) (by kernel_rfl) (by simp) ?_
      refine AllReadyH.cons rfl (fun K hK => ?_) AllReadyH.nil
      go_simp
      refine hK.out _ _ trivial (fun hH74 => ?_)
      clear hK K
      try simp only [Act.put, List.setIfInBounds_toArray, List.set_cons_zero, List.set_cons_succ, List.getElem_toArray, List.getElem_cons_zero, List.getElem_cons_succ]
      refine wpAnyH_take (i := 17) (v := ?v75) rfl (by kernel_rfl) (by kernel_rfl) (by kernel_rfl) (fun _ _ _ h => h) (Or.inl ⟨by rfl, fun w hSw => ?y75⟩) hH74 ?r75
      case y75 => first | (go_simp; done) | (go_simp; with_reducible rfl)
      try simp only [Act.put, List.setIfInBounds_toArray, List.set_cons_zero, List.set_cons_succ, List.getElem_toArray, List.getElem_cons_zero, List.getElem_cons_succ]
      refine wpAnyH_take (i := 18) (v := ?v76) rfl (by kernel_rfl) (by kernel_rfl) (by kernel_rfl) (fun _ _ _ h => h) (Or.inl ⟨by rfl, fun w hSw => ?y76⟩) hH74 ?r76
      case y76 => first | (go_simp; done) | (go_simp; with_reducible rfl)
      try simp only [Act.put, List.setIfInBounds_toArray, List.set_cons_zero, List.set_cons_succ, List.getElem_toArray, List.getElem_cons_zero, List.getElem_cons_succ]
      refine wpAnyH_take (i := 19) (v := ?v77) rfl (by kernel_rfl) (by kernel_rfl) (by kernel_rfl) (fun _ _ _ h => h) (Or.inl ⟨by rfl, fun w hSw => ?y77⟩) hH74 ?r77
      case y77 => first | (go_simp; done) | (go_simp; with_reducible rfl)
      try simp only [Act.put, List.setIfInBounds_toArray, List.set_cons_zero, List.set_cons_succ, List.getElem_toArray, List.getElem_cons_zero, List.getElem_cons_succ]
      refine wpAnyH_ready (rs := [20]) (by kernel_rfl) (by simp) ?_
      refine AllReadyH.cons rfl (fun K hK => ?_) AllReadyH.nil
      go_simp
      refine (HLQ.out w13).mono ?_
      rintro e w14 ⟨b4, c4, rfl, hb14, ht14⟩
      have HB4 := Lib.hid hb14
      have p4 : w14.cell? ⟨b4, 56, none⟩ = some (.int .i64 258) := (ht14.now 28 (by decide)).1
      clear hb14 ht14
      go_wp2_with fail
      refine hK.out _ _ trivial (fun hH78 => ?_)
      clear hK K
      try simp only [Act.put, List.setIfInBounds_toArray, List.set_cons_zero, List.set_cons_succ, List.getElem_toArray, List.getElem_cons_zero, List.getElem_cons_succ]
      refine wpAnyH_take (i := 21) (v := ?v79) rfl (by kernel_rfl) (by kernel_rfl) (by kernel_rfl) (fun _ _ _ h => h) (Or.inl ⟨by rfl, fun w hSw => ?y79⟩) hH78 ?r79
      case y79 => first | (go_simp; done) | (go_simp; with_reducible rfl)
      try simp only [Act.put, List.setIfInBounds_toArray, List.set_cons_zero, List.set_cons_succ, List.getElem_toArray, List.getElem_cons_zero, List.getElem_cons_succ]
      refine wpAnyH_take (i := 22) (v := ?v80) rfl (by kernel_rfl) (by kernel_rfl) (by kernel_rfl) (fun _ _ _ h => h) (Or.inl ⟨by rfl, fun w hSw => ?y80⟩) hH78 ?r80
      case y80 => first | (go_simp; done) | (go_simp; with_reducible rfl)
      try simp only [Act.put, List.setIfInBounds_toArray, List.set_cons_zero, List.set_cons_succ, List.getElem_toArray, List.getElem_cons_zero, List.getElem_cons_succ]
      refine wpAnyH_ready (rs := [23]) (by kernel_rfl) (by simp) ?_
      refine AllReadyH.cons rfl (fun K hK => ?_) AllReadyH.nil
      go_simp
      refine hK.out _ _ trivial (fun hH81 => ?_)
      clear hK K
      try simp only [Act.put, List.setIfInBounds_toArray, List.set_cons_zero, List.set_cons_succ, List.getElem_toArray, List.getElem_cons_zero, List.getElem_cons_succ]
      refine wpAnyH_take (i := 24) (v := ?v82) rfl (by kernel_rfl) (by kernel_rfl) (by kernel_rfl) (fun _ _ _ h => h) (Or.inl ⟨by rfl, fun w hSw => ?y82⟩) hH81 ?r82
      case y82 => first | (go_simp; done) | (go_simp; with_reducible rfl)
      try simp only [Act.put, List.setIfInBounds_toArray, List.set_cons_zero, List.set_cons_succ, List.getElem_toArray, List.getElem_cons_zero, List.getElem_cons_succ]
      refine wpAnyH_take (i := 25) (v := ?v83) rfl (by kernel_rfl) (by kernel_rfl) (by kernel_rfl) (fun _ _ _ h => h) (Or.inl ⟨by rfl, fun w hSw => ?y83⟩) hH81 ?r83
      case y83 => first | (go_simp; done) | (go_simp; with_reducible rfl)
      try simp only [Act.put, List.setIfInBounds_toArray, List.set_cons_zero, List.set_cons_succ, List.getElem_toArray, List.getElem_cons_zero, List.getElem_cons_succ]
      refine wpAnyH_take (i := 26) (v := ?v84) rfl (by kernel_rfl) (by kernel_rfl) (by kernel_rfl) (fun _ _ _ h => h) (Or.inl ⟨by rfl, fun w hSw => ?y84⟩) hH81 ?r84
      case y84 => first | (go_simp; done) | (go_simp; with_reducible rfl)
      try simp only [Act.put, List.setIfInBounds_toArray, List.set_cons_zero, List.set_cons_succ, List.getElem_toArray, List.getElem_cons_zero, List.getElem_cons_succ]
      refine wpAnyH_ready (rs := [27]) (by kernel_rfl) (by simp) ?_
      refine AllReadyH.cons rfl (fun K hK => ?_) AllReadyH.nil
      go_simp
      refine (HDQ.out w14).mono ?_
      rintro e w15 ⟨b5, c5, rfl, hb15, ht15⟩
      have HB5 := Lib.hid hb15
      have p5 : w15.cell? ⟨b5, 58, none⟩ = some (.int .i64 24577) := (ht15.now 29 (by decide)).1
      clear hb15 ht15
      go_wp2_with fail
      refine hK.out _ _ trivial (fun hH85 => ?_)
      clear hK K
      try simp only [Act.put, List.setIfInBounds_toArray, List.set_cons_zero, List.set_cons_succ, List.getElem_toArray, List.getElem_cons_zero, List.getElem_cons_succ]
      refine wpAnyH_take (i := 28) (v := ?v86) rfl (by kernel_rfl) (by kernel_rfl) (by kernel_rfl) (fun _ _ _ h => h) (Or.inl ⟨by rfl, fun w hSw => ?y86⟩) hH85 ?r86
      case y86 => first | (go_simp; done) | (go_simp; with_reducible rfl)
      try simp only [Act.put, List.setIfInBounds_toArray, List.set_cons_zero, List.set_cons_succ, List.getElem_toArray, List.getElem_cons_zero, List.getElem_cons_succ]
      refine wpAnyH_take (i := 29) (v := ?v87) rfl (by kernel_rfl) (by kernel_rfl) (by kernel_rfl) (fun _ _ _ h => h) (Or.inl ⟨by rfl, fun w hSw => ?y87⟩) hH85 ?r87
      case y87 => first | (go_simp; done) | (go_simp; with_reducible rfl)
      try simp only [Act.put, List.setIfInBounds_toArray, List.set_cons_zero, List.set_cons_succ, List.getElem_toArray, List.getElem_cons_zero, List.getElem_cons_succ]
      refine wpAnyH_ready (rs := [30]) (by kernel_rfl) (by simp) ?_
      refine AllReadyH.cons rfl (fun K hK => ?_) AllReadyH.nil
      go_simp
      refine hK.out _ _ trivial (fun hH88 => ?_)
      clear hK K
      try simp only [Act.put, List.setIfInBounds_toArray, List.set_cons_zero, List.set_cons_succ, List.getElem_toArray, List.getElem_cons_zero, List.getElem_cons_succ]
      refine wpAnyH_take (i := 31) (v := ?v89) rfl (by kernel_rfl) (by kernel_rfl) (by kernel_rfl) (fun _ _ _ h => h) (Or.inl ⟨by rfl, fun w hSw => ?y89⟩) hH88 ?r89
      case y89 => first | (go_simp; done) | (go_simp; with_reducible rfl)
      try simp only [Act.put, List.setIfInBounds_toArray, List.set_cons_zero, List.set_cons_succ, List.getElem_toArray, List.getElem_cons_zero, List.getElem_cons_succ]
      refine wpAnyH_take (i := 32) (v := ?v90) rfl (by kernel_rfl) (by kernel_rfl) (by kernel_rfl) (fun _ _ _ h => h) (Or.inl ⟨by rfl, fun w hSw => ?y90⟩) hH88 ?r90
      case y90 => first | (go_simp; done) | (go_simp; with_reducible rfl)
      try simp only [Act.put, List.setIfInBounds_toArray, List.set_cons_zero, List.set_cons_succ, List.getElem_toArray, List.getElem_cons_zero, List.getElem_cons_succ]
      refine wpAnyH_take (i := 33) (v := ?v91) rfl (by kernel_rfl) (by kernel_rfl) (by kernel_rfl) (fun _ _ _ h => h) (Or.inl ⟨by rfl, fun w hSw => ?y91⟩) hH88 ?r91
      case y91 => first | (go_simp; done) | (go_simp; with_reducible rfl)
      try simp only [Act.put, List.setIfInBounds_toArray, List.set_cons_zero, List.set_cons_succ, List.getElem_toArray, List.getElem_cons_zero, List.getElem_cons_succ]
      refine wpAnyH_take (i := 34) (v := ?v92) rfl (by kernel_rfl) (by kernel_rfl) (by kernel_rfl) (fun _ _ _ h => h) (Or.inl ⟨by rfl, fun w hSw => ?y92⟩) hH88 ?r92
      case y92 => first | (go_simp; done) | (go_simp; with_reducible rfl)
      try simp only [Act.put, List.setIfInBounds_toArray, List.set_cons_zero, List.set_cons_succ, List.getElem_toArray, List.getElem_cons_zero, List.getElem_cons_succ]
      refine wpAnyH_take (i := 35) (v := ?v93) rfl (by kernel_rfl) (by kernel_rfl) (by kernel_rfl) (fun _ _ _ h => h) (Or.inl ⟨by rfl, fun w hSw => ?y93⟩) hH88 ?r93
      case y93 => first | (go_simp; done) | (go_simp; with_reducible rfl)
      try simp only [Act.put, List.setIfInBounds_toArray, List.set_cons_zero, List.set_cons_succ, List.getElem_toArray, List.getElem_cons_zero, List.getElem_cons_succ]
      refine wpAnyH_done (by kernel_rfl) ?_ _
      go_wp2_with fail
      go_ret
      exact HFIN.out _ HB1.out _ HB2.out _ HB3.out _ HB4.out _ HB5.out
end Go.Proofs.Ytmcjhkdcbblnnaa.Inf

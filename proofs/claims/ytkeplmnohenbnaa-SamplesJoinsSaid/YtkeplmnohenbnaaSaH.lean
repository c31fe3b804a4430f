
/- The document's answers for layer 17: Unpack. -/
import Derived.Test.YtkeplmnohenbnaaSaG
namespace Go.Proofs.Ytkeplmnohenbnaa.Sa
open Go.RowKit Go.Proofs.Ytkeplmnohenbnaa.Oct Go.Proofs.Ytkeplmnohenbnaa.Bit
open Go.Proofs.Ytkeplmnohenbnaa.Lp (VRow vrow_blk vrow_own wpList_append_vals blk_set blk_far blk_frozen fillV fillV_length fillV_zero fillV_all fillV_step)
set_option linter.unusedVariables false
set_option linter.unusedSimpArgs false
set_option maxRecDepth 100000

theorem u32_new (w : World) (vs : List Value) (T : TypeId) (fr : Nat × Nat) : VRow (w.alloc (.cells vs.toArray T fr)) (w.alloc (.cells vs.toArray T fr)).heap.size (some ⟨w.heap.size, 0, none⟩) vs :=
  vrow_blk (T := T) (fr := fr) (by
    show (w.heap.push _)[w.heap.size]? = _
    simp) (by simp)
theorem unpackS_take_succ (k : Nat) (big : Bool) (L : List Bool) (n i : Nat) (h : i < n) : (unpackS k big L n).take (i + 1) = (unpackS k big L n).take i ++ [readS k big ((L.drop (i * k)).take k)] := by
  rw [List.take_succ_eq_append_getElem (by rw [unpackS_length]; exact h), unpackS_get]
theorem turnW_length (k : Nat) (big : Bool) (w : List Bool) (h : w.length = k) : (turnW k big w).length = k := by
  unfold turnW
  split
  · rename_i h1
    rw [List.length_append, List.length_drop, List.length_take, h]
    omega
  · split
    · rename_i h1
      simp only [List.length_append, List.length_drop, List.length_take, h]
      omega
    · exact h
/-- the text of a sample's bits, in their order -/
def RoS (w : World) (ys : List Nat) (k : Nat) (v : Value) (wr : World) : Prop := wr.ownsRow w.heap.size 45 1 v k (u32s (ys.take k)) ∧ Below w.heap.size w wr
set_option maxHeartbeats 600000 in
theorem runpack_any (n wide : Int) (big : Bool) (xs : List UInt8) (w : World) (hl : xs.length ≤ 1000) :
    Calls Try.prog 13 #[.string (bs xs), .int .i64 n, .int .i64 wide, .bool big] w (UnP w (unpackS wide.toNat big (bitsOf false xs) n.toNat) (unE xs.length n wide)) := by
  obtain ⟨i0, hi, hz0, hz1, hz2⟩ := info_parts Try.infoU32
  have HSZ := Lib.hid (rsize_any n wide w)
  unfold SizeP at HSZ
  have hxs := bs_size xs
  by_cases hok : okS n wide = true
  · obtain ⟨hn0, hn1, hw1, hw2⟩ := ok_bounds hok
    obtain ⟨wd, rfl⟩ : ∃ wd : Nat, wide = (wd : Int) := ⟨wide.toNat, by omega⟩
    obtain ⟨k, rfl⟩ : ∃ k : Nat, n = (k : Int) := ⟨n.toNat, by omega⟩
    have e1 : sizeE (k : Int) (wd : Int) = 0 := by unfold sizeE; rw [hok]; rfl
    obtain ⟨s, hs⟩ : ∃ s, s = (k * wd + 7) / 8 := ⟨_, rfl⟩
    have e2 : sizeV (k : Int) (wd : Int) = (s : Int) := by
      unfold sizeV
      rw [hok, hs]
      push_cast
      rfl
    have hss : k * wd ≤ 8 * s := by omega
    by_cases hcut : xs.length < s
    · have e3 : unE xs.length (k : Int) (wd : Int) = 2 := by unfold unE; rw [if_pos hok, e2, if_pos (by omega)]
      rw [e3]
      rw [e1, e2] at HSZ
      generalize unpackS _ _ _ _ = Y
      generalize bs xs = S at hxs ⊢
      have ql : decide ((S.size : Int) < (s : Int)) = true := by rw [hxs]; simp; omega
      have ql2 : decide ((xs.length : Int) < (s : Int)) = true := by simp; omega
      clear hok e1 e2 e3 hs hss
      go_enter Try.func13, Try.ntmps13
      go_wp2_with fail
      refine HSZ.out.mono ?_
      rintro e w' ⟨rfl, rfl⟩
      go_wp2_with fail
      go_ret2
      exact ⟨Below.refl _ _, .inr ⟨by decide, rfl⟩⟩
    · have e3 : unE xs.length (k : Int) (wd : Int) = 0 := by unfold unE; rw [if_pos hok, e2, if_neg (by omega)]
      rw [e3, show ((wd : Int)).toNat = wd from rfl, show ((k : Int)).toNat = k from rfl]
      rw [e1, e2] at HSZ
      rw [← unpackS_take wd big xs k s hss]
      have hof := rof_any (xs.take s) false w (by rw [List.length_take]; omega)
      have hex : (bs xs).extract 0 s = bs (xs.take s) := by rw [bs_extract, List.drop_zero, Nat.sub_zero]
      obtain ⟨L, hL⟩ : ∃ L, L = bitsOf false (xs.take s) := ⟨_, rfl⟩
      have hLl : L.length = 8 * s := by rw [hL, bitsOf_length, List.length_take]; omega
      rw [← hL] at hof ⊢
      obtain ⟨ys, hys⟩ : ∃ ys, ys = unpackS wd big L k := ⟨_, rfl⟩
      have hyl : ys.length = k := by rw [hys, unpackS_length]
      have HYS : Hid (∀ i, i < k → ys.take (i + 1) = ys.take i ++ [num (turnW wd big ((L.drop (i * wd)).take wd))]) := Lib.hid (fun i h => by rw [hys]; exact unpackS_take_succ wd big L k i h)
      rw [← hys]
      generalize bs xs = S at hxs hex ⊢
      generalize bs (xs.take s) = T at hof hex
      generalize xs.length = len at hxs hcut hl
      have ql : decide ((S.size : Int) < (s : Int)) = false := by rw [hxs]; simp; omega
      have ql2 : decide ((len : Int) < (s : Int)) = false := by simp; omega
      have hsl : s ≤ len := by omega
      have HOF := Lib.hid hof
      have HLL := Lib.hid hLl
      have HYL := Lib.hid hyl
      have HSS := Lib.hid hss
      have HW := Lib.hid hw1
      have hwd : wd ≤ 32 := by omega
      have hk8 : k ≤ 8000 := by
        have := Nat.mul_le_mul_left k (show 1 ≤ wd by omega)
        omega
      clear hok e1 e2 e3 hs hss hof hL hLl hys hyl hn0 hn1 hw1 hw2
      go_enter Try.func13, Try.ntmps13
      go_wp2_with fail
      refine HSZ.out.mono ?_
      rintro e w' ⟨rfl, rfl⟩
      go_wp2_with fail
      refine HOF.out.mono ?_
      rintro e w1 ⟨rfl, hb1⟩
      have HST : Hid (RoS w ys 0 (.slice none 0 0) w1) := Lib.hid ⟨World.ownsRow_nil w1 w.heap.size 45 1, hb1⟩
      have hds := ds_size L
      rw [HLL.out] at hds
      have HEX : Hid (∀ i j, j = i + wd → (ds L).extract i j = ds ((L.drop i).take wd)) := Lib.hid (fun i j h => by rw [ds_extract, h, Nat.add_sub_cancel_left])
      generalize ds L = SL at hds HEX
      clear hb1 HOF hxs hex ql ql2 HSZ
      go_wp2_with fail
      go_loopw [13, 14, 15] (fun o i _ wr => ∃ j : Nat, j ≤ k ∧ i = .int .i64 (j : Int) ∧ Hid (RoS w ys j o wr)) (fun _ i _ _ => k - (intOf i).toNat)
      case atStart => exact ⟨0, by omega, rfl, HST⟩
      case round =>
        clear HST
        obtain ⟨j, hj, rfl, HS⟩ := hrel
        by_cases hlt : j < k
        · obtain ⟨c, hc⟩ : ∃ c, c = j * wd := ⟨_, rfl⟩
          obtain ⟨d, hd⟩ : ∃ d, d = c + wd := ⟨_, rfl⟩
          have hjm : (j + 1) * wd ≤ k * wd := Nat.mul_le_mul_right wd hlt
          have hdl : d ≤ 8 * s := by
            have := HSS.out
            rw [Nat.succ_mul] at hjm
            omega
          have hpz : (j : Int) * (wd : Int) = (c : Int) := by rw [hc]; push_cast; rfl
          have hcd : (c : Int) + (wd : Int) = (d : Int) := by omega
          have hc0 : c ≤ 8000 := by omega
          have hd8 : d ≤ 8000 := by omega
          obtain ⟨z8, hz8⟩ : ∃ z8, z8 = 8 * s := ⟨_, rfl⟩
          rw [← hz8] at hdl
          have hds2 : SL.size = z8 := by rw [hz8]; exact hds
          have hz9 : z8 ≤ 8000 := by omega
          clear hz8
          have hcle : c ≤ d := by omega
          have hyt := HYS.out j hlt
          rw [← hc] at hyt
          have hx1 := HEX.out c (c + wd) rfl
          have hchl : ((L.drop c).take wd).length = wd := by rw [List.length_take, List.length_drop, HLL.out]; omega
          have htl : (turnW wd big ((L.drop c).take wd)).length ≤ 32 := by rw [turnW_length _ _ _ hchl]; exact hwd
          have HNM := Lib.hid (fun W => rnumber_any (turnW wd big ((L.drop c).take wd)) W htl)
          have hzb : num (turnW wd big ((L.drop c).take wd)) < 4294967296 := num_bd _ htl
          have ql : decide ((j : Int) < (k : Int)) = true := by simpa using hlt
          have hA1 : 0 ≤ (c : Int) ∧ (c : Int) ≤ 1000000000 := by omega
          have hdz : (c : Int) + (wd : Int) ≤ (z8 : Int) := by omega
          have hdz2 : c + wd ≤ z8 := by omega
          have HFIN : Hid (∀ z : Nat, z = num (turnW wd big ((L.drop c).take wd)) → ys.take (j + 1) = ys.take j ++ [z]) := Lib.hid (fun z h => by rw [h]; exact hyt)
          obtain ⟨z, hz⟩ : ∃ z, z = num (turnW wd big ((L.drop c).take wd)) := ⟨_, rfl⟩
          rw [← hz] at HNM hzb
          have HF2 := Lib.hid (HFIN.out z hz)
          have HO := Lib.hid HS.out.1
          have HB := Lib.hid HS.out.2
          have HALL : Hid (∀ W, Drawn wr W → VRow (W.alloc (.cells (u32s [z]).toArray 45)) (W.alloc (.cells (u32s [z]).toArray 45)).heap.size (some ⟨W.heap.size, 0, none⟩) (u32s [z]) ∧ (W.alloc (.cells (u32s [z]).toArray 45)).ownsRow w.heap.size 45 1 u13 j (u32s (ys.take j)) ∧ Below w.heap.size w (W.alloc (.cells (u32s [z]).toArray 45)) ∧ w.heap.size ≤ (W.alloc (.cells (u32s [z]).toArray 45)).heap.size) := Lib.hid (fun W hd => by
            have hb1 : Below W.heap.size W (W.alloc (.cells (u32s [z]).toArray 45)) := (Below.refl _ W).alloc (Nat.le_refl _) _
            have hdb := hd.below w.heap.size
            have hb2 : Below w.heap.size w W := HB.out.trans hdb
            have hbl := hb2.trans (hb1.mono hb2.size)
            exact ⟨u32_new W (u32s [z]) 45 (0, 0), own_below (own_below HO.out (hd.below _)) hb1, hbl, hbl.size⟩)
          have hcm : ∀ [Inhabited Nat], wrap64 ((j : Int) * (wd : Int)) = (c : Int) := (wi_small _ _ hpz hA1.1 hA1.2).2
          clear hA1
          clear hc hd hd8 hdl hcle hjm hyt hpz HFIN hz htl HS HO HB hcd
          generalize hW0 : (L.drop c).take wd = W0 at *
          have hcs : (ds W0).size = wd := by rw [ds_size, hchl]
          cases big
          · by_cases h16 : wd = 16
            · have hT : turnW wd false W0 = W0.drop 8 ++ W0.take 8 := by simp [turnW, h16]
              rw [hT, ← ds_append] at HNM
              have e16 : ((wd : Int) == 16) = true := by rw [beq_iff_eq]; omega
              have e32 : ((wd : Int) == 32) = false := by simp; omega
              have p1 : (ds W0).extract 8 16 = ds (W0.drop 8) := by rw [ds_extract, List.take_of_length_le (by rw [List.length_drop]; omega)]
              have p2 : (ds W0).extract 0 8 = ds (W0.take 8) := by rw [ds_extract, List.drop_zero]
              have s1 : (ds (W0.drop 8)).size = 8 := by rw [ds_size, List.length_drop]; omega
              have s2 : (ds (W0.take 8)).size = 8 := by rw [ds_size, List.length_take]; omega
              have hcs16 : (ds W0).size = 16 := by rw [hcs]; exact h16
              generalize ds (W0.drop 8) = A1 at p1 s1 HNM
              generalize ds (W0.take 8) = A2 at p2 s2 HNM
              generalize ds W0 = CC at hcs16 hx1 p1 p2
              clear hT hchl hW0 hcs h16
              go_wp2_with fail
              go_quiet (fail)
              obtain ⟨wB, hwB⟩ : ∃ wB, wB = wr.drewN nq := ⟨_, rfl⟩
              have hdB : Drawn wr wB := ⟨nq, hwB⟩
              obtain ⟨HR1, HR2, HR3, HR4⟩ := HALL.out wB hdB
              rw [← hwB]
              clear HALL hwB hdB
              go_wp2_with fail
              refine (HNM.out _).mono ?_
              rintro e w' ⟨rfl, rfl⟩
              clear hcm hdz hdz2 hx1 hds2
              go_wp2_with (at_builtin; refine wpList_append_vals Try.underlying22 hi hz0 hz1 hz2 rfl (by decide) rfl _ _ rfl w.heap.size _ j (u32s (ys.take j)) rfl HR2 (some ⟨wB.heap.size, 0, none⟩) 1 1 (u32s [z]) rfl HR1 rfl (fun h => by cases h) u32s_one (by omega) HR4 ?_)
              intro v2 w2 hown2 _ hb3
              rw [← u32s_append, ← HF2.out] at hown2
              have HN : Hid (RoS w ys (j + 1) v2 w2) := Lib.hid ⟨hown2, HR3.trans hb3⟩
              clear hown2 hb3 HR1 HR2 HR3 HR4
              go_wp2_with fail
              go_roundw
              case rel => exact ⟨j + 1, by omega, by go_num, HN⟩
              case measure => simp [intOf]; omega
            · by_cases h32 : wd = 32
              · have hT : turnW wd false W0 = W0.drop 24 ++ (W0.drop 16).take 8 ++ (W0.drop 8).take 8 ++ W0.take 8 := by simp [turnW, h32]
                rw [hT, ← ds_append, ← ds_append, ← ds_append] at HNM
                have e16 : ((wd : Int) == 16) = false := by simp; omega
                have e32 : ((wd : Int) == 32) = true := by rw [beq_iff_eq]; omega
                have p1 : (ds W0).extract 24 32 = ds (W0.drop 24) := by rw [ds_extract, List.take_of_length_le (by rw [List.length_drop]; omega)]
                have p2 : (ds W0).extract 16 24 = ds ((W0.drop 16).take 8) := by rw [ds_extract]
                have p3 : (ds W0).extract 8 16 = ds ((W0.drop 8).take 8) := by rw [ds_extract]
                have p4 : (ds W0).extract 0 8 = ds (W0.take 8) := by rw [ds_extract, List.drop_zero]
                have s1 : (ds (W0.drop 24)).size = 8 := by rw [ds_size, List.length_drop]; omega
                have s2 : (ds ((W0.drop 16).take 8)).size = 8 := by rw [ds_size, List.length_take, List.length_drop]; omega
                have s3 : (ds ((W0.drop 8).take 8)).size = 8 := by rw [ds_size, List.length_take, List.length_drop]; omega
                have s4 : (ds (W0.take 8)).size = 8 := by rw [ds_size, List.length_take]; omega
                have hcs32 : (ds W0).size = 32 := by rw [hcs]; exact h32
                generalize ds (W0.drop 24) = A1 at p1 s1 HNM
                generalize ds ((W0.drop 16).take 8) = A2 at p2 s2 HNM
                generalize ds ((W0.drop 8).take 8) = A3 at p3 s3 HNM
                generalize ds (W0.take 8) = A4 at p4 s4 HNM
                generalize ds W0 = CC at hcs32 hx1 p1 p2 p3 p4
                have s12 : (A1 ++ A2).size = 16 := by rw [ByteArray.size_append, s1, s2]
                have s123 : (A1 ++ A2 ++ A3).size = 24 := by rw [ByteArray.size_append, s12, s3]
                clear hT hchl hW0 hcs h16 h32
                go_wp2_with fail
                go_quiet (fail)
                obtain ⟨wB, hwB⟩ : ∃ wB, wB = wr.drewN nq := ⟨_, rfl⟩
                have hdB : Drawn wr wB := ⟨nq, hwB⟩
                obtain ⟨HR1, HR2, HR3, HR4⟩ := HALL.out wB hdB
                rw [← hwB]
                clear HALL hwB hdB
                go_wp2_with fail
                refine (HNM.out _).mono ?_
                rintro e w' ⟨rfl, rfl⟩
                clear hcm hdz hdz2 hx1 hds2
                go_wp2_with (at_builtin; refine wpList_append_vals Try.underlying22 hi hz0 hz1 hz2 rfl (by decide) rfl _ _ rfl w.heap.size _ j (u32s (ys.take j)) rfl HR2 (some ⟨wB.heap.size, 0, none⟩) 1 1 (u32s [z]) rfl HR1 rfl (fun h => by cases h) u32s_one (by omega) HR4 ?_)
                intro v2 w2 hown2 _ hb3
                rw [← u32s_append, ← HF2.out] at hown2
                have HN : Hid (RoS w ys (j + 1) v2 w2) := Lib.hid ⟨hown2, HR3.trans hb3⟩
                clear hown2 hb3 HR1 HR2 HR3 HR4
                go_wp2_with fail
                go_roundw
                case rel => exact ⟨j + 1, by omega, by go_num, HN⟩
                case measure => simp [intOf]; omega
              · have hT : turnW wd false W0 = W0 := by simp [turnW, h16, h32]
                rw [hT] at HNM
                have e16 : ((wd : Int) == 16) = false := by simp; omega
                have e32 : ((wd : Int) == 32) = false := by simp; omega
                obtain ⟨HR1, HR2, HR3, HR4⟩ := HALL.out wr ⟨0, rfl⟩
                generalize ds W0 = CC at hcs hx1 HNM
                clear hT hchl hW0 HALL h16 h32
                go_wp2_with fail
                refine (HNM.out _).mono ?_
                rintro e w' ⟨rfl, rfl⟩
                clear hcm hdz hdz2 hx1 hds2
                go_wp2_with (at_builtin; refine wpList_append_vals Try.underlying22 hi hz0 hz1 hz2 rfl (by decide) rfl _ _ rfl w.heap.size _ j (u32s (ys.take j)) rfl HR2 (some ⟨wr.heap.size, 0, none⟩) 1 1 (u32s [z]) rfl HR1 rfl (fun h => by cases h) u32s_one (by omega) HR4 ?_)
                intro v2 w2 hown2 _ hb3
                rw [← u32s_append, ← HF2.out] at hown2
                have HN : Hid (RoS w ys (j + 1) v2 w2) := Lib.hid ⟨hown2, HR3.trans hb3⟩
                clear hown2 hb3 HR1 HR2 HR3 HR4
                go_wp2_with fail
                go_roundw
                case rel => exact ⟨j + 1, by omega, by go_num, HN⟩
                case measure => simp [intOf]; omega
          · have hT : turnW wd true W0 = W0 := by simp [turnW]
            rw [hT] at HNM
            obtain ⟨HR1, HR2, HR3, HR4⟩ := HALL.out wr ⟨0, rfl⟩
            generalize ds W0 = CC at hcs hx1 HNM
            clear hT hchl hW0 HALL
            go_wp2_with fail
            refine (HNM.out _).mono ?_
            rintro e w' ⟨rfl, rfl⟩
            clear hcm hdz hdz2 hx1 hds2
            go_wp2_with (at_builtin; refine wpList_append_vals Try.underlying22 hi hz0 hz1 hz2 rfl (by decide) rfl _ _ rfl w.heap.size _ j (u32s (ys.take j)) rfl HR2 (some ⟨wr.heap.size, 0, none⟩) 1 1 (u32s [z]) rfl HR1 rfl (fun h => by cases h) u32s_one (by omega) HR4 ?_)
            intro v2 w2 hown2 _ hb3
            rw [← u32s_append, ← HF2.out] at hown2
            have HN : Hid (RoS w ys (j + 1) v2 w2) := Lib.hid ⟨hown2, HR3.trans hb3⟩
            clear hown2 hb3 HR1 HR2 HR3 HR4
            go_wp2_with fail
            go_roundw
            case rel => exact ⟨j + 1, by omega, by go_num, HN⟩
            case measure => simp [intOf]; omega
        · have : j = k := by omega
          subst this
          have hS := HS.out
          unfold RoS at hS
          rw [← HYL.out, List.take_length] at hS
          obtain ⟨q, c2, hv, hnq, hq1, hq2, hrow, hqb⟩ := vrow_own hS.1 (u32s_length _)
          subst hv
          have HB := Lib.hid hS.2
          have HQ0 := Lib.hid hnq
          have HQ1 := Lib.hid hq1
          have HQ2 := Lib.hid hq2
          have HRO := Lib.hid hrow
          have HQB := Lib.hid hqb
          have ql : decide ((j : Int) < (j : Int)) = false := by simp
          clear hS hnq hq1 hq2 hrow hqb HS hlt hj HYS
          go_wp2_with fail
          go_ret2
          exact ⟨HB.out, .inl ⟨rfl, q, c2, rfl, HRO.out, HQ1.out, HQ2.out, HQ0.out, HQB.out⟩⟩
  · have hok : okS n wide = false := by simpa using hok
    have e1 : sizeE n wide = 1 := by unfold sizeE; rw [hok]; rfl
    have e2 : sizeV n wide = 0 := by unfold sizeV; rw [hok]; rfl
    have e3 : unE xs.length n wide = 1 := if_neg (by rw [hok]; simp)
    rw [e3]
    rw [e1, e2] at HSZ
    generalize unpackS _ _ _ _ = Y
    generalize bs xs = S
    clear hok e1 e2 e3 hxs
    go_enter Try.func13, Try.ntmps13
    go_wp2_with fail
    refine HSZ.out.mono ?_
    rintro e w' ⟨rfl, rfl⟩
    go_wp2_with fail
    go_ret2
    exact ⟨Below.refl _ _, .inr ⟨by decide, rfl⟩⟩
end Go.Proofs.Ytkeplmnohenbnaa.Sa

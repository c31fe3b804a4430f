
/- Contracts of package grid: Set, New. -/
import Derived.Test.YtjecakkdongcoaaGrC
import Derived.StillTailTactics
namespace Go.Proofs.Ytjecakkdongcoaa.Gr
open Go.RowKit Go.Proofs.Ytjecakkdongcoaa.Oct
open Go.Proofs.Ytjecakkdongcoaa.Lp (VRow ints ints_length ints_append ints_one vrow_blk vrow_own blk_set blk_far blk_frozen)
open Go.Proofs.Ytjecakkdongcoaa.Gd (canG)
open Go.Proofs.Ytjecakkdongcoaa.Fm (Ow)
set_option linter.unusedVariables false
set_option linter.unusedSimpArgs false
set_option maxRecDepth 100000

/-- a grid in cells of the call's own, and an error -/
def GeP (w : World) (W H : Int) (n : Nat) (zs : List Int) (er : Int) (e : Ending) (w' : World) : Prop :=
  ∃ G, e = .returned (.tuple #[.agg #[.int .i64 W, .int .i64 H, .slice (some ⟨G, 0, none⟩) n n], .int .i64 er]) ∧ Ow w G 3 (ints zs) w'
set_option maxHeartbeats 400000 in
theorem set_any (W H : Int) (p : Option Addr) (n c : Nat) (zs : List Int) (x y v : Int) (w : World) (hr : VRow w w.heap.size p (ints zs)) (hx : zs.length = n) (hl : n ≤ 5000000) :
    Calls Try.prog 15 #[.agg #[.int .i64 W, .int .i64 H, .slice p n c], .int .i64 x, .int .i64 y, .int .i64 v] w
      (GeP w W H n (if hasI W H n x y then zs.set (y.toNat * W.toNat + x.toNat) v else zs) (if hasI W H n x y then 0 else 1)) := by
  obtain ⟨w2, hw2, HB2, HX2, HY2, hz2⟩ := box2 26 26 w (.int .i64 W) (.int .i64 H) (.slice p n c) (.int .i64 0) (.int .i64 0) (.slice none 0 0)
  have HW2 := Lib.hid hw2
  have HCL := Lib.hid (clone_any W H p n c zs w2 ((hr.below HB2.out (Nat.le_refl _)).mono HB2.out.size) hx hl)
  have HHS := Lib.hid (fun w => has_any W H p n c x y w)
  obtain ⟨Z, hZ⟩ : ∃ Z, Z = if hasI W H n x y then zs.set (y.toNat * W.toNat + x.toNat) v else zs := ⟨_, rfl⟩
  obtain ⟨er, her⟩ : ∃ er : Int, er = if hasI W H n x y then 0 else 1 := ⟨_, rfl⟩
  rw [← hZ, ← her]
  have HZ2 := Lib.hid hz2
  have key : Hid (hasI W H n x y = false ∧ Z = zs ∧ er = 1 ∨ hasI W H n x y = true ∧ er = 0 ∧ ∃ a b i j : Nat, W = (a : Int) ∧ H = (b : Int) ∧ x = (i : Int) ∧ y = (j : Int) ∧ i < a ∧ a ≤ 4194304 ∧ j ≤ 4194304 ∧ j * a + a ≤ n ∧ n ≤ 4194304 ∧ Z = zs.set (j * a + i) v) := Lib.hid (by
    by_cases h : hasI W H n x y = true
    · rw [if_pos h] at hZ her
      obtain ⟨a, b, i, j, rfl, rfl, rfl, rfl, hn, hm, ha, hb, hia, hjb⟩ := has_nat h
      have hln : j * a + a ≤ n := by
        rw [← hn, Nat.mul_comm a b]
        have := Nat.mul_le_mul_right a (show j + 1 ≤ b from hjb)
        rw [Nat.succ_mul] at this
        exact this
      exact .inr ⟨h, her, a, b, i, j, rfl, rfl, rfl, rfl, hia, ha, by omega, hln, hm, hZ⟩
    · rw [if_neg h] at hZ her
      exact .inl ⟨by simpa using h, hZ, her⟩)
  have HX0 := Lib.hid hx
  clear hr hw2 hZ her hz2 hx
  go_enter Try.func15, Try.ntmps15
  go_wp2_with fail
  rw [← HW2.out]
  refine HCL.out.mono ?_
  rintro e w3 ⟨G, rfl, ho⟩
  obtain ⟨w4, hw4, HB4, HX4, hz4⟩ := box1 26 w3 (.int .i64 W) (.int .i64 H) (.slice (some ⟨G, 0, none⟩) n n)
  have hbw4 := ho.1.trans (HB4.out.mono ho.1.size)
  have hbx4 := HX2.out.go hbw4
  have HY4 := Lib.hid (HY2.out.go hbw4)
  have k := hbx4.cells
  rw [hw4] at k
  obtain ⟨k0, k1, k2⟩ := k
  have HW4 := Lib.hid hw4
  have HZ4 := Lib.hid hz4
  have hgg : G ≠ w3.heap.size ∧ w3.heap.size ≠ G ∧ G ≠ w.heap.size + 1 ∧ w.heap.size + 1 ≠ G ∧ w3.heap.size ≠ w.heap.size + 1 := by
    have h1 := ho.2.1
    have h2 := ho.2.2.1
    have h3 := HZ2.out
    omega
  have HGG := Lib.hid hgg
  have HO4 := Lib.hid ((ow_mono ho HB2.out).go HB4.out)
  clear ho hbw4 hbx4 hw4 hz4 HCL hgg
  go_wp2_with fail
  rw [← HW4.out]
  rcases key.out with ⟨h0, rfl, rfl⟩ | ⟨h1, rfl, a, b, i, j, rfl, rfl, rfl, rfl, hia, ha, hj, hln, hm, hZ⟩
  · have HH := HHS.out w4
    rw [h0] at HH
    refine HH.mono ?_
    rintro e w5 ⟨rfl, hb5⟩
    have HX5 := HX4.out.go hb5
    have HY5 := HY4.out.go hb5
    have HO5 := HO4.out.go hb5
    obtain ⟨k0, k1, k2⟩ := HX5.cells
    obtain ⟨j0, j1, j2⟩ := HY5.cells
    have f := HY5.fz
    have f0 := f 0
    have f1 := f 1
    have f2 := f 2
    have HR := Lib.hid (HY5.put (.int .i64 W) (.int .i64 H) (.slice (some ⟨G, 0, none⟩) n n))
    have HO6 := Lib.hid (ow_far (i := 2) (ow_far (i := 1) (ow_far (i := 0) HO5 HGG.out.2.2.2.1 (Nat.le_succ _) (.int .i64 W)) HGG.out.2.2.2.1 (Nat.le_succ _) (.int .i64 H)) HGG.out.2.2.2.1 (Nat.le_succ _) (.slice (some ⟨G, 0, none⟩) n n))
    clear HX5 HY5 HO5 f h0 hb5 key HHS HX4 HY4 HX2 HY2 HB2 HO4 HH HGG
    go_wp2_with fail
    refine bodyPost_ret (res_two Try.underlying26 size_gi rfl _ _ (w.heap.size + 1) _ _ _ rfl HR.out) rfl ?_
    exact ⟨G, rfl, HO6.out⟩
  · have HH := HHS.out w4
    rw [h1] at HH
    refine HH.mono ?_
    rintro e w5 ⟨rfl, hb5⟩
    have HX5 := Lib.hid (HX4.out.go hb5)
    have HY5 := Lib.hid (HY4.out.go hb5)
    have HO5 := Lib.hid (HO4.out.go hb5)
    obtain ⟨k0, k1, k2⟩ := HX5.out.cells
    obtain ⟨m, hm2⟩ : ∃ m, m = j * a := ⟨_, rfl⟩
    rw [← hm2] at hln hZ
    have HLN := Lib.hid (fun w => line_any a (b : Int) (some ⟨G, 0, none⟩) n n j w (by rw [← hm2]; omega) ha (by rw [← hm2]; omega) (by omega))
    rw [← hm2, tail_at (by omega), Nat.zero_add] at HLN
    have HZ := Lib.hid hZ
    have i1 : (0 : Int) ≤ (i : Int) := by omega
    have i2 : (i : Int) < (a : Int) := by omega
    have HLE : Hid (m + i < zs.length) := Lib.hid (by rw [HX0.out]; omega)
    clear h1 hb5 key HHS HX4 HY4 HX2 HY2 HB2 HO4 HH hm2 hln ha hj hm hZ
    go_wp2_with fail
    refine (HLN.out _).mono ?_
    rintro e w6 ⟨rfl, hb6⟩
    have HX6 := Lib.hid (HX5.out.go hb6)
    have HY6 := Lib.hid (HY5.out.go hb6)
    have HO6 := Lib.hid (HO5.out.go hb6)
    have hc := HO6.out.cell (m + i) (by rw [ints_length]; exact HLE.out) (by simp [ints]; rfl)
    have hfz := HO6.out.fz (m + i)
    generalize (ints zs)[m + i]'(by rw [ints_length]; exact HLE.out) = old at hc
    have HO7 := HO6.out.set (m + i) (.int .i64 v)
    rw [show (ints zs).set (m + i) (.int .i64 v) = ints (zs.set (m + i) v) from by simp [ints, List.map_set]] at HO7
    have HX7 := HX6.out.far (i := m + i) HGG.out.1 (.int .i64 v)
    have HY7 := HY6.out.far (i := m + i) HGG.out.2.2.1 (.int .i64 v)
    obtain ⟨k0, k1, k2⟩ := HX7.cells
    obtain ⟨j0, j1, j2⟩ := HY7.cells
    have f := HY7.fz
    have f0 := f 0
    have f1 := f 1
    have f2 := f 2
    have HR := Lib.hid (HY7.put (.int .i64 (a : Int)) (.int .i64 (b : Int)) (.slice (some ⟨G, 0, none⟩) n n))
    have HO8 := Lib.hid (ow_far (i := 2) (ow_far (i := 1) (ow_far (i := 0) HO7 HGG.out.2.2.2.1 (Nat.le_succ _) (.int .i64 (a : Int))) HGG.out.2.2.2.1 (Nat.le_succ _) (.int .i64 (b : Int))) HGG.out.2.2.2.1 (Nat.le_succ _) (.slice (some ⟨G, 0, none⟩) n n))
    clear HX7 HY7 HO7 f hb6 HX5 HX6 HY5 HY6 HO5 HO6 HLN
    go_wp2_with fail
    refine bodyPost_ret (res_two Try.underlying26 size_gi rfl _ _ (w.heap.size + 1) _ _ _ rfl HR.out) rfl ?_
    exact ⟨G, rfl, by rw [HZ.out]; exact HO8.out⟩
set_option maxHeartbeats 400000 in
theorem new_any (W H : Int) (w : World) : Calls Try.prog 39 #[.int .i64 W, .int .i64 H] w fun e w' =>
    (canG W H = true ∧ GeP w W H (W * H).toNat (List.replicate (W * H).toNat 0) 0 e w') ∨ (canG W H = false ∧ Below w.heap.size w w' ∧ e = .returned (.tuple #[.agg #[.int .i64 0, .int .i64 0, .slice none 0 0], .int .i64 1])) := by
  obtain ⟨i0, hi, hz0, hz1, hz2⟩ := info_parts Lp.Try.infoInt
  have HS := Lib.hid (fun w => isSize_any W H w)
  obtain ⟨w1, hw1, HB1, HX1, hs1⟩ := box1 26 w (.int .i64 0) (.int .i64 0) (.slice none 0 0)
  have HW1 := Lib.hid hw1
  by_cases h : canG W H = true
  case neg =>
    have h0 : canG W H = false := by simpa using h
    rw [h0] at HS
    have k := HX1.out.cells
    rw [hw1] at k
    obtain ⟨k0, k1, k2⟩ := k
    have HH := Lib.hid h0
    clear h h0 hw1 hs1
    go_enter Try.func39, Try.ntmps39
    go_wp2_with fail
    refine (HS.out _).mono ?_
    rintro e w' ⟨rfl, rfl⟩
    go_wp2_with fail
    rw [← HW1.out]
    refine bodyPost_ret (res_two Try.underlying26 size_gi rfl _ _ w.heap.size _ _ _ rfl HX1.out) rfl ?_
    exact .inr ⟨HH.out, HB1.out, rfl⟩
  have HC := Lib.hid h
  rw [h] at HS
  obtain ⟨_, _, _, _, hmx, m1, m2⟩ := can_parts h
  obtain ⟨a, rfl⟩ : ∃ a : Nat, W = (a : Int) := ⟨W.toNat, by omega⟩
  obtain ⟨b, rfl⟩ : ∃ b : Nat, H = (b : Int) := ⟨H.toNat, by omega⟩
  obtain ⟨n, hn⟩ : ∃ n : Nat, n = a * b := ⟨_, rfl⟩
  have e1 : (a : Int) * (b : Int) = (n : Int) := by rw [hn]; push_cast; rfl
  rw [e1] at m1 m2 hmx
  have hn4 : n ≤ 4194304 := by omega
  have q1 : IntKind.i64.wrap ((a : Int) * (b : Int)) = (n : Int) := by rw [e1]; exact m1
  have q2 : wrap64 ((a : Int) * (b : Int)) = (n : Int) := by rw [e1]; exact m2
  have HE := Lib.hid e1
  have HZ1 := Lib.hid hs1
  clear h hmx m1 m2 hn e1 hw1 hs1
  go_enter Try.func39, Try.ntmps39
  go_wp2_with fail
  refine (HS.out _).mono ?_
  rintro e w' ⟨rfl, rfl⟩
  go_wp2_with (at_make; refine wpList_make_full _ rfl _ _ 22 rfl w.heap.size 3 i0 (.int .i64 0) 1 Try.underlying22 hi hz0 hz1 .i64 .i64 (n : Int) (n : Int) n rfl rfl rfl rfl ?c2 ?c3 ?c4 ?_)
  case c2 => rw [hz2]; omega
  case c3 => unfold maxLen; omega
  case c4 => simp
  intro w2 hown hgrow
  rw [← HW1.out] at hgrow
  have hb2 : Below w1.heap.size w1 w2 := (Below.refl _ _).grown hgrow (Nat.le_refl _) (fun k hk => by cases hk)
  have hblk := blk_of_own hown
  rw [Fm.made_one] at hblk
  have HX2 := HX1.out.go hb2
  have HO := Lib.hid (show Ow w (w.heap.size + 1) 3 (ints (List.replicate n 0)) w2 from ⟨HB1.out.trans (hb2.mono HB1.out.size), Nat.le_succ _, blk_lt hblk, by rw [hblk]; simp [ints]⟩)
  obtain ⟨k0, k1, k2⟩ := HX2.cells
  have f := HX2.fz
  have f0 := f 0
  have f1 := f 1
  have f2 := f 2
  have hne : w.heap.size ≠ w.heap.size + 1 := by omega
  have HR := Lib.hid (HX2.put (.int .i64 (a : Int)) (.int .i64 (b : Int)) (.slice (some ⟨w.heap.size + 1, 0, none⟩) n n))
  have HO2 := Lib.hid (ow_far (i := 2) (ow_far (i := 1) (ow_far (i := 0) HO.out hne (Nat.le_refl _) (.int .i64 (a : Int))) hne (Nat.le_refl _) (.int .i64 (b : Int))) hne (Nat.le_refl _) (.slice (some ⟨w.heap.size + 1, 0, none⟩) n n))
  clear hown hgrow hb2 hblk HX2 f hne HO hz0 hz1 hz2 hi
  try rw [← HW1.out]
  go_wp2_with fail
  refine bodyPost_ret (res_two Try.underlying26 size_gi rfl _ _ w.heap.size _ _ _ rfl HR.out) rfl ?_
  exact .inl ⟨HC.out, w.heap.size + 1, by rw [HE.out]; rfl, by rw [HE.out]; exact HO2.out⟩
theorem Try.infoBo : (Try.prog.info? 4).map (fun i => (i.zero, i.size, i.bytes)) = some (some (.bool false), 1, 1) := by kernel_rfl
theorem size_gb : (Try.prog.info? 46).map (·.size) = some 3 := by kernel_rfl
set_option maxHeartbeats 400000 in
theorem newB_any (W H : Int) (w : World) : Calls Try.prog 20 #[.int .i64 W, .int .i64 H] w fun e w' =>
    (canG W H = true ∧ Below w.heap.size w w' ∧ ∃ q, e = .returned (.tuple #[.agg #[.int .i64 W, .int .i64 H, .slice q (W * H).toNat (W * H).toNat], .int .i64 0])) ∨ (canG W H = false ∧ Below w.heap.size w w' ∧ e = .returned (.tuple #[.agg #[.int .i64 0, .int .i64 0, .slice none 0 0], .int .i64 1])) := by
  obtain ⟨i0, hi, hz0, hz1, hz2⟩ := info_parts Try.infoBo
  have HS := Lib.hid (fun w => isSize_any W H w)
  obtain ⟨w1, hw1, HB1, HX1, hs1⟩ := box1 46 w (.int .i64 0) (.int .i64 0) (.slice none 0 0)
  have HW1 := Lib.hid hw1
  by_cases h : canG W H = true
  case neg =>
    have h0 : canG W H = false := by simpa using h
    rw [h0] at HS
    have k := HX1.out.cells
    rw [hw1] at k
    obtain ⟨k0, k1, k2⟩ := k
    have HH := Lib.hid h0
    clear h h0 hw1 hs1
    go_enter Try.func20, Try.ntmps20
    go_wp2_with fail
    refine (HS.out _).mono ?_
    rintro e w' ⟨rfl, rfl⟩
    go_wp2_with fail
    rw [← HW1.out]
    refine bodyPost_ret (res_two Try.underlying46 size_gb rfl _ _ w.heap.size _ _ _ rfl HX1.out) rfl ?_
    exact .inr ⟨HH.out, HB1.out, rfl⟩
  have HC := Lib.hid h
  rw [h] at HS
  obtain ⟨_, _, _, _, hmx, m1, m2⟩ := can_parts h
  obtain ⟨a, rfl⟩ : ∃ a : Nat, W = (a : Int) := ⟨W.toNat, by omega⟩
  obtain ⟨b, rfl⟩ : ∃ b : Nat, H = (b : Int) := ⟨H.toNat, by omega⟩
  obtain ⟨n, hn⟩ : ∃ n : Nat, n = a * b := ⟨_, rfl⟩
  have e1 : (a : Int) * (b : Int) = (n : Int) := by rw [hn]; push_cast; rfl
  rw [e1] at m1 m2 hmx
  have hn4 : n ≤ 4194304 := by omega
  have q1 : IntKind.i64.wrap ((a : Int) * (b : Int)) = (n : Int) := by rw [e1]; exact m1
  have q2 : wrap64 ((a : Int) * (b : Int)) = (n : Int) := by rw [e1]; exact m2
  have HE := Lib.hid e1
  have HZ1 := Lib.hid hs1
  clear h hmx m1 m2 hn e1 hw1 hs1
  go_enter Try.func20, Try.ntmps20
  go_wp2_with fail
  refine (HS.out _).mono ?_
  rintro e w' ⟨rfl, rfl⟩
  go_wp2_with (at_make; refine wpList_make_full _ rfl _ _ 44 rfl w.heap.size 4 i0 (.bool false) 1 Try.underlying44 hi hz0 hz1 .i64 .i64 (n : Int) (n : Int) n rfl rfl rfl rfl ?c2 ?c3 ?c4 ?_)
  case c2 => rw [hz2]; omega
  case c3 => unfold maxLen; omega
  case c4 => simp
  intro w2 hown hgrow
  rw [← HW1.out] at hgrow
  have hb2 : Below w1.heap.size w1 w2 := (Below.refl _ _).grown hgrow (Nat.le_refl _) (fun k hk => by cases hk)
  have hblk := blk_of_own hown
  rw [Fm.made_one] at hblk
  have HX2 := HX1.out.go hb2
  have HO := Lib.hid (show Ow w (w.heap.size + 1) 4 (List.replicate n (.bool false)) w2 from ⟨HB1.out.trans (hb2.mono HB1.out.size), Nat.le_succ _, blk_lt hblk, by rw [hblk]⟩)
  obtain ⟨k0, k1, k2⟩ := HX2.cells
  have f := HX2.fz
  have f0 := f 0
  have f1 := f 1
  have f2 := f 2
  have hne : w.heap.size ≠ w.heap.size + 1 := by omega
  have HR := Lib.hid (HX2.put (.int .i64 (a : Int)) (.int .i64 (b : Int)) (.slice (some ⟨w.heap.size + 1, 0, none⟩) n n))
  have HO2 := Lib.hid (ow_far (i := 2) (ow_far (i := 1) (ow_far (i := 0) HO.out hne (Nat.le_refl _) (.int .i64 (a : Int))) hne (Nat.le_refl _) (.int .i64 (b : Int))) hne (Nat.le_refl _) (.slice (some ⟨w.heap.size + 1, 0, none⟩) n n))
  clear hown hgrow hb2 hblk HX2 f hne HO hz0 hz1 hz2 hi
  try rw [← HW1.out]
  go_wp2_with fail
  refine bodyPost_ret (res_two Try.underlying46 size_gb rfl _ _ w.heap.size _ _ _ rfl HR.out) rfl ?_
  exact .inl ⟨HC.out, HO2.out.1, _, by rw [HE.out]; rfl⟩
end Go.Proofs.Ytjecakkdongcoaa.Gr

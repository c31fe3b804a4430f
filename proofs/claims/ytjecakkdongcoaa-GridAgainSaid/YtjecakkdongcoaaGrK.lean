
/- Contracts of the laws of grids: of. -/
import Derived.Test.YtjecakkdongcoaaGrJ
namespace Go.Proofs.Ytjecakkdongcoaa.Gr
open Go.RowKit Go.Proofs.Ytjecakkdongcoaa.Oct
open Go.Proofs.Ytjecakkdongcoaa.Lp (VRow Only ints ints_length ints_append ints_one vrow_blk vrow_own blk_set blk_far blk_frozen)
open Go.Proofs.Ytjecakkdongcoaa.Fm (Ow)
set_option linter.unusedVariables false
set_option linter.unusedSimpArgs false
set_option maxRecDepth 100000

theorem ints_one1 {LL : List Int} {z : Int} : ints (LL ++ [z]) = ints LL ++ [.int .i64 z] := by rw [ints_append]; rfl
def lenV : Value → Nat
  | .slice _ n _ => n
  | _ => 0
set_option maxHeartbeats 4000000 in
theorem of_fill (W H : Int) (p : Option Addr) (n0 c : Nat) (zs0 : List Int) (w : World) (hr : VRow w w.heap.size p (ints zs0)) (hx : zs0.length = n0) (hnil : p = none → c = 0) (h47 : n0 * 8 ≤ 140737488355328) :
    Calls Try.prog 9 #[.agg #[.int .i64 W, .int .i64 H, .slice p n0 c, .bool true]] w (OfP w) := by
  obtain ⟨w3, hw3, HB3, HS3, hz3⟩ := of_start w W H p n0 c true
  have HZ := Lib.hid hz3
  have HW3 := Lib.hid hw3
  have hown := World.ownsRow_made (base := w3.heap.size) (e := 3) (size := 1) w3 #[] 0 (Nat.le_refl _) (by simp [maxLen]) rfl
  have hba : Below w3.heap.size w3 (w3.alloc (.cells #[] 3)) := (Below.refl _ w3).alloc (Nat.le_refl _) _
  have HS4 := Lib.hid (HS3.out.go hba)
  have HR4 := Lib.hid ((hr.below HS4.out.bel (Nat.le_refl _)).mono HS4.out.bel.size)
  have HXL0 : Hid ((ints zs0).length = n0) := Lib.hid (by rw [ints_length]; exact hx)
  have HX0 := Lib.hid hx
  have k1 := HS4.out.b1.cells
  rw [hz3] at hown
  rw [hw3] at hown
  rw [hw3] at k1
  have HOW := Lib.hid hown
  have HR4' := HR4
  rw [hw3] at HR4'
  obtain ⟨a0, a1, a2, a3⟩ := k1
  have hbl : w.heap.size + 1 + 1 + 1 ≤ (w3.alloc (.cells #[] 3)).heap.size := by simp; omega
  rw [hw3] at hbl
  clear hr hx hba hw3 hz3 hown
  go_enter Try.func9, Try.ntmps9
  go_wp2_with (at_builtin; (refine append_ints rfl (.tmp 6) (.tmp 8) rfl _ _ 0 [] rfl HOW.out p n0 c (ints zs0) rfl HR4'.out HXL0.out hnil ints_one (by omega) hbl ?_))
  intro v5 w5 hown5 hg5 hb5
  rw [← HW3.out] at hb5
  obtain ⟨q1, c1, hv5, hq1, hnc1, _, hrow5, hbl5⟩ := vrow_own hown5 HXL0.out
  subst hv5
  have HS5 := Lib.hid (HS4.out.app hb5 hown5)
  obtain ⟨a0, a1, a2, a3⟩ := HS5.out.b1.cells
  clear hown5 hg5 hb5 hq1 hnc1 hrow5 hbl5 HOW HR4' hbl HR4 HS4 HS3 HB3
  by_cases hok : 0 ≤ W ∧ 0 ≤ H ∧ W ≤ 60 ∧ H ≤ 60
  case neg =>
    have X2 := HS5.out.b2
    have X3 := HS5.out.b3
    have HZ2 := Lib.hid (bx_put3 (g := w.heap.size + 2) (X2.put (.int .i64 0) (.int .i64 0) (.slice none 0 0)) (by omega) (.int .i64 0) (.int .i64 0) (.slice none 0 0))
    have Y3 := bx_put3 (g := w.heap.size + 1) X3 (by omega) (.int .i64 0) (.int .i64 0) (.slice none 0 0)
    have HZ3 := Lib.hid (Y3.put (.int .i64 0) (.int .i64 0) (.slice none 0 0))
    have HBW := Lib.hid (below_put3 (g := w.heap.size + 2) (below_put3 (g := w.heap.size + 1) HS5.out.bel (Nat.le_succ _) (.int .i64 0) (.int .i64 0) (.slice none 0 0)) (Nat.le_add_right _ 2) (.int .i64 0) (.int .i64 0) (.slice none 0 0))
    obtain ⟨j0, j1, j2⟩ := X2.cells
    have f := X2.fz
    have f0 := f 0
    have f1 := f 1
    have f2 := f 2
    obtain ⟨l0, l1, l2⟩ := Y3.cells
    have g := Y3.fz
    have g0 := g 0
    have g1 := g 1
    have g2 := g 2
    unfold put3 at l0 l1 l2 g0 g1 g2
    have DONE : ∀ tm : Array Value, tm.getD 2 undef = .pointer (some ⟨w.heap.size + 1, 0, none⟩) → tm.getD 3 undef = .pointer (some ⟨w.heap.size + 2, 0, none⟩) → tm.getD 4 undef = .bool false →
        bodyPost Try.prog Try.f9 (OfP w) .ret { tmps := tm, defers := [] } (put3 (put3 w5 (w.heap.size + 1) (.int .i64 0) (.int .i64 0) (.slice none 0 0)) (w.heap.size + 2) (.int .i64 0) (.int .i64 0) (.slice none 0 0)) := fun tm h2 h3 h4 => by
      refine bodyPost_ret (res_three Try.underlying26 size_gi Try.underlying28 size_gr rfl _ _ (w.heap.size + 1) (w.heap.size + 2) _ _ _ _ _ _ h2 h3 HZ2.out HZ3.out) rfl ?_
      rw [h4]
      exact ⟨HBW.out, 0, 0, 0, [], none, none, 0, 0, false, rfl, rfl, fun h => absurd h (by simp [ints]), fun h => absurd h (by simp [ints]), Nat.le_refl _, Nat.le_refl _, fun _ => rfl, fun _ => rfl, fun h => by cases h⟩
    have DONE := Lib.hid DONE
    unfold put3 at DONE
    clear X2 X3 Y3 f g HZ2 HZ3 HBW HS5
    by_cases h1 : W < 0
    · have d1 : decide (W < 0) = true := by simpa using h1
      clear hok h1
      go_wp2_with fail
      exact DONE.out _ rfl rfl rfl
    have d1 : decide (W < 0) = false := by simpa using h1
    by_cases h2 : H < 0
    · have d2 : decide (H < 0) = true := by simpa using h2
      clear hok h1 h2
      go_wp2_with fail
      exact DONE.out _ rfl rfl rfl
    have d2 : decide (H < 0) = false := by simpa using h2
    by_cases h3 : 60 < W
    · have d3 : decide (60 < W) = true := by simpa using h3
      clear hok h1 h2 h3
      go_wp2_with fail
      exact DONE.out _ rfl rfl rfl
    have d3 : decide (60 < W) = false := by simpa using h3
    have d4 : decide (60 < H) = true := by simp; omega
    clear hok h1 h2 h3
    go_wp2_with fail
    exact DONE.out _ rfl rfl rfl
  obtain ⟨h1, h2, h3, h4⟩ := hok
  obtain ⟨a, rfl⟩ : ∃ a : Nat, W = (a : Int) := ⟨W.toNat, by omega⟩
  obtain ⟨b, rfl⟩ : ∃ b : Nat, H = (b : Int) := ⟨H.toNat, by omega⟩
  have d1 : decide ((a : Int) < 0) = false := by simp
  have d2 : decide ((b : Int) < 0) = false := by simp
  have d3 : decide (60 < (a : Int)) = false := by simp; omega
  have d4 : decide (60 < (b : Int)) = false := by simp; omega
  have hab : a * b ≤ 60 * 60 := Nat.mul_le_mul (by omega) (by omega)
  obtain ⟨n, hn⟩ : ∃ n : Nat, n = a * b := ⟨_, rfl⟩
  have e1 : (a : Int) * (b : Int) = (n : Int) := by rw [hn, Int.natCast_mul]
  rw [← hn] at hab
  have hn36 : n ≤ 3600 := hab
  have q9 : wrap64 ((a : Int) * (b : Int)) = (n : Int) := by rw [e1]; unfold wrap64; omega
  have HQ9 := Lib.hid (And.intro e1 q9)
  clear h1 h2 h3 h4 hab hn e1 q9
  go_wp2_with fail
  go_loopw [5] (fun l wr => ∃ (k : Nat) (q : Option Addr) (cc : Nat) (L : List Int), l = .slice q k cc ∧ Hid (L.length = k) ∧ Hid (OfS w (w.heap.size + 1 + 1 + 1) (.int .i64 (a : Int)) (.int .i64 (b : Int)) (.slice p n0 c) (.bool true) (.slice q k cc) k L wr)) (fun l _ => n - lenV l)
  case atStart => exact ⟨n0, q1, c1, zs0, rfl, HX0, HS5⟩
  case round =>
    clear HS5 a0 a1 a2 a3
    obtain ⟨k, q1, c1, LL, rfl, HLL, HS5⟩ := hrel
    obtain ⟨a0, a1, a2, a3⟩ := HS5.out.b1.cells
    obtain ⟨e1, q9⟩ := HQ9.out
    by_cases hlt : k < n
    · have ql : decide ((k : Int) < (n : Int)) = true := by simpa using hlt
      have hk36 : k ≤ 3600 := by omega
      have HOA : Hid (∀ u : Value, (wr.alloc (.cells #[u] 3)).ownsRow (w.heap.size + 1 + 1 + 1) 3 1 (.slice q1 k c1) k (ints LL)) := Lib.hid (fun u => own_below HS5.out.own ((Below.refl _ _).alloc (Nat.le_refl _) _))
      have HSZ : Hid (∀ u : Value, w.heap.size + 1 + 1 + 1 ≤ (wr.alloc (.cells #[u] 3)).heap.size) := Lib.hid (fun u => by have := HS5.out.ne.2; simp; omega)
      go_wp2_with (at_builtin; (refine append_ints rfl (.tmp 40) (.tmp 45) rfl _ _ k (ints LL) rfl (HOA.out _) (some ⟨wr.heap.size, 0, none⟩) 1 1 [_] rfl (row_new wr [_] _) rfl (fun h => by cases h) (fun u hu => by rw [List.mem_singleton] at hu; rw [hu]; rfl) (by omega) (HSZ.out _) ?_))
      intro v6 w6 hown6 hg6 hb6
      rw [← ints_one1] at hown6
      have hb7 : Below (w.heap.size + 1 + 1 + 1) wr w6 := ((((Below.refl wr.heap.size wr).alloc (Nat.le_refl _) _).mono HS5.out.ne.2)).trans hb6
      obtain ⟨q6, c6, hv6, -⟩ := vrow_own hown6 (by rw [ints_length, List.length_append, HLL.out]; rfl)
      subst hv6
      have HS6 := Lib.hid (HS5.out.app hb7 hown6)
      have HL6 : Hid (∀ z : Int, (LL ++ [z]).length = k + 1) := Lib.hid (fun z => by rw [List.length_append, HLL.out]; rfl)
      clear hown6 hg6 hb6 hb7 e1 q9
      go_wp2_with fail
      go_roundw
      case rel => exact ⟨k + 1, q6, c6, _, rfl, Lib.hid (HL6.out _), HS6⟩
      case measure => simp [lenV]; omega
    · have ql : decide ((k : Int) < (n : Int)) = false := by simpa using hlt
      have ql2 : decide (k < n) = false := by simpa using hlt
      obtain ⟨q2', c2', hv2, hq1, hnc1, _, hrow5, hbl5⟩ := vrow_own HS5.out.own (by rw [ints_length]; exact HLL.out)
      injection hv2 with hv3 hv4 hv5
      subst hv3 hv5
      have hnk : n ≤ k := by omega
      have hsl := fun W' => head_int W' q1 k c1 n (by omega) hq1
      obtain ⟨zs, hzs⟩ : ∃ zs, zs = LL.take n := ⟨_, rfl⟩
      have HX : Hid (zs.length = n) := Lib.hid (by rw [hzs, List.length_take, HLL.out]; omega)
      have HXL : Hid ((ints zs).length = n) := Lib.hid (by rw [ints_length]; exact HX.out)
      have HR5 : Hid (VRow wr wr.heap.size q1 (ints zs)) := Lib.hid (by rw [hzs]; exact head_v n hrow5)
      have HQ1 : Hid ((q1 = none → c1 = 0) ∧ n ≤ c1) := Lib.hid ⟨hq1, by omega⟩
      have HL1 := Lib.hid hbl5
      have h47n : n * 8 ≤ 140737488355328 := by omega
      clear hq1 hnc1 hrow5 hbl5 hnk hzs hlt
      go_wp2_with fail
      clear hsl
      have hdr := (show Drawn wr wr.drew from ⟨1, rfl⟩).below wr.heap.size
      have HS6 := Lib.hid (HS5.out.go hdr)
      have HR6 := Lib.hid ((HR5.out.below hdr (Nat.le_refl _)).mono hdr.size)
      have hba : Below wr.drew.heap.size wr.drew (wr.drew.alloc (.cells #[] 3)) := (Below.refl _ _).alloc (Nat.le_refl _) _
      have HS7 : Hid (OfS w (w.heap.size + 1 + 1 + 1) (.int .i64 (a : Int)) (.int .i64 (b : Int)) (.slice p n0 c) (.bool true) (.slice q1 k c1) k LL (wr.alloc (.cells #[] 3)).drew) := Lib.hid (HS6.out.go hba)
      have HR7 : Hid (VRow (wr.alloc (.cells #[] 3)).drew (wr.alloc (.cells #[] 3)).drew.heap.size q1 (ints zs)) := Lib.hid ((HR6.out.below hba (Nat.le_refl _)).mono hba.size)
      have HOW7 : Hid ((wr.alloc (.cells #[] 3)).drew.ownsRow wr.heap.size 3 1 (.slice (some ⟨wr.heap.size, 0, none⟩) 0 0) 0 []) := Lib.hid (World.ownsRow_made (base := wr.heap.size) (e := 3) (size := 1) wr #[] 0 (Nat.le_refl _) (by simp [maxLen]) rfl)
      have HSB7 : Hid (Below wr.heap.size wr (wr.alloc (.cells #[] 3)).drew) := Lib.hid (hdr.trans hba)
      have HSZ7 : Hid (wr.heap.size ≤ (wr.alloc (.cells #[] 3)).drew.heap.size) := Lib.hid hba.size
      clear hdr hba
      refine wp_region_held_drew (S := fun V => V.cell? ⟨w.heap.size, 0, none⟩ = some (.int .i64 (a : Int)) ∧ V.cell? ⟨w.heap.size, 1, none⟩ = some (.int .i64 (b : Int))) (by kernel_rfl) ⟨HS6.out.b1.cells.1, HS6.out.b1.cells.2.1⟩ (fun hHeld => ?_)
      refine jt 0 ?_
      refine jt 1 ?_
      refine jt 2 ?_
      refine jt 3 ?_
      refine jt 4 ?_
      refine jt 5 ?_
      refine jt 6 ?_
      refine jt 7 ?_
      refine jt 8 ?_
      refine jt 9 ?_
      refine jt 11 ?_
      refine jt 14 ?_
      refine jt 15 ?_
      refine jt 16 ?_
      refine js 10 (fun K hK => ?_)
      go_simp
      refine hK.out _ _ ⟨HS7.out.b1.cells.1, HS7.out.b1.cells.2.1⟩ (fun hH1 => ?_)
      clear hK K hHeld
      try simp only [Act.put, jA, jB, jC, jD, jE, jF]
      generalize (wr.alloc (.cells #[] 3)).drew = w7 at *
      refine js 12 (fun K hK => ?_)
      refine step_append_ints rfl (.tmp 64) (.tmp 65) rfl _ _ 0 [] rfl HOW7.out q1 n c1 (ints zs) rfl HR7.out HXL.out HQ1.out.1 ints_one (by omega) HSZ7.out ?_
      intro v8 w8 HO8 HB8
      have ho8 := HO8.out
      rw [List.nil_append, Nat.zero_add] at ho8
      obtain ⟨q2, c2, hv8, hq2, hnc2, _, hrow8, hbl8⟩ := vrow_own ho8 HXL.out
      subst hv8
      have hB8 : ∀ i, i < wr.heap.size → w8.heap[i]? = w7.heap[i]? := fun i hi => HB8.out.block i hi
      have hne5 := HS5.out.ne
      have hlt7 := HSZ7.out
      have X1 : Bx4 24 w8 w.heap.size (.int .i64 (a : Int)) (.int .i64 (b : Int)) (.slice p n0 c) (.bool true) := (hB8 _ (by omega)).trans HS7.out.b1
      have X2 : Bx 26 w8 (w.heap.size + 1) (.int .i64 0) (.int .i64 0) (.slice none 0 0) := (hB8 _ (by omega)).trans HS7.out.b2
      have X3 : Bx 28 w8 (w.heap.size + 2) (.int .i64 0) (.int .i64 0) (.slice none 0 0) := (hB8 _ (by omega)).trans HS7.out.b3
      have HX3 := Lib.hid X3
      have HBW8 := Lib.hid (HS7.out.bel.trans (HB8.out.mono (by omega)))
      have HR81 := Lib.hid ((HR5.out.below (B := wr.heap.size) (w' := w8) (Below.trans (HSB7.out) HB8.out) (Nat.le_refl _)))
      have HV8 := Lib.hid hrow8
      have HL2 : Hid (∀ a, q2 = some a → w.heap.size + 2 < a.block) := Lib.hid (fun a h => by have := hbl8 a h; omega)
      have HL3 : Hid (∀ a, q1 = some a → w.heap.size + 2 < a.block) := Lib.hid (fun a h => by have := HL1.out a h; omega)
      have HQ2 := Lib.hid (And.intro hq2 hnc2)
      have HSW : Hid (wr.heap.size ≤ w8.heap.size) := Lib.hid (Nat.le_trans hlt7 HB8.out.size)
      refine hK.out _ _ ⟨X1.cells.1, X1.cells.2.1⟩ (fun hH2 => ?_)
      clear hK K hH1 hB8 hne5 hlt7 hbl8 HO8 HB8 ho8
      try simp only [Act.put, jA, jB, jC, jD, jE, jF]
      refine jt 13 ?_
      refine js 17 (fun K hK => ?_)
      obtain ⟨j0, j1, j2⟩ := X2.cells
      have f := X2.fz
      have f0 := f 0
      have f1 := f 1
      have f2 := f 2
      have Y1 := bx4_put3 (g := w.heap.size + 1) X1 (Nat.ne_of_gt (Nat.lt_succ_self _)) (.int .i64 (a : Int)) (.int .i64 (b : Int)) (.slice q1 n c1)
      have Y2 := X2.put (.int .i64 (a : Int)) (.int .i64 (b : Int)) (.slice q1 n c1)
      have Y3 := bx_put3 (g := w.heap.size + 1) X3 (by omega) (.int .i64 (a : Int)) (.int .i64 (b : Int)) (.slice q1 n c1)
      go_simp
      refine hK.out _ _ ⟨Y1.cells.1, Y1.cells.2.1⟩ (fun hH3 => ?_)
      clear hK K hH2 f0 f1 f2 f j0 j1 j2
      try simp only [Act.put, jA, jB, jC, jD, jE, jF]
      refine js 18 (fun K hK => ?_)
      have HBW9 := Lib.hid (below_put3 (g := w.heap.size + 1) HBW8.out (Nat.le_succ _) (.int .i64 (a : Int)) (.int .i64 (b : Int)) (.slice q1 n c1))
      have HV9 := Lib.hid (vrow_put3 (g := w.heap.size + 1) HR81.out (fun a h => by have := HL3.out a h; omega) (.int .i64 (a : Int)) (.int .i64 (b : Int)) (.slice q1 n c1))
      have HV9b := Lib.hid (vrow_put3 (g := w.heap.size + 1) HV8.out (fun a h => by have := HL2.out a h; omega) (.int .i64 (a : Int)) (.int .i64 (b : Int)) (.slice q1 n c1))
      have Z1 := bx4_put3 (g := w.heap.size + 2) Y1 (by omega) (.int .i64 (a : Int)) (.int .i64 (b : Int)) (.slice q2 n c2)
      have HZ2 := Lib.hid (bx_put3 (g := w.heap.size + 2) Y2 (by omega) (.int .i64 (a : Int)) (.int .i64 (b : Int)) (.slice q2 n c2))
      have HZ3 := Lib.hid (Y3.put (.int .i64 (a : Int)) (.int .i64 (b : Int)) (.slice q2 n c2))
      have HBWA := Lib.hid (below_put3 (g := w.heap.size + 2) HBW9.out (Nat.le_add_right _ 2) (.int .i64 (a : Int)) (.int .i64 (b : Int)) (.slice q2 n c2))
      have HVA := Lib.hid (vrow_put3 (g := w.heap.size + 2) HV9.out (fun a h => by have := HL3.out a h; omega) (.int .i64 (a : Int)) (.int .i64 (b : Int)) (.slice q2 n c2))
      have HVB := Lib.hid (vrow_put3 (g := w.heap.size + 2) HV9b.out (fun a h => by have := HL2.out a h; omega) (.int .i64 (a : Int)) (.int .i64 (b : Int)) (.slice q2 n c2))
      have HSA := Lib.hid (show (put3 (put3 w8 (w.heap.size + 1) (.int .i64 (a : Int)) (.int .i64 (b : Int)) (.slice q1 n c1)) (w.heap.size + 2) (.int .i64 (a : Int)) (.int .i64 (b : Int)) (.slice q2 n c2)).heap.size = w8.heap.size from by rw [put3_size, put3_size])
      obtain ⟨j0, j1, j2⟩ := Y3.cells
      have f := Y3.fz
      have f0 := f 0
      have f1 := f 1
      have f2 := f 2
      unfold put3 at j0 j1 j2 f0 f1 f2
      clear f HV9 HV9b Y2 X3 HX3 X2 X1
      go_simp
      refine hK.out _ _ ⟨Z1.cells.1, Z1.cells.2.1⟩ (fun hH4 => ?_)
      clear hK K hH3 f0 f1 f2 j0 j1 j2 Z1 Y1 Y3
      try simp only [Act.put, jA, jB, jC, jD, jE, jF]
      refine jt 19 ?_
      refine wpAnyH_done (by kernel_rfl) ?_ _
      clear hH4
      go_wp2_with fail
      refine bodyPost_ret (res_three Try.underlying26 size_gi Try.underlying28 size_gr rfl _ _ (w.heap.size + 1) (w.heap.size + 2) _ _ _ _ _ _ rfl rfl HZ2.out HZ3.out) rfl ?_
      refine ⟨HBWA.out, (a : Int), (b : Int), n, zs, q1, q2, c1, c2, _, rfl, HX.out, ?_, ?_, HQ1.out.2, HQ2.out.2, HQ1.out.1, HQ2.out.1, fun h => ?_⟩
      · have := HVA.out.mono (D := (put3 (put3 w8 (w.heap.size + 1) (.int .i64 (a : Int)) (.int .i64 (b : Int)) (.slice q1 n c1)) (w.heap.size + 2) (.int .i64 (a : Int)) (.int .i64 (b : Int)) (.slice q2 n c2)).heap.size) (by rw [HSA.out]; exact HSW.out)
        exact this
      · have := HVB.out.mono (D := (put3 (put3 w8 (w.heap.size + 1) (.int .i64 (a : Int)) (.int .i64 (b : Int)) (.slice q1 n c1)) (w.heap.size + 2) (.int .i64 (a : Int)) (.int .i64 (b : Int)) (.slice q2 n c2)).heap.size) (by rw [HSA.out]; exact Nat.le_refl _)
        exact this
      · have := of_decide_eq_true h
        omega
end Go.Proofs.Ytjecakkdongcoaa.Gr

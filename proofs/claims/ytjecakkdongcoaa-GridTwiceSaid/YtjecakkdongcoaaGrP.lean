
/- The walk of GridMaps. -/
import Derived.Test.YtjecakkdongcoaaGrO
import Derived.Test.YtjecakkdongcoaaGrL
import Derived.Test.YtjecakkdongcoaaGrN
namespace Go.Proofs.Ytjecakkdongcoaa.Gr
open Go.RowKit Go.Proofs.Ytjecakkdongcoaa.Oct
open Go.Proofs.Ytjecakkdongcoaa.Lp (VRow Only ints ints_length ints_append ints_one vrow_blk vrow_own blk_set blk_far blk_frozen)
open Go.Proofs.Ytjecakkdongcoaa.Fm (Ow)
set_option linter.unusedVariables false
set_option linter.unusedSimpArgs false
set_option maxRecDepth 100000

theorem enterA (args : Array Value) (w : World) : (callFunc 30 args).run Try.prog w = .ok (.enter 30 args) w := by
  have h1 : ¬ Try.f30.name = "runtime.NumGoroutine" := of_decide_eq_false (by kernel_rfl)
  have h2 : ¬ Try.f30.body = none := fun e => by
    have : Try.f30.body.isSome = true := by kernel_rfl
    rw [e] at this
    cases this
  simp [callFunc, go_sem, Try.func30, h1, h2]
theorem enterT (args : Array Value) (w : World) : (callFunc 31 args).run Try.prog w = .ok (.enter 31 args) w := by
  have h1 : ¬ Try.f31.name = "runtime.NumGoroutine" := of_decide_eq_false (by kernel_rfl)
  have h2 : ¬ Try.f31.body = none := fun e => by
    have : Try.f31.body.isSome = true := by kernel_rfl
    rw [e] at this
    cases this
  simp [callFunc, go_sem, Try.func31, h1, h2]
theorem enterB (args : Array Value) (w : World) : (callFunc 33 args).run Try.prog w = .ok (.enter 33 args) w := by
  have h1 : ¬ Try.f33.name = "runtime.NumGoroutine" := of_decide_eq_false (by kernel_rfl)
  have h2 : ¬ Try.f33.body = none := fun e => by
    have : Try.f33.body.isSome = true := by kernel_rfl
    rw [e] at this
    cases this
  simp [callFunc, go_sem, Try.func33, h1, h2]
theorem funA (z a : Int) (pa : Nat) (w : World) (h : w.cell? ⟨pa, 0, none⟩ = some (.int .i64 a)) : Calls Try.prog 30 (#[.int .i64 z] ++ #[.pointer (some ⟨pa, 0, none⟩)]) w fun e w' => e = .returned (.int .i64 (wrap64 (z + a))) ∧ w = w' := by
  show Calls Try.prog 30 #[.int .i64 z, .pointer (some ⟨pa, 0, none⟩)] w _
  go_enter Try.func30, Try.ntmps30
  go_wp2_with fail
  go_ret
  exact ⟨rfl, rfl⟩
theorem funT (z b : Int) (pb : Nat) (w : World) (h : w.cell? ⟨pb, 0, none⟩ = some (.int .i64 b)) : Calls Try.prog 31 (#[.int .i64 z] ++ #[.pointer (some ⟨pb, 0, none⟩)]) w fun e w' => e = .returned (.int .i64 (wrap64 (z * b))) ∧ w = w' := by
  show Calls Try.prog 31 #[.int .i64 z, .pointer (some ⟨pb, 0, none⟩)] w _
  go_enter Try.func31, Try.ntmps31
  go_wp2_with fail
  go_ret
  exact ⟨rfl, rfl⟩
theorem funB (z a b : Int) (pa pb : Nat) (w : World) (h : w.cell? ⟨pa, 0, none⟩ = some (.int .i64 a)) (h2 : w.cell? ⟨pb, 0, none⟩ = some (.int .i64 b)) : Calls Try.prog 33 (#[.int .i64 z] ++ #[.pointer (some ⟨pa, 0, none⟩), .pointer (some ⟨pb, 0, none⟩)]) w fun e w' => e = .returned (.int .i64 (wrap64 (wrap64 (z + a) * b))) ∧ w = w' := by
  show Calls Try.prog 33 #[.int .i64 z, .pointer (some ⟨pa, 0, none⟩), .pointer (some ⟨pb, 0, none⟩)] w _
  go_enter Try.func33, Try.ntmps33
  go_wp2_with fail
  go_ret
  exact ⟨rfl, rfl⟩
theorem equal_yes (p1 : Option Addr) (c1 : Nat) (p2 : Option Addr) (c2 n : Nat) (xa : List Int) (w : World) (C D : Nat) (h1 : VRow w C p1 (ints xa)) (h2 : VRow w D p2 (ints xa)) (hn : xa.length = n) (hl : n ≤ 10000000) :
    Calls Try.prog 34 #[.slice p1 n c1, .slice p2 n c2] w fun e w' => e = .returned (.bool true) ∧ Drawn w w' := by
  have HN := Lib.hid hn
  have H1 := Lib.hid h1
  have H2 := Lib.hid h2
  clear h1 h2 hn
  go_enter Try.func34, Try.ntmps34
  go_wp2_with fail
  go_loopw [5, 13] (fun _ i wr => ∃ k : Nat, k ≤ n ∧ i = .int .i64 (k : Int) ∧ Hid (Drawn w wr)) (fun _ i _ => n - (intOf i).toNat)
  case atStart => exact ⟨0, by omega, rfl, Lib.hid ⟨0, rfl⟩⟩
  case round =>
    obtain ⟨k, hk, rfl, HD⟩ := hrel
    by_cases hlt : k < n
    · have hka : k < xa.length := by rw [HN.out]; exact hlt
      obtain ⟨b1, o1, hq1, _, hc1⟩ := vrow_int' H1.out k hka
      obtain ⟨b2, o2, hq2, _, hc2⟩ := vrow_int' H2.out k hka
      subst hq1
      subst hq2
      have hd := HD.out
      obtain ⟨j, hj⟩ := hd
      have hcr1 : wr.cell? ⟨b1, o1 + k, none⟩ = some (.int .i64 xa[k]) := by rw [hj]; exact hc1
      have hcr2 : wr.cell? ⟨b2, o2 + k, none⟩ = some (.int .i64 xa[k]) := by rw [hj]; exact hc2
      generalize xa[k] = z at hcr1 hcr2
      have ql : decide ((k : Int) < (n : Int)) = true := by simpa using hlt
      have i1 : (0 : Int) ≤ (k : Int) := by omega
      have i2 : (k : Int) < (n : Int) := by omega
      have qn : (z != z) = false := by simp
      clear hj hc1 hc2 hka
      go_wp2_with fail
      go_quiet (fail)
      go_wp2_with fail
      go_roundw
      case rel => exact ⟨k + 1, by omega, by go_num, Lib.hid (HD.out.more _)⟩
      case measure => simp [intOf]; omega
    · obtain rfl : k = n := by omega
      have ql : decide ((k : Int) < (k : Int)) = false := by simp
      clear H1 H2 HN hlt hk
      go_wp2_with fail
      go_ret
      exact ⟨rfl, HD.out⟩
theorem own_put3 {w : World} {G g : Nat} {x : Option Obj} (h : w.heap[G]? = x) (hne : g ≠ G) (a b c : Value) : (put3 w g a b c).heap[G]? = x := blk_far (blk_far (blk_far h hne 0 a) hne 1 b) hne 2 c
theorem spot9 (c l : Int) (h1 : 1 ≤ c) (h2 : c ≤ 2) : ∃ k : Nat, wrap64 (c + wrap64 ((IntKind.u64.wrap l).tmod 9)) = (k : Int) ∧ 1 ≤ k ∧ k ≤ 10 := by
  have h3 : 0 ≤ IntKind.u64.wrap l := by rw [IntKind.wrap_u64]; omega
  rw [Int.tmod_eq_emod_of_nonneg h3]
  generalize IntKind.u64.wrap l = u at *
  have h4 : wrap64 (u % 9) = u % 9 := by unfold wrap64; omega
  rw [h4]
  have h5 : wrap64 (c + u % 9) = c + u % 9 := by unfold wrap64; omega
  rw [h5]
  exact ⟨(c + u % 9).toNat, by omega, by omega, by omega⟩
set_option maxHeartbeats 8000000 in
theorem maps_walk (l0 l1 a b : Int) (w : World) : Calls Try.prog 7 #[.agg #[.int .i64 l0, .int .i64 l1, .int .i64 a, .int .i64 b]] w (BolP w true) := by
  obtain ⟨w1, hw1, HB1, HX1, hz1⟩ := box4 64 w (.int .i64 l0) (.int .i64 l1) (.int .i64 a) (.int .i64 b)
  have HW1 := Lib.hid hw1
  have HD1 := Lib.hid ((show Drawn w1 w1.drew from ⟨1, rfl⟩).below w1.heap.size)
  have HX2 := Lib.hid (HX1.out.go HD1.out)
  have HZ1 := Lib.hid hz1
  clear hw1 hz1
  go_enter Try.func7, Try.ntmps7
  go_wp2_with fail
  rw [← HW1.out]
  refine wp_region_held_drew (S := fun V => V.cell? ⟨w.heap.size, 0, none⟩ = some (.int .i64 l0) ∧ V.cell? ⟨w.heap.size, 1, none⟩ = some (.int .i64 l1) ∧ V.cell? ⟨w.heap.size, 2, none⟩ = some (.int .i64 a) ∧ V.cell? ⟨w.heap.size, 3, none⟩ = some (.int .i64 b)) (by kernel_rfl) HX2.out.cells (fun hHeld => ?_)
  refine jt 0 ?_
  refine jt 1 ?_
  refine jt 2 ?_
  refine jt 3 ?_
  refine jt 4 ?_
  refine jt 5 ?_
  refine jt 6 ?_
  refine jt 7 ?_
  refine jz 8 9 (fun K hK => ?_) (fun K hK => ?_)
  · go_simp
    have hS1 := HX2.out.go ((Below.refl w1.drew.heap.size w1.drew).alloc (Nat.le_refl _) (.cells #[.int .i64 0] 3))
    refine hK.out _ _ hS1.cells (fun hH1 => ?_)
    clear hK K
    try simp only [Act.put, jA, jB, jC, jD, jE, jF]
    refine js 9 (fun K hK => ?_)
    go_simp
    have hS2 := hS1.go ((Below.refl _ _).alloc (Nat.le_refl _) (.cells #[.int .i64 0] 3))
    refine hK.out _ _ hS2.cells (fun hH2 => ?_)
    clear hK K
    try simp only [Act.put, jA, jB, jC, jD, jE, jF]
    refine jt 10 ?_
    refine jt 11 ?_
    refine js 12 (fun K hK => ?_)
    go_simp
    have hS3 : Bx4 64 (((w1.alloc (.cells #[.int .i64 a] 3)).alloc (.cells #[.int .i64 0] 3)).drew) w.heap.size (.int .i64 l0) (.int .i64 l1) (.int .i64 a) (.int .i64 b) := (HX2.out.go ((Below.refl w1.drew.heap.size w1.drew).alloc (Nat.le_refl _) (.cells #[.int .i64 a] 3))).go ((Below.refl _ _).alloc (Nat.le_refl _) (.cells #[.int .i64 0] 3))
    refine hK.out _ _ hS3.cells (fun hH3 => ?_)
    clear hK K
    try simp only [Act.put, jA, jB, jC, jD, jE, jF]
    refine js 13 (fun K hK => ?_)
    go_simp
    have hS4 : Bx4 64 (((w1.alloc (.cells #[.int .i64 a] 3)).alloc (.cells #[.int .i64 b] 3)).drew) w.heap.size (.int .i64 l0) (.int .i64 l1) (.int .i64 a) (.int .i64 b) := (HX2.out.go ((Below.refl w1.drew.heap.size w1.drew).alloc (Nat.le_refl _) (.cells #[.int .i64 a] 3))).go ((Below.refl _ _).alloc (Nat.le_refl _) (.cells #[.int .i64 b] 3))
    refine hK.out _ _ hS4.cells (fun hH4 => ?_)
    clear hK K
    try simp only [Act.put, jA, jB, jC, jD, jE, jF]
    refine wpAnyH_done (by kernel_rfl) ?_ _
    have HBF : Hid (Below w.heap.size w (((w1.alloc (.cells #[.int .i64 a] 3)).alloc (.cells #[.int .i64 b] 3)).drew)) := Lib.hid (HB1.out.trans ((HD1.out.trans (((Below.refl w1.drew.heap.size w1.drew).alloc (Nat.le_refl _) (.cells #[.int .i64 a] 3)).alloc (by simp) (.cells #[.int .i64 b] 3))).mono HB1.out.size))
    have HPA : Hid ((((w1.alloc (.cells #[.int .i64 a] 3)).alloc (.cells #[.int .i64 b] 3)).drew).cell? ⟨w1.heap.size, 0, none⟩ = some (.int .i64 a) ∧ w1.heap.size < (((w1.alloc (.cells #[.int .i64 a] 3)).alloc (.cells #[.int .i64 b] 3)).drew).heap.size) := Lib.hid ⟨blk_cell (vs := [.int .i64 a]) (push2 w1.heap _ _).1 (by simp), by simp; omega⟩
    have HPB : Hid ((((w1.alloc (.cells #[.int .i64 a] 3)).alloc (.cells #[.int .i64 b] 3)).drew).cell? ⟨w1.heap.size + 1, 0, none⟩ = some (.int .i64 b) ∧ w1.heap.size + 1 < (((w1.alloc (.cells #[.int .i64 a] 3)).alloc (.cells #[.int .i64 b] 3)).drew).heap.size) := Lib.hid ⟨blk_cell (vs := [.int .i64 b]) (push2 w1.heap _ _).2 (by simp), by simp⟩
    generalize (((w1.alloc (.cells #[.int .i64 a] 3)).alloc (.cells #[.int .i64 b] 3)).drew) = wf at HBF HPA HPB
    clear hH1 hH2 hH3 hH4 hHeld hS1 hS2 hS3 hS4 HX2 HX1 HD1
    go_wp2_with fail
    refine (lives_any _).mono ?_
    rintro e w3 ⟨rfl, hb3⟩
    have HB3 := Lib.hid (HBF.out.trans (hb3.mono HBF.out.size))
    have HPA3 : Hid (w3.cell? ⟨w1.heap.size, 0, none⟩ = some (.int .i64 a) ∧ w1.heap.size < w3.heap.size) := Lib.hid ⟨(hb3.cell (p := ⟨w1.heap.size, 0, none⟩) HPA.out.2).trans HPA.out.1, Nat.lt_of_lt_of_le HPA.out.2 hb3.size⟩
    have HPB3 : Hid (w3.cell? ⟨w1.heap.size + 1, 0, none⟩ = some (.int .i64 b) ∧ w1.heap.size + 1 < w3.heap.size) := Lib.hid ⟨(hb3.cell (p := ⟨w1.heap.size + 1, 0, none⟩) HPB.out.2).trans HPB.out.1, Nat.lt_of_lt_of_le HPB.out.2 hb3.size⟩
    clear hb3 HPA HPB HBF
    go_wp2_with fail
    obtain ⟨W, eW, hW1, hW2⟩ := spot9 1 l0 (by omega) (by omega)
    rw [eW]
    clear eW
    obtain ⟨H, eH, hH1, hH2⟩ := spot9 1 l1 (by omega) (by omega)
    rw [eH]
    clear eH
    have hnn : W * H ≤ 10 * 10 := Nat.mul_le_mul (by omega) (by omega)
    have hn0 : 0 < W * H := Nat.mul_pos (by omega) (by omega)
    refine (sq_any W H w3 (by omega) (by omega) (by omega) (by omega)).mono ?_
    rintro e w4 ⟨G, rfl, ho⟩
    obtain ⟨n, hn⟩ : ∃ n, n = W * H := ⟨_, rfl⟩
    have HHAS : Hid (hasI (W : Int) (H : Int) n 0 0 = true) := Lib.hid (by
      unfold hasI rightI Gd.canG
      rw [hn, show (W : Int) * (H : Int) = ((W * H : Nat) : Int) from by push_cast; rfl]
      rw [decide_eq_true ⟨by omega, by omega, by omega, by omega, by omega⟩, decide_eq_true rfl, decide_eq_true ⟨by omega, by omega, by omega, by omega⟩]
      rfl)
    have HLN : Hid ((sqN W H n).length = n) := Lib.hid (by rw [sqN_length, hn])
    have HZ0 : Hid ((sqN W H n).getD 0 0 = 0) := Lib.hid (by
      rw [List.getD_eq_getElem?_getD, List.getElem?_eq_getElem (by rw [HLN.out]; omega)]
      simp [sqN])
    rw [← hn] at ho hnn hn0 ⊢
    generalize sqN W H n = zs at *
    obtain ⟨w5, hw5, HB5, HX5, hz5⟩ := box1 26 w4 (.int .i64 (W : Int)) (.int .i64 (H : Int)) (.slice (some ⟨G, 0, none⟩) n n)
    have hb35 := ho.1.trans (HB5.out.mono ho.1.size)
    have HO5 := Lib.hid (ho.go HB5.out).row
    have HB35 := Lib.hid (HB3.out.trans (hb35.mono HB3.out.size))
    have HPA5 : Hid (w5.cell? ⟨w1.heap.size, 0, none⟩ = some (.int .i64 a) ∧ w1.heap.size < w5.heap.size) := Lib.hid ⟨(hb35.cell (p := ⟨w1.heap.size, 0, none⟩) HPA3.out.2).trans HPA3.out.1, Nat.lt_of_lt_of_le HPA3.out.2 hb35.size⟩
    have HPB5 : Hid (w5.cell? ⟨w1.heap.size + 1, 0, none⟩ = some (.int .i64 b) ∧ w1.heap.size + 1 < w5.heap.size) := Lib.hid ⟨(hb35.cell (p := ⟨w1.heap.size + 1, 0, none⟩) HPB3.out.2).trans HPB3.out.1, Nat.lt_of_lt_of_le HPB3.out.2 hb35.size⟩
    have HW5 := Lib.hid hw5
    have hmf : ∀ (fn : Fn) (first cap : Array Value) (w : World), (Instr.makeFunc fn first cap).run Try.prog w = .ok (.func fn first cap) w := fun _ _ _ _ => rfl
    have HM1 := Lib.hid (mapI_any 30 enterA #[.pointer (some ⟨w1.heap.size, 0, none⟩)] (fun z => wrap64 (z + a)) (W : Int) (H : Int) (some ⟨G, 0, none⟩) n n zs w5 (fun z w' hb => funA z a (w1.heap.size) w' ((hb.cell (p := ⟨w1.heap.size, 0, none⟩) HPA5.out.2).trans HPA5.out.1)) HO5.out HLN.out (by omega))
    clear ho hb35 hw5 hz5 hW1 hW2 hH1 hH2 HPA3 HPB3 hn
    go_wp2_with fail
    rw [← HW5.out]
    refine HM1.out.mono ?_
    rintro e w6 ⟨G1, rfl, ho1⟩
    have HPB6 : Hid (w6.cell? ⟨w1.heap.size + 1, 0, none⟩ = some (.int .i64 b) ∧ w1.heap.size + 1 < w6.heap.size) := Lib.hid ⟨(ho1.1.cell (p := ⟨w1.heap.size + 1, 0, none⟩) HPB5.out.2).trans HPB5.out.1, Nat.lt_of_lt_of_le HPB5.out.2 ho1.1.size⟩
    have HM2 := Lib.hid (mapI_any 31 enterT #[.pointer (some ⟨w1.heap.size + 1, 0, none⟩)] (fun z => wrap64 (z * b)) (W : Int) (H : Int) (some ⟨G1, 0, none⟩) n n (zs.map fun z => wrap64 (z + a)) w6 (fun z w' hb => funT z b (w1.heap.size + 1) w' ((hb.cell (p := ⟨w1.heap.size + 1, 0, none⟩) HPB6.out.2).trans HPB6.out.1)) ho1.row (by rw [List.length_map]; exact HLN.out) (by omega))
    have HO1 := Lib.hid ho1.1
    clear ho1 HM1
    go_wp2_with fail
    refine HM2.out.mono ?_
    rintro e w7 ⟨G2, rfl, ho2⟩
    rw [List.map_map] at ho2
    obtain ⟨w8, hw8, HB8, HX8, hz8⟩ := box1 26 w7 (.int .i64 (W : Int)) (.int .i64 (H : Int)) (.slice (some ⟨G2, 0, none⟩) n n)
    have hb58 := HO1.out.trans ((ho2.1.trans (HB8.out.mono ho2.1.size)).mono HO1.out.size)
    have HV8 := Lib.hid (ho2.go HB8.out).row
    have HX58 := Lib.hid (HX5.out.go hb58)
    have kk := HX58.out.cells
    rw [hw8] at kk
    obtain ⟨k0, k1, k2⟩ := kk
    have HR8 := Lib.hid ((HO5.out.below hb58 (Nat.le_refl _)).mono hb58.size)
    have HPA8 : Hid (w8.cell? ⟨w1.heap.size, 0, none⟩ = some (.int .i64 a) ∧ w1.heap.size < w8.heap.size) := Lib.hid ⟨(hb58.cell (p := ⟨w1.heap.size, 0, none⟩) HPA5.out.2).trans HPA5.out.1, Nat.lt_of_lt_of_le HPA5.out.2 hb58.size⟩
    have HPB8 : Hid (w8.cell? ⟨w1.heap.size + 1, 0, none⟩ = some (.int .i64 b) ∧ w1.heap.size + 1 < w8.heap.size) := Lib.hid ⟨(hb58.cell (p := ⟨w1.heap.size + 1, 0, none⟩) HPB5.out.2).trans HPB5.out.1, Nat.lt_of_lt_of_le HPB5.out.2 hb58.size⟩
    have HM3 := Lib.hid (mapI_any 33 enterB #[.pointer (some ⟨w1.heap.size, 0, none⟩), .pointer (some ⟨w1.heap.size + 1, 0, none⟩)] (fun z => wrap64 (wrap64 (z + a) * b)) (W : Int) (H : Int) (some ⟨G, 0, none⟩) n n zs w8 (fun z w' hb => funB z a b (w1.heap.size) (w1.heap.size + 1) w' ((hb.cell (p := ⟨w1.heap.size, 0, none⟩) HPA8.out.2).trans HPA8.out.1) ((hb.cell (p := ⟨w1.heap.size + 1, 0, none⟩) HPB8.out.2).trans HPB8.out.1)) HR8.out HLN.out (by omega))
    have HW8 := Lib.hid hw8
    have HB38 := Lib.hid (HB35.out.trans (hb58.mono HB35.out.size))
    clear ho2 hb58 hw8 hz8 HM2 HO1 HPB6 HPA5 HPB5
    go_wp2_with fail
    rw [← HW8.out]
    refine HM3.out.mono ?_
    rintro e w9 ⟨G3, rfl, ho3⟩
    obtain ⟨wA, hwA, HBA, HXA, hzA⟩ := box1 26 w9 (.int .i64 (W : Int)) (.int .i64 (H : Int)) (.slice (some ⟨G3, 0, none⟩) n n)
    have hb8A := ho3.1.trans (HBA.out.mono ho3.1.size)
    have HX5A := Lib.hid (HX58.out.go hb8A)
    have HX8A := Lib.hid (HX8.out.go hb8A)
    have kk := HX5A.out.cells
    have ll := HX8A.out.cells
    rw [hwA] at kk ll
    obtain ⟨k0, k1, k2⟩ := kk
    obtain ⟨m0, m1, m2⟩ := ll
    have HVA := Lib.hid ((HV8.out.below hb8A (Nat.le_refl _)).mono hb8A.size)
    have HRA := Lib.hid ((HR8.out.below hb8A (Nat.le_refl _)).mono hb8A.size)
    have HEQ := Lib.hid (equal_yes (some ⟨G2, 0, none⟩) n (some ⟨G3, 0, none⟩) n n (zs.map fun z => wrap64 (wrap64 (z + a) * b)) wA _ _ HVA.out (ho3.go HBA.out).row (by rw [List.length_map]; exact HLN.out) (by omega))
    have HWA := Lib.hid hwA
    have HB3A := Lib.hid (HB38.out.trans (hb8A.mono HB38.out.size))
    have q1 : ((W : Int) != (W : Int)) = false := by simp
    have q2 : ((H : Int) != (H : Int)) = false := by simp
    clear ho3 hb8A hwA hzA HM3 HV8 HR8 HX58 HX8 HB8 HBA HX8A HPA8 HPB8
    go_wp2_with fail
    rw [← HWA.out]
    refine HEQ.out.mono ?_
    rintro e wB ⟨rfl, hdB⟩
    have hbB := hdB.below wA.heap.size
    have HX5B := Lib.hid (HX5A.out.go hbB)
    have HRB := Lib.hid ((HRA.out.below hbB (Nat.le_refl _)).mono hbB.size)
    have HB3B := Lib.hid (HB3A.out.trans (hbB.mono HB3A.out.size))
    have HCL := Lib.hid (clone_any (W : Int) (H : Int) (some ⟨G, 0, none⟩) n n zs wB HRB.out HLN.out (by omega))
    obtain ⟨k0, k1, k2⟩ := HX5B.out.cells
    clear hdB hbB HEQ m0 m1 m2
    go_wp2_with fail
    refine HCL.out.mono ?_
    rintro e wC ⟨G4, rfl, ho4⟩
    obtain ⟨wD, hwD, HBD, HXD, hzD⟩ := box1 26 wC (.int .i64 (W : Int)) (.int .i64 (H : Int)) (.slice (some ⟨G4, 0, none⟩) n n)
    have hbBD := ho4.1.trans (HBD.out.mono ho4.1.size)
    have HX5D := Lib.hid (HX5B.out.go hbBD)
    have HRD := Lib.hid ((HRB.out.below hbBD (Nat.le_refl _)).mono hbBD.size)
    have HX5C : Hid (w4.heap.size < wC.heap.size) := Lib.hid (Nat.lt_of_lt_of_le HX5B.out.lt ho4.1.size)
    have HRC : Hid (VRow wD wC.heap.size (some ⟨G, 0, none⟩) (ints zs)) := Lib.hid (((HRB.out.below ho4.1 (Nat.le_refl _)).mono ho4.1.size).below HBD.out (Nat.le_refl _))
    have HB3C := Lib.hid (HB3B.out.trans (ho4.1.mono HB3B.out.size))
    have hset := set_any (W : Int) (H : Int) (some ⟨G4, 0, none⟩) n n zs 0 0 7 wD (ho4.go HBD.out).row HLN.out (by omega)
    rw [HHAS.out, if_pos rfl, if_pos rfl, show (0 : Int).toNat * (W : Int).toNat + (0 : Int).toNat = 0 from by simp] at hset
    have HSET := Lib.hid hset
    have HWD := Lib.hid hwD
    have HB3D := Lib.hid (HB3B.out.trans (hbBD.mono HB3B.out.size))
    clear ho4 hbBD hwD hset HCL hzD
    go_wp2_with fail
    rw [← HWD.out]
    refine HSET.out.mono ?_
    rintro e wE ⟨G5, rfl, ho5⟩
    have hXE := HXD.out.go ho5.1
    have hltE := HXD.out.lt
    have hneE : wC.heap.size ≠ G5 := by have := ho5.2.1; omega
    have f := hXE.fz
    have f0 := f 0
    have f1 := f 1
    have f2 := f 2
    obtain ⟨m0, m1, m2⟩ := hXE.cells
    have hXF := hXE.put (.int .i64 (W : Int)) (.int .i64 (H : Int)) (.slice (some ⟨G5, 0, none⟩) n n)
    have hWF : ∃ wF, wF = (((wE.setCell ⟨wC.heap.size, 0, none⟩ (.int .i64 (W : Int))).setCell ⟨wC.heap.size, 1, none⟩ (.int .i64 (H : Int))).setCell ⟨wC.heap.size, 2, none⟩ (.slice (some ⟨G5, 0, none⟩) n n)) := ⟨_, rfl⟩
    obtain ⟨wF, hwF⟩ := hWF
    have HGF : Hid (wF.heap[G5]? = some (.cells (ints (zs.set 0 7)).toArray 3 (0, 0))) := Lib.hid (by rw [hwF]; exact own_put3 ho5.2.2.2 hneE (.int .i64 (W : Int)) (.int .i64 (H : Int)) (.slice (some ⟨G5, 0, none⟩) n n))
    have hbDF : Below wC.heap.size wE wF := by rw [hwF]; exact below_put3 (g := wC.heap.size) (Below.refl wC.heap.size wE) (Nat.le_refl _) (.int .i64 (W : Int)) (.int .i64 (H : Int)) (.slice (some ⟨G5, 0, none⟩) n n)
    have hbCE : Below wC.heap.size wD wE := ho5.1.mono HBD.out.size
    have hX5w : w4.heap.size < wC.heap.size := HX5C.out
    have HX5F : Hid (Bx 26 wF w4.heap.size (.int .i64 (W : Int)) (.int .i64 (H : Int)) (.slice (some ⟨G, 0, none⟩) n n)) := Lib.hid (((hbCE.trans hbDF).block _ hX5w).trans HX5D.out)
    have HRF : Hid (VRow wF wF.heap.size (some ⟨G, 0, none⟩) (ints zs)) := Lib.hid ((HRC.out.below (hbCE.trans hbDF) (Nat.le_refl _)).mono (Nat.le_trans HBD.out.size (hbCE.trans hbDF).size))
    have HB3F := Lib.hid (HB3D.out.trans ((hbCE.trans hbDF).mono HB3C.out.size))
    have HAT0 := at_any (W : Int) (H : Int) (some ⟨G, 0, none⟩) n n zs 0 0 wF HRF.out HLN.out (Nat.le_refl _)
    rw [HHAS.out, if_pos rfl, show (0 : Int).toNat * (W : Int).toNat + (0 : Int).toNat = 0 from by simp, HZ0.out] at HAT0
    have HAT := Lib.hid HAT0
    have kk := HX5F.out.cells
    rw [← hwF] at hXF
    have HXF := Lib.hid hXF
    have HWF := Lib.hid hwF
    rw [hwF] at kk
    obtain ⟨k0, k1, k2⟩ := kk
    have hzl : 0 < (ints (zs.set 0 7)).length := by rw [ints_length, List.length_set, HLN.out]; exact hn0
    have i1 : (0 : Int) < (n : Int) := by omega
    have HZL := Lib.hid hzl
    clear ho5 hXE hltE hneE f hXF hwF hbDF hbCE hX5w HAT0 hzl HSET HX5D HRD HXD HBD
    go_wp2_with fail
    rw [← HWF.out]
    refine HAT.out.mono ?_
    rintro e wG ⟨hbG, rfl⟩
    obtain ⟨m0, m1, m2⟩ := (HXF.out.go hbG).cells
    have hgg := (hbG.block _ (blk_lt HGF.out)).trans HGF.out
    have hcg := blk_cell hgg HZL.out
    rw [ints_at] at hcg
    have h7 : (zs.set 0 7).getD 0 0 = 7 := by
      have h8 : 0 < (zs.set 0 7).length := by rw [List.length_set, HLN.out]; exact hn0
      rw [List.getD_eq_getElem?_getD, List.getElem?_eq_getElem h8]
      simp
    rw [h7] at hcg
    have HBG := Lib.hid (HB3F.out.trans (hbG.mono HB3F.out.size))
    clear hbG hgg h7 k0 k1 k2
    go_wp2_with fail
    go_ret
    exact ⟨rfl, HBG.out⟩
  · go_simp
    have hS1 := HX2.out.go ((Below.refl w1.drew.heap.size w1.drew).alloc (Nat.le_refl _) (.cells #[.int .i64 0] 3))
    refine hK.out _ _ hS1.cells (fun hH1 => ?_)
    clear hK K
    try simp only [Act.put, jA, jB, jC, jD, jE, jF]
    refine js 8 (fun K hK => ?_)
    go_simp
    have hS2 := hS1.go ((Below.refl _ _).alloc (Nat.le_refl _) (.cells #[.int .i64 0] 3))
    refine hK.out _ _ hS2.cells (fun hH2 => ?_)
    clear hK K
    try simp only [Act.put, jA, jB, jC, jD, jE, jF]
    refine jt 10 ?_
    refine jt 11 ?_
    refine js 12 (fun K hK => ?_)
    go_simp
    have hS3 : Bx4 64 (((w1.alloc (.cells #[.int .i64 0] 3)).alloc (.cells #[.int .i64 a] 3)).drew) w.heap.size (.int .i64 l0) (.int .i64 l1) (.int .i64 a) (.int .i64 b) := (HX2.out.go ((Below.refl w1.drew.heap.size w1.drew).alloc (Nat.le_refl _) (.cells #[.int .i64 0] 3))).go ((Below.refl _ _).alloc (Nat.le_refl _) (.cells #[.int .i64 a] 3))
    refine hK.out _ _ hS3.cells (fun hH3 => ?_)
    clear hK K
    try simp only [Act.put, jA, jB, jC, jD, jE, jF]
    refine js 13 (fun K hK => ?_)
    go_simp
    have hS4 : Bx4 64 (((w1.alloc (.cells #[.int .i64 b] 3)).alloc (.cells #[.int .i64 a] 3)).drew) w.heap.size (.int .i64 l0) (.int .i64 l1) (.int .i64 a) (.int .i64 b) := (HX2.out.go ((Below.refl w1.drew.heap.size w1.drew).alloc (Nat.le_refl _) (.cells #[.int .i64 b] 3))).go ((Below.refl _ _).alloc (Nat.le_refl _) (.cells #[.int .i64 a] 3))
    refine hK.out _ _ hS4.cells (fun hH4 => ?_)
    clear hK K
    try simp only [Act.put, jA, jB, jC, jD, jE, jF]
    refine wpAnyH_done (by kernel_rfl) ?_ _
    have HBF : Hid (Below w.heap.size w (((w1.alloc (.cells #[.int .i64 b] 3)).alloc (.cells #[.int .i64 a] 3)).drew)) := Lib.hid (HB1.out.trans ((HD1.out.trans (((Below.refl w1.drew.heap.size w1.drew).alloc (Nat.le_refl _) (.cells #[.int .i64 b] 3)).alloc (by simp) (.cells #[.int .i64 a] 3))).mono HB1.out.size))
    have HPA : Hid ((((w1.alloc (.cells #[.int .i64 b] 3)).alloc (.cells #[.int .i64 a] 3)).drew).cell? ⟨w1.heap.size + 1, 0, none⟩ = some (.int .i64 a) ∧ w1.heap.size + 1 < (((w1.alloc (.cells #[.int .i64 b] 3)).alloc (.cells #[.int .i64 a] 3)).drew).heap.size) := Lib.hid ⟨blk_cell (vs := [.int .i64 a]) (push2 w1.heap _ _).2 (by simp), by simp⟩
    have HPB : Hid ((((w1.alloc (.cells #[.int .i64 b] 3)).alloc (.cells #[.int .i64 a] 3)).drew).cell? ⟨w1.heap.size, 0, none⟩ = some (.int .i64 b) ∧ w1.heap.size < (((w1.alloc (.cells #[.int .i64 b] 3)).alloc (.cells #[.int .i64 a] 3)).drew).heap.size) := Lib.hid ⟨blk_cell (vs := [.int .i64 b]) (push2 w1.heap _ _).1 (by simp), by simp; omega⟩
    generalize (((w1.alloc (.cells #[.int .i64 b] 3)).alloc (.cells #[.int .i64 a] 3)).drew) = wf at HBF HPA HPB
    clear hH1 hH2 hH3 hH4 hHeld hS1 hS2 hS3 hS4 HX2 HX1 HD1
    go_wp2_with fail
    refine (lives_any _).mono ?_
    rintro e w3 ⟨rfl, hb3⟩
    have HB3 := Lib.hid (HBF.out.trans (hb3.mono HBF.out.size))
    have HPA3 : Hid (w3.cell? ⟨w1.heap.size + 1, 0, none⟩ = some (.int .i64 a) ∧ w1.heap.size + 1 < w3.heap.size) := Lib.hid ⟨(hb3.cell (p := ⟨w1.heap.size + 1, 0, none⟩) HPA.out.2).trans HPA.out.1, Nat.lt_of_lt_of_le HPA.out.2 hb3.size⟩
    have HPB3 : Hid (w3.cell? ⟨w1.heap.size, 0, none⟩ = some (.int .i64 b) ∧ w1.heap.size < w3.heap.size) := Lib.hid ⟨(hb3.cell (p := ⟨w1.heap.size, 0, none⟩) HPB.out.2).trans HPB.out.1, Nat.lt_of_lt_of_le HPB.out.2 hb3.size⟩
    clear hb3 HPA HPB HBF
    go_wp2_with fail
    obtain ⟨W, eW, hW1, hW2⟩ := spot9 1 l0 (by omega) (by omega)
    rw [eW]
    clear eW
    obtain ⟨H, eH, hH1, hH2⟩ := spot9 1 l1 (by omega) (by omega)
    rw [eH]
    clear eH
    have hnn : W * H ≤ 10 * 10 := Nat.mul_le_mul (by omega) (by omega)
    have hn0 : 0 < W * H := Nat.mul_pos (by omega) (by omega)
    refine (sq_any W H w3 (by omega) (by omega) (by omega) (by omega)).mono ?_
    rintro e w4 ⟨G, rfl, ho⟩
    obtain ⟨n, hn⟩ : ∃ n, n = W * H := ⟨_, rfl⟩
    have HHAS : Hid (hasI (W : Int) (H : Int) n 0 0 = true) := Lib.hid (by
      unfold hasI rightI Gd.canG
      rw [hn, show (W : Int) * (H : Int) = ((W * H : Nat) : Int) from by push_cast; rfl]
      rw [decide_eq_true ⟨by omega, by omega, by omega, by omega, by omega⟩, decide_eq_true rfl, decide_eq_true ⟨by omega, by omega, by omega, by omega⟩]
      rfl)
    have HLN : Hid ((sqN W H n).length = n) := Lib.hid (by rw [sqN_length, hn])
    have HZ0 : Hid ((sqN W H n).getD 0 0 = 0) := Lib.hid (by
      rw [List.getD_eq_getElem?_getD, List.getElem?_eq_getElem (by rw [HLN.out]; omega)]
      simp [sqN])
    rw [← hn] at ho hnn hn0 ⊢
    generalize sqN W H n = zs at *
    obtain ⟨w5, hw5, HB5, HX5, hz5⟩ := box1 26 w4 (.int .i64 (W : Int)) (.int .i64 (H : Int)) (.slice (some ⟨G, 0, none⟩) n n)
    have hb35 := ho.1.trans (HB5.out.mono ho.1.size)
    have HO5 := Lib.hid (ho.go HB5.out).row
    have HB35 := Lib.hid (HB3.out.trans (hb35.mono HB3.out.size))
    have HPA5 : Hid (w5.cell? ⟨w1.heap.size + 1, 0, none⟩ = some (.int .i64 a) ∧ w1.heap.size + 1 < w5.heap.size) := Lib.hid ⟨(hb35.cell (p := ⟨w1.heap.size + 1, 0, none⟩) HPA3.out.2).trans HPA3.out.1, Nat.lt_of_lt_of_le HPA3.out.2 hb35.size⟩
    have HPB5 : Hid (w5.cell? ⟨w1.heap.size, 0, none⟩ = some (.int .i64 b) ∧ w1.heap.size < w5.heap.size) := Lib.hid ⟨(hb35.cell (p := ⟨w1.heap.size, 0, none⟩) HPB3.out.2).trans HPB3.out.1, Nat.lt_of_lt_of_le HPB3.out.2 hb35.size⟩
    have HW5 := Lib.hid hw5
    have hmf : ∀ (fn : Fn) (first cap : Array Value) (w : World), (Instr.makeFunc fn first cap).run Try.prog w = .ok (.func fn first cap) w := fun _ _ _ _ => rfl
    have HM1 := Lib.hid (mapI_any 30 enterA #[.pointer (some ⟨w1.heap.size + 1, 0, none⟩)] (fun z => wrap64 (z + a)) (W : Int) (H : Int) (some ⟨G, 0, none⟩) n n zs w5 (fun z w' hb => funA z a (w1.heap.size + 1) w' ((hb.cell (p := ⟨w1.heap.size + 1, 0, none⟩) HPA5.out.2).trans HPA5.out.1)) HO5.out HLN.out (by omega))
    clear ho hb35 hw5 hz5 hW1 hW2 hH1 hH2 HPA3 HPB3 hn
    go_wp2_with fail
    rw [← HW5.out]
    refine HM1.out.mono ?_
    rintro e w6 ⟨G1, rfl, ho1⟩
    have HPB6 : Hid (w6.cell? ⟨w1.heap.size, 0, none⟩ = some (.int .i64 b) ∧ w1.heap.size < w6.heap.size) := Lib.hid ⟨(ho1.1.cell (p := ⟨w1.heap.size, 0, none⟩) HPB5.out.2).trans HPB5.out.1, Nat.lt_of_lt_of_le HPB5.out.2 ho1.1.size⟩
    have HM2 := Lib.hid (mapI_any 31 enterT #[.pointer (some ⟨w1.heap.size, 0, none⟩)] (fun z => wrap64 (z * b)) (W : Int) (H : Int) (some ⟨G1, 0, none⟩) n n (zs.map fun z => wrap64 (z + a)) w6 (fun z w' hb => funT z b (w1.heap.size) w' ((hb.cell (p := ⟨w1.heap.size, 0, none⟩) HPB6.out.2).trans HPB6.out.1)) ho1.row (by rw [List.length_map]; exact HLN.out) (by omega))
    have HO1 := Lib.hid ho1.1
    clear ho1 HM1
    go_wp2_with fail
    refine HM2.out.mono ?_
    rintro e w7 ⟨G2, rfl, ho2⟩
    rw [List.map_map] at ho2
    obtain ⟨w8, hw8, HB8, HX8, hz8⟩ := box1 26 w7 (.int .i64 (W : Int)) (.int .i64 (H : Int)) (.slice (some ⟨G2, 0, none⟩) n n)
    have hb58 := HO1.out.trans ((ho2.1.trans (HB8.out.mono ho2.1.size)).mono HO1.out.size)
    have HV8 := Lib.hid (ho2.go HB8.out).row
    have HX58 := Lib.hid (HX5.out.go hb58)
    have kk := HX58.out.cells
    rw [hw8] at kk
    obtain ⟨k0, k1, k2⟩ := kk
    have HR8 := Lib.hid ((HO5.out.below hb58 (Nat.le_refl _)).mono hb58.size)
    have HPA8 : Hid (w8.cell? ⟨w1.heap.size + 1, 0, none⟩ = some (.int .i64 a) ∧ w1.heap.size + 1 < w8.heap.size) := Lib.hid ⟨(hb58.cell (p := ⟨w1.heap.size + 1, 0, none⟩) HPA5.out.2).trans HPA5.out.1, Nat.lt_of_lt_of_le HPA5.out.2 hb58.size⟩
    have HPB8 : Hid (w8.cell? ⟨w1.heap.size, 0, none⟩ = some (.int .i64 b) ∧ w1.heap.size < w8.heap.size) := Lib.hid ⟨(hb58.cell (p := ⟨w1.heap.size, 0, none⟩) HPB5.out.2).trans HPB5.out.1, Nat.lt_of_lt_of_le HPB5.out.2 hb58.size⟩
    have HM3 := Lib.hid (mapI_any 33 enterB #[.pointer (some ⟨w1.heap.size + 1, 0, none⟩), .pointer (some ⟨w1.heap.size, 0, none⟩)] (fun z => wrap64 (wrap64 (z + a) * b)) (W : Int) (H : Int) (some ⟨G, 0, none⟩) n n zs w8 (fun z w' hb => funB z a b (w1.heap.size + 1) (w1.heap.size) w' ((hb.cell (p := ⟨w1.heap.size + 1, 0, none⟩) HPA8.out.2).trans HPA8.out.1) ((hb.cell (p := ⟨w1.heap.size, 0, none⟩) HPB8.out.2).trans HPB8.out.1)) HR8.out HLN.out (by omega))
    have HW8 := Lib.hid hw8
    have HB38 := Lib.hid (HB35.out.trans (hb58.mono HB35.out.size))
    clear ho2 hb58 hw8 hz8 HM2 HO1 HPB6 HPA5 HPB5
    go_wp2_with fail
    rw [← HW8.out]
    refine HM3.out.mono ?_
    rintro e w9 ⟨G3, rfl, ho3⟩
    obtain ⟨wA, hwA, HBA, HXA, hzA⟩ := box1 26 w9 (.int .i64 (W : Int)) (.int .i64 (H : Int)) (.slice (some ⟨G3, 0, none⟩) n n)
    have hb8A := ho3.1.trans (HBA.out.mono ho3.1.size)
    have HX5A := Lib.hid (HX58.out.go hb8A)
    have HX8A := Lib.hid (HX8.out.go hb8A)
    have kk := HX5A.out.cells
    have ll := HX8A.out.cells
    rw [hwA] at kk ll
    obtain ⟨k0, k1, k2⟩ := kk
    obtain ⟨m0, m1, m2⟩ := ll
    have HVA := Lib.hid ((HV8.out.below hb8A (Nat.le_refl _)).mono hb8A.size)
    have HRA := Lib.hid ((HR8.out.below hb8A (Nat.le_refl _)).mono hb8A.size)
    have HEQ := Lib.hid (equal_yes (some ⟨G2, 0, none⟩) n (some ⟨G3, 0, none⟩) n n (zs.map fun z => wrap64 (wrap64 (z + a) * b)) wA _ _ HVA.out (ho3.go HBA.out).row (by rw [List.length_map]; exact HLN.out) (by omega))
    have HWA := Lib.hid hwA
    have HB3A := Lib.hid (HB38.out.trans (hb8A.mono HB38.out.size))
    have q1 : ((W : Int) != (W : Int)) = false := by simp
    have q2 : ((H : Int) != (H : Int)) = false := by simp
    clear ho3 hb8A hwA hzA HM3 HV8 HR8 HX58 HX8 HB8 HBA HX8A HPA8 HPB8
    go_wp2_with fail
    rw [← HWA.out]
    refine HEQ.out.mono ?_
    rintro e wB ⟨rfl, hdB⟩
    have hbB := hdB.below wA.heap.size
    have HX5B := Lib.hid (HX5A.out.go hbB)
    have HRB := Lib.hid ((HRA.out.below hbB (Nat.le_refl _)).mono hbB.size)
    have HB3B := Lib.hid (HB3A.out.trans (hbB.mono HB3A.out.size))
    have HCL := Lib.hid (clone_any (W : Int) (H : Int) (some ⟨G, 0, none⟩) n n zs wB HRB.out HLN.out (by omega))
    obtain ⟨k0, k1, k2⟩ := HX5B.out.cells
    clear hdB hbB HEQ m0 m1 m2
    go_wp2_with fail
    refine HCL.out.mono ?_
    rintro e wC ⟨G4, rfl, ho4⟩
    obtain ⟨wD, hwD, HBD, HXD, hzD⟩ := box1 26 wC (.int .i64 (W : Int)) (.int .i64 (H : Int)) (.slice (some ⟨G4, 0, none⟩) n n)
    have hbBD := ho4.1.trans (HBD.out.mono ho4.1.size)
    have HX5D := Lib.hid (HX5B.out.go hbBD)
    have HRD := Lib.hid ((HRB.out.below hbBD (Nat.le_refl _)).mono hbBD.size)
    have HX5C : Hid (w4.heap.size < wC.heap.size) := Lib.hid (Nat.lt_of_lt_of_le HX5B.out.lt ho4.1.size)
    have HRC : Hid (VRow wD wC.heap.size (some ⟨G, 0, none⟩) (ints zs)) := Lib.hid (((HRB.out.below ho4.1 (Nat.le_refl _)).mono ho4.1.size).below HBD.out (Nat.le_refl _))
    have HB3C := Lib.hid (HB3B.out.trans (ho4.1.mono HB3B.out.size))
    have hset := set_any (W : Int) (H : Int) (some ⟨G4, 0, none⟩) n n zs 0 0 7 wD (ho4.go HBD.out).row HLN.out (by omega)
    rw [HHAS.out, if_pos rfl, if_pos rfl, show (0 : Int).toNat * (W : Int).toNat + (0 : Int).toNat = 0 from by simp] at hset
    have HSET := Lib.hid hset
    have HWD := Lib.hid hwD
    have HB3D := Lib.hid (HB3B.out.trans (hbBD.mono HB3B.out.size))
    clear ho4 hbBD hwD hset HCL hzD
    go_wp2_with fail
    rw [← HWD.out]
    refine HSET.out.mono ?_
    rintro e wE ⟨G5, rfl, ho5⟩
    have hXE := HXD.out.go ho5.1
    have hltE := HXD.out.lt
    have hneE : wC.heap.size ≠ G5 := by have := ho5.2.1; omega
    have f := hXE.fz
    have f0 := f 0
    have f1 := f 1
    have f2 := f 2
    obtain ⟨m0, m1, m2⟩ := hXE.cells
    have hXF := hXE.put (.int .i64 (W : Int)) (.int .i64 (H : Int)) (.slice (some ⟨G5, 0, none⟩) n n)
    have hWF : ∃ wF, wF = (((wE.setCell ⟨wC.heap.size, 0, none⟩ (.int .i64 (W : Int))).setCell ⟨wC.heap.size, 1, none⟩ (.int .i64 (H : Int))).setCell ⟨wC.heap.size, 2, none⟩ (.slice (some ⟨G5, 0, none⟩) n n)) := ⟨_, rfl⟩
    obtain ⟨wF, hwF⟩ := hWF
    have HGF : Hid (wF.heap[G5]? = some (.cells (ints (zs.set 0 7)).toArray 3 (0, 0))) := Lib.hid (by rw [hwF]; exact own_put3 ho5.2.2.2 hneE (.int .i64 (W : Int)) (.int .i64 (H : Int)) (.slice (some ⟨G5, 0, none⟩) n n))
    have hbDF : Below wC.heap.size wE wF := by rw [hwF]; exact below_put3 (g := wC.heap.size) (Below.refl wC.heap.size wE) (Nat.le_refl _) (.int .i64 (W : Int)) (.int .i64 (H : Int)) (.slice (some ⟨G5, 0, none⟩) n n)
    have hbCE : Below wC.heap.size wD wE := ho5.1.mono HBD.out.size
    have hX5w : w4.heap.size < wC.heap.size := HX5C.out
    have HX5F : Hid (Bx 26 wF w4.heap.size (.int .i64 (W : Int)) (.int .i64 (H : Int)) (.slice (some ⟨G, 0, none⟩) n n)) := Lib.hid (((hbCE.trans hbDF).block _ hX5w).trans HX5D.out)
    have HRF : Hid (VRow wF wF.heap.size (some ⟨G, 0, none⟩) (ints zs)) := Lib.hid ((HRC.out.below (hbCE.trans hbDF) (Nat.le_refl _)).mono (Nat.le_trans HBD.out.size (hbCE.trans hbDF).size))
    have HB3F := Lib.hid (HB3D.out.trans ((hbCE.trans hbDF).mono HB3C.out.size))
    have HAT0 := at_any (W : Int) (H : Int) (some ⟨G, 0, none⟩) n n zs 0 0 wF HRF.out HLN.out (Nat.le_refl _)
    rw [HHAS.out, if_pos rfl, show (0 : Int).toNat * (W : Int).toNat + (0 : Int).toNat = 0 from by simp, HZ0.out] at HAT0
    have HAT := Lib.hid HAT0
    have kk := HX5F.out.cells
    rw [← hwF] at hXF
    have HXF := Lib.hid hXF
    have HWF := Lib.hid hwF
    rw [hwF] at kk
    obtain ⟨k0, k1, k2⟩ := kk
    have hzl : 0 < (ints (zs.set 0 7)).length := by rw [ints_length, List.length_set, HLN.out]; exact hn0
    have i1 : (0 : Int) < (n : Int) := by omega
    have HZL := Lib.hid hzl
    clear ho5 hXE hltE hneE f hXF hwF hbDF hbCE hX5w HAT0 hzl HSET HX5D HRD HXD HBD
    go_wp2_with fail
    rw [← HWF.out]
    refine HAT.out.mono ?_
    rintro e wG ⟨hbG, rfl⟩
    obtain ⟨m0, m1, m2⟩ := (HXF.out.go hbG).cells
    have hgg := (hbG.block _ (blk_lt HGF.out)).trans HGF.out
    have hcg := blk_cell hgg HZL.out
    rw [ints_at] at hcg
    have h7 : (zs.set 0 7).getD 0 0 = 7 := by
      have h8 : 0 < (zs.set 0 7).length := by rw [List.length_set, HLN.out]; exact hn0
      rw [List.getD_eq_getElem?_getD, List.getElem?_eq_getElem h8]
      simp
    rw [h7] at hcg
    have HBG := Lib.hid (HB3F.out.trans (hbG.mono HB3F.out.size))
    clear hbG hgg h7 k0 k1 k2
    go_wp2_with fail
    go_ret
    exact ⟨rfl, HBG.out⟩
end Go.Proofs.Ytjecakkdongcoaa.Gr

/- LtE, LtP, LtF: merged. -/
import Derived.Deep.RegionHeld3
import Derived.Deep.OwnRows
import Derived.Test.YtkkfkmoikcmhoaaGreatAab
import Derived.Test.YtkkfkmoikcmhoaaGreatAac
set_option linter.unusedVariables false
set_option linter.unusedSimpArgs false
namespace Go.Proofs.YtkkfkmoikcmhoaaGreat.Lzt
open Go.RowKit Oct
set_option maxRecDepth 100000
def Ymy (w : World) (g n : Nat) (z : Int) : Prop := g < w.heap.size ∧ ∀ j, j < n → w.cell? ⟨g, j, none⟩ = some (.int .i64 z) ∧ w.frozen? ⟨g, j, none⟩ = false
theorem Ymy.below {w w' : World} {g n : Nat} {z : Int} (h : Ymy w g n z) (hb : Below w.heap.size w w') : Ymy w' g n z :=
 ⟨Nat.lt_of_lt_of_le h.1 hb.size, fun j hj => ⟨(hb.cell (p := ⟨g, j, none⟩) h.1).trans (h.2 j hj).1, (Y5m (hb.block g h.1)).trans (h.2 j hj).2⟩⟩
theorem Yay (w : World) (n : Nat) : Ymy (w.alloc (.cells (madeCells #[Value.int .i64 0] n) 3)) w.heap.size n 0 := by
 have hb : (w.alloc (.cells (madeCells #[Value.int .i64 0] n) 3)).heap[w.heap.size]? = some (.cells (madeCells #[Value.int .i64 0] n) 3 (0, 0)) := Array.getElem?_push_size
 have h0 := Y4h (.int .i64 0) n
 refine ⟨by simp, fun j hj => ⟨?_, by unfold World.frozen?; rw [hb]; simp⟩⟩
 have h1 : (madeCells #[Value.int .i64 0] n)[j]? = some (.int .i64 0) := by
  rw [← Array.getElem?_toList, h0, List.getElem?_replicate, if_pos hj]
 rw [cell_of_row _ w.heap.size j _ _ _ hb]
 exact h1
theorem Ydv {w wr : World} {n : Nat} {z : Int} (h : Y45 w n z n wr) : Ymy wr w.heap.size n z :=
 ⟨h.2.1, fun j hj => ⟨by rw [(h.2.2 j hj).1, if_pos hj], (h.2.2 j hj).2⟩⟩
theorem Y3z (w : World) (z : Int) : (w.alloc (.cells #[.int .i64 z] 3)).cell? ⟨w.heap.size, 0 + 0, none⟩ = some (.int .i64 z) := by
 rw [cell_of_row _ w.heap.size 0 _ _ _ (show (w.alloc (.cells #[.int .i64 z] 3)).heap[w.heap.size]? = some (.cells #[.int .i64 z] 3 (0, 0)) from Array.getElem?_push_size)]
 rfl
theorem Y0c (w : World) (o : Obj) : (w.alloc o).heap.size = w.heap.size + 1 := by simp
theorem Y0i (w : World) (o : Obj) : Below w.heap.size w (w.alloc o) := (Below.refl _ w).alloc (Nat.le_refl _) _
theorem Yo8 {w w3 : World} {p : Option Addr} {n nb cap m L g h : Nat} {xs : List UInt8} (d : Nat) (hd : w3.heap.size = d) (hb : Below w.heap.size w w3) (hL : L = 2 ^ m) (hg : Ymy w3 g L (-32769)) (hnb : nb = min n 32768) (hh : Ymy w3 h nb 0) (g1 : w.heap.size ≤ g) (h1 : w.heap.size ≤ h) (gh : g ≠ h)
  (hr : Row w p xs) (hx : xs.length = n) (hn : n ≤ 100000) (hc : n ≤ cap) (hc2 : cap ≤ maxLen) (hm : m ≤ 15) :
  Fi (w3.alloc (.cells #[.slice p n cap, .int .i64 (m : Int), .slice (some ⟨g, 0, none⟩) L L, .slice (some ⟨h, 0, none⟩) nb nb] 174)) ⟨xs, p, cap, w.heap.size, d, g, h, m⟩ 0 ∧
  Below w.heap.size w (w3.alloc (.cells #[.slice p n cap, .int .i64 (m : Int), .slice (some ⟨g, 0, none⟩) L L, .slice (some ⟨h, 0, none⟩) nb nb] 174)) ∧
  d < (w3.alloc (.cells #[.slice p n cap, .int .i64 (m : Int), .slice (some ⟨g, 0, none⟩) L L, .slice (some ⟨h, 0, none⟩) nb nb] 174)).heap.size ∧
  g < (w3.alloc (.cells #[.slice p n cap, .int .i64 (m : Int), .slice (some ⟨g, 0, none⟩) L L, .slice (some ⟨h, 0, none⟩) nb nb] 174)).heap.size ∧
  h < (w3.alloc (.cells #[.slice p n cap, .int .i64 (m : Int), .slice (some ⟨g, 0, none⟩) L L, .slice (some ⟨h, 0, none⟩) nb nb] 174)).heap.size := by
 subst hL
 subst hx
 subst hd
 subst hnb
 obtain ⟨w4, hw4⟩ : ∃ w4, w4 = w3.alloc (.cells #[.slice p xs.length cap, .int .i64 (m : Int), .slice (some ⟨g, 0, none⟩) (2 ^ m) (2 ^ m), .slice (some ⟨h, 0, none⟩) (min xs.length 32768) (min xs.length 32768)] 174) := ⟨_, rfl⟩
 have hb4 : Below w3.heap.size w3 w4 := by rw [hw4]; exact (Below.refl _ w3).alloc (Nat.le_refl _) _
 have hbk : w4.heap[w3.heap.size]? = some (.cells #[.slice p xs.length cap, .int .i64 (m : Int), .slice (some ⟨g, 0, none⟩) (2 ^ m) (2 ^ m), .slice (some ⟨h, 0, none⟩) (min xs.length 32768) (min xs.length 32768)] 174 (0, 0)) := by rw [hw4]; exact Array.getElem?_push_size
 have hz4 : w4.heap.size = w3.heap.size + 1 := by rw [hw4]; simp
 rw [← hw4]
 have hg4 := hg.below hb4
 have hh4 := hh.below hb4
 have hgl := hg.1
 have hhl := hh.1
 have hbb : Below w.heap.size w w4 := hb.trans (hb4.mono hb.size)
 refine ⟨⟨hbk, fun hp => ?_, fun j hj => ⟨⟨-32769, (hg4.2 j hj).1, .inl rfl⟩, (hg4.2 j hj).2⟩, fun j hj => ⟨⟨0, (hh4.2 j hj).1, .inr ⟨by decide, by show (0 : Int) < ((max 0 1 : Nat) : Int); decide⟩⟩, (hh4.2 j hj).2⟩, ?_, ?_, gh, hb.size, g1, h1, hm, hn, hc, hc2⟩, hbb, by omega, by omega, by omega⟩
 ·obtain ⟨b, off, e, hlt, hcl⟩ := hr hp
  exact ⟨b, off, e, hlt, fun i hi => (hbb.cell (p := ⟨b, off + i, none⟩) hlt).trans (hcl i hi)⟩
 ·show g ≠ w3.heap.size
  omega
 ·show h ≠ w3.heap.size
  omega
set_option maxHeartbeats 2000000 in
theorem Yx0 (p : Option Addr) (n cap : Nat) (xs : List UInt8) (w : World) (hr : Row w p xs) (hx : xs.length = n) (hn : n ≤ 100000) (hc : n ≤ cap) (hc2 : cap ≤ maxLen) :
  Calls Tryz.prog 76 #[.slice p n cap] w fun e w' => ∃ K : Fdr, K.xs = xs ∧ K.C = w.heap.size ∧ e = .returned (.pointer (some ⟨K.d, 0, none⟩)) ∧ Fi w' K 0 ∧ Below w.heap.size w w' ∧ K.d < w'.heap.size ∧ K.g < w'.heap.size ∧ K.h < w'.heap.size := by
 obtain ⟨nb, hnb⟩ : ∃ nb, nb = min n 32768 := ⟨_, rfl⟩
 have HNB := Lib.hid hnb
 have HR := Lib.hid hr
 have HX := Lib.hid hx
 have HC := Lib.hid hc
 have HC2 := Lib.hid hc2
 have hmk : ∀ W : World, (Instr.makeSlice 74 (.int .i64 (nb : Int)) (.int .i64 (nb : Int))).run Tryz.prog W = .ok (.slice (some ⟨W.heap.size, 0, none⟩) nb nb) (W.alloc (.cells (madeCells #[Value.int .i64 0] nb) 3)) :=
  run_make_row' 74 3 (.int .i64 0) 8 Tryz.underlying74 Tryz.infoInt9 rfl .i64 .i64 nb (by omega) (by omega)
 have HMK := Lib.hid hmk
 clear hr hx hc hc2 hmk
 have hmin9 : min (n : Int) 32768 = (nb : Int) := by omega
 clear hnb
 have HL := Lib.hid (fun W => Yp4 n W (by omega))
 have hw : IntKind.u64.wrap (n : Int) = (n : Int) := by rw [IntKind.wrap_u64]; omega
 go_enter Tryz.func76, Tryz.ntmps76
 go_wp2_with fail
 refine (HL.out _).mono ?_
 rintro e w' ⟨⟨r, hr2, rfl⟩, rfl⟩
 obtain ⟨m, hm⟩ : ∃ m, min r 15 = m := ⟨_, rfl⟩
 have hm15 : m ≤ 15 := by omega
 obtain ⟨L, hL⟩ : ∃ L, L = 2 ^ m := ⟨_, rfl⟩
 have hL1 : 1 ≤ L := by rw [hL]; exact Nat.one_le_two_pow
 have hL2 : L ≤ 32768 := by rw [hL]; exact Nat.pow_le_pow_right (n := 2) (by omega) hm15
 have hsh : IntKind.i64.wrap ((2 : Int) ^ m) = (L : Int) := by
  rw [show ((2 : Int) ^ m) = (L : Int) from by rw [hL]; push_cast; rfl]
  exact IntWalk.i64_in _ (by omega)
 have HLL := Lib.hid hL
 have HSH := Lib.hid hsh
 have HM : Hid (min (r : Int) 15 = (m : Int)) := Lib.hid (by omega)
 clear hL hsh hm
 have HRP : Hid (∀ (W : World) (b : Nat), b < W.heap.size → W.cell? ⟨b, 0 + 0, none⟩ = some (.int .i64 (-32769)) → Calls Tryz.prog 103 #[.slice (some ⟨b, 0, none⟩) 1 1, .int .i64 (L : Int)] W (RepI W L (-32769))) :=
  Lib.hid fun W b hb hcell => Y8g (some ⟨b, 0, none⟩) 1 (-32769) L W b 0 rfl hb hcell hL1 (by omega)
 go_wp2_with fail
 rw [HM.out]
 refine wp_region_held_drew (S := fun _ => True) (by kernel_rfl) trivial (fun hHeld => ?_)
 refine wpAnyH_take (i := 0) (v := ?v1) rfl (by kernel_rfl) (by kernel_rfl) (by kernel_rfl) (fun _ _ _ h => h) (Or.inl ⟨by rfl, fun w hSw => ?y1⟩) hHeld ?r1
 case y1 => first | (go_simp; done) | (go_simp; with_reducible rfl)
 try simp only [Act.put, List.setIfInBounds_toArray, List.set_cons_zero, List.set_cons_succ, List.getElem_toArray, List.getElem_cons_zero, List.getElem_cons_succ]
 refine wpAnyH_take (i := 1) (v := ?v2) rfl (by kernel_rfl) (by kernel_rfl) (by kernel_rfl) (fun _ _ _ h => h) (Or.inl ⟨by rfl, fun w hSw => ?y2⟩) hHeld ?r2
 case y2 => first | (go_simp; done) | (go_simp; with_reducible rfl)
 try simp only [Act.put, List.setIfInBounds_toArray, List.set_cons_zero, List.set_cons_succ, List.getElem_toArray, List.getElem_cons_zero, List.getElem_cons_succ]
 refine wpAnyH_take (i := 3) (v := ?v3) rfl (by kernel_rfl) (by kernel_rfl) (by kernel_rfl) (fun _ _ _ h => h) (Or.inl ⟨by rfl, fun w hSw => ?y3⟩) hHeld ?r3
 case y3 => first | (go_simp; done) | (go_simp; with_reducible rfl)
 try simp only [Act.put, List.setIfInBounds_toArray, List.set_cons_zero, List.set_cons_succ, List.getElem_toArray, List.getElem_cons_zero, List.getElem_cons_succ]
 refine wpAnyH_take (i := 4) (v := ?v4) rfl (by kernel_rfl) (by kernel_rfl) (by kernel_rfl) (fun _ _ _ h => h) (Or.inl ⟨by rfl, fun w hSw => ?y4⟩) hHeld ?r4
 case y4 => first | (go_simp; done) | (go_simp; with_reducible rfl)
 try simp only [Act.put, List.setIfInBounds_toArray, List.set_cons_zero, List.set_cons_succ, List.getElem_toArray, List.getElem_cons_zero, List.getElem_cons_succ]
 refine wpAnyH_take (i := 6) (v := ?v5) rfl (by kernel_rfl) (by kernel_rfl) (by kernel_rfl) (fun _ _ _ h => h) (Or.inl ⟨by rfl, fun w hSw => ?y5⟩) hHeld ?r5
 case y5 => first | (go_simp; done) | (go_simp; with_reducible rfl)
 try simp only [Act.put, List.setIfInBounds_toArray, List.set_cons_zero, List.set_cons_succ, List.getElem_toArray, List.getElem_cons_zero, List.getElem_cons_succ]
 refine wpAnyH_take (i := 7) (v := ?v6) rfl (by kernel_rfl) (by kernel_rfl) (by kernel_rfl) (fun _ _ _ h => h) (Or.inl ⟨by rfl, fun w hSw => ?y6⟩) hHeld ?r6
 case y6 => first | (go_simp; done) | (go_simp; with_reducible rfl)
 try simp only [Act.put, List.setIfInBounds_toArray, List.set_cons_zero, List.set_cons_succ, List.getElem_toArray, List.getElem_cons_zero, List.getElem_cons_succ]
 refine wpAnyH_take (i := 8) (v := ?v7) rfl (by kernel_rfl) (by kernel_rfl) (by kernel_rfl) (fun _ _ _ h => h) (Or.inl ⟨by rfl, fun w hSw => ?y7⟩) hHeld ?r7
 case y7 => first | (go_simp; done) | (go_simp; with_reducible rfl)
 try simp only [Act.put, List.setIfInBounds_toArray, List.set_cons_zero, List.set_cons_succ, List.getElem_toArray, List.getElem_cons_zero, List.getElem_cons_succ]
 rw [HSH.out]
 refine wpAnyH_ready (rs := [2, 9]) (by kernel_rfl) (by simp) ?_
 refine AllReadyH.cons rfl (fun K hK => ?_) ?_
 ·go_simp
  refine hK.out _ _ trivial (fun hH8 => ?_)
  clear hK K
  try simp only [Act.put, List.setIfInBounds_toArray, List.set_cons_zero, List.set_cons_succ, List.getElem_toArray, List.getElem_cons_zero, List.getElem_cons_succ]
  refine wpAnyH_ready (rs := [5, 9]) (by kernel_rfl) (by simp) ?_
  refine AllReadyH.cons rfl (fun K hK => ?_) ?_
  ·go_simp
   refine (HRP.out ((w.drew).alloc (.cells #[.int .i64 (-32769)] 3)) w.heap.size (by simp; try omega) (Y3z w.drew _)).mono ?_
   rintro e wq ⟨rfl, hst⟩
   have HST := Lib.hid hst
   clear hst
   go_wp2_with fail
   refine hK.out _ _ trivial (fun hH9 => ?_)
   clear hK K
   try simp only [Act.put, List.setIfInBounds_toArray, List.set_cons_zero, List.set_cons_succ, List.getElem_toArray, List.getElem_cons_zero, List.getElem_cons_succ]
   refine wpAnyH_ready (rs := [9]) (by kernel_rfl) (by simp) ?_
   refine AllReadyH.cons rfl (fun K hK => ?_) AllReadyH.nil
   go_simp
   rw [HMK.out]
   simp only [Result.andThen_ok, Oper.upon]
   refine hK.out _ _ trivial (fun hH10 => ?_)
   clear hK K
   try simp only [Act.put, List.setIfInBounds_toArray, List.set_cons_zero, List.set_cons_succ, List.getElem_toArray, List.getElem_cons_zero, List.getElem_cons_succ]
   refine wpAnyH_take (i := 10) (v := ?v11) rfl (by kernel_rfl) (by kernel_rfl) (by kernel_rfl) (fun _ _ _ h => h) (Or.inl ⟨by rfl, fun w hSw => ?y11⟩) hH10 ?r11
   case y11 => first | (go_simp; done) | (go_simp; with_reducible rfl)
   try simp only [Act.put, List.setIfInBounds_toArray, List.set_cons_zero, List.set_cons_succ, List.getElem_toArray, List.getElem_cons_zero, List.getElem_cons_succ]
   refine wpAnyH_ready (rs := [11]) (by kernel_rfl) (by simp) ?_
   refine AllReadyH.cons rfl (fun K hK => ?_) AllReadyH.nil
   go_simp
   refine hK.out _ _ trivial (fun hH12 => ?_)
   clear hK K
   try simp only [Act.put, List.setIfInBounds_toArray, List.set_cons_zero, List.set_cons_succ, List.getElem_toArray, List.getElem_cons_zero, List.getElem_cons_succ]
   refine wpAnyH_take (i := 12) (v := ?v13) rfl (by kernel_rfl) (by kernel_rfl) (by kernel_rfl) (fun _ _ _ h => h) (Or.inl ⟨by rfl, fun w hSw => ?y13⟩) hH12 ?r13
   case y13 => first | (go_simp; done) | (go_simp; with_reducible rfl)
   try simp only [Act.put, List.setIfInBounds_toArray, List.set_cons_zero, List.set_cons_succ, List.getElem_toArray, List.getElem_cons_zero, List.getElem_cons_succ]
   refine wpAnyH_done (by kernel_rfl) ?_ _
   go_wp2_with fail
   go_ret
   have hbb : Below w.heap.size w (wq.alloc (.cells (madeCells #[Value.int .i64 0] nb) 3)) := (((show Drawn w w.drew from ⟨1, rfl⟩).below _).trans ((Y0i w.drew (.cells #[.int .i64 (-32769)] 3)).trans (HST.out.1.mono (by rw [Y0c]; exact Nat.le_succ _)))).trans ((Y0i wq _).mono (by have := HST.out.2.1; rw [Y0c] at this; have e : w.drew.heap.size = w.heap.size := rfl; omega))
   have hg : Ymy (wq.alloc (.cells (madeCells #[Value.int .i64 0] nb) 3)) (w.heap.size + 1) L (-32769) := by
    have h1 := Ydv HST.out
    rw [Y0c] at h1
    exact h1.below (Y0i wq _)
   have hh := Yay wq nb
   have hd : (wq.alloc (.cells (madeCells #[Value.int .i64 0] nb) 3)).heap.size = wq.heap.size + 1 := Y0c _ _
   have hlt := HST.out.2.1
   rw [Y0c] at hlt
   have e0 : w.drew.heap.size = w.heap.size := rfl
   exact ⟨⟨xs, p, cap, w.heap.size, wq.heap.size + 1, w.heap.size + 1, wq.heap.size, m⟩, rfl, rfl, rfl, Yo8 (wq.heap.size + 1) hd hbb HLL.out hg HNB.out hh (by omega) (by omega) (by omega) HR.out HX.out hn HC.out HC2.out hm15⟩
  refine AllReadyH.cons rfl (fun K hK => ?_) AllReadyH.nil
  go_simp
  rw [HMK.out]
  simp only [Result.andThen_ok, Oper.upon]
  refine hK.out _ _ trivial (fun hH14 => ?_)
  clear hK K
  try simp only [Act.put, List.setIfInBounds_toArray, List.set_cons_zero, List.set_cons_succ, List.getElem_toArray, List.getElem_cons_zero, List.getElem_cons_succ]
  refine wpAnyH_ready (rs := [5]) (by kernel_rfl) (by simp) ?_
  refine AllReadyH.cons rfl (fun K hK => ?_) AllReadyH.nil
  go_simp
  refine (HRP.out (((w.drew).alloc (.cells #[.int .i64 (-32769)] 3)).alloc (.cells (madeCells #[Value.int .i64 0] nb) 3)) w.heap.size (by simp; try omega) (((Y0i ((w.drew).alloc (.cells #[.int .i64 (-32769)] 3)) (.cells (madeCells #[Value.int .i64 0] nb) 3)).cell (p := ⟨w.heap.size, 0 + 0, none⟩) (by rw [Y0c]; exact Nat.lt_succ_self _)).trans (Y3z w.drew _))).mono ?_
  rintro e wq ⟨rfl, hst⟩
  have HST := Lib.hid hst
  clear hst
  go_wp2_with fail
  refine hK.out _ _ trivial (fun hH15 => ?_)
  clear hK K
  try simp only [Act.put, List.setIfInBounds_toArray, List.set_cons_zero, List.set_cons_succ, List.getElem_toArray, List.getElem_cons_zero, List.getElem_cons_succ]
  refine wpAnyH_take (i := 10) (v := ?v16) rfl (by kernel_rfl) (by kernel_rfl) (by kernel_rfl) (fun _ _ _ h => h) (Or.inl ⟨by rfl, fun w hSw => ?y16⟩) hH15 ?r16
  case y16 => first | (go_simp; done) | (go_simp; with_reducible rfl)
  try simp only [Act.put, List.setIfInBounds_toArray, List.set_cons_zero, List.set_cons_succ, List.getElem_toArray, List.getElem_cons_zero, List.getElem_cons_succ]
  refine wpAnyH_ready (rs := [11]) (by kernel_rfl) (by simp) ?_
  refine AllReadyH.cons rfl (fun K hK => ?_) AllReadyH.nil
  go_simp
  refine hK.out _ _ trivial (fun hH17 => ?_)
  clear hK K
  try simp only [Act.put, List.setIfInBounds_toArray, List.set_cons_zero, List.set_cons_succ, List.getElem_toArray, List.getElem_cons_zero, List.getElem_cons_succ]
  refine wpAnyH_take (i := 12) (v := ?v18) rfl (by kernel_rfl) (by kernel_rfl) (by kernel_rfl) (fun _ _ _ h => h) (Or.inl ⟨by rfl, fun w hSw => ?y18⟩) hH17 ?r18
  case y18 => first | (go_simp; done) | (go_simp; with_reducible rfl)
  try simp only [Act.put, List.setIfInBounds_toArray, List.set_cons_zero, List.set_cons_succ, List.getElem_toArray, List.getElem_cons_zero, List.getElem_cons_succ]
  refine wpAnyH_done (by kernel_rfl) ?_ _
  go_wp2_with fail
  go_ret
  have e0 : w.drew.heap.size = w.heap.size := rfl
  have hlt := HST.out.2.1
  rw [Y0c, Y0c] at hlt
  have hbb : Below w.heap.size w wq := ((show Drawn w w.drew from ⟨1, rfl⟩).below _).trans ((Y0i w.drew (.cells #[.int .i64 (-32769)] 3)).trans ((Y0i (w.drew.alloc (.cells #[.int .i64 (-32769)] 3)) (.cells (madeCells #[Value.int .i64 0] nb) 3)).mono (by rw [Y0c]; exact Nat.le_succ _) |>.trans (HST.out.1.mono (by rw [Y0c, Y0c]; omega))))
  have hg : Ymy wq (w.heap.size + 1 + 1) L (-32769) := by
   have h1 := Ydv HST.out
   rw [Y0c, Y0c] at h1
   exact h1
  have hh : Ymy wq (w.heap.size + 1) nb 0 := by
   have h1 := (Yay ((w.drew).alloc (.cells #[.int .i64 (-32769)] 3)) nb).below HST.out.1
   rw [Y0c] at h1
   exact h1
  have hd : wq.heap.size = wq.heap.size := rfl
  exact ⟨⟨xs, p, cap, w.heap.size, wq.heap.size, w.heap.size + 1 + 1, w.heap.size + 1, m⟩, rfl, rfl, rfl, Yo8 (wq.heap.size) hd hbb HLL.out hg HNB.out hh (by omega) (by omega) (by omega) HR.out HX.out hn HC.out HC2.out hm15⟩
 refine AllReadyH.cons rfl (fun K hK => ?_) AllReadyH.nil
 go_simp
 rw [HMK.out]
 simp only [Result.andThen_ok, Oper.upon]
 refine hK.out _ _ trivial (fun hH19 => ?_)
 clear hK K
 try simp only [Act.put, List.setIfInBounds_toArray, List.set_cons_zero, List.set_cons_succ, List.getElem_toArray, List.getElem_cons_zero, List.getElem_cons_succ]
 refine wpAnyH_ready (rs := [2]) (by kernel_rfl) (by simp) ?_
 refine AllReadyH.cons rfl (fun K hK => ?_) AllReadyH.nil
 go_simp
 refine hK.out _ _ trivial (fun hH20 => ?_)
 clear hK K
 try simp only [Act.put, List.setIfInBounds_toArray, List.set_cons_zero, List.set_cons_succ, List.getElem_toArray, List.getElem_cons_zero, List.getElem_cons_succ]
 refine wpAnyH_ready (rs := [5]) (by kernel_rfl) (by simp) ?_
 refine AllReadyH.cons rfl (fun K hK => ?_) AllReadyH.nil
 go_simp
 refine (HRP.out (((w.drew).alloc (.cells (madeCells #[Value.int .i64 0] nb) 3)).alloc (.cells #[.int .i64 (-32769)] 3)) (w.heap.size + 1) (by simp; try omega) (by have h := Y3z ((w.drew).alloc (.cells (madeCells #[Value.int .i64 0] nb) 3)) (-32769); rw [Y0c] at h; exact h)).mono ?_
 rintro e wq ⟨rfl, hst⟩
 have HST := Lib.hid hst
 clear hst
 go_wp2_with fail
 refine hK.out _ _ trivial (fun hH21 => ?_)
 clear hK K
 try simp only [Act.put, List.setIfInBounds_toArray, List.set_cons_zero, List.set_cons_succ, List.getElem_toArray, List.getElem_cons_zero, List.getElem_cons_succ]
 refine wpAnyH_take (i := 10) (v := ?v22) rfl (by kernel_rfl) (by kernel_rfl) (by kernel_rfl) (fun _ _ _ h => h) (Or.inl ⟨by rfl, fun w hSw => ?y22⟩) hH21 ?r22
 case y22 => first | (go_simp; done) | (go_simp; with_reducible rfl)
 try simp only [Act.put, List.setIfInBounds_toArray, List.set_cons_zero, List.set_cons_succ, List.getElem_toArray, List.getElem_cons_zero, List.getElem_cons_succ]
 refine wpAnyH_ready (rs := [11]) (by kernel_rfl) (by simp) ?_
 refine AllReadyH.cons rfl (fun K hK => ?_) AllReadyH.nil
 go_simp
 refine hK.out _ _ trivial (fun hH23 => ?_)
 clear hK K
 try simp only [Act.put, List.setIfInBounds_toArray, List.set_cons_zero, List.set_cons_succ, List.getElem_toArray, List.getElem_cons_zero, List.getElem_cons_succ]
 refine wpAnyH_take (i := 12) (v := ?v24) rfl (by kernel_rfl) (by kernel_rfl) (by kernel_rfl) (fun _ _ _ h => h) (Or.inl ⟨by rfl, fun w hSw => ?y24⟩) hH23 ?r24
 case y24 => first | (go_simp; done) | (go_simp; with_reducible rfl)
 try simp only [Act.put, List.setIfInBounds_toArray, List.set_cons_zero, List.set_cons_succ, List.getElem_toArray, List.getElem_cons_zero, List.getElem_cons_succ]
 refine wpAnyH_done (by kernel_rfl) ?_ _
 go_wp2_with fail
 go_ret
 have e0 : w.drew.heap.size = w.heap.size := rfl
 have hlt := HST.out.2.1
 rw [Y0c, Y0c] at hlt
 have hbb : Below w.heap.size w wq := ((show Drawn w w.drew from ⟨1, rfl⟩).below _).trans ((Y0i w.drew (.cells (madeCells #[Value.int .i64 0] nb) 3)).trans ((Y0i (w.drew.alloc (.cells (madeCells #[Value.int .i64 0] nb) 3)) (.cells #[.int .i64 (-32769)] 3)).mono (by rw [Y0c]; exact Nat.le_succ _) |>.trans (HST.out.1.mono (by rw [Y0c, Y0c]; omega))))
 have hg : Ymy wq (w.heap.size + 1 + 1) L (-32769) := by
  have h1 := Ydv HST.out
  rw [Y0c, Y0c] at h1
  exact h1
 have hh : Ymy wq (w.heap.size) nb 0 := by
  have h1 := ((Yay w.drew nb).below (Y0i _ (.cells #[.int .i64 (-32769)] 3))).below HST.out.1
  exact h1
 have hd : wq.heap.size = wq.heap.size := rfl
 exact ⟨⟨xs, p, cap, w.heap.size, wq.heap.size, w.heap.size + 1 + 1, w.heap.size, m⟩, rfl, rfl, rfl, Yo8 (wq.heap.size) hd hbb HLL.out hg HNB.out hh (by omega) (by omega) (by omega) HR.out HX.out hn HC.out HC2.out hm15⟩
end Go.Proofs.YtkkfkmoikcmhoaaGreat.Lzt
namespace Go.Proofs.YtkkfkmoikcmhoaaGreat.Lzt
open Go.RowKit Oct
set_option maxRecDepth 100000
def Yus (t : Tok) : Value := .agg #[.int .u8 (t.lit.toNat : Int), .int .i64 t.len, .int .i64 t.dist]
theorem Y42 (t : Tok) (w : World) : Calls Tryz.prog 78 #[Yus t] w fun e w' => e = .returned (.int .i64 (max t.len 1)) ∧ Below w.heap.size w w' := by
 obtain ⟨x, n, d⟩ := t
 have hba : Below w.heap.size w (w.alloc (.cells #[.int .u8 (x.toNat : Int), .int .i64 n, .int .i64 d] 134)) := (Below.refl _ w).alloc (Nat.le_refl _) _
 have HBA := Lib.hid hba
 unfold Yus
 clear hba
 go_enter Tryz.func78, Tryz.ntmps78
 go_wp2_with fail
 go_ret
 exact ⟨rfl, HBA.out⟩
end Go.Proofs.YtkkfkmoikcmhoaaGreat.Lzt
namespace Go.Proofs.YtkkfkmoikcmhoaaGreat.Lzt
open Go.RowKit Oct
set_option maxRecDepth 100000
def Tb (w : World) (g : Nat) (t : Tok) : Prop := w.heap[g]? = some (.cells #[.int .u8 (t.lit.toNat : Int), .int .i64 t.len, .int .i64 t.dist] 134 (0, 0))
def put3 (w : World) (g : Nat) (t : Tok) : World := ((w.setCell ⟨g, 0, none⟩ (.int .u8 (t.lit.toNat : Int))).setCell ⟨g, 1, none⟩ (.int .i64 t.len)).setCell ⟨g, 2, none⟩ (.int .i64 t.dist)
theorem Tb.cells {w : World} {g : Nat} {t : Tok} (h : Tb w g t) : w.cell? ⟨g, 0, none⟩ = some (.int .u8 (t.lit.toNat : Int)) ∧ w.cell? ⟨g, 1, none⟩ = some (.int .i64 t.len) ∧ w.cell? ⟨g, 2, none⟩ = some (.int .i64 t.dist) := by
 unfold Tb at h
 refine ⟨?_, ?_, ?_⟩ <;> simp [World.cell?, h]
theorem Tb.free {w : World} {g : Nat} {t : Tok} (h : Tb w g t) : w.frozen? ⟨g, 0, none⟩ = false ∧ w.frozen? ⟨g, 1, none⟩ = false ∧ w.frozen? ⟨g, 2, none⟩ = false := by
 unfold Tb at h
 refine ⟨?_, ?_, ?_⟩ <;> simp [World.frozen?, h]
theorem Tb.lt {w : World} {g : Nat} {t : Tok} (h : Tb w g t) : g < w.heap.size := by
 unfold Tb at h
 rcases Nat.lt_or_ge g w.heap.size with hlt | hge
 ·exact hlt
 ·rw [Array.getElem?_eq_none hge] at h; cases h
theorem Tb.only {S : Nat → Prop} {w w' : World} {g : Nat} {t : Tok} (h : Tb w g t) (ho : Only S w w') (hg : ¬ S g) : Tb w' g t := (ho.2.2.2.2 g h.lt hg).trans h
theorem Tb.put {w : World} {g : Nat} {t : Tok} (h : Tb w g t) (t' : Tok) : Tb (put3 w g t') g t' := by
 unfold Tb at h
 unfold Tb put3
 simp [World.setCell, Array.getElem?_modify, h]
theorem Yg4 (w : World) (g : Nat) (t : Tok) : Only (· = g) w (put3 w g t) :=
 ((Only.setCell (S := (· = g)) (p := ⟨g, 0, none⟩) rfl _).trans (Only.setCell (S := (· = g)) (p := ⟨g, 1, none⟩) rfl _)).trans (Only.setCell (S := (· = g)) (p := ⟨g, 2, none⟩) rfl _)
theorem Ydu {Q : Ending → World → Prop} {act : Act} {F : World} {d : Nat} {t : Tok} (hb : Tb F d t) (h4 : act.tmps[4]?.getD undef = .pointer (some ⟨d, 0, none⟩)) (hd : act.defers = [])
  (h : Q (.returned (Yus t)) F) : bodyPost Tryz.prog Tryz.f77 Q .ret act F := by
 obtain ⟨q0, q1, q2⟩ := hb.cells
 refine bodyPost_ret (v := Yus t) ?_ hd h
 simp [results, Tryz.results77, go_sem, h4, q0, q1, q2, Yus]
def Y59 (xs : List UInt8) (a most : Nat) (t : Tok) : Prop :=
 (t.len = 0 ∧ t.dist = 0 ∧ ∃ h : a < xs.length, t.lit = xs[a]) ∨
 (∃ n d : Nat, t = ⟨0, (n : Int), (d : Int)⟩ ∧ 3 ≤ n ∧ n ≤ most ∧ 1 ≤ d ∧ d ≤ 32768 ∧ d ≤ a ∧ ∀ k, k < n → xs[a + k]? = xs[a - d + k]?)
theorem Ywb (xs : List UInt8) (z a most k : Nat) (hz : z < a) (h : k < eqN (xs.drop z) ((xs.drop a).take most)) : xs[a + k]? = xs[a - (a - z) + k]? := by
 have h1 := Yj1 _ _ k h
 have h2 := Yo4 (xs.drop z) ((xs.drop a).take most)
 rw [List.length_take] at h2
 rw [List.getElem?_drop, List.getElem?_take, if_pos (by omega), List.getElem?_drop] at h1
 rw [← h1]
 congr 1
 omega
structure Lng (w : World) (K : Fdr) (a most r0 b0 : Nat) (t : Tok) (wr : World) : Prop where
 fi : Fi wr K a
 bel : Below w.heap.size w wr
 res : Tb wr r0 ⟨0, 0, 0⟩
 best : Tb wr b0 t
 good : Y59 K.xs a most t
 hr : w.heap.size ≤ r0
 hb : w.heap.size ≤ b0
 ne : r0 ≠ b0
theorem Lng.drawn {w wr wr' : World} {K : Fdr} {a most r0 b0 : Nat} {t : Tok} (h : Lng w K a most r0 b0 t wr) (hd : Drawn wr wr') : Lng w K a most r0 b0 t wr' :=
 ⟨h.fi.drawn hd, h.bel.trans (hd.below _), h.res.only (Only.drawn (fun _ => False) hd) (fun e => e), h.best.only (Only.drawn (fun _ => False) hd) (fun e => e), h.good, h.hr, h.hb, h.ne⟩
theorem Lng.put {w wr : World} {K : Fdr} {a most r0 b0 : Nat} {t t' : Tok} (h : Lng w K a most r0 b0 t wr) (hK : K.d < w.heap.size ∧ K.g < w.heap.size ∧ K.h < w.heap.size) (hg : Y59 K.xs a most t') : Lng w K a most r0 b0 t' (put3 wr b0 t') := by
 have ho := Yg4 wr b0 t'
 have h1 := h.hb
 have hC := h.fi.Cd
 have h2 := h.bel.size
 exact ⟨h.fi.only ho (by omega) (by omega) (by omega) (fun k hk => by omega), h.bel.trans (ho.below h2 (fun k hk => by omega)), h.res.only ho h.ne, h.best.put t', hg, h.hr, h.hb, h.ne⟩
def Best0 (w : World) (K : Fdr) (a most : Nat) (z0 : Nat) : Prop := Y3s w K a (z0 : Int) ∧ z0 < a ∧ a - z0 ≤ 32768 ∧ 3 ≤ most ∧ eqN (K.xs.drop z0) ((K.xs.drop a).take most) = most
def Fst (w : World) (K : Fdr) (a most j : Nat) (z : Int) (t : Tok) : Prop := ∀ z0, Best0 w K a most z0 → (j = 0 ∧ z = (z0 : Int) ∧ t.len = 0) ∨ (j ≠ 0 ∧ t = ⟨0, (most : Int), ((a - z0 : Nat) : Int)⟩)
def Fin0 (w : World) (K : Fdr) (a most : Nat) (t : Tok) : Prop := ∀ z0, Best0 w K a most z0 → t = ⟨0, (most : Int), ((a - z0 : Nat) : Int)⟩
theorem Fst.far {w : World} {K : Fdr} {a most j : Nat} {z : Int} {t : Tok} (h : Fst w K a most j z t) (hz : z < 0 ∨ 32768 < (a : Int) - z) : Fin0 w K a most t := fun z0 hb => by
 rcases h z0 hb with ⟨_, e, _⟩ | ⟨_, e⟩
 ·obtain ⟨_, h1, h2, _⟩ := hb
  omega
 ·exact e
theorem Fst.full {w : World} {K : Fdr} {a most j : Nat} {z : Int} {t : Tok} (h : Fst w K a most j z t) (hz : t.len = (most : Int)) : Fin0 w K a most t := fun z0 hb => by
 rcases h z0 hb with ⟨_, _, e⟩ | ⟨_, e⟩
 ·obtain ⟨_, _, _, h1, _⟩ := hb
  omega
 ·exact e
theorem Fst.over {w : World} {K : Fdr} {a most j : Nat} {z : Int} {t : Tok} (h : Fst w K a most j z t) (hz : j ≠ 0) : Fin0 w K a most t := fun z0 hb => by
 rcases h z0 hb with ⟨e, _, _⟩ | ⟨_, e⟩
 ·exact absurd e hz
 ·exact e
theorem Fst.next {w : World} {K : Fdr} {a most j Z E : Nat} {t : Tok} {z2 : Int} (h : Fst w K a most j (Z : Int) t) (hn : t.len ≠ (most : Int)) (hE : E = eqN (K.xs.drop Z) ((K.xs.drop a).take most)) (hZ : Z < a) :
  Fst w K a most (j + 1) z2 (if 3 ≤ E ∧ t.len < (E : Int) then ⟨0, (E : Int), (a : Int) - (Z : Int)⟩ else t) := fun z0 hb => by
 rcases h z0 hb with ⟨_, e1, e2⟩ | ⟨_, e⟩
 ·have e3 : Z = z0 := by omega
  subst e3
  obtain ⟨_, h1, h2, h3, h4⟩ := hb
  rw [h4] at hE
  rw [if_pos ⟨by omega, by omega⟩]
  refine .inr ⟨by omega, ?_⟩
  rw [hE]
  congr 1
  omega
 ·rw [e] at hn
  exact absurd rfl hn
theorem Yla {w w' : World} {K : Fdr} {a : Nat} (hF : Fi w K a) (hb : Below w.heap.size w w') {z : Int} (h : Y3s w K a z) : Y3s w' K a z := by
 unfold Y3s at h ⊢
 split
 ·rename_i hlt
  rw [if_pos hlt] at h
  exact h
 ·rename_i hlt
  rw [if_neg hlt] at h
  exact (hb.cell (p := ⟨K.g, markK K a, none⟩) (Y25 h)).trans h
theorem Yog {w : World} {K : Fdr} {a : Nat} {z z' : Int} (h : Y3s w K a z) (h' : Y3s w K a z') : z = z' := by
 unfold Y3s at h h'
 split at h
 ·rename_i hlt
  rw [if_pos hlt] at h'
  rw [h, h']
 ·rename_i hlt
  rw [if_neg hlt, h] at h'
  injection h' with h'
  injection h' with _ h'
theorem Fst.start {w w' : World} {K : Fdr} {a most : Nat} {z : Int} {t : Tok} (hF : Fi w K a) (hb : Below w.heap.size w w') (h : Y3s w' K a z) (ht : t.len = 0) : Fst w K a most 0 z t := fun z0 hz => by
 exact .inl ⟨rfl, Yog h (Yla hF hb hz.1), ht⟩
def LngP (w : World) (K : Fdr) (a : Nat) (e : Ending) (w' : World) : Prop :=
 ∃ t, Y59 K.xs a (min (K.xs.length - a) 258) t ∧ e = .returned (Yus t) ∧ Fi w' K a ∧ Below w.heap.size w w' ∧ Fin0 w K a (min (K.xs.length - a) 258) t
theorem Lng.done {w wr : World} {K : Fdr} {a r0 b0 : Nat} {t : Tok} (h : Lng w K a (min (K.xs.length - a) 258) r0 b0 t wr) (hK : K.d < w.heap.size ∧ K.g < w.heap.size ∧ K.h < w.heap.size) (hf : Fin0 w K a (min (K.xs.length - a) 258) t) :
  Tb (put3 wr r0 t) r0 t ∧ LngP w K a (.returned (Yus t)) (put3 wr r0 t) := by
 have ho := Yg4 wr r0 t
 have h1 := h.hr
 have hC := h.fi.Cd
 have h2 := h.bel.size
 exact ⟨h.res.put t, t, h.good, rfl, h.fi.only ho (by omega) (by omega) (by omega) (fun k hk => by omega), h.bel.trans (ho.below h2 (fun k hk => by omega)), hf⟩
set_option maxHeartbeats 4000000 in
theorem Yho (K : Fdr) (a : Nat) (w : World) (hF : Fi w K a) (ha : a < K.xs.length) (hK : K.d < w.heap.size ∧ K.g < w.heap.size ∧ K.h < w.heap.size) :
  Calls Tryz.prog 77 #[.pointer (some ⟨K.d, 0, none⟩), .int .i64 (a : Int)] w (LngP w K a) := by
 have c0 := hF.c0
 obtain ⟨b, off, hp, hlt, hc⟩ := hF.row (by omega)
 have n2 := hF.n2
 have d0 := hc a ha
 rw [hp] at c0
 obtain ⟨n, hn⟩ : ∃ n, n = K.xs.length := ⟨_, rfl⟩
 obtain ⟨x, hx⟩ : ∃ x, x = K.xs[a] := ⟨_, rfl⟩
 rw [← hn] at c0 n2
 rw [← hx] at d0
 have han : a < n := by omega
 have i0 : (0 : Int) ≤ (a : Int) := by omega
 have i1 : (a : Int) < (n : Int) := by omega
 have HF := Lib.hid hF
 have HK := Lib.hid hK
 have HN := Lib.hid hn
 have HG0 : Hid (Y59 K.xs a (min (K.xs.length - a) 258) ⟨x, 0, 0⟩) := Lib.hid (.inl ⟨rfl, rfl, ha, hx⟩)
 have HPP := Lib.hid hp
 have hb1 : Below w.heap.size w (w.alloc (.cells #[.int .u8 0, .int .i64 0, .int .i64 0] 134)) := Y0i w _
 have k0 := (hb1.cell (p := ⟨K.d, 0, none⟩) hK.1).trans c0
 have k1 := (hb1.cell (p := ⟨b, off + a, none⟩) (Y25 d0)).trans d0
 have hs1 := Y0c w (.cells #[.int .u8 0, .int .i64 0, .int .i64 0] 134)
 have hb2 := Y0i (w.alloc (.cells #[.int .u8 0, .int .i64 0, .int .i64 0] 134)) (.cells #[.int .u8 (x.toNat : Int), .int .i64 0, .int .i64 0] 134)
 have k2 := (hb2.cell (p := ⟨K.d, 0, none⟩) (by rw [hs1]; exact Nat.lt_succ_of_lt hK.1)).trans k0
 have hb3 : Below w.heap.size w ((w.alloc (.cells #[.int .u8 0, .int .i64 0, .int .i64 0] 134)).alloc (.cells #[.int .u8 (x.toNat : Int), .int .i64 0, .int .i64 0] 134)) := hb1.trans (hb2.mono (by rw [hs1]; exact Nat.le_succ _))
 have ht1 : Tb (w.alloc (.cells #[.int .u8 0, .int .i64 0, .int .i64 0] 134)) w.heap.size ⟨0, 0, 0⟩ := Array.getElem?_push_size
 have ht2 : Tb ((w.alloc (.cells #[.int .u8 0, .int .i64 0, .int .i64 0] 134)).alloc (.cells #[.int .u8 (x.toNat : Int), .int .i64 0, .int .i64 0] 134)) (w.heap.size + 1) ⟨x, 0, 0⟩ := by
  rw [← hs1]
  exact Array.getElem?_push_size
 obtain ⟨most, hmost⟩ : ∃ most, most = min (K.xs.length - a) 258 := ⟨_, rfl⟩
 have hl0 : Lng w K a most w.heap.size (w.heap.size + 1) ⟨x, 0, 0⟩ ((w.alloc (.cells #[.int .u8 0, .int .i64 0, .int .i64 0] 134)).alloc (.cells #[.int .u8 (x.toNat : Int), .int .i64 0, .int .i64 0] 134)) :=
  ⟨hF.below (Y0i w _ |>.trans (hb2.mono (by rw [hs1]; exact Nat.le_succ _))), hb3, ht1.only (S := fun _ => False) (Only.of_below hb2) (fun e => e), ht2, .inl ⟨rfl, rfl, ha, hx⟩, Nat.le_refl _, by omega, by omega⟩
 have HL0 := Lib.hid hl0
 have HBW : Hid (Below w.heap.size w ((w.alloc (.cells #[.int .u8 0, .int .i64 0, .int .i64 0] 134)).alloc (.cells #[.int .u8 (x.toNat : Int), .int .i64 0, .int .i64 0] 134))) := Lib.hid hb3
 have HMO := Lib.hid hmost
 have hmi : min ((n : Int) - (a : Int)) 258 = (most : Int) := by omega
 have hm1 : 1 ≤ most := by omega
 have hm2 : a + most ≤ n := by omega
 have hm3 : most ≤ 258 := by omega
 clear hF hK hn hx ha hp hc hlt hs1 hb1 hb2 hb3 ht1 ht2 hl0 hmost
 go_enter Tryz.func77, Tryz.ntmps77
 go_wp2_with fail
 generalize ((w.alloc (.cells #[.int .u8 0, .int .i64 0, .int .i64 0] 134)).alloc (.cells #[.int .u8 (x.toNat : Int), .int .i64 0, .int .i64 0] 134)) = w2 at HL0 HBW k2 ⊢
 refine (Yt4 K a a w2 HL0.out.fi (by rw [← HN.out]; omega)).mono ?_
 rintro e w3 ⟨⟨z, hz, hfp, rfl⟩, hd3⟩
 have HFS : Hid (Fst w K a most 0 z ⟨x, 0, 0⟩) := Lib.hid (Fst.start HF.out HBW.out hfp rfl)
 have HZ := Lib.hid hz
 have HL3 := Lib.hid (HL0.out.drawn hd3)
 clear k0 k1 k2 d0 c0 HL0 hd3 hz hfp HBW
 go_wp2_with fail
 go_loopw [7, 28] (fun v i wr => ∃ (j : Nat) (z : Int) (t : Tok), j ≤ 64 ∧ i = .int .i64 (j : Int) ∧ v = .int .i64 z ∧ Hid (Y3g z a) ∧ Hid (Lng w K a most w.heap.size (w.heap.size + 1) t wr) ∧ Hid (Fst w K a most j z t)) (fun _ i _ => 64 - (intOf i).toNat)
 case atStart => exact ⟨0, z, ⟨x, 0, 0⟩, by omega, rfl, rfl, HZ, HL3, HFS⟩
 case round =>
  clear HZ HL3 HFS
  obtain ⟨j, z, t, hj, rfl, rfl, HZ, HL, HFS⟩ := hrel
  obtain ⟨r0, r1, r2⟩ := HL.out.res.cells
  obtain ⟨f0, f1, f2⟩ := HL.out.res.free
  obtain ⟨t0, t1, t2⟩ := HL.out.best.cells
  obtain ⟨g0, g1, g2⟩ := HL.out.best.free
  have HDN : Hid (Fin0 w K a most t → Tb (put3 wr w.heap.size t) w.heap.size t ∧ LngP w K a (.returned (Yus t)) (put3 wr w.heap.size t)) := Lib.hid fun hf => by
   have h := HL.out
   rw [HMO.out] at h hf
   exact h.done HK.out hf
  by_cases hjl : j < 64
  ·have qj : decide ((j : Int) < 64) = true := by simp; omega
   rcases HZ.out with hz | ⟨hz0, hza⟩
   ·subst hz
    have q1 : decide ((32768 : Int) < (a : Int) - -32769) = true := by simp; omega
    have q2 : decide ((32768 : Int) < (a : Int) + 32769) = true := by simp; omega
    have HD := Lib.hid (HDN.out (HFS.out.far (.inl (by omega))))
    go_wp2_with fail
    exact Ydu HD.out.1 rfl rfl HD.out.2
   ·obtain ⟨Z, rfl⟩ : ∃ Z : Nat, z = (Z : Int) := ⟨z.toNat, by omega⟩
    have hZa : Z < a := by omega
    by_cases hfar : (32768 : Int) < (a : Int) - (Z : Int)
    ·have q1 : decide ((32768 : Int) < (a : Int) - (Z : Int)) = true := by simpa using hfar
     have HD := Lib.hid (HDN.out (HFS.out.far (.inr hfar)))
     clear hfar
     go_wp2_with fail
     exact Ydu HD.out.1 rfl rfl HD.out.2
    have q1 : decide ((32768 : Int) < (a : Int) - (Z : Int)) = false := by simpa using hfar
    have hfn : a ≤ Z + 32768 := by omega
    by_cases hfull : t.len = (most : Int)
    ·have qf : (t.len == (most : Int)) = true := by simpa using hfull
     have HD := Lib.hid (HDN.out (HFS.out.full hfull))
     clear hfull hfar
     go_wp2_with fail
     exact Ydu HD.out.1 rfl rfl HD.out.2
    ·have qf : (t.len == (most : Int)) = false := by simpa using hfull
     clear HDN
     obtain ⟨cap, hcap⟩ : ∃ cap, cap = K.cap := ⟨_, rfl⟩
     have hcn : n ≤ cap := by rw [hcap, HN.out]; exact HL.out.fi.cap.1
     have hcm : cap ≤ 9223372036854775807 := by
      have := HL.out.fi.cap.2
      unfold maxLen at this
      omega
     have c0 := HL.out.fi.c0
     rw [HPP.out, ← HN.out, ← hcap] at c0
     have c3 := HL.out.fi.c3
     have j0 : (0 : Int) ≤ (Z : Int) := by omega
     have j1 : (Z : Int) ≤ (n : Int) := by omega
     have j2 : (a : Int) + (most : Int) ≤ (cap : Int) := by omega
     have j3 : ¬ cap = Z := by omega
     have j4 : ¬ cap = a := by omega
     obtain ⟨E, hE⟩ : ∃ E, E = eqN (K.xs.drop Z) ((K.xs.drop a).take most) := ⟨_, rfl⟩
     have HEE := Lib.hid hE
     have hEl : E ≤ most := by
      have h1 := Yo4 (K.xs.drop Z) ((K.xs.drop a).take most)
      rw [List.length_take] at h1
      omega
     have HE : Hid (∀ N, Calls Tryz.prog 110 #[.slice (some ⟨b, off + Z, none⟩) (n - Z) (cap - Z), .slice (some ⟨b, off + a, none⟩) most (cap - a)] (wr.drewN N) fun e w' => e = .returned (.int .i64 (E : Int)) ∧ ∃ M, w' = wr.drewN M) := Lib.hid fun N => by
      rw [HEE.out]
      obtain ⟨b', off', e', hlt', hc'⟩ := (HL.out.fi.drawn (w' := wr.drewN N) ⟨N, rfl⟩).row (by rw [← HN.out]; omega)
      rw [HPP.out] at e'
      injection e' with e'
      injection e' with e1 e2
      subst e1 e2
      have hnn := HN.out
      refine (Yl4 _ _ _ _ _ _ (K.xs.drop Z) ((K.xs.drop a).take most) _ (fun _ => ⟨b, off + Z, rfl, Y25 (hc' 0 (by omega)), fun i hi => ?_⟩) (fun _ => ⟨b, off + a, rfl, Y25 (hc' 0 (by omega)), fun i hi => ?_⟩) (by rw [List.length_drop]; omega) (by rw [List.length_take, List.length_drop]; omega) (by omega) (by omega)).mono ?_
      ·rw [List.length_drop] at hi
       rw [Nat.add_assoc, hc' (Z + i) (by omega)]
       simp
      ·rw [List.length_take, List.length_drop] at hi
       rw [Nat.add_assoc, hc' (a + i) (by omega)]
       simp
      ·rintro e w' ⟨h, M, hM⟩
       exact ⟨h, N + M, by rw [hM, World.drewN_drewN]⟩
     have HCAP := Lib.hid hcap
     obtain ⟨nb, hnb⟩ : ∃ nb, nb = min n 32768 := ⟨_, rfl⟩
     have HNB : Hid (nb = min K.xs.length 32768) := Lib.hid (by rw [hnb, HN.out])
     obtain ⟨Zr, hZr⟩ : ∃ Zr, Zr = Z % 32768 := ⟨_, rfl⟩
     have hZr2 : Zr < nb := by omega
     have hrem : (Z : Int).tmod 32768 = (Zr : Int) := by
      rw [hZr, Int.tmod_eq_emod_of_nonneg (by omega)]
      omega
     have j50 : (0 : Int) ≤ (Zr : Int) := by omega
     have j5 : (Zr : Int) < (nb : Int) := by omega
     have HFN := Lib.hid (fun z2 : Int => HFS.out.next (z2 := z2) hfull hE hZa)
     rw [← HNB.out] at c3
     clear hfull hcap hE hnb hZr hfar
     go_wp2_with fail
     go_quiet ((go_at_call 110; exact HE.out _))
     have HLQ := Lib.hid (HL.out.drawn (wr' := wr.drewN nq) ⟨nq, rfl⟩)
     by_cases hgood : 3 ≤ E ∧ t.len < (E : Int)
     ·obtain ⟨hg1, hg2⟩ := hgood
      have p1 : decide ((3 : Int) ≤ (E : Int)) = true := by simp; omega
      have p2 : decide (t.len < (E : Int)) = true := by simpa using hg2
      have htg : Y59 K.xs a most ⟨0, (E : Int), (a : Int) - (Z : Int)⟩ := .inr ⟨E, a - Z, by rw [show (((a - Z : Nat) : Int)) = (a : Int) - (Z : Int) from by omega], hg1, hEl, by omega, by omega, by omega, fun k hk => Ywb K.xs Z a most k hZa (by rw [← HEE.out]; exact hk)⟩
      have HL5 := Lib.hid (HLQ.out.put HK.out htg)
      obtain ⟨⟨z2, hz2, hp2⟩, _⟩ := HL5.out.fi.bef Zr (by rw [← HNB.out]; exact hZr2)
      have k3 := HL5.out.fi.c3
      rw [← HNB.out] at k3
      replace k3 : ((((wr.drewN nq).setCell ⟨w.heap.size + 1, 0, none⟩ (.int .u8 0)).setCell ⟨w.heap.size + 1, 1, none⟩ (.int .i64 (E : Int))).setCell ⟨w.heap.size + 1, 2, none⟩ (.int .i64 ((a : Int) - (Z : Int)))).cell? ⟨K.d, 3, none⟩ = some (.slice (some ⟨K.h, 0, none⟩) nb nb) := k3
      replace hz2 : ((((wr.drewN nq).setCell ⟨w.heap.size + 1, 0, none⟩ (.int .u8 0)).setCell ⟨w.heap.size + 1, 1, none⟩ (.int .i64 (E : Int))).setCell ⟨w.heap.size + 1, 2, none⟩ (.int .i64 ((a : Int) - (Z : Int)))).cell? ⟨K.h, Zr, none⟩ = some (.int .i64 z2) := hz2
      have HP2 : Hid (Y3g z2 a) := Lib.hid (by rw [show max a 1 = a from by omega] at hp2; exact hp2)
      have HF2 : Hid (Fst w K a most (j + 1) z2 ⟨0, (E : Int), (a : Int) - (Z : Int)⟩) := Lib.hid (by have h := HFN.out z2; rw [if_pos ⟨hg1, hg2⟩] at h; exact h)
      clear hg2 htg hp2 c0 c3
      go_wp2_with fail
      go_roundw
      case rel => exact ⟨j + 1, z2, _, by omega, by first | rfl | (push_cast; rfl), rfl, HP2, HL5, HF2⟩
      case measure => simp [intOf]; omega
     ·obtain ⟨⟨z2, hz2, hp2⟩, _⟩ := HLQ.out.fi.bef Zr (by rw [← HNB.out]; exact hZr2)
      have HP2 : Hid (Y3g z2 a) := Lib.hid (by rw [show max a 1 = a from by omega] at hp2; exact hp2)
      have k3 := HLQ.out.fi.c3
      rw [← HNB.out] at k3
      have HF2 : Hid (Fst w K a most (j + 1) z2 t) := Lib.hid (by have h := HFN.out z2; rw [if_neg hgood] at h; exact h)
      by_cases hg1 : 3 ≤ E
      ·have p1 : decide ((3 : Int) ≤ (E : Int)) = true := by simp; omega
       have p2 : decide (t.len < (E : Int)) = false := by simp; omega
       clear hgood hp2 c0 c3
       go_wp2_with fail
       go_roundw
       case rel => exact ⟨j + 1, z2, t, by omega, by first | rfl | (push_cast; rfl), rfl, HP2, HLQ, HF2⟩
       case measure => simp [intOf]; omega
      ·have p1 : decide ((3 : Int) ≤ (E : Int)) = false := by simp; omega
       clear hgood hp2 c0 c3
       go_wp2_with fail
       go_roundw
       case rel => exact ⟨j + 1, z2, t, by omega, by first | rfl | (push_cast; rfl), rfl, HP2, HLQ, HF2⟩
       case measure => simp [intOf]; omega
  ·have qj : decide ((j : Int) < 64) = false := by simp; omega
   have HD := Lib.hid (HDN.out (HFS.out.over (by omega)))
   go_wp2_with fail
   exact Ydu HD.out.1 rfl rfl HD.out.2
end Go.Proofs.YtkkfkmoikcmhoaaGreat.Lzt

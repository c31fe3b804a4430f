
/- The contract of newFinder. -/
import Derived.Test.YtboknaakcbjkiaaLtD
import Derived.Deep.RegionHeld3
import Derived.Deep.OwnRows
namespace Go.Proofs.Ytboknaakcbjkiaa.Lzt
open Go.RowKit Go.Proofs.Ytboknaakcbjkiaa.Oct
set_option linter.unusedVariables false
set_option linter.unusedSimpArgs false
set_option maxRecDepth 100000

/-- a row in which one number stands everywhere -/
def RowZ (w : World) (g n : Nat) (z : Int) : Prop := g < w.heap.size ∧ ∀ j, j < n → w.cell? ⟨g, j, none⟩ = some (.int .i64 z) ∧ w.frozen? ⟨g, j, none⟩ = false
theorem RowZ.below {w w' : World} {g n : Nat} {z : Int} (h : RowZ w g n z) (hb : Below w.heap.size w w') : RowZ w' g n z :=
  ⟨Nat.lt_of_lt_of_le h.1 hb.size, fun j hj => ⟨(hb.cell (p := ⟨g, j, none⟩) h.1).trans (h.2 j hj).1, (frozen_of (hb.block g h.1)).trans (h.2 j hj).2⟩⟩
theorem rowZ_made (w : World) (n : Nat) : RowZ (w.alloc (.cells (madeCells #[Value.int .i64 0] n) 3)) w.heap.size n 0 := by
  have hb : (w.alloc (.cells (madeCells #[Value.int .i64 0] n) 3)).heap[w.heap.size]? = some (.cells (madeCells #[Value.int .i64 0] n) 3 (0, 0)) := Array.getElem?_push_size
  have h0 := made_vals8 (.int .i64 0) n
  refine ⟨by simp, fun j hj => ⟨?_, by unfold World.frozen?; rw [hb]; simp⟩⟩
  have h1 : (madeCells #[Value.int .i64 0] n)[j]? = some (.int .i64 0) := by
    rw [← Array.getElem?_toList, h0, List.getElem?_replicate, if_pos hj]
  rw [cell_of_row _ w.heap.size j _ _ _ hb]
  exact h1
theorem rowZ_rep {w wr : World} {n : Nat} {z : Int} (h : RepSt w n z n wr) : RowZ wr w.heap.size n z :=
  ⟨h.2.1, fun j hj => ⟨by rw [(h.2.2 j hj).1, if_pos hj], (h.2.2 j hj).2⟩⟩
theorem one_cell (w : World) (z : Int) : (w.alloc (.cells #[.int .i64 z] 3)).cell? ⟨w.heap.size, 0 + 0, none⟩ = some (.int .i64 z) := by
  rw [cell_of_row _ w.heap.size 0 _ _ _ (show (w.alloc (.cells #[.int .i64 z] 3)).heap[w.heap.size]? = some (.cells #[.int .i64 z] 3 (0, 0)) from Array.getElem?_push_size)]
  rfl
theorem alloc_size (w : World) (o : Obj) : (w.alloc o).heap.size = w.heap.size + 1 := by simp
theorem alloc_below (w : World) (o : Obj) : Below w.heap.size w (w.alloc o) := (Below.refl _ w).alloc (Nat.le_refl _) _
theorem fi_new {w w3 : World} {p : Option Addr} {n cap m L g h : Nat} {xs : List UInt8} (d : Nat) (hd : w3.heap.size = d) (hb : Below w.heap.size w w3) (hL : L = 2 ^ m) (hg : RowZ w3 g L (-32769)) (hh : RowZ w3 h n 0) (g1 : w.heap.size ≤ g) (h1 : w.heap.size ≤ h) (gh : g ≠ h)
    (hr : Row w p xs) (hx : xs.length = n) (hn : n ≤ 2000) (hc : n ≤ cap) (hc2 : cap ≤ maxLen) (hm : m ≤ 15) :
    Fi (w3.alloc (.cells #[.slice p n cap, .int .i64 (m : Int), .slice (some ⟨g, 0, none⟩) L L, .slice (some ⟨h, 0, none⟩) n n] 48)) ⟨xs, p, cap, w.heap.size, d, g, h, m⟩ 0 ∧
    Below w.heap.size w (w3.alloc (.cells #[.slice p n cap, .int .i64 (m : Int), .slice (some ⟨g, 0, none⟩) L L, .slice (some ⟨h, 0, none⟩) n n] 48)) ∧
    d < (w3.alloc (.cells #[.slice p n cap, .int .i64 (m : Int), .slice (some ⟨g, 0, none⟩) L L, .slice (some ⟨h, 0, none⟩) n n] 48)).heap.size ∧
    g < (w3.alloc (.cells #[.slice p n cap, .int .i64 (m : Int), .slice (some ⟨g, 0, none⟩) L L, .slice (some ⟨h, 0, none⟩) n n] 48)).heap.size ∧
    h < (w3.alloc (.cells #[.slice p n cap, .int .i64 (m : Int), .slice (some ⟨g, 0, none⟩) L L, .slice (some ⟨h, 0, none⟩) n n] 48)).heap.size := by
  subst hL
  subst hx
  subst hd
  obtain ⟨w4, hw4⟩ : ∃ w4, w4 = w3.alloc (.cells #[.slice p xs.length cap, .int .i64 (m : Int), .slice (some ⟨g, 0, none⟩) (2 ^ m) (2 ^ m), .slice (some ⟨h, 0, none⟩) xs.length xs.length] 48) := ⟨_, rfl⟩
  have hb4 : Below w3.heap.size w3 w4 := by rw [hw4]; exact (Below.refl _ w3).alloc (Nat.le_refl _) _
  have hbk : w4.heap[w3.heap.size]? = some (.cells #[.slice p xs.length cap, .int .i64 (m : Int), .slice (some ⟨g, 0, none⟩) (2 ^ m) (2 ^ m), .slice (some ⟨h, 0, none⟩) xs.length xs.length] 48 (0, 0)) := by rw [hw4]; exact Array.getElem?_push_size
  have hz4 : w4.heap.size = w3.heap.size + 1 := by rw [hw4]; simp
  rw [← hw4]
  have hg4 := hg.below hb4
  have hh4 := hh.below hb4
  have hgl := hg.1
  have hhl := hh.1
  have hbb : Below w.heap.size w w4 := hb.trans (hb4.mono hb.size)
  refine ⟨⟨hbk, fun hp => ?_, fun j hj => ⟨⟨-32769, (hg4.2 j hj).1, .inl rfl⟩, (hg4.2 j hj).2⟩, fun j hj => ⟨⟨0, (hh4.2 j hj).1, .inr ⟨by decide, by show (0 : Int) < ((max 0 1 : Nat) : Int); decide⟩⟩, (hh4.2 j hj).2⟩, ?_, ?_, gh, hb.size, g1, h1, hm, hn, hc, hc2⟩, hbb, by omega, by omega, by omega⟩
  · obtain ⟨b, off, e, hlt, hcl⟩ := hr hp
    exact ⟨b, off, e, hlt, fun i hi => (hbb.cell (p := ⟨b, off + i, none⟩) hlt).trans (hcl i hi)⟩
  · show g ≠ w3.heap.size
    omega
  · show h ≠ w3.heap.size
    omega
set_option maxHeartbeats 2000000 in
theorem new_any (p : Option Addr) (n cap : Nat) (xs : List UInt8) (w : World) (hr : Row w p xs) (hx : xs.length = n) (hn : n ≤ 2000) (hc : n ≤ cap) (hc2 : cap ≤ maxLen) :
    Calls Try.prog 13 #[.slice p n cap] w fun e w' => ∃ K : Fdr, K.xs = xs ∧ K.C = w.heap.size ∧ e = .returned (.pointer (some ⟨K.d, 0, none⟩)) ∧ Fi w' K 0 ∧ Below w.heap.size w w' ∧ K.d < w'.heap.size ∧ K.g < w'.heap.size ∧ K.h < w'.heap.size := by
  have HR := Lib.hid hr
  have HX := Lib.hid hx
  have HC := Lib.hid hc
  have HC2 := Lib.hid hc2
  have hmk : ∀ W : World, (Instr.makeSlice 45 (.int .i64 (n : Int)) (.int .i64 (n : Int))).run Try.prog W = .ok (.slice (some ⟨W.heap.size, 0, none⟩) n n) (W.alloc (.cells (madeCells #[Value.int .i64 0] n) 3)) :=
    run_make_row' 45 3 (.int .i64 0) 8 Try.underlying45 Try.infoInt9 rfl .i64 .i64 n (by omega) (by omega)
  have HMK := Lib.hid hmk
  clear hr hx hc hc2 hmk
  have HL := Lib.hid (fun W => len_small n W (by omega))
  have hmin : min (n : Int) 32768 = (n : Int) := by omega
  have hw : IntKind.u64.wrap (n : Int) = (n : Int) := by rw [IntKind.wrap_u64]; omega
  go_enter Try.func13, Try.ntmps13
  go_wp2_with fail
  refine (HL.out _).mono ?_
  rintro e w' ⟨⟨r, hr2, rfl⟩, rfl⟩
  obtain ⟨m, hm⟩ : ∃ m, min r 15 = m := ⟨_, rfl⟩
  have hm15 : m ≤ 15 := by omega
  obtain ⟨L, hL⟩ : ∃ L, L = 2 ^ m := ⟨_, rfl⟩
  have hL1 : 1 ≤ L := by rw [hL]; exact Nat.one_le_two_pow
  have hL2 : L ≤ 32768 := by rw [hL]; exact Nat.pow_le_pow_right (n := 2) (by omega) hm15
  have hsh : IntKind.i64.wrap ((2 : Int) ^ m) = (L : Int) := by
    rw [show ((2 : Int) ^ m) = (L : Int) from by rw [hL]; push_cast; rfl]
    exact IntWalk.i64_in _ (by omega)
  have HLL := Lib.hid hL
  have HSH := Lib.hid hsh
  have HM : Hid (min (r : Int) 15 = (m : Int)) := Lib.hid (by omega)
  clear hL hsh hm
  have HRP : Hid (∀ (W : World) (b : Nat), b < W.heap.size → W.cell? ⟨b, 0 + 0, none⟩ = some (.int .i64 (-32769)) → Calls Try.prog 17 #[.slice (some ⟨b, 0, none⟩) 1 1, .int .i64 (L : Int)] W (RepI W L (-32769))) :=
    Lib.hid fun W b hb hcell => repeat_any (some ⟨b, 0, none⟩) 1 (-32769) L W b 0 rfl hb hcell hL1 (by omega)
  go_wp2_with fail
  rw [HM.out]
  refine wp_region_held_drew (S := fun _ => True) (by kernel_rfl) trivial (fun hHeld => ?_)
  refine wpAnyH_take (i := 0) (v := ?v1) rfl (by kernel_rfl) (by kernel_rfl) (by kernel_rfl) (fun _ _ _ h => h) (Or.inl ⟨by rfl, fun w hSw => ?y1⟩) hHeld ?r1
  case y1 => first | (go_simp; done) | (go_simp; with_reducible rfl)
  try simp only [Act.put, List.setIfInBounds_toArray, List.set_cons_zero, List.set_cons_succ, List.getElem_toArray, List.getElem_cons_zero, List.getElem_cons_succ]
  refine wpAnyH_take (i := 1) (v := ?v2) rfl (by kernel_rfl) (by kernel_rfl) (by kernel_rfl) (fun _ _ _ h => h) (Or.inl ⟨by rfl, fun w hSw => ?y2⟩) hHeld ?r2
  case y2 => first | (go_simp; done) | (go_simp; with_reducible rfl)
  try simp only [Act.put, List.setIfInBounds_toArray, List.set_cons_zero, List.set_cons_succ, List.getElem_toArray, List.getElem_cons_zero, List.getElem_cons_succ]
  refine wpAnyH_take (i := 3) (v := ?v3) rfl (by kernel_rfl) (by kernel_rfl) (by kernel_rfl) (fun _ _ _ h => h) (Or.inl ⟨by rfl, fun w hSw => ?y3⟩) hHeld ?r3
  case y3 => first | (go_simp; done) | (go_simp; with_reducible rfl)
  try simp only [Act.put, List.setIfInBounds_toArray, List.set_cons_zero, List.set_cons_succ, List.getElem_toArray, List.getElem_cons_zero, List.getElem_cons_succ]
  refine wpAnyH_take (i := 4) (v := ?v4) rfl (by kernel_rfl) (by kernel_rfl) (by kernel_rfl) (fun _ _ _ h => h) (Or.inl ⟨by rfl, fun w hSw => ?y4⟩) hHeld ?r4
  case y4 => first | (go_simp; done) | (go_simp; with_reducible rfl)
  try simp only [Act.put, List.setIfInBounds_toArray, List.set_cons_zero, List.set_cons_succ, List.getElem_toArray, List.getElem_cons_zero, List.getElem_cons_succ]
  refine wpAnyH_take (i := 6) (v := ?v5) rfl (by kernel_rfl) (by kernel_rfl) (by kernel_rfl) (fun _ _ _ h => h) (Or.inl ⟨by rfl, fun w hSw => ?y5⟩) hHeld ?r5
  case y5 => first | (go_simp; done) | (go_simp; with_reducible rfl)
  try simp only [Act.put, List.setIfInBounds_toArray, List.set_cons_zero, List.set_cons_succ, List.getElem_toArray, List.getElem_cons_zero, List.getElem_cons_succ]
  refine wpAnyH_take (i := 7) (v := ?v6) rfl (by kernel_rfl) (by kernel_rfl) (by kernel_rfl) (fun _ _ _ h => h) (Or.inl ⟨by rfl, fun w hSw => ?y6⟩) hHeld ?r6
  case y6 => first | (go_simp; done) | (go_simp; with_reducible rfl)
  try simp only [Act.put, List.setIfInBounds_toArray, List.set_cons_zero, List.set_cons_succ, List.getElem_toArray, List.getElem_cons_zero, List.getElem_cons_succ]
  refine wpAnyH_take (i := 8) (v := ?v7) rfl (by kernel_rfl) (by kernel_rfl) (by kernel_rfl) (fun _ _ _ h => h) (Or.inl ⟨by rfl, fun w hSw => ?y7⟩) hHeld ?r7
  case y7 => first | (go_simp; done) | (go_simp; with_reducible rfl)
  try simp only [Act.put, List.setIfInBounds_toArray, List.set_cons_zero, List.set_cons_succ, List.getElem_toArray, List.getElem_cons_zero, List.getElem_cons_succ]
  rw [HSH.out]
  refine wpAnyH_ready (rs := [2, 9]) (by kernel_rfl) (by simp) ?_
  refine AllReadyH.cons rfl (fun K hK => ?_) ?_
  · go_simp
    refine hK.out _ _ trivial (fun hH8 => ?_)
    clear hK K
    try simp only [Act.put, List.setIfInBounds_toArray, List.set_cons_zero, List.set_cons_succ, List.getElem_toArray, List.getElem_cons_zero, List.getElem_cons_succ]
    refine wpAnyH_ready (rs := [5, 9]) (by kernel_rfl) (by simp) ?_
    refine AllReadyH.cons rfl (fun K hK => ?_) ?_
    · go_simp
      refine (HRP.out ((w.drew).alloc (.cells #[.int .i64 (-32769)] 3)) w.heap.size (by simp; try omega) (one_cell w.drew _)).mono ?_
      rintro e wq ⟨rfl, hst⟩
      have HST := Lib.hid hst
      clear hst
      go_wp2_with fail
      refine hK.out _ _ trivial (fun hH9 => ?_)
      clear hK K
      try simp only [Act.put, List.setIfInBounds_toArray, List.set_cons_zero, List.set_cons_succ, List.getElem_toArray, List.getElem_cons_zero, List.getElem_cons_succ]
      refine wpAnyH_ready (rs := [9]) (by kernel_rfl) (by simp) ?_
      refine AllReadyH.cons rfl (fun K hK => ?_) AllReadyH.nil
      go_simp
      rw [HMK.out]
      simp only [Result.andThen_ok, Oper.upon]
      refine hK.out _ _ trivial (fun hH10 => ?_)
      clear hK K
      try simp only [Act.put, List.setIfInBounds_toArray, List.set_cons_zero, List.set_cons_succ, List.getElem_toArray, List.getElem_cons_zero, List.getElem_cons_succ]
      refine wpAnyH_take (i := 10) (v := ?v11) rfl (by kernel_rfl) (by kernel_rfl) (by kernel_rfl) (fun _ _ _ h => h) (Or.inl ⟨by rfl, fun w hSw => ?y11⟩) hH10 ?r11
      case y11 => first | (go_simp; done) | (go_simp; with_reducible rfl)
      try simp only [Act.put, List.setIfInBounds_toArray, List.set_cons_zero, List.set_cons_succ, List.getElem_toArray, List.getElem_cons_zero, List.getElem_cons_succ]
      refine wpAnyH_ready (rs := [11]) (by kernel_rfl) (by simp) ?_
      refine AllReadyH.cons rfl (fun K hK => ?_) AllReadyH.nil
      go_simp
      refine hK.out _ _ trivial (fun hH12 => ?_)
      clear hK K
      try simp only [Act.put, List.setIfInBounds_toArray, List.set_cons_zero, List.set_cons_succ, List.getElem_toArray, List.getElem_cons_zero, List.getElem_cons_succ]
      refine wpAnyH_take (i := 12) (v := ?v13) rfl (by kernel_rfl) (by kernel_rfl) (by kernel_rfl) (fun _ _ _ h => h) (Or.inl ⟨by rfl, fun w hSw => ?y13⟩) hH12 ?r13
      case y13 => first | (go_simp; done) | (go_simp; with_reducible rfl)
      try simp only [Act.put, List.setIfInBounds_toArray, List.set_cons_zero, List.set_cons_succ, List.getElem_toArray, List.getElem_cons_zero, List.getElem_cons_succ]
      refine wpAnyH_done (by kernel_rfl) ?_ _
      go_wp2_with fail
      go_ret
      have hbb : Below w.heap.size w (wq.alloc (.cells (madeCells #[Value.int .i64 0] n) 3)) := (((show Drawn w w.drew from ⟨1, rfl⟩).below _).trans ((alloc_below w.drew (.cells #[.int .i64 (-32769)] 3)).trans (HST.out.1.mono (by rw [alloc_size]; exact Nat.le_succ _)))).trans ((alloc_below wq _).mono (by have := HST.out.2.1; rw [alloc_size] at this; have e : w.drew.heap.size = w.heap.size := rfl; omega))
      have hg : RowZ (wq.alloc (.cells (madeCells #[Value.int .i64 0] n) 3)) (w.heap.size + 1) L (-32769) := by
        have h1 := rowZ_rep HST.out
        rw [alloc_size] at h1
        exact h1.below (alloc_below wq _)
      have hh := rowZ_made wq n
      have hd : (wq.alloc (.cells (madeCells #[Value.int .i64 0] n) 3)).heap.size = wq.heap.size + 1 := alloc_size _ _
      have hlt := HST.out.2.1
      rw [alloc_size] at hlt
      have e0 : w.drew.heap.size = w.heap.size := rfl
      exact ⟨⟨xs, p, cap, w.heap.size, wq.heap.size + 1, w.heap.size + 1, wq.heap.size, m⟩, rfl, rfl, rfl, fi_new (wq.heap.size + 1) hd hbb HLL.out hg hh (by omega) (by omega) (by omega) HR.out HX.out hn HC.out HC2.out hm15⟩
    refine AllReadyH.cons rfl (fun K hK => ?_) AllReadyH.nil
    go_simp
    rw [HMK.out]
    simp only [Result.andThen_ok, Oper.upon]
    refine hK.out _ _ trivial (fun hH14 => ?_)
    clear hK K
    try simp only [Act.put, List.setIfInBounds_toArray, List.set_cons_zero, List.set_cons_succ, List.getElem_toArray, List.getElem_cons_zero, List.getElem_cons_succ]
    refine wpAnyH_ready (rs := [5]) (by kernel_rfl) (by simp) ?_
    refine AllReadyH.cons rfl (fun K hK => ?_) AllReadyH.nil
    go_simp
    refine (HRP.out (((w.drew).alloc (.cells #[.int .i64 (-32769)] 3)).alloc (.cells (madeCells #[Value.int .i64 0] n) 3)) w.heap.size (by simp; try omega) (((alloc_below ((w.drew).alloc (.cells #[.int .i64 (-32769)] 3)) (.cells (madeCells #[Value.int .i64 0] n) 3)).cell (p := ⟨w.heap.size, 0 + 0, none⟩) (by rw [alloc_size]; exact Nat.lt_succ_self _)).trans (one_cell w.drew _))).mono ?_
    rintro e wq ⟨rfl, hst⟩
    have HST := Lib.hid hst
    clear hst
    go_wp2_with fail
    refine hK.out _ _ trivial (fun hH15 => ?_)
    clear hK K
    try simp only [Act.put, List.setIfInBounds_toArray, List.set_cons_zero, List.set_cons_succ, List.getElem_toArray, List.getElem_cons_zero, List.getElem_cons_succ]
    refine wpAnyH_take (i := 10) (v := ?v16) rfl (by kernel_rfl) (by kernel_rfl) (by kernel_rfl) (fun _ _ _ h => h) (Or.inl ⟨by rfl, fun w hSw => ?y16⟩) hH15 ?r16
    case y16 => first | (go_simp; done) | (go_simp; with_reducible rfl)
    try simp only [Act.put, List.setIfInBounds_toArray, List.set_cons_zero, List.set_cons_succ, List.getElem_toArray, List.getElem_cons_zero, List.getElem_cons_succ]
    refine wpAnyH_ready (rs := [11]) (by kernel_rfl) (by simp) ?_
    refine AllReadyH.cons rfl (fun K hK => ?_) AllReadyH.nil
    go_simp
    refine hK.out _ _ trivial (fun hH17 => ?_)
    clear hK K
    try simp only [Act.put, List.setIfInBounds_toArray, List.set_cons_zero, List.set_cons_succ, List.getElem_toArray, List.getElem_cons_zero, List.getElem_cons_succ]
    refine wpAnyH_take (i := 12) (v := ?v18) rfl (by kernel_rfl) (by kernel_rfl) (by kernel_rfl) (fun _ _ _ h => h) (Or.inl ⟨by rfl, fun w hSw => ?y18⟩) hH17 ?r18
    case y18 => first | (go_simp; done) | (go_simp; with_reducible rfl)
    try simp only [Act.put, List.setIfInBounds_toArray, List.set_cons_zero, List.set_cons_succ, List.getElem_toArray, List.getElem_cons_zero, List.getElem_cons_succ]
    refine wpAnyH_done (by kernel_rfl) ?_ _
    go_wp2_with fail
    go_ret
    have e0 : w.drew.heap.size = w.heap.size := rfl
    have hlt := HST.out.2.1
    rw [alloc_size, alloc_size] at hlt
    have hbb : Below w.heap.size w wq := ((show Drawn w w.drew from ⟨1, rfl⟩).below _).trans ((alloc_below w.drew (.cells #[.int .i64 (-32769)] 3)).trans ((alloc_below (w.drew.alloc (.cells #[.int .i64 (-32769)] 3)) (.cells (madeCells #[Value.int .i64 0] n) 3)).mono (by rw [alloc_size]; exact Nat.le_succ _) |>.trans (HST.out.1.mono (by rw [alloc_size, alloc_size]; omega))))
    have hg : RowZ wq (w.heap.size + 1 + 1) L (-32769) := by
      have h1 := rowZ_rep HST.out
      rw [alloc_size, alloc_size] at h1
      exact h1
    have hh : RowZ wq (w.heap.size + 1) n 0 := by
      have h1 := (rowZ_made ((w.drew).alloc (.cells #[.int .i64 (-32769)] 3)) n).below HST.out.1
      rw [alloc_size] at h1
      exact h1
    have hd : wq.heap.size = wq.heap.size := rfl
    exact ⟨⟨xs, p, cap, w.heap.size, wq.heap.size, w.heap.size + 1 + 1, w.heap.size + 1, m⟩, rfl, rfl, rfl, fi_new (wq.heap.size) hd hbb HLL.out hg hh (by omega) (by omega) (by omega) HR.out HX.out hn HC.out HC2.out hm15⟩
  refine AllReadyH.cons rfl (fun K hK => ?_) AllReadyH.nil
  go_simp
  rw [HMK.out]
  simp only [Result.andThen_ok, Oper.upon]
  refine hK.out _ _ trivial (fun hH19 => ?_)
  clear hK K
  try simp only [Act.put, List.setIfInBounds_toArray, List.set_cons_zero, List.set_cons_succ, List.getElem_toArray, List.getElem_cons_zero, List.getElem_cons_succ]
  refine wpAnyH_ready (rs := [2]) (by kernel_rfl) (by simp) ?_
  refine AllReadyH.cons rfl (fun K hK => ?_) AllReadyH.nil
  go_simp
  refine hK.out _ _ trivial (fun hH20 => ?_)
  clear hK K
  try simp only [Act.put, List.setIfInBounds_toArray, List.set_cons_zero, List.set_cons_succ, List.getElem_toArray, List.getElem_cons_zero, List.getElem_cons_succ]
  refine wpAnyH_ready (rs := [5]) (by kernel_rfl) (by simp) ?_
  refine AllReadyH.cons rfl (fun K hK => ?_) AllReadyH.nil
  go_simp
  refine (HRP.out (((w.drew).alloc (.cells (madeCells #[Value.int .i64 0] n) 3)).alloc (.cells #[.int .i64 (-32769)] 3)) (w.heap.size + 1) (by simp; try omega) (by have h := one_cell ((w.drew).alloc (.cells (madeCells #[Value.int .i64 0] n) 3)) (-32769); rw [alloc_size] at h; exact h)).mono ?_
  rintro e wq ⟨rfl, hst⟩
  have HST := Lib.hid hst
  clear hst
  go_wp2_with fail
  refine hK.out _ _ trivial (fun hH21 => ?_)
  clear hK K
  try simp only [Act.put, List.setIfInBounds_toArray, List.set_cons_zero, List.set_cons_succ, List.getElem_toArray, List.getElem_cons_zero, List.getElem_cons_succ]
  refine wpAnyH_take (i := 10) (v := ?v22) rfl (by kernel_rfl) (by kernel_rfl) (by kernel_rfl) (fun _ _ _ h => h) (Or.inl ⟨by rfl, fun w hSw => ?y22⟩) hH21 ?r22
  case y22 => first | (go_simp; done) | (go_simp; with_reducible rfl)
  try simp only [Act.put, List.setIfInBounds_toArray, List.set_cons_zero, List.set_cons_succ, List.getElem_toArray, List.getElem_cons_zero, List.getElem_cons_succ]
  refine wpAnyH_ready (rs := [11]) (by kernel_rfl) (by simp) ?_
  refine AllReadyH.cons rfl (fun K hK => ?_) AllReadyH.nil
  go_simp
  refine hK.out _ _ trivial (fun hH23 => ?_)
  clear hK K
  try simp only [Act.put, List.setIfInBounds_toArray, List.set_cons_zero, List.set_cons_succ, List.getElem_toArray, List.getElem_cons_zero, List.getElem_cons_succ]
  refine wpAnyH_take (i := 12) (v := ?v24) rfl (by kernel_rfl) (by kernel_rfl) (by kernel_rfl) (fun _ _ _ h => h) (Or.inl ⟨by rfl, fun w hSw => ?y24⟩) hH23 ?r24
  case y24 => first | (go_simp; done) | (go_simp; with_reducible rfl)
  try simp only [Act.put, List.setIfInBounds_toArray, List.set_cons_zero, List.set_cons_succ, List.getElem_toArray, List.getElem_cons_zero, List.getElem_cons_succ]
  refine wpAnyH_done (by kernel_rfl) ?_ _
  go_wp2_with fail
  go_ret
  have e0 : w.drew.heap.size = w.heap.size := rfl
  have hlt := HST.out.2.1
  rw [alloc_size, alloc_size] at hlt
  have hbb : Below w.heap.size w wq := ((show Drawn w w.drew from ⟨1, rfl⟩).below _).trans ((alloc_below w.drew (.cells (madeCells #[Value.int .i64 0] n) 3)).trans ((alloc_below (w.drew.alloc (.cells (madeCells #[Value.int .i64 0] n) 3)) (.cells #[.int .i64 (-32769)] 3)).mono (by rw [alloc_size]; exact Nat.le_succ _) |>.trans (HST.out.1.mono (by rw [alloc_size, alloc_size]; omega))))
  have hg : RowZ wq (w.heap.size + 1 + 1) L (-32769) := by
    have h1 := rowZ_rep HST.out
    rw [alloc_size, alloc_size] at h1
    exact h1
  have hh : RowZ wq (w.heap.size) n 0 := by
    have h1 := ((rowZ_made w.drew n).below (alloc_below _ (.cells #[.int .i64 (-32769)] 3))).below HST.out.1
    exact h1
  have hd : wq.heap.size = wq.heap.size := rfl
  exact ⟨⟨xs, p, cap, w.heap.size, wq.heap.size, w.heap.size + 1 + 1, w.heap.size, m⟩, rfl, rfl, rfl, fi_new (wq.heap.size) hd hbb HLL.out hg hh (by omega) (by omega) (by omega) HR.out HX.out hn HC.out HC2.out hm15⟩
end Go.Proofs.Ytboknaakcbjkiaa.Lzt

/- The walk of BitsTurns: it returns true for any bytes and any count, and nothing that was there is written. -/
import Derived.Test.YtpphcooikhncfaaBitS
import Derived.Deep.RegionHeld3
namespace Go.Proofs.Ytpphcooikhncfaa.Bit
open Go.RowKit Go.Proofs.Ytpphcooikhncfaa.Oct
set_option linter.unusedVariables false
set_option linter.unusedSimpArgs false

theorem rev_rev (xs : List UInt8) : (xs.map revB).map revB = xs := by
  rw [List.map_map]
  conv => rhs; rw [← List.map_id xs]
  exact List.map_congr_left fun c _ => revB_revB c
theorem readA_le' (n : Int) (len at_ : Nat) (h : at_ ≤ len) : readA n len at_ ≤ len := by
  unfold readA
  by_cases ho : okR n len at_ = true
  · rw [if_pos ho]
    unfold okR cntB at ho
    simp at ho
    omega
  · rw [if_neg ho]; exact h
def TrnR (W : World) (gx : Nat) (xs : List UInt8) (wr : World) : Prop := Below W.heap.size W wr ∧ Blk wr gx (xs.map revB)
set_option maxHeartbeats 2000000 in
set_option maxRecDepth 100000 in
theorem turns_walk (p : Option Addr) (len cap : Nat) (zs0 : List Int) (n : Int) (w : World) (hr0 : IsRow .u8 w p len cap zs0) (hn : (Lit.int .i64 n).wf = true) :
    Calls Try.prog 6 #[.slice p len cap, .int .i64 n] w fun e w' => e = .returned (.bool true) ∧ Below w.heap.size w w' := by
  obtain ⟨xs, rfl, hr, hlc, hcm, hnil⟩ := hr0.row
  clear hr0 hn
  unfold maxLen at hcm
  by_cases hbig : 300 < xs.length
  · have hd : decide (300 < (xs.length : Int)) = true := by simp; omega
    go_enter Try.func6, Try.ntmps6
    go_wp2_with fail
    refine (lives_any _).mono ?_
    rintro e w1 ⟨rfl, hb1⟩
    go_wp2_with fail
    refine (lives_any _).mono ?_
    rintro e w2 ⟨rfl, hb2⟩
    go_wp2_with fail
    go_ret
    exact ⟨rfl, hb1.trans (hb2.mono hb1.size)⟩
  · have hd : decide (300 < (xs.length : Int)) = false := by simp; omega
    go_enter Try.func6, Try.ntmps6
    go_wp2_with fail
    refine (lives_any _).mono ?_
    rintro e w1 ⟨rfl, hb1⟩
    have hz1 := hb1.size
    go_wp2_with fail
    refine (reverseAll_any _ _ _ xs _ (hr.below hb1) rfl (by omega)).mono ?_
    rintro e w2 ⟨hb2, rfl, hB2⟩
    obtain ⟨gx, hgx⟩ : ∃ gx, gx = w1.heap.size := ⟨_, rfl⟩
    rw [← hgx] at hB2 ⊢
    have hz2 := hb2.size
    have hgx1 : w.heap.size ≤ gx := by omega
    have hgx2 := hB2.lt
    have hbw2 : Below w.heap.size w w2 := hb1.trans (hb2.mono hz1)
    clear hgx hb1 hb2 hnil
    have hrowx := hB2.row
    have hrb := hr.below hbw2
    have cvb := conv_row (w := w2.drew) xs.length cap (by exact hrb) rfl
    have hml : (xs.map revB).length = xs.length := by simp
    have HML := Lib.hid hml
    have HRX := Lib.hid hrowx
    have HRB := Lib.hid (show Row w2.drew p xs from hrb)
    clear hml hrowx hrb
    have hc1 : Calls Try.prog 30 #[.slice (some ⟨gx, 0, none⟩) xs.length xs.length] w2.drew (RevP w2.drew (xs.map revB) xs.length) := reverseAll_any _ _ _ _ _ (by exact HRX.out) HML.out (by omega)
    have HC1 := Lib.hid hc1
    clear hc1
    go_wp2_with fail
    refine wp_region_held_drew (S := fun w' => (convert 22 9 (.slice p xs.length cap)).run Try.prog w' = .ok (.string (bs xs)) w') (by kernel_rfl) cvb (fun hHeld => ?_)
    refine wpAnyH_take (i := 0) (v := ?v1) rfl (by kernel_rfl) (by kernel_rfl) (by kernel_rfl) (fun _ _ _ h => h) (Or.inl ⟨by rfl, fun w hSw => ?y1⟩) hHeld ?r1
    case y1 => (try dsimp only at hSw); first | (go_simp; done) | (go_simp; with_reducible rfl)
    try simp only [Act.put, List.setIfInBounds_toArray, List.set_cons_zero, List.set_cons_succ, List.getElem_toArray, List.getElem_cons_zero, List.getElem_cons_succ]
    refine wpAnyH_take (i := 1) (v := ?v2) rfl (by kernel_rfl) (by kernel_rfl) (by kernel_rfl) (fun _ _ _ h => h) (Or.inl ⟨by rfl, fun w hSw => ?y2⟩) hHeld ?r2
    case y2 => (try dsimp only at hSw); first | (go_simp; done) | (go_simp; with_reducible rfl)
    try simp only [Act.put, List.setIfInBounds_toArray, List.set_cons_zero, List.set_cons_succ, List.getElem_toArray, List.getElem_cons_zero, List.getElem_cons_succ]
    refine wpAnyH_take (i := 2) (v := ?v3) rfl (by kernel_rfl) (by kernel_rfl) (by kernel_rfl) (fun _ _ _ h => h) (Or.inl ⟨by rfl, fun w hSw => ?y3⟩) hHeld ?r3
    case y3 => (try dsimp only at hSw); first | (go_simp; done) | (go_simp; with_reducible rfl)
    try simp only [Act.put, List.setIfInBounds_toArray, List.set_cons_zero, List.set_cons_succ, List.getElem_toArray, List.getElem_cons_zero, List.getElem_cons_succ]
    refine wpAnyH_take (i := 3) (v := ?v4) rfl (by kernel_rfl) (by kernel_rfl) (by kernel_rfl) (fun _ _ _ h => h) (Or.inl ⟨by rfl, fun w hSw => ?y4⟩) hHeld ?r4
    case y4 => (try dsimp only at hSw); first | (go_simp; done) | (go_simp; with_reducible rfl)
    try simp only [Act.put, List.setIfInBounds_toArray, List.set_cons_zero, List.set_cons_succ, List.getElem_toArray, List.getElem_cons_zero, List.getElem_cons_succ]
    refine wpAnyH_take (i := 4) (v := ?v5) rfl (by kernel_rfl) (by kernel_rfl) (by kernel_rfl) (fun _ _ _ h => h) (Or.inl ⟨by rfl, fun w hSw => ?y5⟩) hHeld ?r5
    case y5 => (try dsimp only at hSw); first | (go_simp; done) | (go_simp; with_reducible rfl)
    try simp only [Act.put, List.setIfInBounds_toArray, List.set_cons_zero, List.set_cons_succ, List.getElem_toArray, List.getElem_cons_zero, List.getElem_cons_succ]
    refine wpAnyH_take (i := 5) (v := ?v6) rfl (by kernel_rfl) (by kernel_rfl) (by kernel_rfl) (fun _ _ _ h => h) (Or.inl ⟨by rfl, fun w hSw => ?y6⟩) hHeld ?r6
    case y6 => (try dsimp only at hSw); first | (go_simp; done) | (go_simp; with_reducible rfl)
    try simp only [Act.put, List.setIfInBounds_toArray, List.set_cons_zero, List.set_cons_succ, List.getElem_toArray, List.getElem_cons_zero, List.getElem_cons_succ]
    refine wpAnyH_take (i := 6) (v := ?v7) rfl (by kernel_rfl) (by kernel_rfl) (by kernel_rfl) (fun _ _ _ h => h) (Or.inl ⟨by rfl, fun w hSw => ?y7⟩) hHeld ?r7
    case y7 => (try dsimp only at hSw); first | (go_simp; done) | (go_simp; with_reducible rfl)
    try simp only [Act.put, List.setIfInBounds_toArray, List.set_cons_zero, List.set_cons_succ, List.getElem_toArray, List.getElem_cons_zero, List.getElem_cons_succ]
    refine wpAnyH_take (i := 9) (v := ?v8) rfl (by kernel_rfl) (by kernel_rfl) (by kernel_rfl) (fun _ _ _ h => h) (Or.inl ⟨by rfl, fun w hSw => ?y8⟩) hHeld ?r8
    case y8 => (try dsimp only at hSw); first | (go_simp; done) | (go_simp; with_reducible rfl)
    try simp only [Act.put, List.setIfInBounds_toArray, List.set_cons_zero, List.set_cons_succ, List.getElem_toArray, List.getElem_cons_zero, List.getElem_cons_succ]
    refine wpAnyH_take (i := 10) (v := ?v9) rfl (by kernel_rfl) (by kernel_rfl) (by kernel_rfl) (fun _ _ _ h => h) (Or.inl ⟨by rfl, fun w hSw => ?y9⟩) hHeld ?r9
    case y9 => (try dsimp only at hSw); first | (go_simp; done) | (go_simp; with_reducible rfl)
    try simp only [Act.put, List.setIfInBounds_toArray, List.set_cons_zero, List.set_cons_succ, List.getElem_toArray, List.getElem_cons_zero, List.getElem_cons_succ]
    refine wpAnyH_ready (rs := [7]) (by kernel_rfl) (by simp) ?_
    refine AllReadyH.cons rfl (fun K hK => ?_) AllReadyH.nil
    go_simp
    refine HC1.out.mono ?_
    rintro e w3 ⟨hb3, rfl, hB3⟩
    rw [rev_rev] at hB3
    have cv3 := conv_row xs.length xs.length (show Row w3 (some ⟨w2.heap.size, 0, none⟩) xs from hB3.row) rfl
    have cvb3 := conv_row xs.length cap (HRB.out.below hb3) rfl
    go_wp2_with fail
    refine hK.out _ _ cvb3 (fun hHeld3 => ?_)
    clear hK K
    try simp only [Act.put, List.setIfInBounds_toArray, List.set_cons_zero, List.set_cons_succ, List.getElem_toArray, List.getElem_cons_zero, List.getElem_cons_succ]
    refine wpAnyH_ready (rs := [8]) (by kernel_rfl) (by simp) ?_
    refine AllReadyH.cons rfl (fun K hK => ?_) AllReadyH.nil
    go_simp
    refine hK.out _ _ cvb3 (fun hHeld4 => ?_)
    clear hK K
    try simp only [Act.put, List.setIfInBounds_toArray, List.set_cons_zero, List.set_cons_succ, List.getElem_toArray, List.getElem_cons_zero, List.getElem_cons_succ]
    refine wpAnyH_take (i := 11) (v := ?v10) rfl (by kernel_rfl) (by kernel_rfl) (by kernel_rfl) (fun _ _ _ h => h) (Or.inl ⟨by rfl, fun w hSw => ?y10⟩) hHeld3 ?r10
    case y10 => (try dsimp only at hSw); first | (go_simp; done) | (go_simp; with_reducible rfl)
    try simp only [Act.put, List.setIfInBounds_toArray, List.set_cons_zero, List.set_cons_succ, List.getElem_toArray, List.getElem_cons_zero, List.getElem_cons_succ]
    refine wpAnyH_take (i := 12) (v := ?v11) rfl (by kernel_rfl) (by kernel_rfl) (by kernel_rfl) (fun _ _ _ h => h) (Or.inl ⟨by rfl, fun w hSw => ?y11⟩) hHeld3 ?r11
    case y11 => (try dsimp only at hSw); first | (go_simp; done) | (go_simp; with_reducible rfl)
    try simp only [Act.put, List.setIfInBounds_toArray, List.set_cons_zero, List.set_cons_succ, List.getElem_toArray, List.getElem_cons_zero, List.getElem_cons_succ]
    refine wpAnyH_done (by kernel_rfl) ?_ _
    have hbx : Below w.heap.size w w3 := hbw2.trans ((Only.drawn (fun _ => False) ⟨1, rfl⟩ : Only (fun _ => False) w2 w2.drew).below (by omega) (fun _ _ h => h) |>.trans (hb3.mono (by show w.heap.size ≤ w2.heap.size; omega)))
    have hBx : Blk w3 gx (xs.map revB) := Blk.below (w := w2.drew) hB2 hb3 (by exact hgx2)
    clear cv3 cvb3 hHeld hHeld3 hHeld4 cvb HC1 hB3 hb3 HRX HRB hB2
    go_wp2_with fail
    go_loopw [6, 7, 40] (fun u v c wr => ∃ j : Nat, j ≤ xs.length ∧ c = .int .i64 (j : Int) ∧ TrnR w gx xs wr) (fun _ _ c _ => xs.length - (intOf c).toNat)
    case atStart => exact ⟨0, by omega, rfl, hbx, hBx⟩
    case round =>
      obtain ⟨j, hj, rfl, hT⟩ := hrel
      obtain ⟨hB, hX⟩ := hT
      by_cases hlt : j < xs.length
      · obtain ⟨b, off, hpe, hbl, hcs⟩ := hr (by omega)
        subst hpe
        have hcb := (hB.cell (p := ⟨b, off + j, none⟩) hbl).trans (hcs j hlt)
        have hcx := hX.cell j (by simpa using hlt)
        rw [List.getElem_map] at hcx
        generalize xs[j] = x at hcb hcx
        have hx1 : x.toNat < 256 := x.toNat_lt
        have hx2 : (revB x).toNat < 256 := (revB x).toNat_lt
        clear hcs
        have hwv : word (revB x).toNat 8 = (word x.toNat 8).reverse := word_revB x
        have HWV := Lib.hid hwv
        clear hwv
        have hu1 : IntKind.u32.wrap (((revB x).toNat : Nat) : Int) = (((revB x).toNat : Nat) : Int) := by rw [IntKind.wrap_u32]; omega
        have hu2 : IntKind.u32.wrap ((x.toNat : Nat) : Int) = ((x.toNat : Nat) : Int) := by rw [IntKind.wrap_u32]; omega
        have hu3 : (((revB x).toNat : Nat) : Int) % 4294967296 = (((revB x).toNat : Nat) : Int) := by omega
        have hu4 : ((x.toNat : Nat) : Int) % 4294967296 = ((x.toNat : Nat) : Int) := by omega
        have hv1 : (revB x).toNat < 4294967296 := by omega
        have hv2 : x.toNat < 4294967296 := by omega
        have hwc : ∀ (v : Nat) (w' : World), v < 4294967296 → Calls Try.prog 31 #[.int .u32 (v : Int), .int .i64 8] w' fun e w'' => e = .returned (.string (ds (word v 8))) ∧ Below w'.heap.size w' w'' := fun v w' hv => rword_any v 8 w' (by omega) hv
        have HWC := Lib.hid hwc
        clear hwc
        go_wp2_with fail
        have hdr : wr.drew.cell? ⟨gx, j, none⟩ = some (.int .u8 ((revB x).toNat : Int)) := hcx
        have hlx := hX.lt
        refine wp_region_held_drew (S := fun w' => w'.cell? ⟨gx, j, none⟩ = some (.int .u8 ((revB x).toNat : Int))) (by kernel_rfl) hdr (fun hHeld => ?_)
        refine wpAnyH_take (i := 0) (v := ?v12) rfl (by kernel_rfl) (by kernel_rfl) (by kernel_rfl) (fun _ _ _ h => h) (Or.inl ⟨by rfl, fun w hSw => ?y12⟩) hHeld ?r12
        case y12 => (try dsimp only at hSw); first | (go_simp; done) | (go_simp; with_reducible rfl)
        try simp only [Act.put, List.setIfInBounds_toArray, List.set_cons_zero, List.set_cons_succ, List.getElem_toArray, List.getElem_cons_zero, List.getElem_cons_succ]
        refine wpAnyH_take (i := 1) (v := ?v13) rfl (by kernel_rfl) (by kernel_rfl) (by kernel_rfl) (fun _ _ _ h => h) (Or.inl ⟨by rfl, fun w hSw => ?y13⟩) hHeld ?r13
        case y13 => (try dsimp only at hSw); first | (go_simp; done) | (go_simp; with_reducible rfl)
        try simp only [Act.put, List.setIfInBounds_toArray, List.set_cons_zero, List.set_cons_succ, List.getElem_toArray, List.getElem_cons_zero, List.getElem_cons_succ]
        refine wpAnyH_take (i := 2) (v := ?v14) rfl (by kernel_rfl) (by kernel_rfl) (by kernel_rfl) (fun _ _ _ h => h) (Or.inl ⟨by rfl, fun w hSw => ?y14⟩) hHeld ?r14
        case y14 => (try dsimp only at hSw); first | (go_simp; done) | (go_simp; with_reducible rfl)
        try simp only [Act.put, List.setIfInBounds_toArray, List.set_cons_zero, List.set_cons_succ, List.getElem_toArray, List.getElem_cons_zero, List.getElem_cons_succ]
        refine wpAnyH_take (i := 3) (v := ?v15) rfl (by kernel_rfl) (by kernel_rfl) (by kernel_rfl) (fun _ _ _ h => h) (Or.inl ⟨by rfl, fun w hSw => ?y15⟩) hHeld ?r15
        case y15 => (try dsimp only at hSw); first | (go_simp; done) | (go_simp; with_reducible rfl)
        try simp only [Act.put, List.setIfInBounds_toArray, List.set_cons_zero, List.set_cons_succ, List.getElem_toArray, List.getElem_cons_zero, List.getElem_cons_succ]
        refine wpAnyH_take (i := 4) (v := ?v16) rfl (by kernel_rfl) (by kernel_rfl) (by kernel_rfl) (fun _ _ _ h => h) (Or.inl ⟨by rfl, fun w hSw => ?y16⟩) hHeld ?r16
        case y16 => (try dsimp only at hSw); first | (go_simp; done) | (go_simp; with_reducible rfl)
        try simp only [Act.put, List.setIfInBounds_toArray, List.set_cons_zero, List.set_cons_succ, List.getElem_toArray, List.getElem_cons_zero, List.getElem_cons_succ]
        refine wpAnyH_ready (rs := [5]) (by kernel_rfl) (by simp) ?_
        refine AllReadyH.cons rfl (fun K hK => ?_) AllReadyH.nil
        go_simp
        refine (reverse_any _ _).mono ?_
        rintro e w' ⟨rfl, rfl⟩
        go_wp2_with fail
        refine hK.out _ _ hHeld (fun hHeld1 => ?_)
        clear hK K
        try simp only [Act.put, List.setIfInBounds_toArray, List.set_cons_zero, List.set_cons_succ, List.getElem_toArray, List.getElem_cons_zero, List.getElem_cons_succ]
        refine wpAnyH_take (i := 6) (v := ?v17) rfl (by kernel_rfl) (by kernel_rfl) (by kernel_rfl) (fun _ _ _ h => h) (Or.inl ⟨by rfl, fun w hSw => ?y17⟩) hHeld ?r17
        case y17 => (try dsimp only at hSw); first | (go_simp; done) | (go_simp; with_reducible rfl)
        try simp only [Act.put, List.setIfInBounds_toArray, List.set_cons_zero, List.set_cons_succ, List.getElem_toArray, List.getElem_cons_zero, List.getElem_cons_succ]
        refine wpAnyH_take (i := 7) (v := ?v18) rfl (by kernel_rfl) (by kernel_rfl) (by kernel_rfl) (fun _ _ _ h => h) (Or.inl ⟨by rfl, fun w hSw => ?y18⟩) hHeld ?r18
        case y18 => (try dsimp only at hSw); first | (go_simp; done) | (go_simp; with_reducible rfl)
        try simp only [Act.put, List.setIfInBounds_toArray, List.set_cons_zero, List.set_cons_succ, List.getElem_toArray, List.getElem_cons_zero, List.getElem_cons_succ]
        refine wpAnyH_take (i := 8) (v := ?v19) rfl (by kernel_rfl) (by kernel_rfl) (by kernel_rfl) (fun _ _ _ h => h) (Or.inl ⟨by rfl, fun w hSw => ?y19⟩) hHeld ?r19
        case y19 => (try dsimp only at hSw); first | (go_simp; done) | (go_simp; with_reducible rfl)
        try simp only [Act.put, List.setIfInBounds_toArray, List.set_cons_zero, List.set_cons_succ, List.getElem_toArray, List.getElem_cons_zero, List.getElem_cons_succ]
        refine wpAnyH_take (i := 9) (v := ?v20) rfl (by kernel_rfl) (by kernel_rfl) (by kernel_rfl) (fun _ _ _ h => h) (Or.inl ⟨by rfl, fun w hSw => ?y20⟩) hHeld ?r20
        case y20 => (try dsimp only at hSw); first | (go_simp; done) | (go_simp; with_reducible rfl)
        try simp only [Act.put, List.setIfInBounds_toArray, List.set_cons_zero, List.set_cons_succ, List.getElem_toArray, List.getElem_cons_zero, List.getElem_cons_succ]
        refine wpAnyH_take (i := 10) (v := ?v21) rfl (by kernel_rfl) (by kernel_rfl) (by kernel_rfl) (fun _ _ _ h => h) (Or.inl ⟨by rfl, fun w hSw => ?y21⟩) hHeld ?r21
        case y21 => (try dsimp only at hSw); first | (go_simp; done) | (go_simp; with_reducible rfl)
        try simp only [Act.put, List.setIfInBounds_toArray, List.set_cons_zero, List.set_cons_succ, List.getElem_toArray, List.getElem_cons_zero, List.getElem_cons_succ]
        refine wpAnyH_take (i := 11) (v := ?v22) rfl (by kernel_rfl) (by kernel_rfl) (by kernel_rfl) (fun _ _ _ h => h) (Or.inl ⟨by rfl, fun w hSw => ?y22⟩) hHeld ?r22
        case y22 => (try dsimp only at hSw); first | (go_simp; done) | (go_simp; with_reducible rfl)
        try simp only [Act.put, List.setIfInBounds_toArray, List.set_cons_zero, List.set_cons_succ, List.getElem_toArray, List.getElem_cons_zero, List.getElem_cons_succ]
        refine wpAnyH_take (i := 12) (v := ?v23) rfl (by kernel_rfl) (by kernel_rfl) (by kernel_rfl) (fun _ _ _ h => h) (Or.inl ⟨by rfl, fun w hSw => ?y23⟩) hHeld ?r23
        case y23 => (try dsimp only at hSw); first | (go_simp; done) | (go_simp; with_reducible rfl)
        try simp only [Act.put, List.setIfInBounds_toArray, List.set_cons_zero, List.set_cons_succ, List.getElem_toArray, List.getElem_cons_zero, List.getElem_cons_succ]
        refine wpAnyH_take (i := 14) (v := ?v24) rfl (by kernel_rfl) (by kernel_rfl) (by kernel_rfl) (fun _ _ _ h => h) (Or.inl ⟨by rfl, fun w hSw => ?y24⟩) hHeld ?r24
        case y24 => (try dsimp only at hSw); first | (go_simp; done) | (go_simp; with_reducible rfl)
        try simp only [Act.put, List.setIfInBounds_toArray, List.set_cons_zero, List.set_cons_succ, List.getElem_toArray, List.getElem_cons_zero, List.getElem_cons_succ]
        refine wpAnyH_take (i := 15) (v := ?v25) rfl (by kernel_rfl) (by kernel_rfl) (by kernel_rfl) (fun _ _ _ h => h) (Or.inl ⟨by rfl, fun w hSw => ?y25⟩) hHeld ?r25
        case y25 => (try dsimp only at hSw); first | (go_simp; done) | (go_simp; with_reducible rfl)
        try simp only [Act.put, List.setIfInBounds_toArray, List.set_cons_zero, List.set_cons_succ, List.getElem_toArray, List.getElem_cons_zero, List.getElem_cons_succ]
        refine wpAnyH_ready (rs := [13]) (by kernel_rfl) (by simp) ?_
        refine AllReadyH.cons rfl (fun K hK => ?_) AllReadyH.nil
        go_simp
        refine (HWC.out _ _ hv1).mono ?_
        rintro e w8 ⟨rfl, hb8⟩
        have hS8 := (hb8.cell (p := ⟨gx, j, none⟩) (by exact hlx)).trans hHeld
        have hz8 : wr.heap.size ≤ w8.heap.size := hb8.size
        go_wp2_with fail
        refine hK.out _ _ hS8 (fun hHeld2 => ?_)
        clear hK K
        try simp only [Act.put, List.setIfInBounds_toArray, List.set_cons_zero, List.set_cons_succ, List.getElem_toArray, List.getElem_cons_zero, List.getElem_cons_succ]
        refine wpAnyH_ready (rs := [16]) (by kernel_rfl) (by simp) ?_
        refine AllReadyH.cons rfl (fun K hK => ?_) AllReadyH.nil
        go_simp
        refine (HWC.out _ _ hv2).mono ?_
        rintro e w9 ⟨rfl, hb9⟩
        have hS9 := (hb9.cell (p := ⟨gx, j, none⟩) (by show gx < w8.heap.size; omega)).trans hS8
        go_wp2_with fail
        refine hK.out _ _ hS9 (fun hHeld3 => ?_)
        clear hK K
        try simp only [Act.put, List.setIfInBounds_toArray, List.set_cons_zero, List.set_cons_succ, List.getElem_toArray, List.getElem_cons_zero, List.getElem_cons_succ]
        refine wpAnyH_ready (rs := [17]) (by kernel_rfl) (by simp) ?_
        refine AllReadyH.cons rfl (fun K hK => ?_) AllReadyH.nil
        go_simp
        refine (dturn_any _ _ (by rw [word_length]; omega)).mono ?_
        rintro e w' ⟨rfl, rfl⟩
        rw [← HWV.out]
        go_wp2_with fail
        refine hK.out _ _ hS9 (fun hHeld4 => ?_)
        clear hK K
        try simp only [Act.put, List.setIfInBounds_toArray, List.set_cons_zero, List.set_cons_succ, List.getElem_toArray, List.getElem_cons_zero, List.getElem_cons_succ]
        refine wpAnyH_take (i := 18) (v := ?v26) rfl (by kernel_rfl) (by kernel_rfl) (by kernel_rfl) (fun _ _ _ h => h) (Or.inl ⟨by rfl, fun w hSw => ?y26⟩) hS9 ?r26
        case y26 => (try dsimp only at hSw); first | (go_simp; done) | (go_simp; with_reducible rfl)
        try simp only [Act.put, List.setIfInBounds_toArray, List.set_cons_zero, List.set_cons_succ, List.getElem_toArray, List.getElem_cons_zero, List.getElem_cons_succ]
        refine wpAnyH_take (i := 19) (v := ?v27) rfl (by kernel_rfl) (by kernel_rfl) (by kernel_rfl) (fun _ _ _ h => h) (Or.inl ⟨by rfl, fun w hSw => ?y27⟩) hS9 ?r27
        case y27 => (try dsimp only at hSw); first | (go_simp; done) | (go_simp; with_reducible rfl)
        try simp only [Act.put, List.setIfInBounds_toArray, List.set_cons_zero, List.set_cons_succ, List.getElem_toArray, List.getElem_cons_zero, List.getElem_cons_succ]
        refine wpAnyH_done (by kernel_rfl) ?_ _
        go_wp2_with fail
        go_roundw
        case rel =>
          have hdw : Below wr.heap.size wr wr.drew := (Only.drawn (fun _ => False) ⟨1, rfl⟩ : Only (fun _ => False) wr wr.drew).below (Nat.le_refl _) (fun _ _ h => h)
          have h98 : Below wr.heap.size wr w9 := (hdw.trans hb8).trans (hb9.mono hz8)
          exact ⟨j + 1, by omega, by go_num, hB.trans (h98.mono hB.size), hX.below h98 hlx⟩
        case measure => simp [intOf]; omega
      · have hsn : bs [] = ByteArray.mk #[] := rfl
        have h49 : bs [49] = ByteArray.mk #[49] := rfl
        have h120 : bs [120] = ByteArray.mk #[120] := rfl
        have hrd := fun w' : World => rread_any [] 0 n false w' (Nat.le_refl _) (by simp)
        have hw1 := fun w' : World => word_nil [49] w' (by simp)
        have hw2 := fun w' : World => word_nil [120] w' (by simp)
        have hE1 : (if wordB [49] then (1 : Int) else 3) = 1 := by decide
        have hE2 : (if wordB [120] then (1 : Int) else 3) = 3 := by decide
        rw [hE1] at hw1
        rw [hE2] at hw2
        have hA0 : (readA n ([] : List Bool).length 0 : Nat) = 0 := by
          have := readA_le' n 0 0 (Nat.le_refl _)
          simp only [List.length_nil]
          omega
        have hV0 : readE n ([] : List Bool).length 0 = readE n 0 0 := rfl
        have HRD := Lib.hid hrd
        have HW1 := Lib.hid hw1
        have HW2 := Lib.hid hw2
        have HA0 := Lib.hid hA0
        have HV0 := Lib.hid hV0
        clear hrd hw1 hw2 hA0 hV0 hE1 hE2 hsn h49 h120
        go_wp2_with fail
        refine (ralign_nil _).mono ?_
        rintro e w' ⟨rfl, rfl⟩
        go_wp2_with fail
        refine (walign_nil _).mono ?_
        rintro e w' ⟨rfl, rfl⟩
        go_wp2_with fail
        refine (read_nil _ _).mono ?_
        rintro e w' ⟨rfl, rfl⟩
        go_wp2_with fail
        refine (HRD.out _).mono ?_
        rintro e w' ⟨rfl, rfl⟩
        rw [HA0.out, HV0.out]
        generalize readE n 0 0 = er
        generalize rrV n false [] 0 = rv
        go_wp2_with fail
        refine (at_nil _).mono ?_
        rintro e w' ⟨rfl, rfl⟩
        go_wp2_with fail
        refine (left_nil _).mono ?_
        rintro e w' ⟨rfl, rfl⟩
        go_wp2_with fail
        refine (len_nil _).mono ?_
        rintro e w' ⟨rfl, rfl⟩
        go_wp2_with fail
        refine (bytes_nil _).mono ?_
        rintro e w' ⟨rfl, rfl⟩
        go_wp2_with fail
        refine (write_nil _).mono ?_
        rintro e w' ⟨rfl, rfl⟩
        go_wp2_with fail
        refine (HW1.out _).mono ?_
        rintro e w' ⟨rfl, rfl⟩
        go_wp2_with fail
        refine (HW2.out _).mono ?_
        rintro e w' ⟨rfl, rfl⟩
        go_wp2_with fail
        go_ret
        exact ⟨rfl, hB⟩
end Go.Proofs.Ytpphcooikhncfaa.Bit

/- DfJ: merged. -/
import Derived.Test.YtkkfkmoikcmhoaaGreatAay
import Derived.Test.YtkkfkmoikcmhoaaGreatAbb
set_option linter.unusedVariables false
set_option linter.unusedSimpArgs false
namespace Go.Proofs.YtkkfkmoikcmhoaaGreat.Df
open Go.RowKit Oct Bit Hf Inf
set_option maxRecDepth 100000
structure Cnt (w wr : World) (E0 : Ke) (v : Value) (l : List Bool) (b1 b2 : Nat) (c : List Nat × List Nat) : Prop where
 en : En wr E0 v l
 bel : Below w.heap.size w wr
 n1 : NRow wr b1 c.1
 n2 : NRow wr b2 c.2
 ne : b1 ≠ b2
 h1 : w.heap.size ≤ b1
 h2 : w.heap.size ≤ b2
 ew : En w E0 v l
section
variable {w wr w2 : World} {E0 : Ke} {v : Value} {l : List Bool} {b1 b2 : Nat} {c c' : List Nat × List Nat}
theorem Cnt.below (h : Cnt w wr E0 v l b1 b2 c) (hb : Below wr.heap.size wr w2) : Cnt w w2 E0 v l b1 b2 c :=
 ⟨h.en.below hb, h.bel.trans (hb.mono h.bel.size), h.n1.below hb h.n1.lt, h.n2.below hb h.n2.lt, h.ne, h.h1, h.h2, h.ew⟩
theorem Cnt.set1 (h : Cnt w wr E0 v l b1 b2 c) (i x : Nat) : Cnt w (wr.setCell ⟨b1, i, none⟩ (.int .i64 (x : Int))) E0 v l b1 b2 (c.1.set i x, c.2) := by
 have hb := h.bel.setCell (p := ⟨b1, i, none⟩) h.h1 (.int .i64 (x : Int))
 exact ⟨h.ew.below hb, hb, h.n1.set i x, Y4p h.n2 h.ne _ _, h.ne, h.h1, h.h2, h.ew⟩
theorem Cnt.set2 (h : Cnt w wr E0 v l b1 b2 c) (i x : Nat) : Cnt w (wr.setCell ⟨b2, i, none⟩ (.int .i64 (x : Int))) E0 v l b1 b2 (c.1, c.2.set i x) := by
 have hb := h.bel.setCell (p := ⟨b2, i, none⟩) h.h2 (.int .i64 (x : Int))
 exact ⟨h.ew.below hb, hb, Y4p h.n1 (fun e => h.ne e.symm) _ _, h.n2.set i x, h.ne, h.h1, h.h2, h.ew⟩
end
theorem Yzm (s c : Nat) (h : c = 257 + s) (hc : c ≤ 1000) : IntKind.i64.wrap (257 + (s : Int)) = (c : Int) := (IntWalk.i64_in _ (by omega)).trans (by omega)
theorem Yvj (x y : Nat) (h : y = x + 1) (hy : y ≤ 1000000) : IntKind.i64.wrap ((x : Int) + 1) = (y : Int) := (IntWalk.i64_in _ (by omega)).trans (by omega)
theorem Ybw (W : World) (a b c : Value) : (Instr.field 166 (.agg #[a, b, c]) 0).run Tryz.prog W = .ok a W := by kernel_rfl
theorem cut3 {goal : Prop} (H G : Nat → Nat → World → Prop) (main : (∀ b1 b2 W, H b1 b2 W → G b1 b2 W) → goal) (key : ∀ b1 b2 W, H b1 b2 W → G b1 b2 W) : goal := main key
def Yn2 (w : World) (ts : List Lzt.Tok) (e : Ending) (w' : World) : Prop :=
 ∃ b1 b2, e = .returned (.tuple #[.slice (some ⟨b1, 0, none⟩) 286 286, .slice (some ⟨b2, 0, none⟩) 30 30]) ∧ Below w.heap.size w w' ∧ NRow w' b1 (Y5d ts).1 ∧ NRow w' b2 (Y5d ts).2 ∧ b1 ≠ b2 ∧ w.heap.size ≤ b1 ∧ w.heap.size ≤ b2
theorem Yw5 (w : World) (E0 : Ke) (v : Value) (l : List Bool) (h : En w E0 v l) : Cnt w ((w.alloc (.cells (madeCells #[Value.int .i64 0] 286) 3)).drew.alloc (.cells (madeCells #[Value.int .i64 0] 30) 3)) E0 v l w.heap.size (w.heap.size + 1) (List.replicate 286 0, List.replicate 30 0) := by
 have hd : Below w.heap.size w w.drew := (show Drawn w w.drew from ⟨1, rfl⟩).below _
 have hz : w.drew.heap.size = w.heap.size := rfl
 have h1 := Y5s w.drew 286
 have h2 := Y5s (w.drew.alloc (.cells (madeCells #[Value.int .i64 0] 286) 3)) 30
 have hz2 : (w.drew.alloc (.cells (madeCells #[Value.int .i64 0] 286) 3)).heap.size = w.heap.size + 1 := by simp [hz]
 rw [hz2] at h2
 have hb := (hd.alloc hd.size (.cells (madeCells #[Value.int .i64 0] 286) 3)).alloc (by rw [hz2]; omega) (.cells (madeCells #[Value.int .i64 0] 30) 3)
 exact ⟨h.below hb, hb, h1.below ((Below.refl _ _).alloc (Nat.le_refl _) _) h1.lt, h2, by omega, Nat.le_refl _, by omega, h⟩
theorem Ysj (w : World) (E0 : Ke) (v : Value) (l : List Bool) (h : En w E0 v l) : Cnt w ((w.alloc (.cells (madeCells #[Value.int .i64 0] 30) 3)).drew.alloc (.cells (madeCells #[Value.int .i64 0] 286) 3)) E0 v l (w.heap.size + 1) w.heap.size (List.replicate 286 0, List.replicate 30 0) := by
 have hd : Below w.heap.size w w.drew := (show Drawn w w.drew from ⟨1, rfl⟩).below _
 have hz : w.drew.heap.size = w.heap.size := rfl
 have h1 := Y5s w.drew 30
 have h2 := Y5s (w.drew.alloc (.cells (madeCells #[Value.int .i64 0] 30) 3)) 286
 have hz2 : (w.drew.alloc (.cells (madeCells #[Value.int .i64 0] 30) 3)).heap.size = w.heap.size + 1 := by simp [hz]
 rw [hz2] at h2
 have hb := (hd.alloc hd.size (.cells (madeCells #[Value.int .i64 0] 30) 3)).alloc (by rw [hz2]; omega) (.cells (madeCells #[Value.int .i64 0] 286) 3)
 exact ⟨h.below hb, hb, h2, h1.below ((Below.refl _ _).alloc (Nat.le_refl _) _) h1.lt, by omega, by omega, Nat.le_refl _, h⟩
theorem Cnt.c1 {w wr : World} {E0 : Ke} {v : Value} {l : List Bool} {b1 b2 : Nat} {c : List Nat × List Nat} (h : Cnt w wr E0 v l b1 b2 c) (i : Nat) (hi : i < c.1.length) : wr.cell? ⟨b1, i, none⟩ = some (.int .i64 ((c.1.getD i 0 : Nat) : Int)) := h.n1.cell i hi
theorem Cnt.c2 {w wr : World} {E0 : Ke} {v : Value} {l : List Bool} {b1 b2 : Nat} {c : List Nat × List Nat} (h : Cnt w wr E0 v l b1 b2 c) (i : Nat) (hi : i < c.2.length) : wr.cell? ⟨b2, i, none⟩ = some (.int .i64 ((c.2.getD i 0 : Nat) : Int)) := h.n2.cell i hi
set_option maxHeartbeats 1500000 in
theorem Y30 (w : World) (E0 : Ke) (v : Value) (l : List Bool) (FT : Nat → Prop) (p : Option Addr) (n cap : Nat) (ts : List Lzt.Tok) (h : En w E0 v l)
  (hT : Foot FT (fun w' => Lzt.Toks w' w'.heap.size p ts) w) (hx : ts.length = n) (hn : n ≤ 100000) (hfit : ∀ t ∈ ts, Y58 t) :
  Calls Tryz.prog 81 #[.pointer (some ⟨E0.e, 0, none⟩), .slice p n cap] w (Yn2 w ts) := by
 have hmk1 : ∀ W : World, (Instr.makeSlice 74 (.int .i64 286) (.int .i64 286)).run Tryz.prog W = .ok (.slice (some ⟨W.heap.size, 0, none⟩) 286 286) (W.alloc (.cells (madeCells #[Value.int .i64 0] 286) 3)) :=
  run_make_row' 74 3 (.int .i64 0) 8 Tryz.underlying74 Tryz.infoInt4 rfl .i64 .i64 286 (by omega) (by omega)
 have hmk2 : ∀ W : World, (Instr.makeSlice 74 (.int .i64 30) (.int .i64 30)).run Tryz.prog W = .ok (.slice (some ⟨W.heap.size, 0, none⟩) 30 30) (W.alloc (.cells (madeCells #[Value.int .i64 0] 30) 3)) :=
  run_make_row' 74 3 (.int .i64 0) 8 Tryz.underlying74 Tryz.infoInt4 rfl .i64 .i64 30 (by omega) (by omega)
 have HMK1 := Lib.hid hmk1
 have HMK2 := Lib.hid hmk2
 have HT := Lib.hid hT
 have HX := Lib.hid hx
 have HFIT := Lib.hid hfit
 have H := Lib.hid h
 clear h hT hx hfit hmk1 hmk2
 go_enter Tryz.func81, Tryz.ntmps81
 go_wp2_with fail
 apply cut3 (H := fun b1 b2 W => Hid (Cnt w W E0 v l b1 b2 (List.replicate 286 0, List.replicate 30 0)))
 case main =>
  intro KEY
  refine wp_region_held_drew (S := fun _ => True) (by kernel_rfl) trivial (fun hH0 => ?_)
  refine wpAnyH_ready (rs := [0, 1]) (by kernel_rfl) (by simp) ?_
  refine AllReadyH.cons rfl (fun K hK => ?_) ?_
  ·go_simp
   rw [HMK1.out]
   simp only [Result.andThen_ok, Oper.upon]
   refine hK.out _ _ trivial (fun hH1 => ?_)
   clear hK K
   try simp only [Act.put, List.setIfInBounds_toArray, List.set_cons_zero, List.set_cons_succ, List.getElem_toArray, List.getElem_cons_zero, List.getElem_cons_succ]
   refine wpAnyH_take (i := 2) (v := ?v1) rfl (by kernel_rfl) (by kernel_rfl) (by kernel_rfl) (fun _ _ _ h => h) (Or.inl ⟨by rfl, fun w hSw => ?y1⟩) hH1 ?r1
   case y1 => (try dsimp only at hSw); first | (go_simp; done) | (go_simp; with_reducible rfl)
   try simp only [Act.put, List.setIfInBounds_toArray, List.set_cons_zero, List.set_cons_succ, List.getElem_toArray, List.getElem_cons_zero, List.getElem_cons_succ]
   refine wpAnyH_ready (rs := [1]) (by kernel_rfl) (by simp) ?_
   refine AllReadyH.cons rfl (fun K hK => ?_) AllReadyH.nil
   go_simp
   rw [HMK2.out]
   simp only [Result.andThen_ok, Oper.upon]
   refine hK.out _ _ trivial (fun hH2 => ?_)
   clear hK K
   try simp only [Act.put, List.setIfInBounds_toArray, List.set_cons_zero, List.set_cons_succ, List.getElem_toArray, List.getElem_cons_zero, List.getElem_cons_succ]
   refine wpAnyH_take (i := 3) (v := ?v2) rfl (by kernel_rfl) (by kernel_rfl) (by kernel_rfl) (fun _ _ _ h => h) (Or.inl ⟨by rfl, fun w hSw => ?y2⟩) hH2 ?r2
   case y2 => (try dsimp only at hSw); first | (go_simp; done) | (go_simp; with_reducible rfl)
   try simp only [Act.put, List.setIfInBounds_toArray, List.set_cons_zero, List.set_cons_succ, List.getElem_toArray, List.getElem_cons_zero, List.getElem_cons_succ]
   refine wpAnyH_done (by kernel_rfl) ?_ _
   have HC00 := Lib.hid (Yw5 w E0 v l H.out)
   try rw [show w.drew.heap.size = w.heap.size from rfl]
   try rw [show (w.alloc (.cells (madeCells #[Value.int .i64 0] 286) 3)).drew.heap.size = w.heap.size + 1 from by show (w.alloc (.cells (madeCells #[Value.int .i64 0] 286) 3)).heap.size = _; simp]
   try rw [show (w.alloc (.cells (madeCells #[Value.int .i64 0] 30) 3)).drew.heap.size = w.heap.size + 1 from by show (w.alloc (.cells (madeCells #[Value.int .i64 0] 30) 3)).heap.size = _; simp]
   try rw [show (w.drew.alloc (.cells (madeCells #[Value.int .i64 0] 286) 3)).heap.size = w.heap.size + 1 from by simp]
   try rw [show (w.drew.alloc (.cells (madeCells #[Value.int .i64 0] 30) 3)).heap.size = w.heap.size + 1 from by simp]
   generalize ((w.alloc (.cells (madeCells #[Value.int .i64 0] 286) 3)).drew.alloc (.cells (madeCells #[Value.int .i64 0] 30) 3)) = W at HC00 ⊢
   obtain ⟨b1, hb1⟩ : ∃ b1, b1 = w.heap.size := ⟨_, rfl⟩
   obtain ⟨b2, hb2⟩ : ∃ b2, b2 = (w.heap.size + 1) := ⟨_, rfl⟩
   rw [← hb2, ← hb1] at HC00 ⊢
   clear hb1 hb2
   exact KEY b1 b2 W HC00
  refine AllReadyH.cons rfl (fun K hK => ?_) AllReadyH.nil
  go_simp
  rw [HMK2.out]
  simp only [Result.andThen_ok, Oper.upon]
  refine hK.out _ _ trivial (fun hH1 => ?_)
  clear hK K
  try simp only [Act.put, List.setIfInBounds_toArray, List.set_cons_zero, List.set_cons_succ, List.getElem_toArray, List.getElem_cons_zero, List.getElem_cons_succ]
  refine wpAnyH_ready (rs := [0]) (by kernel_rfl) (by simp) ?_
  refine AllReadyH.cons rfl (fun K hK => ?_) AllReadyH.nil
  go_simp
  rw [HMK1.out]
  simp only [Result.andThen_ok, Oper.upon]
  refine hK.out _ _ trivial (fun hH2 => ?_)
  clear hK K
  try simp only [Act.put, List.setIfInBounds_toArray, List.set_cons_zero, List.set_cons_succ, List.getElem_toArray, List.getElem_cons_zero, List.getElem_cons_succ]
  refine wpAnyH_take (i := 2) (v := ?v3) rfl (by kernel_rfl) (by kernel_rfl) (by kernel_rfl) (fun _ _ _ h => h) (Or.inl ⟨by rfl, fun w hSw => ?y3⟩) hH2 ?r3
  case y3 => (try dsimp only at hSw); first | (go_simp; done) | (go_simp; with_reducible rfl)
  try simp only [Act.put, List.setIfInBounds_toArray, List.set_cons_zero, List.set_cons_succ, List.getElem_toArray, List.getElem_cons_zero, List.getElem_cons_succ]
  refine wpAnyH_take (i := 3) (v := ?v4) rfl (by kernel_rfl) (by kernel_rfl) (by kernel_rfl) (fun _ _ _ h => h) (Or.inl ⟨by rfl, fun w hSw => ?y4⟩) hH2 ?r4
  case y4 => (try dsimp only at hSw); first | (go_simp; done) | (go_simp; with_reducible rfl)
  try simp only [Act.put, List.setIfInBounds_toArray, List.set_cons_zero, List.set_cons_succ, List.getElem_toArray, List.getElem_cons_zero, List.getElem_cons_succ]
  refine wpAnyH_done (by kernel_rfl) ?_ _
  have HC00 := Lib.hid (Ysj w E0 v l H.out)
  try rw [show w.drew.heap.size = w.heap.size from rfl]
  try rw [show (w.alloc (.cells (madeCells #[Value.int .i64 0] 286) 3)).drew.heap.size = w.heap.size + 1 from by show (w.alloc (.cells (madeCells #[Value.int .i64 0] 286) 3)).heap.size = _; simp]
  try rw [show (w.alloc (.cells (madeCells #[Value.int .i64 0] 30) 3)).drew.heap.size = w.heap.size + 1 from by show (w.alloc (.cells (madeCells #[Value.int .i64 0] 30) 3)).heap.size = _; simp]
  try rw [show (w.drew.alloc (.cells (madeCells #[Value.int .i64 0] 286) 3)).heap.size = w.heap.size + 1 from by simp]
  try rw [show (w.drew.alloc (.cells (madeCells #[Value.int .i64 0] 30) 3)).heap.size = w.heap.size + 1 from by simp]
  generalize ((w.alloc (.cells (madeCells #[Value.int .i64 0] 30) 3)).drew.alloc (.cells (madeCells #[Value.int .i64 0] 286) 3)) = W at HC00 ⊢
  obtain ⟨b1, hb1⟩ : ∃ b1, b1 = (w.heap.size + 1) := ⟨_, rfl⟩
  obtain ⟨b2, hb2⟩ : ∃ b2, b2 = w.heap.size := ⟨_, rfl⟩
  rw [← hb1, ← hb2] at HC00 ⊢
  clear hb1 hb2
  exact KEY b1 b2 W HC00
 case key =>
  intro b1 b2 W HC00
  have hc0 := HC00.out.c1 256 (by simp)
  have hf0 := HC00.out.n1.fz 256
  have hCA : Cnt w (W.setCell ⟨b1, 256, none⟩ (.int .i64 1)) E0 v l b1 b2 (Y49 (ts.take 0)) := HC00.out.set1 256 1
  have HCA := Lib.hid hCA
  clear hCA HC00
  go_wp2_with fail
  generalize W.setCell ⟨b1, 256, none⟩ (.int .i64 1) = WA at HCA ⊢
  clear hc0 hf0
  go_loopw [14] (fun i wr => ∃ k : Nat, k ≤ n ∧ i = .int .i64 (k : Int) ∧ Hid (Cnt w wr E0 v l b1 b2 (Y49 (ts.take k)))) (fun i _ => n - (intOf i).toNat)
  case atStart => exact ⟨0, by omega, rfl, HCA⟩
  case round =>
   obtain ⟨k, hk, rfl, HS⟩ := hrel
   clear HCA
   by_cases hlt : k < n
   ·have ql : decide ((k : Int) < (n : Int)) = true := decide_eq_true (by omega)
    have hkl : k < ts.length := by rw [HX.out]; exact hlt
    obtain ⟨b, off, rfl, hbt, hc⟩ := (HT.out.below HS.out.bel).now.2 (by omega)
    obtain ⟨ta0, ta1, ta2⟩ := hc k hkl
    have hst := Yny ts k hkl
    have hft := HFIT.out _ (List.getElem_mem hkl)
    have hll := Ycp (ts.take k)
    have hlk : (ts.take k).length + 1 ≤ 100001 := by rw [List.length_take]; omega
    generalize hte : ts[k] = t at ta0 ta1 ta2 hst hft
    obtain ⟨C, hC⟩ : ∃ C, C = Y49 (ts.take k) := ⟨_, rfl⟩
    rw [← hC] at HS hst hll
    have hl1 : C.1.length = 286 := hll.1
    have hl2 : C.2.length = 30 := hll.2.1
    have hx1 : ∀ i, C.1.getD i 0 ≤ 100001 := fun i => Nat.le_trans (Yom hll.2.2.1 i) hlk
    have hx2 : ∀ i, C.2.getD i 0 ≤ 100001 := fun i => Nat.le_trans (Yom hll.2.2.2 i) hlk
    have HST := Lib.hid hst
    have k0 : (0 : Int) ≤ (k : Int) := by omega
    clear hc hkl hll hlk hte hC hst
    by_cases hz : t.len = 0
    ·have qz : (t.len == 0) = true := by simp [hz]
     have hstz : Y6b C t = (C.1.set t.lit.toNat (C.1.getD t.lit.toNat 0 + 1), C.2) := by unfold Y6b bump; rw [if_pos hz]
     have hs8 : t.lit.toNat < 256 := t.lit.toNat_lt
     have hcell := HS.out.c1 t.lit.toNat (by omega)
     have hfz := HS.out.n1.fz t.lit.toNat
     have hb1l := HS.out.n1.lt
     have hxx := hx1 t.lit.toNat
     have HN : Hid (∀ o, Cnt w ((wr.setCell ⟨b1, t.lit.toNat, none⟩ (.int .i64 ((C.1.getD t.lit.toNat 0 + 1 : Nat) : Int))).alloc o) E0 v l b1 b2 (Y49 (ts.take (k + 1)))) := Lib.hid fun o => by
      rw [HST.out, hstz]
      exact (HS.out.set1 t.lit.toNat (C.1.getD t.lit.toNat 0 + 1)).below ((Below.refl _ _).alloc (Nat.le_refl _) o)
     have hws : wrap64 (((C.1.getD t.lit.toNat 0 : Nat) : Int) + 1) = ((C.1.getD t.lit.toNat 0 + 1 : Nat) : Int) := (Y0q _ (by omega) (by omega)).trans (by omega)
     have s0 : (0 : Int) ≤ (t.lit.toNat : Int) := by omega
     have s1 : (t.lit.toNat : Int) < 286 := by omega
     generalize C.1.getD t.lit.toNat 0 = x at hcell hxx HN hws
     clear hstz hz HST hx1 hx2 hft
     go_wp2_with fail
     go_roundw
     case rel => exact ⟨k + 1, by omega, by first | rfl | (push_cast; rfl), Lib.hid (by have h := HN.out (.cells #[.int .u8 (t.lit.toNat : Int), .int .i64 t.len, .int .i64 t.dist] 134); push_cast at h; exact h)⟩
     case measure => simp [intOf]; omega
    ·have qz : (t.len == 0) = false := by simp [hz]
     have hft2 : 3 ≤ t.len ∧ t.len ≤ 258 ∧ 1 ≤ t.dist ∧ t.dist ≤ 32768 := by
      rcases hft with e | e
      ·exact absurd e hz
      ·exact e
     obtain ⟨len, hlen⟩ : ∃ len : Nat, t.len = (len : Int) := ⟨t.len.toNat, by omega⟩
     obtain ⟨dist, hdist⟩ : ∃ dist : Nat, t.dist = (dist : Int) := ⟨t.dist.toNat, by omega⟩
     have hl3 : 3 ≤ len ∧ len ≤ 258 := by omega
     have hd3 : 1 ≤ dist ∧ dist ≤ 32768 := by omega
     obtain ⟨sy, hsy⟩ : ∃ x, x = placeN false len := ⟨_, rfl⟩
     obtain ⟨sy2, hsy2⟩ : ∃ x, x = placeN true dist := ⟨_, rfl⟩
     obtain ⟨si, hsi⟩ : ∃ x, x = 257 + sy := ⟨_, rfl⟩
     have hp1 : sy < 29 := by rw [hsy]; exact Y16 false len
     have hp2 : sy2 < 30 := by rw [hsy2]; exact Y16 true dist
     have si0 : (0 : Int) ≤ (si : Int) := by omega
     have hsn1 : si < 286 := by omega
     have hsn2 : sy2 < 30 := hp2
     have si1 : (si : Int) < 286 := by omega
     have sj0 : (0 : Int) ≤ (sy2 : Int) := by omega
     have sj1 : (sy2 : Int) < 30 := by omega
     have hstz : Y6b C t = (C.1.set si (C.1.getD si 0 + 1), C.2.set sy2 (C.2.getD sy2 0 + 1)) := by
      unfold Y6b bump
      rw [if_neg hz, show t.len.toNat = len from by omega, show t.dist.toNat = dist from by omega, ← hsy, ← hsy2, ← hsi]
     obtain ⟨W0, hW0⟩ : ∃ W0, W0 = wr.alloc (.cells #[.int .u8 (t.lit.toNat : Int), .int .i64 (len : Int), .int .i64 (dist : Int)] 134) := ⟨_, rfl⟩
     have hbt : Below wr.heap.size wr W0 := by rw [hW0]; exact (Below.refl _ wr).alloc (Nat.le_refl _) _
     have htx : Tbx W0 wr.heap.size t := by rw [hW0]; unfold Tbx; rw [hlen, hdist]; exact Array.getElem?_push_size
     obtain ⟨tb, htb⟩ : ∃ tb, tb = wr.heap.size := ⟨_, rfl⟩
     rw [← htb] at htx
     have htl := htx.lt
     have hC0 := HS.out.below hbt
     have hw0 : w.heap.size ≤ W0.heap.size := hC0.bel.size
     have htb1 : b1 ≠ tb := by have := HS.out.n1.lt; omega
     have htb2 : b2 ≠ tb := by have := HS.out.n2.lt; omega
     have HML : Hid (∀ V, Below W0.heap.size W0 V → Calls Tryz.prog 105 #[.slice (some ⟨E0.bl, 0, none⟩) 29 E0.cl, .int .i64 (len : Int)] V fun e w' => ∃ mo ex : Nat, e = .returned (.agg #[.int .i64 (sy : Int), .int .i64 (mo : Int), .int .i64 (ex : Int)]) ∧ Below V.heap.size V w') := Lib.hid fun V hV => by
      have hE := hC0.en.below hV
      refine (Y61 V E0.bl 29 E0.cl len false hE.tl (by have := hE.lt'; have := hE.lt; omega) rfl hl3.1 (by omega)).mono ?_
      rintro e w' ⟨rfl, hb⟩
      exact ⟨len - (froms false).getD (placeN false len) 0, (extras false).getD (placeN false len) 0, by unfold Ypd; rw [hsy], hb⟩
     have HMD : Hid (∀ V, En V E0 v l → Calls Tryz.prog 105 #[.slice (some ⟨E0.bd, 0, none⟩) 30 E0.cd, .int .i64 (dist : Int)] V fun e w' => ∃ mo ex : Nat, e = .returned (.agg #[.int .i64 (sy2 : Int), .int .i64 (mo : Int), .int .i64 (ex : Int)]) ∧ Below V.heap.size V w') := Lib.hid fun V hE => by
      refine (Y61 V E0.bd 30 E0.cd dist true hE.td (by have := hE.lt'; have := hE.lt; omega) rfl hd3.1 (by omega)).mono ?_
      rintro e w' ⟨rfl, hb⟩
      exact ⟨dist - (froms true).getD (placeN true dist) 0, (extras true).getD (placeN true dist) 0, by unfold Ypd; rw [hsy2], hb⟩
     have hwi := Yzm sy si hsi (by omega)
     obtain ⟨x1, hx1e⟩ : ∃ x, x = C.1.getD si 0 := ⟨_, rfl⟩
     obtain ⟨x2, hx2e⟩ : ∃ x, x = C.2.getD sy2 0 := ⟨_, rfl⟩
     have hxx1 : x1 ≤ 100001 := by rw [hx1e]; exact hx1 si
     have hxx2 : x2 ≤ 100001 := by rw [hx2e]; exact hx2 sy2
     obtain ⟨y1, hy1⟩ : ∃ y, y = x1 + 1 := ⟨_, rfl⟩
     obtain ⟨y2, hy2⟩ : ∃ y, y = x2 + 1 := ⟨_, rfl⟩
     have hyy1 : y1 ≤ 100002 := by omega
     have hyy2 : y2 ≤ 100002 := by omega
     have HX1 := Lib.hid hx1e.symm
     have HX2 := Lib.hid hx2e.symm
     have HLN1 := Lib.hid hl1
     have HLN2 := Lib.hid hl2
     have HFIN : Hid (Y49 (ts.take (k + 1)) = (C.1.set si y1, C.2.set sy2 y2)) := Lib.hid (by rw [HST.out, hstz, hy1, hy2, hx1e, hx2e])
     have hwi1 := Yvj x1 y1 hy1 (by omega)
     have hwi2 := Yvj x2 y2 hy2 (by omega)
     clear hy1 hy2
     have e1 := hC0.en.c1
     have t1 := htx.c1
     rw [hlen] at t1
     have HSP1 : Hid (∀ V, Below W0.heap.size W0 V → V.cell? ⟨E0.e, 1, none⟩ = some (.slice (some ⟨E0.bl, 0, none⟩) 29 E0.cl) ∧ V.cell? ⟨tb, 1, none⟩ = some (.int .i64 (len : Int))) := Lib.hid fun V hV => ⟨(hC0.en.below hV).c1, (hV.cell (p := ⟨tb, 1, none⟩) htl).trans t1⟩
     have hbb1 : w.heap.size ≤ b1 := HS.out.h1
     have hbb2 : w.heap.size ≤ b2 := HS.out.h2
     have HC0 := Lib.hid hC0
     have HTX := Lib.hid htx
     have HW0 := Lib.hid hW0
     have HDI := Lib.hid hdist
     have HLE := Lib.hid hlen
     have hel : E0.e < wr.heap.size := HS.out.en.lt'
     rw [hlen] at ta1 qz
     rw [hdist] at ta2
     clear hC0 htx hbt hW0 hft hft2 hstz HST hlen hdist hl3 hd3 hsy hsy2 hx1e hx2e hl1 hl2 hz hx1 hx2 hsi
     go_wp2_with fail
     rw [← htb, ← HW0.out]
     clear ta0 ta1 ta2 htb
     refine wp_region_held_drew (S := (fun w' => w'.cell? ⟨E0.e, 1, none⟩ = some (.slice (some ⟨E0.bl, 0, none⟩) 29 E0.cl) ∧ w'.cell? ⟨tb, 1, none⟩ = some (.int .i64 (len : Int)))) (by kernel_rfl) ⟨e1, t1⟩ (fun h10 => ?_)
     refine wpAnyH_take (i := 0) (v := ?v5) rfl (by kernel_rfl) (by kernel_rfl) (by kernel_rfl) (fun _ _ _ h => h) (Or.inl ⟨by rfl, fun w hSw => ?y5⟩) h10 ?r5
     case y5 => (try dsimp only at hSw); first | (go_simp; done) | (go_simp; with_reducible rfl)
     try simp only [Act.put, List.setIfInBounds_toArray, List.set_cons_zero, List.set_cons_succ, List.getElem_toArray, List.getElem_cons_zero, List.getElem_cons_succ]
     refine wpAnyH_take (i := 1) (v := ?v6) rfl (by kernel_rfl) (by kernel_rfl) (by kernel_rfl) (fun _ _ _ h => h) (Or.inl ⟨by rfl, fun w hSw => ?y6⟩) h10 ?r6
     case y6 => (try dsimp only at hSw); first | (go_simp; done) | (go_simp; with_reducible rfl)
     try simp only [Act.put, List.setIfInBounds_toArray, List.set_cons_zero, List.set_cons_succ, List.getElem_toArray, List.getElem_cons_zero, List.getElem_cons_succ]
     refine wpAnyH_take (i := 2) (v := ?v7) rfl (by kernel_rfl) (by kernel_rfl) (by kernel_rfl) (fun _ _ _ h => h) (Or.inl ⟨by rfl, fun w hSw => ?y7⟩) h10 ?r7
     case y7 => (try dsimp only at hSw); first | (go_simp; done) | (go_simp; with_reducible rfl)
     try simp only [Act.put, List.setIfInBounds_toArray, List.set_cons_zero, List.set_cons_succ, List.getElem_toArray, List.getElem_cons_zero, List.getElem_cons_succ]
     refine wpAnyH_take (i := 3) (v := ?v8) rfl (by kernel_rfl) (by kernel_rfl) (by kernel_rfl) (fun _ _ _ h => h) (Or.inl ⟨by rfl, fun w hSw => ?y8⟩) h10 ?r8
     case y8 => (try dsimp only at hSw); first | (go_simp; done) | (go_simp; with_reducible rfl)
     try simp only [Act.put, List.setIfInBounds_toArray, List.set_cons_zero, List.set_cons_succ, List.getElem_toArray, List.getElem_cons_zero, List.getElem_cons_succ]
     refine wpAnyH_take (i := 4) (v := ?v9) rfl (by kernel_rfl) (by kernel_rfl) (by kernel_rfl) (fun _ _ _ h => h) (Or.inl ⟨by rfl, fun w hSw => ?y9⟩) h10 ?r9
     case y9 => (try dsimp only at hSw); first | (go_simp; done) | (go_simp; with_reducible rfl)
     try simp only [Act.put, List.setIfInBounds_toArray, List.set_cons_zero, List.set_cons_succ, List.getElem_toArray, List.getElem_cons_zero, List.getElem_cons_succ]
     refine wpAnyH_take (i := 5) (v := ?v10) rfl (by kernel_rfl) (by kernel_rfl) (by kernel_rfl) (fun _ _ _ h => h) (Or.inl ⟨by rfl, fun w hSw => ?y10⟩) h10 ?r10
     case y10 => (try dsimp only at hSw); first | (go_simp; done) | (go_simp; with_reducible rfl)
     try simp only [Act.put, List.setIfInBounds_toArray, List.set_cons_zero, List.set_cons_succ, List.getElem_toArray, List.getElem_cons_zero, List.getElem_cons_succ]
     refine wpAnyH_take (i := 6) (v := ?v11) rfl (by kernel_rfl) (by kernel_rfl) (by kernel_rfl) (fun _ _ _ h => h) (Or.inl ⟨by rfl, fun w hSw => ?y11⟩) h10 ?r11
     case y11 => (try dsimp only at hSw); first | (go_simp; done) | (go_simp; with_reducible rfl)
     try simp only [Act.put, List.setIfInBounds_toArray, List.set_cons_zero, List.set_cons_succ, List.getElem_toArray, List.getElem_cons_zero, List.getElem_cons_succ]
     refine wpAnyH_ready (rs := [7]) (by kernel_rfl) (by simp) ?_
     refine AllReadyH.cons rfl (fun K hK => ?_) AllReadyH.nil
     go_simp
     have hV0 : Below W0.heap.size W0 W0.drew := (show Drawn W0 W0.drew from ⟨1, rfl⟩).below _
     refine (HML.out _ (hV0)).mono ?_
     rintro e wq ⟨mo, ex, rfl, hbq⟩
     have hfld : ∀ W : World, (Instr.field 166 (.agg #[.int .i64 (sy : Int), .int .i64 (mo : Int), .int .i64 (ex : Int)]) 0).run Tryz.prog W = .ok (.int .i64 (sy : Int)) W := fun W => Ybw W _ _ _
     have hB := hV0.trans hbq
     have HQ := Lib.hid (HC0.out.below hB)
     have HB := Lib.hid hB
     have hcell := HQ.out.c1 si (by rw [HLN1.out]; exact hsn1)
     rw [HX1.out] at hcell
     have hfz := (HQ.out.n1).fz si
     clear hbq hB hV0
     go_wp2_with fail
     refine hK.out _ _ (HSP1.out _ HB.out) (fun h11 => ?_)
     clear hK K
     try simp only [Act.put, List.setIfInBounds_toArray, List.set_cons_zero, List.set_cons_succ, List.getElem_toArray, List.getElem_cons_zero, List.getElem_cons_succ]
     refine wpAnyH_take (i := 8) (v := ?v12) rfl (by kernel_rfl) (by kernel_rfl) (by kernel_rfl) (fun _ _ _ h => h) (Or.inl ⟨by rfl, fun w hSw => ?y12⟩) h11 ?r12
     case y12 => (try dsimp only at hSw); first | (go_simp; done) | (go_simp; with_reducible rfl)
     try simp only [Act.put, List.setIfInBounds_toArray, List.set_cons_zero, List.set_cons_succ, List.getElem_toArray, List.getElem_cons_zero, List.getElem_cons_succ]
     refine wpAnyH_take (i := 9) (v := ?v13) rfl (by kernel_rfl) (by kernel_rfl) (by kernel_rfl) (fun _ _ _ h => h) (Or.inl ⟨by rfl, fun w hSw => ?y13⟩) h11 ?r13
     case y13 => (try dsimp only at hSw); first | (go_simp; done) | (go_simp; with_reducible rfl)
     try simp only [Act.put, List.setIfInBounds_toArray, List.set_cons_zero, List.set_cons_succ, List.getElem_toArray, List.getElem_cons_zero, List.getElem_cons_succ]
     refine wpAnyH_take (i := 10) (v := ?v14) rfl (by kernel_rfl) (by kernel_rfl) (by kernel_rfl) (fun _ _ _ h => h) (Or.inl ⟨by rfl, fun w hSw => ?y14⟩) h11 ?r14
     case y14 => (try dsimp only at hSw); first | (go_simp; done) | (go_simp; with_reducible rfl)
     try simp only [Act.put, List.setIfInBounds_toArray, List.set_cons_zero, List.set_cons_succ, List.getElem_toArray, List.getElem_cons_zero, List.getElem_cons_succ]
     refine wpAnyH_ready (rs := [11]) (by kernel_rfl) (by simp) ?_
     refine AllReadyH.cons rfl (fun K hK => ?_) AllReadyH.nil
     go_simp
     refine hK.out _ _ (HSP1.out _ HB.out) (fun h12 => ?_)
     clear hK K
     try simp only [Act.put, List.setIfInBounds_toArray, List.set_cons_zero, List.set_cons_succ, List.getElem_toArray, List.getElem_cons_zero, List.getElem_cons_succ]
     refine wpAnyH_take (i := 12) (v := ?v15) rfl (by kernel_rfl) (by kernel_rfl) (by kernel_rfl) (fun _ _ _ h => h) (Or.inl ⟨by rfl, fun w hSw => ?y15⟩) h12 ?r15
     case y15 => (try dsimp only at hSw); first | (go_simp; done) | (go_simp; with_reducible rfl)
     try simp only [Act.put, List.setIfInBounds_toArray, List.set_cons_zero, List.set_cons_succ, List.getElem_toArray, List.getElem_cons_zero, List.getElem_cons_succ]
     refine wpAnyH_take (i := 13) (v := ?v16) rfl (by kernel_rfl) (by kernel_rfl) (by kernel_rfl) (fun _ _ _ h => h) (Or.inl ⟨by rfl, fun w hSw => ?y16⟩) h12 ?r16
     case y16 => (try dsimp only at hSw); first | (go_simp; done) | (go_simp; with_reducible rfl)
     try simp only [Act.put, List.setIfInBounds_toArray, List.set_cons_zero, List.set_cons_succ, List.getElem_toArray, List.getElem_cons_zero, List.getElem_cons_succ]
     have hST := HQ.out.set1 si y1
     have hTS : Tbx (wq.setCell ⟨b1, si, none⟩ (.int .i64 (y1 : Int))) tb t := Y4p (HTX.out.below HB.out htl) htb1 _ _
     have hS3 : (wq.setCell ⟨b1, si, none⟩ (.int .i64 (y1 : Int))).cell? ⟨E0.e, 1, none⟩ = some (.slice (some ⟨E0.bl, 0, none⟩) 29 E0.cl) ∧ (wq.setCell ⟨b1, si, none⟩ (.int .i64 (y1 : Int))).cell? ⟨tb, 1, none⟩ = some (.int .i64 (len : Int)) := ⟨hST.en.c1, by have := hTS.c1; rwa [HLE.out] at this⟩
     have HSTT := Lib.hid hST
     have HTSS := Lib.hid hTS
     have HS3 := Lib.hid hS3
     clear hST hTS hS3
     refine wpAnyH_ready (rs := [14]) (by kernel_rfl) (by simp) ?_
     refine AllReadyH.cons rfl (fun K hK => ?_) AllReadyH.nil
     go_simp
     refine hK.out _ _ HS3.out (fun h13 => ?_)
     clear hK K
     try simp only [Act.put, List.setIfInBounds_toArray, List.set_cons_zero, List.set_cons_succ, List.getElem_toArray, List.getElem_cons_zero, List.getElem_cons_succ]
     refine wpAnyH_done (by kernel_rfl) ?_ _
     obtain ⟨W1, hW1⟩ : ∃ W1, W1 = wq.setCell ⟨b1, si, none⟩ (.int .i64 (y1 : Int)) := ⟨_, rfl⟩
     try rw [← hW1]
     rw [← hW1] at HSTT HTSS
     have HC1 : Hid (Cnt w W1 E0 v l b1 b2 (C.1.set si y1, C.2)) := HSTT
     have HTX1 := HTSS
     have htl := HTX1.out.lt
     have e2 := HC1.out.en.c2
     have t2 := HTX1.out.c2
     rw [HDI.out] at t2
     have HSP2 : Hid (∀ V, Below W1.heap.size W1 V → V.cell? ⟨E0.e, 2, none⟩ = some (.slice (some ⟨E0.bd, 0, none⟩) 30 E0.cd) ∧ V.cell? ⟨tb, 2, none⟩ = some (.int .i64 (dist : Int))) := Lib.hid fun V hV => ⟨(HC1.out.en.below hV).c2, (hV.cell (p := ⟨tb, 2, none⟩) htl).trans t2⟩
     clear HS3 HSTT HTSS hW1 hfz HML HSP1 e1 t1 HB HQ HC0 HTX h10 h11 h12 h13
     go_wp2_with fail
     refine wp_region_held_drew (S := (fun w' => w'.cell? ⟨E0.e, 2, none⟩ = some (.slice (some ⟨E0.bd, 0, none⟩) 30 E0.cd) ∧ w'.cell? ⟨tb, 2, none⟩ = some (.int .i64 (dist : Int)))) (by kernel_rfl) ⟨e2, t2⟩ (fun h20 => ?_)
     refine wpAnyH_take (i := 0) (v := ?v17) rfl (by kernel_rfl) (by kernel_rfl) (by kernel_rfl) (fun _ _ _ h => h) (Or.inl ⟨by rfl, fun w hSw => ?y17⟩) h20 ?r17
     case y17 => (try dsimp only at hSw); first | (go_simp; done) | (go_simp; with_reducible rfl)
     try simp only [Act.put, List.setIfInBounds_toArray, List.set_cons_zero, List.set_cons_succ, List.getElem_toArray, List.getElem_cons_zero, List.getElem_cons_succ]
     refine wpAnyH_take (i := 1) (v := ?v18) rfl (by kernel_rfl) (by kernel_rfl) (by kernel_rfl) (fun _ _ _ h => h) (Or.inl ⟨by rfl, fun w hSw => ?y18⟩) h20 ?r18
     case y18 => (try dsimp only at hSw); first | (go_simp; done) | (go_simp; with_reducible rfl)
     try simp only [Act.put, List.setIfInBounds_toArray, List.set_cons_zero, List.set_cons_succ, List.getElem_toArray, List.getElem_cons_zero, List.getElem_cons_succ]
     refine wpAnyH_take (i := 2) (v := ?v19) rfl (by kernel_rfl) (by kernel_rfl) (by kernel_rfl) (fun _ _ _ h => h) (Or.inl ⟨by rfl, fun w hSw => ?y19⟩) h20 ?r19
     case y19 => (try dsimp only at hSw); first | (go_simp; done) | (go_simp; with_reducible rfl)
     try simp only [Act.put, List.setIfInBounds_toArray, List.set_cons_zero, List.set_cons_succ, List.getElem_toArray, List.getElem_cons_zero, List.getElem_cons_succ]
     refine wpAnyH_take (i := 3) (v := ?v20) rfl (by kernel_rfl) (by kernel_rfl) (by kernel_rfl) (fun _ _ _ h => h) (Or.inl ⟨by rfl, fun w hSw => ?y20⟩) h20 ?r20
     case y20 => (try dsimp only at hSw); first | (go_simp; done) | (go_simp; with_reducible rfl)
     try simp only [Act.put, List.setIfInBounds_toArray, List.set_cons_zero, List.set_cons_succ, List.getElem_toArray, List.getElem_cons_zero, List.getElem_cons_succ]
     refine wpAnyH_take (i := 4) (v := ?v21) rfl (by kernel_rfl) (by kernel_rfl) (by kernel_rfl) (fun _ _ _ h => h) (Or.inl ⟨by rfl, fun w hSw => ?y21⟩) h20 ?r21
     case y21 => (try dsimp only at hSw); first | (go_simp; done) | (go_simp; with_reducible rfl)
     try simp only [Act.put, List.setIfInBounds_toArray, List.set_cons_zero, List.set_cons_succ, List.getElem_toArray, List.getElem_cons_zero, List.getElem_cons_succ]
     refine wpAnyH_take (i := 5) (v := ?v22) rfl (by kernel_rfl) (by kernel_rfl) (by kernel_rfl) (fun _ _ _ h => h) (Or.inl ⟨by rfl, fun w hSw => ?y22⟩) h20 ?r22
     case y22 => (try dsimp only at hSw); first | (go_simp; done) | (go_simp; with_reducible rfl)
     try simp only [Act.put, List.setIfInBounds_toArray, List.set_cons_zero, List.set_cons_succ, List.getElem_toArray, List.getElem_cons_zero, List.getElem_cons_succ]
     refine wpAnyH_take (i := 6) (v := ?v23) rfl (by kernel_rfl) (by kernel_rfl) (by kernel_rfl) (fun _ _ _ h => h) (Or.inl ⟨by rfl, fun w hSw => ?y23⟩) h20 ?r23
     case y23 => (try dsimp only at hSw); first | (go_simp; done) | (go_simp; with_reducible rfl)
     try simp only [Act.put, List.setIfInBounds_toArray, List.set_cons_zero, List.set_cons_succ, List.getElem_toArray, List.getElem_cons_zero, List.getElem_cons_succ]
     refine wpAnyH_ready (rs := [7]) (by kernel_rfl) (by simp) ?_
     refine AllReadyH.cons rfl (fun K hK => ?_) AllReadyH.nil
     go_simp
     have hV0 : Below W1.heap.size W1 W1.drew := (show Drawn W1 W1.drew from ⟨1, rfl⟩).below _
     refine (HMD.out _ ((HC1.out.below hV0).en)).mono ?_
     rintro e wq ⟨mo, ex, rfl, hbq⟩
     have hfld : ∀ W : World, (Instr.field 166 (.agg #[.int .i64 (sy2 : Int), .int .i64 (mo : Int), .int .i64 (ex : Int)]) 0).run Tryz.prog W = .ok (.int .i64 (sy2 : Int)) W := fun W => Ybw W _ _ _
     have hB := hV0.trans hbq
     have HQ := Lib.hid (HC1.out.below hB)
     have HB := Lib.hid hB
     have hcell : wq.cell? ⟨b2, sy2, none⟩ = some (.int .i64 (x2 : Int)) := by
      have h := HQ.out.c2 sy2 (by show sy2 < C.2.length; rw [HLN2.out]; exact hsn2)
      rw [show ((C.1.set si y1, C.2) : List Nat × List Nat).2 = C.2 from rfl, HX2.out] at h
      exact h
     have hfz := (HQ.out.n2).fz sy2
     clear hbq hB hV0
     go_wp2_with fail
     refine hK.out _ _ (HSP2.out _ HB.out) (fun h21 => ?_)
     clear hK K
     try simp only [Act.put, List.setIfInBounds_toArray, List.set_cons_zero, List.set_cons_succ, List.getElem_toArray, List.getElem_cons_zero, List.getElem_cons_succ]
     refine wpAnyH_take (i := 8) (v := ?v24) rfl (by kernel_rfl) (by kernel_rfl) (by kernel_rfl) (fun _ _ _ h => h) (Or.inl ⟨by rfl, fun w hSw => ?y24⟩) h21 ?r24
     case y24 => (try dsimp only at hSw); first | (go_simp; done) | (go_simp; with_reducible rfl)
     try simp only [Act.put, List.setIfInBounds_toArray, List.set_cons_zero, List.set_cons_succ, List.getElem_toArray, List.getElem_cons_zero, List.getElem_cons_succ]
     refine wpAnyH_take (i := 9) (v := ?v25) rfl (by kernel_rfl) (by kernel_rfl) (by kernel_rfl) (fun _ _ _ h => h) (Or.inl ⟨by rfl, fun w hSw => ?y25⟩) h21 ?r25
     case y25 => (try dsimp only at hSw); first | (go_simp; done) | (go_simp; with_reducible rfl)
     try simp only [Act.put, List.setIfInBounds_toArray, List.set_cons_zero, List.set_cons_succ, List.getElem_toArray, List.getElem_cons_zero, List.getElem_cons_succ]
     refine wpAnyH_ready (rs := [10]) (by kernel_rfl) (by simp) ?_
     refine AllReadyH.cons rfl (fun K hK => ?_) AllReadyH.nil
     go_simp
     refine hK.out _ _ (HSP2.out _ HB.out) (fun h22 => ?_)
     clear hK K
     try simp only [Act.put, List.setIfInBounds_toArray, List.set_cons_zero, List.set_cons_succ, List.getElem_toArray, List.getElem_cons_zero, List.getElem_cons_succ]
     refine wpAnyH_take (i := 11) (v := ?v26) rfl (by kernel_rfl) (by kernel_rfl) (by kernel_rfl) (fun _ _ _ h => h) (Or.inl ⟨by rfl, fun w hSw => ?y26⟩) h22 ?r26
     case y26 => (try dsimp only at hSw); first | (go_simp; done) | (go_simp; with_reducible rfl)
     try simp only [Act.put, List.setIfInBounds_toArray, List.set_cons_zero, List.set_cons_succ, List.getElem_toArray, List.getElem_cons_zero, List.getElem_cons_succ]
     refine wpAnyH_take (i := 12) (v := ?v27) rfl (by kernel_rfl) (by kernel_rfl) (by kernel_rfl) (fun _ _ _ h => h) (Or.inl ⟨by rfl, fun w hSw => ?y27⟩) h22 ?r27
     case y27 => (try dsimp only at hSw); first | (go_simp; done) | (go_simp; with_reducible rfl)
     try simp only [Act.put, List.setIfInBounds_toArray, List.set_cons_zero, List.set_cons_succ, List.getElem_toArray, List.getElem_cons_zero, List.getElem_cons_succ]
     have hST := HQ.out.set2 sy2 y2
     have hTS : Tbx (wq.setCell ⟨b2, sy2, none⟩ (.int .i64 (y2 : Int))) tb t := Y4p (HTX1.out.below HB.out htl) htb2 _ _
     have hS3 : (wq.setCell ⟨b2, sy2, none⟩ (.int .i64 (y2 : Int))).cell? ⟨E0.e, 2, none⟩ = some (.slice (some ⟨E0.bd, 0, none⟩) 30 E0.cd) ∧ (wq.setCell ⟨b2, sy2, none⟩ (.int .i64 (y2 : Int))).cell? ⟨tb, 2, none⟩ = some (.int .i64 (dist : Int)) := ⟨hST.en.c2, by have := hTS.c2; rwa [HDI.out] at this⟩
     have HSTT := Lib.hid hST
     have HTSS := Lib.hid hTS
     have HS3 := Lib.hid hS3
     clear hST hTS hS3
     refine wpAnyH_ready (rs := [13]) (by kernel_rfl) (by simp) ?_
     refine AllReadyH.cons rfl (fun K hK => ?_) AllReadyH.nil
     go_simp
     refine hK.out _ _ HS3.out (fun h23 => ?_)
     clear hK K
     try simp only [Act.put, List.setIfInBounds_toArray, List.set_cons_zero, List.set_cons_succ, List.getElem_toArray, List.getElem_cons_zero, List.getElem_cons_succ]
     refine wpAnyH_done (by kernel_rfl) ?_ _
     clear HS3
     go_wp2_with fail
     go_roundw
     case rel => exact ⟨k + 1, by omega, by first | rfl | (push_cast; rfl), Lib.hid (by rw [HFIN.out]; exact HSTT.out)⟩
     case measure => simp [intOf]; omega
   ·have hkn : k = n := by omega
    subst hkn
    have ql : decide ((k : Int) < (k : Int)) = false := by simp
    have h2 := HS.out
    rw [List.take_of_length_le (by rw [HX.out]; exact Nat.le_refl _)] at h2
    by_cases hn0 : k = 0
    ·have hts : ts = [] := List.eq_nil_of_length_eq_zero (by rw [HX.out]; exact hn0)
     have qn : ((k : Int) == 0) = true := by simp [hn0]
     have hlen := (Ycp ts).1
     have hcell := h2.c1 0 (by rw [hlen]; omega)
     have hfz := h2.n1.fz 0
     have HRES : Hid (Yn2 w ts (.returned (.tuple #[.slice (some ⟨b1, 0, none⟩) 286 286, .slice (some ⟨b2, 0, none⟩) 30 30])) (wr.setCell ⟨b1, 0, none⟩ (.int .i64 1))) := Lib.hid (by
      have h3 := h2.set1 0 1
      exact ⟨b1, b2, rfl, h3.bel, by unfold Y5d; rw [if_pos hts]; exact h3.n1, by unfold Y5d; rw [if_pos hts]; exact h3.n2, h3.ne, h3.h1, h3.h2⟩)
     generalize (Y49 ts).1.getD 0 0 = x0 at hcell
     clear h2 HS hlen hts hlt hk hn0
     go_wp2_with fail
     go_ret2
     exact HRES.out
    ·have hts : ¬ ts = [] := fun e => hn0 (by rw [← HX.out, e]; rfl)
     have qn : ((k : Int) == 0) = false := by simp; omega
     have HRES : Hid (Yn2 w ts (.returned (.tuple #[.slice (some ⟨b1, 0, none⟩) 286 286, .slice (some ⟨b2, 0, none⟩) 30 30])) wr) := Lib.hid
      ⟨b1, b2, rfl, h2.bel, by unfold Y5d; rw [if_neg hts]; exact h2.n1, by unfold Y5d; rw [if_neg hts]; exact h2.n2, h2.ne, h2.h1, h2.h2⟩
     clear h2 HS hts hlt hk hn0
     go_wp2_with fail
     go_ret2
     exact HRES.out
end Go.Proofs.YtkkfkmoikcmhoaaGreat.Df

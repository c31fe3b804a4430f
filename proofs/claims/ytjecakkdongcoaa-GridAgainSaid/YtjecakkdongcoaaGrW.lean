
/- Contracts of package grid: Map, of functions that neither turn memory nor panic. -/
import Derived.Test.YtjecakkdongcoaaGrO
import Derived.Test.YtjecakkdongcoaaGrD
import Derived.Defers
import Derived.Recover
import Derived.Deep.OwnRows
import Derived.StillTailTactics
namespace Go.Proofs.Ytjecakkdongcoaa.Gr
open Go.RowKit Go.Proofs.Ytjecakkdongcoaa.Oct
open Go.Proofs.Ytjecakkdongcoaa.Lp (VRow Only ints ints_length ints_append ints_one vrow_blk vrow_own blk_set blk_far blk_frozen)
open Go.Proofs.Ytjecakkdongcoaa.Fm (Ow)
set_option linter.unusedVariables false
set_option linter.unusedSimpArgs false
set_option maxRecDepth 100000

def bools (bs : List Bool) : List Value := bs.map Value.bool
theorem bools_length (bs : List Bool) : (bools bs).length = bs.length := by simp [bools]
/-- a grid of the call's own, of truths -/
def GrBP (w : World) (W H : Int) (n : Nat) (bs : List Bool) (e : Ending) (w' : World) : Prop :=
  ∃ G, e = .returned (.agg #[.int .i64 W, .int .i64 H, .slice (some ⟨G, 0, none⟩) n n]) ∧ Ow w G 4 (bools bs) w'
theorem idleB (w : World) : CallsD Try.prog 43 #[] .returning w fun e u' w' => e = .returned (.tuple #[]) ∧ u' = .returning ∧ w' = w := by
  refine callsD_of_wpS Try.func43 rfl fun c₀ cs hu => ?_
  apply wpS_region
  simp [wpOpsS, go_sem, recoverD, hu, Try.ntmps43, Exit.thenS]
  cases c₀
  simp_all [bodyPostS, results, Try.results43]
theorem valB_any (K : FuncId) (hK : ∀ (args : Array Value) (w : World), (callFunc K args).run Try.prog w = .ok (.enter K args) w) (cap : Array Value) (c : Int) (z : Bool) (w : World) (h : Calls Try.prog K (#[.int .i64 c] ++ cap) w fun e w' => e = .returned (.bool z) ∧ w = w') :
    Calls Try.prog 41 #[.func (.func K) #[] cap, .int .i64 c] w fun e w' => e = .returned (.bool z) ∧ w = w' := by
  go_enter_defers Try.func41, Try.ntmps41
  go_wp2_with fail
  refine h.mono ?_
  rintro e w' ⟨rfl, rfl⟩
  go_wp2_with fail
  refine leaves_cons (f := 43) (args := #[]) (by simp) (by simp [go_sem]) ?_
  refine (idleB _).mono ?_
  rintro e u' w'' ⟨rfl, rfl, rfl⟩
  simp [Leaves, settle, results, Try.results41, go_sem]
/-- what stands in memory while a grid of what comes of each cell is made -/
structure MaB (w : World) (g5 G : Nat) (W H s : Value) (n : Nat) (vs : List Value) (wr : World) : Prop where
  bel : Below w.heap.size w wr
  b4 : Bx 46 wr (w.heap.size + 1) (.int .i64 0) (.int .i64 0) (.slice none 0 0)
  b5 : Bx 46 wr g5 W H (.slice (some ⟨G, 0, none⟩) n n)
  own : wr.heap[G]? = some (.cells vs.toArray 4 (0, 0))
  ne : w.heap.size + 2 ≤ G ∧ w.heap.size + 2 ≤ g5 ∧ G ≠ g5
theorem MaB.go {w : World} {b5 G : Nat} {W H s : Value} {n : Nat} {vs : List Value} {wr wr' : World} (h : MaB w b5 G W H s n vs wr) (hb : Below wr.heap.size wr wr') : MaB w b5 G W H s n vs wr' :=
  ⟨h.bel.trans (hb.mono h.bel.size), h.b4.go hb, h.b5.go hb, (hb.block G (blk_lt h.own)).trans h.own, h.ne⟩
theorem MaB.set {w : World} {b5 G : Nat} {W H s : Value} {n : Nat} {vs : List Value} {wr : World} (h : MaB w b5 G W H s n vs wr) (i : Nat) (v : Value) : MaB w b5 G W H s n (vs.set i v) (wr.setCell ⟨G, i, none⟩ v) :=
  ⟨h.bel.setCell (by show _ ≤ G; have := h.ne; omega) v, h.b4.far (by have := h.ne; omega) v, h.b5.far h.ne.2.2 v, by have := blk_set h.own i v; rwa [List.setIfInBounds_toArray] at this, h.ne⟩
set_option maxHeartbeats 2000000 in
theorem mapB_any (K : FuncId) (hK : ∀ (args : Array Value) (w : World), (callFunc K args).run Try.prog w = .ok (.enter K args) w) (cap : Array Value) (φ : Int → Bool) (W H : Int) (p : Option Addr) (n c : Nat) (zs : List Int) (w : World)
    (hf : ∀ (z : Int) (w' : World), Below w.heap.size w w' → Calls Try.prog K (#[.int .i64 z] ++ cap) w' fun e w'' => e = .returned (.bool (φ z)) ∧ w' = w'') (hr : VRow w w.heap.size p (ints zs)) (hx : zs.length = n) (hl : n ≤ 5000000) :
    Calls Try.prog 27 #[.agg #[.int .i64 W, .int .i64 H, .slice p n c], .func (.func K) #[] cap] w (GrBP w W H n (zs.map φ)) := by
  have hmk : ∀ W : World, (Instr.makeSlice 44 (.int .i64 (n : Int)) (.int .i64 (n : Int))).run Try.prog W = .ok (.slice (some ⟨W.heap.size, 0, none⟩) n n) (W.alloc (.cells (madeCells #[Value.bool false] n) 4)) :=
    run_make_row' 44 4 (.bool false) 1 Try.underlying44 Try.infoBo rfl .i64 .i64 n (by omega) (by omega)
  have HMK := Lib.hid hmk
  have hmc : madeCells #[Value.bool false] n = (List.replicate n (.bool false)).toArray := by
    rw [← Fm.made_one]
  have HMC := Lib.hid hmc
  obtain ⟨w2, hw2, HB2, HX2, HY2, hz2⟩ := box2 26 46 w (.int .i64 W) (.int .i64 H) (.slice p n c) (.int .i64 0) (.int .i64 0) (.slice none 0 0)
  have HW2 := Lib.hid hw2
  have hd2 := (show Drawn w2 w2.drew from ⟨1, rfl⟩).below w2.heap.size
  have HX3 := Lib.hid (HX2.out.go hd2)
  have HY3 := Lib.hid (HY2.out.go hd2)
  have HB3 := Lib.hid (HB2.out.trans (hd2.mono HB2.out.size))
  have HZ3 : Hid (w2.heap.size = w.heap.size + 1 + 1) := Lib.hid (by omega)
  have HV := Lib.hid (fun (z : Int) (w' : World) (h : Below w.heap.size w w') => valB_any K hK cap z (φ z) w' (hf z w' h))
  have HR := Lib.hid hr
  have HX := Lib.hid hx
  clear hmk hmc hw2 hz2 hd2 hf hr hx HX2 HY2 HB2 hK
  go_enter Try.func27, Try.ntmps27
  go_wp2_with fail
  rw [← HW2.out]
  refine wp_region_held_drew (S := fun V => V.cell? ⟨w.heap.size, 0, none⟩ = some (.int .i64 W) ∧ V.cell? ⟨w.heap.size, 1, none⟩ = some (.int .i64 H) ∧ V.cell? ⟨w.heap.size, 2, none⟩ = some (.slice p n c)) (by kernel_rfl) HX3.out.cells (fun hHeld => ?_)
  refine jt 0 ?_
  refine jt 1 ?_
  refine jt 2 ?_
  refine jt 3 ?_
  refine jt 4 ?_
  refine jt 5 ?_
  refine jt 6 ?_
  refine jz 7 9 (fun K hK => ?_) (fun K hK => ?_)
  · go_simp
    rw [HMK.out, HMC.out]
    simp only [Result.andThen_ok, Oper.upon]
    have hbA : Below w2.drew.heap.size w2.drew (w2.drew.alloc (.cells (List.replicate n (Value.bool false)).toArray 4)) := (Below.refl _ _).alloc (Nat.le_refl _) _
    have hAX := HX3.out.go hbA
    refine hK.out _ _ hAX.cells (fun hH1 => ?_)
    clear hK K
    try simp only [Act.put, jA, jB, jC, jD, jE, jF]
    refine jt 8 ?_
    refine js 9 (fun K hK => ?_)
    go_simp
    refine hK.out _ _ (hAX.go ((Below.refl _ _).alloc (Nat.le_refl _) _)).cells (fun hH2 => ?_)
    clear hK K
    try simp only [Act.put, jA, jB, jC, jD, jE, jF]
    refine js 10 (fun K hK => ?_)
    go_simp
    have HBF : Hid (Below w2.drew.heap.size w2.drew (((w2.alloc (.cells (Array.replicate n (Value.bool false)) 4)).alloc (.cells #[.int .i64 W, .int .i64 H, .slice (some ⟨w2.heap.size, 0, none⟩) n n] 46)).drew)) := Lib.hid (((Below.refl _ w2.drew).alloc (Nat.le_refl _) (.cells (Array.replicate n (Value.bool false)) 4)).alloc (by simp) (.cells #[.int .i64 W, .int .i64 H, .slice (some ⟨w2.heap.size, 0, none⟩) n n] 46))
    have HBZ : Hid (Below w.heap.size w (((w2.alloc (.cells (Array.replicate n (Value.bool false)) 4)).alloc (.cells #[.int .i64 W, .int .i64 H, .slice (some ⟨w2.heap.size, 0, none⟩) n n] 46)).drew)) := Lib.hid (HB3.out.trans (HBF.out.mono HB3.out.size))
    have HSF : Hid (MaB w (w2.heap.size + 1) (w2.heap.size) (.int .i64 W) (.int .i64 H) (.slice p n c) n (List.replicate n (.bool false)) (((w2.alloc (.cells (Array.replicate n (Value.bool false)) 4)).alloc (.cells #[.int .i64 W, .int .i64 H, .slice (some ⟨w2.heap.size, 0, none⟩) n n] 46)).drew)) := Lib.hid (⟨HBZ.out, HY3.out.go HBF.out, (show ((w2.heap.push _).push _)[w2.heap.size + 1]? = _ by rw [show w2.heap.size + 1 = (w2.heap.push _).size from (Array.size_push _).symm]; exact Array.getElem?_push_size), (show ((w2.heap.push _).push _)[w2.heap.size]? = _ by rw [Array.getElem?_push_lt (by simp)]; simp), by have := HZ3.out; omega⟩)
    refine hK.out _ _ (show (((w2.alloc (.cells (Array.replicate n (Value.bool false)) 4)).alloc (.cells #[.int .i64 W, .int .i64 H, .slice (some ⟨w2.heap.size, 0, none⟩) n n] 46)).drew).cell? _ = _ ∧ (((w2.alloc (.cells (Array.replicate n (Value.bool false)) 4)).alloc (.cells #[.int .i64 W, .int .i64 H, .slice (some ⟨w2.heap.size, 0, none⟩) n n] 46)).drew).cell? _ = _ ∧ (((w2.alloc (.cells (Array.replicate n (Value.bool false)) 4)).alloc (.cells #[.int .i64 W, .int .i64 H, .slice (some ⟨w2.heap.size, 0, none⟩) n n] 46)).drew).cell? _ = _ from (HX3.out.go HBF.out).cells) (fun hH3 => ?_)
    clear hK K
    try simp only [Act.put, jA, jB, jC, jD, jE, jF]
    refine wpAnyH_done (by kernel_rfl) ?_ _
    generalize ((w2.alloc (.cells (Array.replicate n (Value.bool false)) 4)).alloc (.cells #[.int .i64 W, .int .i64 H, .slice (some ⟨w2.heap.size, 0, none⟩) n n] 46)).drew = wf at HSF HBF
    have HS0 : Hid (MaB w (w2.heap.size + 1) (w2.heap.size) (.int .i64 W) (.int .i64 H) (.slice p n c) n (Fm.mixA (bools (zs.map φ)) (List.replicate n (.bool false)) 0) wf) := Lib.hid (by rw [Fm.mixA_zero]; exact HSF.out)
    clear hH1 hH2 hH3 hHeld hAX hbA HSF
    obtain ⟨c0, c1, c2⟩ := (HX3.out.go HBF.out).cells
    go_wp2_with fail
    go_loopw [6, 7, 20] (fun s6 s7 i wr => ∃ k : Nat, k ≤ n ∧ i = .int .i64 (k : Int) ∧ Hid (MaB w (w2.heap.size + 1) (w2.heap.size) (.int .i64 W) (.int .i64 H) (.slice p n c) n (Fm.mixA (bools (zs.map φ)) (List.replicate n (.bool false)) k) wr)) (fun _ _ i _ => n - (intOf i).toNat)
    case atStart => exact ⟨0, Nat.zero_le _, rfl, HS0⟩
    case round =>
      clear HS0 c0 c1 c2 HBF
      obtain ⟨k, hk, rfl, HS⟩ := hrel
      obtain ⟨d0, d1, d2⟩ := HS.out.b5.cells
      by_cases hlt : k < n
      · have hkz : k < zs.length := by rw [HX.out]; exact hlt
        obtain ⟨b, off, hq, hbl, hcell⟩ := vrow_int' HR.out k hkz
        obtain ⟨z, hz⟩ : ∃ z, z = zs[k] := ⟨_, rfl⟩
        rw [← hz] at hcell
        have hc := (HS.out.bel.cell (p := ⟨b, off + k, none⟩) hbl).trans hcell
        have hbd := HS.out.bel.trans ((show Drawn wr wr.drew from ⟨1, rfl⟩).below _)
        have HVK := Lib.hid (HV.out z)
        have hka : k < (bools (zs.map φ)).length := by rw [bools_length, List.length_map]; exact hkz
        have hkb : k < (List.replicate n (Value.bool false)).length := by rw [List.length_replicate]; exact hlt
        have hak : (bools (zs.map φ))[k] = .bool (φ z) := by rw [hz]; simp [bools]
        have hst := Fm.mixA_step hka hkb
        rw [hak] at hst
        have hml : k < (Fm.mixA (bools (zs.map φ)) (List.replicate n (Value.bool false)) k).length := by rw [Fm.mixA_length (by rw [bools_length, List.length_map, List.length_replicate, HX.out])]; exact hkb
        have hco := blk_cell HS.out.own hml
        have hfo := blk_frozen HS.out.own k
        have HNX : Hid (MaB w (w2.heap.size + 1) (w2.heap.size) (.int .i64 W) (.int .i64 H) (.slice p n c) n (Fm.mixA (bools (zs.map φ)) (List.replicate n (.bool false)) (k + 1)) (wr.drew.setCell ⟨w2.heap.size, k, none⟩ (.bool (φ z)))) := Lib.hid (by
          rw [← hst]
          exact (HS.out.go ((show Drawn wr wr.drew from ⟨1, rfl⟩).below _)).set k _)
        generalize (Fm.mixA (bools (zs.map φ)) (List.replicate n (Value.bool false)) k)[k] = old at hco
        subst hq
        have ql : decide ((k : Int) < (n : Int)) = true := by simpa using hlt
        have i1 : (0 : Int) ≤ (k : Int) := by omega
        have i2 : (k : Int) < (n : Int) := by omega
        generalize hfz : φ z = y at HVK HNX
        clear hkz hcell hz hka hkb hak hst hml HS hbl
        go_wp2_with fail
        refine wp_region_still_tail 7 (by kernel_rfl) (by kernel_rfl) ?_
        simp only [List.take_succ_cons, List.take_zero, List.drop_succ_cons, List.drop_zero]
        repeat (first | still_step | still_call (stays (HVK.out _ hbd)))
        refine wpStill_nil ?_
        obtain ⟨w9, hw9⟩ : ∃ w9, w9 = wr.drew := ⟨_, rfl⟩
        have hc9 : w9.cell? ⟨w2.heap.size, k, none⟩ = some old := by rw [hw9]; exact hco
        have hf9 : w9.frozen? ⟨w2.heap.size, k, none⟩ = false := by rw [hw9]; exact hfo
        rw [← hw9] at HNX
        change wpList _ _ _ _ _ wr.drew
        rw [← hw9]
        clear hw9 hco hfo hc d0 d1 d2 hbd
        go_wp2_with fail
        go_roundw
        case rel => exact ⟨k + 1, by omega, by go_num, HNX⟩
        case measure => simp [intOf]; omega
      · obtain rfl : k = n := by omega
        have ql : decide ((k : Int) < (k : Int)) = false := by simp
        have hS := HS.out
        rw [Fm.mixA_all (by rw [bools_length, List.length_map, List.length_replicate, HX.out]) (by rw [List.length_replicate]; exact Nat.le_refl _)] at hS
        have f := hS.b4.fz
        have f0 := f 0
        have f1 := f 1
        have f2 := f 2
        obtain ⟨j0, j1, j2⟩ := hS.b4.cells
        have HRR := Lib.hid (hS.b4.put (.int .i64 W) (.int .i64 H) (.slice (some ⟨w2.heap.size, 0, none⟩) k k))
        have hn := hS.ne
        have hO : Ow w (w2.heap.size) 4 (bools (zs.map φ)) wr := ⟨hS.bel, by omega, blk_lt hS.own, hS.own⟩
        have hgn : w.heap.size + 1  ≠ w2.heap.size := by omega
        have HO := Lib.hid (ow_far (i := 2) (ow_far (i := 1) (ow_far (i := 0) hO hgn (Nat.le_succ _) (.int .i64 W)) hgn (Nat.le_succ _) (.int .i64 H)) hgn (Nat.le_succ _) (.slice (some ⟨w2.heap.size, 0, none⟩) k k))
        clear hS f hn hO hgn HS hlt hk
        go_wp2_with fail
        refine bodyPost_ret (res_one Try.underlying46 size_gb rfl _ _ (w.heap.size + 1) _ _ _ rfl HRR.out) rfl ?_
        exact ⟨_, rfl, HO.out⟩
  · go_simp
    have hbA : Below w2.drew.heap.size w2.drew (w2.drew.alloc (.cells #[.int .i64 0, .int .i64 0, .slice none 0 0] 46)) := (Below.refl _ _).alloc (Nat.le_refl _) _
    have hAX := HX3.out.go hbA
    refine hK.out _ _ hAX.cells (fun hH1 => ?_)
    clear hK K
    try simp only [Act.put, jA, jB, jC, jD, jE, jF]
    refine js 7 (fun K hK => ?_)
    go_simp
    rw [HMK.out, HMC.out]
    simp only [Result.andThen_ok, Oper.upon]
    refine hK.out _ _ (hAX.go ((Below.refl _ _).alloc (Nat.le_refl _) _)).cells (fun hH2 => ?_)
    clear hK K
    try simp only [Act.put, jA, jB, jC, jD, jE, jF]
    refine jt 8 ?_
    refine js 10 (fun K hK => ?_)
    go_simp
    have HBF : Hid (Below w2.drew.heap.size w2.drew (((w2.alloc (.cells #[.int .i64 W, .int .i64 H, .slice (some ⟨w2.heap.size + 1, 0, none⟩) n n] 46)).alloc (.cells (Array.replicate n (Value.bool false)) 4)).drew)) := Lib.hid (((Below.refl _ w2.drew).alloc (Nat.le_refl _) (.cells #[.int .i64 W, .int .i64 H, .slice (some ⟨w2.heap.size + 1, 0, none⟩) n n] 46)).alloc (by simp) (.cells (Array.replicate n (Value.bool false)) 4))
    have HBZ : Hid (Below w.heap.size w (((w2.alloc (.cells #[.int .i64 W, .int .i64 H, .slice (some ⟨w2.heap.size + 1, 0, none⟩) n n] 46)).alloc (.cells (Array.replicate n (Value.bool false)) 4)).drew)) := Lib.hid (HB3.out.trans (HBF.out.mono HB3.out.size))
    have HSF : Hid (MaB w (w2.heap.size) (w2.heap.size + 1) (.int .i64 W) (.int .i64 H) (.slice p n c) n (List.replicate n (.bool false)) (((w2.alloc (.cells #[.int .i64 W, .int .i64 H, .slice (some ⟨w2.heap.size + 1, 0, none⟩) n n] 46)).alloc (.cells (Array.replicate n (Value.bool false)) 4)).drew)) := Lib.hid (⟨HBZ.out, HY3.out.go HBF.out, (show ((w2.heap.push _).push _)[w2.heap.size]? = _ by rw [Array.getElem?_push_lt (by simp)]; simp), (show ((w2.heap.push _).push _)[w2.heap.size + 1]? = _ by rw [(push2 _ _ _).2]; simp), by have := HZ3.out; omega⟩)
    refine hK.out _ _ (show (((w2.alloc (.cells #[.int .i64 W, .int .i64 H, .slice (some ⟨w2.heap.size + 1, 0, none⟩) n n] 46)).alloc (.cells (Array.replicate n (Value.bool false)) 4)).drew).cell? _ = _ ∧ (((w2.alloc (.cells #[.int .i64 W, .int .i64 H, .slice (some ⟨w2.heap.size + 1, 0, none⟩) n n] 46)).alloc (.cells (Array.replicate n (Value.bool false)) 4)).drew).cell? _ = _ ∧ (((w2.alloc (.cells #[.int .i64 W, .int .i64 H, .slice (some ⟨w2.heap.size + 1, 0, none⟩) n n] 46)).alloc (.cells (Array.replicate n (Value.bool false)) 4)).drew).cell? _ = _ from (HX3.out.go HBF.out).cells) (fun hH3 => ?_)
    clear hK K
    try simp only [Act.put, jA, jB, jC, jD, jE, jF]
    refine wpAnyH_done (by kernel_rfl) ?_ _
    generalize ((w2.alloc (.cells #[.int .i64 W, .int .i64 H, .slice (some ⟨w2.heap.size + 1, 0, none⟩) n n] 46)).alloc (.cells (Array.replicate n (Value.bool false)) 4)).drew = wf at HSF HBF
    have HS0 : Hid (MaB w (w2.heap.size) (w2.heap.size + 1) (.int .i64 W) (.int .i64 H) (.slice p n c) n (Fm.mixA (bools (zs.map φ)) (List.replicate n (.bool false)) 0) wf) := Lib.hid (by rw [Fm.mixA_zero]; exact HSF.out)
    clear hH1 hH2 hH3 hHeld hAX hbA HSF
    obtain ⟨c0, c1, c2⟩ := (HX3.out.go HBF.out).cells
    go_wp2_with fail
    go_loopw [6, 7, 20] (fun s6 s7 i wr => ∃ k : Nat, k ≤ n ∧ i = .int .i64 (k : Int) ∧ Hid (MaB w (w2.heap.size) (w2.heap.size + 1) (.int .i64 W) (.int .i64 H) (.slice p n c) n (Fm.mixA (bools (zs.map φ)) (List.replicate n (.bool false)) k) wr)) (fun _ _ i _ => n - (intOf i).toNat)
    case atStart => exact ⟨0, Nat.zero_le _, rfl, HS0⟩
    case round =>
      clear HS0 c0 c1 c2 HBF
      obtain ⟨k, hk, rfl, HS⟩ := hrel
      obtain ⟨d0, d1, d2⟩ := HS.out.b5.cells
      by_cases hlt : k < n
      · have hkz : k < zs.length := by rw [HX.out]; exact hlt
        obtain ⟨b, off, hq, hbl, hcell⟩ := vrow_int' HR.out k hkz
        obtain ⟨z, hz⟩ : ∃ z, z = zs[k] := ⟨_, rfl⟩
        rw [← hz] at hcell
        have hc := (HS.out.bel.cell (p := ⟨b, off + k, none⟩) hbl).trans hcell
        have hbd := HS.out.bel.trans ((show Drawn wr wr.drew from ⟨1, rfl⟩).below _)
        have HVK := Lib.hid (HV.out z)
        have hka : k < (bools (zs.map φ)).length := by rw [bools_length, List.length_map]; exact hkz
        have hkb : k < (List.replicate n (Value.bool false)).length := by rw [List.length_replicate]; exact hlt
        have hak : (bools (zs.map φ))[k] = .bool (φ z) := by rw [hz]; simp [bools]
        have hst := Fm.mixA_step hka hkb
        rw [hak] at hst
        have hml : k < (Fm.mixA (bools (zs.map φ)) (List.replicate n (Value.bool false)) k).length := by rw [Fm.mixA_length (by rw [bools_length, List.length_map, List.length_replicate, HX.out])]; exact hkb
        have hco := blk_cell HS.out.own hml
        have hfo := blk_frozen HS.out.own k
        have HNX : Hid (MaB w (w2.heap.size) (w2.heap.size + 1) (.int .i64 W) (.int .i64 H) (.slice p n c) n (Fm.mixA (bools (zs.map φ)) (List.replicate n (.bool false)) (k + 1)) (wr.drew.setCell ⟨w2.heap.size + 1, k, none⟩ (.bool (φ z)))) := Lib.hid (by
          rw [← hst]
          exact (HS.out.go ((show Drawn wr wr.drew from ⟨1, rfl⟩).below _)).set k _)
        generalize (Fm.mixA (bools (zs.map φ)) (List.replicate n (Value.bool false)) k)[k] = old at hco
        subst hq
        have ql : decide ((k : Int) < (n : Int)) = true := by simpa using hlt
        have i1 : (0 : Int) ≤ (k : Int) := by omega
        have i2 : (k : Int) < (n : Int) := by omega
        generalize hfz : φ z = y at HVK HNX
        clear hkz hcell hz hka hkb hak hst hml HS hbl
        go_wp2_with fail
        refine wp_region_still_tail 7 (by kernel_rfl) (by kernel_rfl) ?_
        simp only [List.take_succ_cons, List.take_zero, List.drop_succ_cons, List.drop_zero]
        repeat (first | still_step | still_call (stays (HVK.out _ hbd)))
        refine wpStill_nil ?_
        obtain ⟨w9, hw9⟩ : ∃ w9, w9 = wr.drew := ⟨_, rfl⟩
        have hc9 : w9.cell? ⟨w2.heap.size + 1, k, none⟩ = some old := by rw [hw9]; exact hco
        have hf9 : w9.frozen? ⟨w2.heap.size + 1, k, none⟩ = false := by rw [hw9]; exact hfo
        rw [← hw9] at HNX
        change wpList _ _ _ _ _ wr.drew
        rw [← hw9]
        clear hw9 hco hfo hc d0 d1 d2 hbd
        go_wp2_with fail
        go_roundw
        case rel => exact ⟨k + 1, by omega, by go_num, HNX⟩
        case measure => simp [intOf]; omega
      · obtain rfl : k = n := by omega
        have ql : decide ((k : Int) < (k : Int)) = false := by simp
        have hS := HS.out
        rw [Fm.mixA_all (by rw [bools_length, List.length_map, List.length_replicate, HX.out]) (by rw [List.length_replicate]; exact Nat.le_refl _)] at hS
        have f := hS.b4.fz
        have f0 := f 0
        have f1 := f 1
        have f2 := f 2
        obtain ⟨j0, j1, j2⟩ := hS.b4.cells
        have HRR := Lib.hid (hS.b4.put (.int .i64 W) (.int .i64 H) (.slice (some ⟨w2.heap.size + 1, 0, none⟩) k k))
        have hn := hS.ne
        have hO : Ow w (w2.heap.size + 1) 4 (bools (zs.map φ)) wr := ⟨hS.bel, by omega, blk_lt hS.own, hS.own⟩
        have hgn : w.heap.size + 1  ≠ w2.heap.size + 1 := by omega
        have HO := Lib.hid (ow_far (i := 2) (ow_far (i := 1) (ow_far (i := 0) hO hgn (Nat.le_succ _) (.int .i64 W)) hgn (Nat.le_succ _) (.int .i64 H)) hgn (Nat.le_succ _) (.slice (some ⟨w2.heap.size + 1, 0, none⟩) k k))
        clear hS f hn hO hgn HS hlt hk
        go_wp2_with fail
        refine bodyPost_ret (res_one Try.underlying46 size_gb rfl _ _ (w.heap.size + 1) _ _ _ rfl HRR.out) rfl ?_
        exact ⟨_, rfl, HO.out⟩
end Go.Proofs.Ytjecakkdongcoaa.Gr

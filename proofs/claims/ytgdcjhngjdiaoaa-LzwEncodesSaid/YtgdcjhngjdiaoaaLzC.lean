
/- An encoder in memory; the contracts of step, write, reset, produce. -/
import Derived.Test.YtgdcjhngjdiaoaaLzW
import Derived.Test.YtgdcjhngjdiaoaaLzN
import Derived.Test.YtgdcjhngjdiaoaaBitY
import Derived.Deep.RegionHeld3
namespace Go.Proofs.Ytgdcjhngjdiaoaa.Lz
open Go.RowKit Go.Proofs.Ytgdcjhngjdiaoaa.Oct Go.Proofs.Ytgdcjhngjdiaoaa.Bit
set_option linter.unusedVariables false
set_option linter.unusedSimpArgs false
set_option maxRecDepth 100000

/-- an encoder in memory: its writer, its table -/
structure Ec (w : World) (d g m : Nat) (v : Value) (l : List Bool) (f : Nat → Option Nat) (nf k : Nat) (pr : Bool) : Prop where
  blk : w.heap[d]? = some (.cells #[.pointer (some ⟨g, 0, none⟩), .map (some m), .int .i64 (k : Int), .bool pr] 57 (0, 0))
  wrt : Ws w g v l false
  tbl : MapC w m nf f
  gd : g ≠ d
  md : m ≠ d
  mg : m ≠ g
  vd : v.ownBlock ≠ some d
  vm : v.ownBlock ≠ some m
section
variable {w w' : World} {d g m : Nat} {v : Value} {l : List Bool} {f : Nat → Option Nat} {nf k : Nat} {pr : Bool}
theorem Ec.c0 (h : Ec w d g m v l f nf k pr) : w.cell? ⟨d, 0, none⟩ = some (.pointer (some ⟨g, 0, none⟩)) := by simp [World.cell?, h.blk]
theorem Ec.c1 (h : Ec w d g m v l f nf k pr) : w.cell? ⟨d, 1, none⟩ = some (.map (some m)) := by simp [World.cell?, h.blk]
theorem Ec.c2 (h : Ec w d g m v l f nf k pr) : w.cell? ⟨d, 2, none⟩ = some (.int .i64 (k : Int)) := by simp [World.cell?, h.blk]
theorem Ec.c3 (h : Ec w d g m v l f nf k pr) : w.cell? ⟨d, 3, none⟩ = some (.bool pr) := by simp [World.cell?, h.blk]
theorem Ec.fz (h : Ec w d g m v l f nf k pr) (i : Nat) : w.frozen? ⟨d, i, none⟩ = false := by simp [World.frozen?, h.blk]
theorem Ec.lt (h : Ec w d g m v l f nf k pr) : d < w.heap.size := by
  rcases Nat.lt_or_ge d w.heap.size with hlt | hge
  · exact hlt
  · have := h.blk; rw [Array.getElem?_eq_none hge] at this; cases this
theorem Ec.only {S : Nat → Prop} (h : Ec w d g m v l f nf k pr) (ho : Only S w w') (hd : ¬ S d) (hg : ¬ S g) (hm : ¬ S m) (hv : ∀ k, v.ownBlock = some k → ¬ S k) : Ec w' d g m v l f nf k pr :=
  ⟨(ho.2.2.2.2 d h.lt hd).trans h.blk, Wr.only h.wrt ho hg hv, h.tbl.only ho hm, h.gd, h.md, h.mg, h.vd, h.vm⟩
theorem Ec.drawn (h : Ec w d g m v l f nf k pr) (hd : Drawn w w') : Ec w' d g m v l f nf k pr :=
  h.only (S := fun _ => False) (Only.drawn _ hd) (fun e => e) (fun e => e) (fun e => e) (fun _ _ e => e)
theorem Ec.code (h : Ec w d g m v l f nf k pr) (k' : Nat) : Ec (w.setCell ⟨d, 2, none⟩ (.int .i64 (k' : Int))) d g m v l f nf k' pr := by
  have ho : Only (· = d) w (w.setCell ⟨d, 2, none⟩ (.int .i64 (k' : Int))) := Only.setCell (S := (· = d)) (p := ⟨d, 2, none⟩) (by rfl) _
  refine ⟨?_, Wr.only h.wrt ho h.gd (fun j hj e => h.vd (by rw [hj, e])), h.tbl.only ho h.md, h.gd, h.md, h.mg, h.vd, h.vm⟩
  have := h.blk
  simp [World.setCell, Array.getElem?_modify, this]
theorem Ec.prev (h : Ec w d g m v l f nf k pr) (pr' : Bool) : Ec (w.setCell ⟨d, 3, none⟩ (.bool pr')) d g m v l f nf k pr' := by
  have ho : Only (· = d) w (w.setCell ⟨d, 3, none⟩ (.bool pr')) := Only.setCell (S := (· = d)) (p := ⟨d, 3, none⟩) (by rfl) _
  refine ⟨?_, Wr.only h.wrt ho h.gd (fun j hj e => h.vd (by rw [hj, e])), h.tbl.only ho h.md, h.gd, h.md, h.mg, h.vd, h.vm⟩
  have := h.blk
  simp [World.setCell, Array.getElem?_modify, this]
theorem Ec.table (h : Ec w d g m v l f nf k pr) (ho : Only (· = m) w w') {f' : Nat → Option Nat} {nf' : Nat} (ht : MapC w' m nf' f') : Ec w' d g m v l f' nf' k pr :=
  ⟨(ho.2.2.2.2 d h.lt (fun e => h.md e.symm)).trans h.blk, Wr.only h.wrt ho (fun e => h.mg e.symm) (fun j hj e => h.vm (by rw [hj, e])), ht, h.gd, h.md, h.mg, h.vd, h.vm⟩
end
/-- which blocks a call on an encoder may turn -/
def MineE (d g m : Nat) (v : Value) (k : Nat) : Prop := k = d ∨ k = g ∨ k = m ∨ v.ownBlock = some k
/-- an encoder behind calls on it -/
def EcT (w : World) (d g m : Nat) (v : Value) (l : List Bool) (f : Nat → Option Nat) (nf k : Nat) (pr : Bool) (w' : World) : Prop :=
  ∃ v', Ec w' d g m v' l f nf k pr ∧ Only (MineE d g m v) w w' ∧ ∀ j, v'.ownBlock = some j → v.ownBlock = some j ∨ w.heap.size ≤ j
theorem EcT.more {w w1 w2 : World} {d g m : Nat} {v v1 : Value} {l : List Bool} {f : Nat → Option Nat} {nf k : Nat} {pr : Bool} (ho : Only (MineE d g m v) w w1) (hd : ∀ k, v1.ownBlock = some k → v.ownBlock = some k ∨ w.heap.size ≤ k)
    (h : EcT w1 d g m v1 l f nf k pr w2) : EcT w d g m v l f nf k pr w2 := by
  obtain ⟨v2, hW, ho2, hd2⟩ := h
  have hz := ho.2.2.2.1
  refine ⟨v2, hW, ⟨ho2.1.trans ho.1, ho2.2.1.trans ho.2.1, ho2.2.2.1.trans ho.2.2.1, Nat.le_trans hz ho2.2.2.2.1, fun k hk hn => ?_⟩, fun k hk => ?_⟩
  · refine (ho2.2.2.2.2 k (by omega) (fun hm => hn ?_)).trans (ho.2.2.2.2 k hk hn)
    rcases hm with h | h | h | h
    · exact .inl h
    · exact .inr (.inl h)
    · exact .inr (.inr (.inl h))
    · rcases hd k h with h | h
      · exact .inr (.inr (.inr h))
      · omega
  · rcases hd2 k hk with h | h
    · exact hd k h
    · exact .inr (by omega)
theorem or_u32 (c x : Nat) (hc : c ≤ 5000) (hx : x < 256) : bits .or .u32 ((c : Int) * 256) (x : Int) = ((c * 256 + x : Nat) : Int) := by
  have e : ((c : Int) * 256) = ((c * 256 : Nat) : Int) := by push_cast; rfl
  rw [e, u32_or_nat _ _ (by omega) (by omega), Nat.mul_comm c 256, show (256 : Nat) = 2 ^ 8 from rfl, Nat.two_pow_add_eq_or_of_lt hx]
theorem step_any (c : Nat) (x : UInt8) (w : World) (hc : c ≤ 5000) :
    Calls Try.prog 28 #[.int .u32 (c : Int), .int .u8 (x.toNat : Int)] w fun e w' => e = .returned (.int .u32 ((c * 256 + x.toNat : Nat) : Int)) ∧ w = w' := by
  have hx := x.toNat_lt
  have ho := or_u32 c x.toNat hc (by omega)
  have HO := Lib.hid ho
  clear ho
  go_enter Try.func28, Try.ntmps28
  go_wp2_with fail
  go_ret
  exact ⟨by rw [HO.out]; rfl, rfl⟩
set_option maxHeartbeats 1000000 in
theorem ewrite_any (w : World) (d g m : Nat) (v : Value) (l : List Bool) (f : Nat → Option Nat) (nf k : Nat) (pr : Bool) (c : Nat) (h : Ec w d g m v l f nf k pr) (hk : k ≤ 5000) (hc : c < 2 ^ widN k false) (hl : l.length ≤ 1000000) :
    Calls Try.prog 29 #[.pointer (some ⟨d, 0, none⟩), .int .u32 (c : Int)] w fun e w' => e = .returned (.tuple #[]) ∧ EcT w d g m v (l ++ wordE false c (widN k false)) f nf k pr w' := by
  have hwb := widN_bd k false
  have hp : (2 : Nat) ^ widN k false ≤ 2 ^ 12 := Nat.pow_le_pow_right (by omega) hwb.2
  have hcn : cntB ((widN k false : Nat) : Int) = true := by unfold cntB; simp; omega
  have hok : okW c ((widN k false : Nat) : Int) = true := by unfold okW; rw [hcn]; simp; omega
  have hwr := write_any w.drew g v l false c ((widN k false : Nat) : Int) (by omega) hl (h.drawn ⟨1, rfl⟩).wrt
  unfold WrtP at hwr
  rw [show wrL false l c ((widN k false : Nat) : Int) = l ++ wordE false c (widN k false) from by unfold wrL; rw [hok]; rfl] at hwr
  have hwd := width_any k false w.drew hk
  have HWR := Lib.hid hwr
  have HWD := Lib.hid hwd
  have H := Lib.hid h
  have kd0 : w.drew.cell? ⟨d, 0, none⟩ = some (.pointer (some ⟨g, 0, none⟩)) := h.c0
  have kd2 : w.drew.cell? ⟨d, 2, none⟩ = some (.int .i64 (k : Int)) := h.c2
  generalize widN k false = wd at *
  clear hwr hwd h hcn hok hp hc
  go_enter Try.func29, Try.ntmps29
  go_wp2_with fail
  refine wp_region_held_drew (S := (fun w' => w'.cell? ⟨d, 0, none⟩ = some (.pointer (some ⟨g, 0, none⟩)) ∧ w'.cell? ⟨d, 2, none⟩ = some (.int .i64 (k : Int)))) (by kernel_rfl) ⟨kd0, kd2⟩ (fun hHeld => ?_)
  refine wpAnyH_take (i := 0) (v := ?v1) rfl (by kernel_rfl) (by kernel_rfl) (by kernel_rfl) (fun _ _ _ h => h) (Or.inl ⟨by rfl, fun w hSw => ?y1⟩) hHeld ?r1
  case y1 => (try dsimp only at hSw); first | (go_simp; done) | (go_simp; with_reducible rfl)
  try simp only [Act.put, List.setIfInBounds_toArray, List.set_cons_zero, List.set_cons_succ, List.getElem_toArray, List.getElem_cons_zero, List.getElem_cons_succ]
  refine wpAnyH_take (i := 1) (v := ?v2) rfl (by kernel_rfl) (by kernel_rfl) (by kernel_rfl) (fun _ _ _ h => h) (Or.inl ⟨by rfl, fun w hSw => ?y2⟩) hHeld ?r2
  case y2 => (try dsimp only at hSw); first | (go_simp; done) | (go_simp; with_reducible rfl)
  try simp only [Act.put, List.setIfInBounds_toArray, List.set_cons_zero, List.set_cons_succ, List.getElem_toArray, List.getElem_cons_zero, List.getElem_cons_succ]
  refine wpAnyH_take (i := 2) (v := ?v3) rfl (by kernel_rfl) (by kernel_rfl) (by kernel_rfl) (fun _ _ _ h => h) (Or.inl ⟨by rfl, fun w hSw => ?y3⟩) hHeld ?r3
  case y3 => (try dsimp only at hSw); first | (go_simp; done) | (go_simp; with_reducible rfl)
  try simp only [Act.put, List.setIfInBounds_toArray, List.set_cons_zero, List.set_cons_succ, List.getElem_toArray, List.getElem_cons_zero, List.getElem_cons_succ]
  refine wpAnyH_take (i := 3) (v := ?v4) rfl (by kernel_rfl) (by kernel_rfl) (by kernel_rfl) (fun _ _ _ h => h) (Or.inl ⟨by rfl, fun w hSw => ?y4⟩) hHeld ?r4
  case y4 => (try dsimp only at hSw); first | (go_simp; done) | (go_simp; with_reducible rfl)
  try simp only [Act.put, List.setIfInBounds_toArray, List.set_cons_zero, List.set_cons_succ, List.getElem_toArray, List.getElem_cons_zero, List.getElem_cons_succ]
  refine wpAnyH_take (i := 4) (v := ?v5) rfl (by kernel_rfl) (by kernel_rfl) (by kernel_rfl) (fun _ _ _ h => h) (Or.inl ⟨by rfl, fun w hSw => ?y5⟩) hHeld ?r5
  case y5 => (try dsimp only at hSw); first | (go_simp; done) | (go_simp; with_reducible rfl)
  try simp only [Act.put, List.setIfInBounds_toArray, List.set_cons_zero, List.set_cons_succ, List.getElem_toArray, List.getElem_cons_zero, List.getElem_cons_succ]
  refine wpAnyH_take (i := 5) (v := ?v6) rfl (by kernel_rfl) (by kernel_rfl) (by kernel_rfl) (fun _ _ _ h => h) (Or.inl ⟨by rfl, fun w hSw => ?y6⟩) hHeld ?r6
  case y6 => (try dsimp only at hSw); first | (go_simp; done) | (go_simp; with_reducible rfl)
  try simp only [Act.put, List.setIfInBounds_toArray, List.set_cons_zero, List.set_cons_succ, List.getElem_toArray, List.getElem_cons_zero, List.getElem_cons_succ]
  refine wpAnyH_take (i := 6) (v := ?v7) rfl (by kernel_rfl) (by kernel_rfl) (by kernel_rfl) (fun _ _ _ h => h) (Or.inl ⟨by rfl, fun w hSw => ?y7⟩) hHeld ?r7
  case y7 => (try dsimp only at hSw); first | (go_simp; done) | (go_simp; with_reducible rfl)
  try simp only [Act.put, List.setIfInBounds_toArray, List.set_cons_zero, List.set_cons_succ, List.getElem_toArray, List.getElem_cons_zero, List.getElem_cons_succ]
  refine wpAnyH_take (i := 7) (v := ?v8) rfl (by kernel_rfl) (by kernel_rfl) (by kernel_rfl) (fun _ _ _ h => h) (Or.inl ⟨by rfl, fun w hSw => ?y8⟩) hHeld ?r8
  case y8 => (try dsimp only at hSw); first | (go_simp; done) | (go_simp; with_reducible rfl)
  try simp only [Act.put, List.setIfInBounds_toArray, List.set_cons_zero, List.set_cons_succ, List.getElem_toArray, List.getElem_cons_zero, List.getElem_cons_succ]
  refine wpAnyH_take (i := 8) (v := ?v9) rfl (by kernel_rfl) (by kernel_rfl) (by kernel_rfl) (fun _ _ _ h => h) (Or.inl ⟨by rfl, fun w hSw => ?y9⟩) hHeld ?r9
  case y9 => (try dsimp only at hSw); first | (go_simp; done) | (go_simp; with_reducible rfl)
  try simp only [Act.put, List.setIfInBounds_toArray, List.set_cons_zero, List.set_cons_succ, List.getElem_toArray, List.getElem_cons_zero, List.getElem_cons_succ]
  refine wpAnyH_ready (rs := [9]) (by kernel_rfl) (by simp) ?_
  refine AllReadyH.cons rfl (fun K hK => ?_) AllReadyH.nil
  go_simp
  refine HWD.out.mono ?_
  rintro e w' ⟨rfl, rfl⟩
  go_wp2_with fail
  refine hK.out _ _ hHeld (fun hHeld1 => ?_)
  clear hK K
  try simp only [Act.put, List.setIfInBounds_toArray, List.set_cons_zero, List.set_cons_succ, List.getElem_toArray, List.getElem_cons_zero, List.getElem_cons_succ]
  have H1 := Lib.hid (H.out.drawn (w' := w.drew) ⟨1, rfl⟩)
  refine wpAnyH_ready (rs := [10]) (by kernel_rfl) (by simp) ?_
  refine AllReadyH.cons rfl (fun K hK => ?_) AllReadyH.nil
  go_simp
  refine HWR.out.mono ?_
  rintro e w1 ⟨rfl, v1, hW1, ho1, hv1⟩
  go_wp2_with fail
  have hE1 : Ec w1 d g m v1 (l ++ wordE false c wd) f nf k pr := by
    have hgd := H.out.gd
    have hmine : ∀ j, Mine g v j → j = g ∨ v.ownBlock = some j := fun j hj => hj
    refine ⟨(ho1.2.2.2.2 d H1.out.lt (fun hj => ?_)).trans H1.out.blk, hW1, H1.out.tbl.only ho1 (fun hj => ?_), H.out.gd, H.out.md, H.out.mg, fun e => ?_, fun e => ?_⟩
    · rcases hmine _ hj with e | e
      · exact H.out.gd e.symm
      · exact H.out.vd e
    · rcases hmine _ hj with e | e
      · exact H.out.mg e
      · exact H.out.vm e
    · rcases hv1 _ e with e | e
      · exact H.out.vd e
      · have := H1.out.lt; omega
    · rcases hv1 _ e with e | e
      · exact H.out.vm e
      · have := H1.out.tbl.lt; omega
  have hS2 : w1.cell? ⟨d, 0, none⟩ = some (.pointer (some ⟨g, 0, none⟩)) ∧ w1.cell? ⟨d, 2, none⟩ = some (.int .i64 (k : Int)) := ⟨hE1.c0, hE1.c2⟩
  have HE1 := Lib.hid hE1
  have HO1 := Lib.hid ho1
  have HV1 := Lib.hid hv1
  clear hE1 ho1 hv1 hW1
  refine hK.out _ _ hS2 (fun hHeld2 => ?_)
  clear hK K
  try simp only [Act.put, List.setIfInBounds_toArray, List.set_cons_zero, List.set_cons_succ, List.getElem_toArray, List.getElem_cons_zero, List.getElem_cons_succ]
  refine wpAnyH_done (by kernel_rfl) ?_ _
  go_wp2_with fail
  go_end0
  refine ⟨rfl, v1, HE1.out, ?_, fun j hj => HV1.out j hj⟩
  exact (Only.drawn _ ⟨1, rfl⟩).trans (HO1.out.mono (fun j _ e => by
    rcases e with e | e
    · exact .inr (.inl e)
    · exact .inr (.inr (.inr e))))
theorem ereset_any (w : World) (d g m : Nat) (v : Value) (l : List Bool) (f : Nat → Option Nat) (nf k : Nat) (pr : Bool) (h : Ec w d g m v l f nf k pr) (hk : k ≤ 5000) (hl : l.length ≤ 1000000) :
    Calls Try.prog 25 #[.pointer (some ⟨d, 0, none⟩)] w fun e w' => e = .returned (.tuple #[]) ∧ EcT w d g m v (l ++ wordE false 256 (widN k false)) (fun _ => none) 0 258 false w' := by
  have hw := ewrite_any w d g m v l f nf k pr 256 h hk (by have := widN_less k; omega) hl
  have HW := Lib.hid hw
  clear hw h
  go_enter Try.func25, Try.ntmps25
  go_wp2_with fail
  refine HW.out.mono ?_
  rintro e w1 ⟨rfl, v1, hE1, ho1, hv1⟩
  have c1 := hE1.c1
  obtain ⟨w2, hcl, hm, ho, hz⟩ : ∃ w2, (∀ ty, (Builtin.clear_ #[55] ty #[.map (some m)]).run Try.prog w1 = .ok (.tuple #[]) w2) ∧ MapC w2 m 0 (fun _ => none) ∧ Only (· = m) w1 w2 ∧ w2.heap.size = w1.heap.size := by
    obtain ⟨w2, h1, h2, h3, h4⟩ := hE1.tbl.clear_ 0
    exact ⟨w2, fun ty => h1, h2, h3, h4⟩
  have hE2 := hE1.table ho hm
  have c2 := hE2.c2
  have c3 := hE2.c3
  have f2 := hE2.fz 2
  have f3 := hE2.fz 3
  have HE2 := Lib.hid hE2
  have HO := Lib.hid ho
  have HO1 := Lib.hid ho1
  have HV1 := Lib.hid hv1
  clear hE1 hE2 hm ho hz ho1 hv1
  go_wp2_with fail
  go_end0
  refine ⟨rfl, EcT.more HO1.out HV1.out ⟨v1, (HE2.out.code 258).prev false, ?_, fun j hj => .inl hj⟩⟩
  exact ((HO.out.mono (fun j _ e => .inr (.inr (.inl e)))).trans (Only.setCell (p := ⟨d, 2, none⟩) (.inl rfl) _)).trans (Only.setCell (p := ⟨d, 3, none⟩) (.inl rfl) _)
theorem eproduce_any (w : World) (d g m : Nat) (v : Value) (l : List Bool) (f : Nat → Option Nat) (nf k : Nat) (pr : Bool) (c : Nat) (h : Ec w d g m v l f nf k pr) (hk : k ≤ 5000) (hc : c < 2 ^ widN k false) (hl : l.length ≤ 1000000) :
    Calls Try.prog 27 #[.pointer (some ⟨d, 0, none⟩), .int .u32 (c : Int)] w fun e w' => e = .returned (.tuple #[]) ∧ EcT w d g m v (l ++ wordE false c (widN k false)) f nf (k + pr.toNat) true w' := by
  have hw := ewrite_any w d g m v l f nf k pr c h hk hc hl
  have HW := Lib.hid hw
  clear hw h hc
  cases pr
  · go_enter Try.func27, Try.ntmps27
    go_wp2_with fail
    refine HW.out.mono ?_
    rintro e w1 ⟨rfl, v1, hE1, ho1, hv1⟩
    have c3 := hE1.c3
    have f3 := hE1.fz 3
    have HE1 := Lib.hid hE1
    have HO1 := Lib.hid ho1
    have HV1 := Lib.hid hv1
    clear hE1 ho1 hv1
    go_wp2_with fail
    go_end0
    exact ⟨rfl, EcT.more HO1.out HV1.out ⟨v1, HE1.out.prev true, Only.setCell (p := ⟨d, 3, none⟩) (.inl rfl) _, fun j hj => .inl hj⟩⟩
  · go_enter Try.func27, Try.ntmps27
    go_wp2_with fail
    refine HW.out.mono ?_
    rintro e w1 ⟨rfl, v1, hE1, ho1, hv1⟩
    have c2 := hE1.c2
    have c3 := hE1.c3
    have f2 := hE1.fz 2
    have hEk := hE1.code (k + 1)
    have ek : (((k + 1 : Nat)) : Int) = (k : Int) + 1 := by omega
    rw [ek] at hEk
    have f3 := hEk.fz 3
    have HE1 := Lib.hid hEk
    have HO1 := Lib.hid ho1
    have HV1 := Lib.hid hv1
    clear hE1 ho1 hv1 hEk ek
    go_wp2_with fail
    go_end0
    exact ⟨rfl, EcT.more HO1.out HV1.out ⟨v1, HE1.out.prev true, (Only.setCell (p := ⟨d, 2, none⟩) (.inl rfl) _).trans (Only.setCell (p := ⟨d, 3, none⟩) (.inl rfl) _), fun j hj => .inl hj⟩⟩
end Go.Proofs.Ytgdcjhngjdiaoaa.Lz

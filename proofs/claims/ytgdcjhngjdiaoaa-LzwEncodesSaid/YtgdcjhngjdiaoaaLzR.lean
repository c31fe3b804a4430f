
/- The contract of a decoder's repeat: bytes that were produced, appended to themselves. -/
import Derived.Test.YtgdcjhngjdiaoaaLzA
import Derived.Deep.RegionLaw
import Derived.Deep.DeepCutAuto
import Derived.BigRegion
namespace Go.Proofs.Ytgdcjhngjdiaoaa.Lz
open Go.RowKit Go.Proofs.Ytgdcjhngjdiaoaa.Oct Go.Proofs.Ytgdcjhngjdiaoaa.Bit
set_option linter.unusedVariables false
set_option linter.unusedSimpArgs false

theorem cell_one (w : World) (u : Value) (t : TypeId) : (w.alloc (.cells #[u] t)).cell? ⟨w.heap.size, 0, none⟩ = some u := by simp
theorem cell_two (w : World) (u v : Value) (t : TypeId) : (w.alloc (.cells #[u, v] t)).cell? ⟨w.heap.size, 1, none⟩ = some v := by
  simp only [World.cell?, World.alloc, Array.getElem?_push_size]
  rfl
theorem seg_run (W : World) (g len cap a z : Nat) (h1 : a ≤ z) (h2 : z ≤ cap) (h3 : a < cap) :
    (Instr.slice 22 (.slice (some ⟨g, 0, none⟩) len cap) (some (.int .i64 (a : Int))) (some (.int .i64 (z : Int))) none).run Try.prog W = .ok (.slice (some ⟨g, a, none⟩) (z - a) (cap - a)) W := by
  have ht' : Try.prog.underlying 22 = some (.slice (Try.prog.elem 22)) := by kernel_rfl
  have he : Try.prog.elem 22 = 5 := by kernel_rfl
  have hz : (Go.sizeOf 5).run Try.prog W = .ok 1 W := by
    obtain ⟨i, hi, hs⟩ := Option.map_eq_some_iff.1 Try.sizeByte
    simp [Go.sizeOf, typeInfo, hi, hs]
  have hne : ¬ cap = a := by omega
  rw [run_slice_lh W 22 (some ⟨g, 0, none⟩) len cap ht' .i64 .i64 _ _ (by omega) (by omega) (by omega), he, hz]
  simp [Result.andThen, sliced, hne, add_plain]
theorem own_part {W : World} {g n cap a c : Nat} {out : List UInt8} (h : W.ownsRow 0 5 1 (.slice (some ⟨g, 0, none⟩) n cap) out.length (cellsOf out)) :
    ∀ j u, (cellsOf ((out.drop a).take c))[j]? = some u → W.cell? ((⟨g, a, none⟩ : Addr).add j) = some u := by
  intro j u hj
  have e : cellsOf ((out.drop a).take c) = ((cellsOf out).drop a).take c := by simp [cellsOf, List.map_take, List.map_drop]
  rw [e, List.getElem?_take] at hj
  split at hj
  · rw [List.getElem?_drop] at hj
    have h1 := h.cells (g := g) rfl (a + j) u hj
    rw [add_plain] at h1 ⊢
    rwa [Nat.zero_add] at h1
  · cases hj
theorem Dc.plain {w w' : World} {d m : Nat} {v v' : Value} {out out' : List UInt8} {sp : List (Nat × Nat)} {la ll : Nat} (h : Dc w d m v out sp la ll)
    (ho : Only (fun k => v.ownBlock = some k) w w') (hown : w'.ownsRow 0 5 1 v' out'.length (cellsOf out')) (hv : ∀ k, v'.ownBlock = some k → v.ownBlock = some k ∨ w.heap.size ≤ k) :
    Dc (w'.setCell ⟨d, 0, none⟩ v') d m v' out' sp la ll := by
  have hd : v'.ownBlock ≠ some d := fun e => by
    rcases hv d e with h1 | h1
    · exact h.vd h1
    · have := h.lt; omega
  have hm : v'.ownBlock ≠ some m := fun e => by
    rcases hv m e with h1 | h1
    · exact h.vm h1
    · have := MapF.lt h.tbl; omega
  have hb := (ho.2.2.2.2 d h.lt h.vd).trans h.blk
  have ho2 : Only (· = d) w' (w'.setCell ⟨d, 0, none⟩ v') := Only.setCell (S := (· = d)) (p := ⟨d, 0, none⟩) (by rfl) _
  refine ⟨?_, own_only hown ho2 (fun k hk e => hd (by rw [hk, e])), (h.tbl.only ho h.vm).only ho2 h.md, hd, hm, h.md⟩
  simp [World.setCell, Array.getElem?_modify, hb]

set_option maxRecDepth 100000
set_option maxHeartbeats 1000000 in
theorem repeat_dec (w : World) (d m : Nat) (v : Value) (out : List UInt8) (sp : List (Nat × Nat)) (la ll a l z : Nat) (x : UInt8) (h : Dc w d m v out sp la ll) (hz : a + l = z + 1) (haz : a < z) (hzl : z ≤ out.length) (hal : a < out.length)
    (hx : (out ++ (out.drop a).take (z - a))[z]? = some x) (hb : out.length ≤ 100000000) :
    Calls Try.prog 45 #[.pointer (some ⟨d, 0, none⟩), .agg #[.int .i64 (a : Int), .int .i64 (l : Int)]] w fun e w' => e = .returned (.tuple #[]) ∧ DcT w d m v (out ++ ((out.drop a).take (z - a) ++ [x])) sp la ll w' := by
  obtain ⟨i0, hi, hz0, hz1, hz2⟩ := info_parts Try.infoByte
  obtain ⟨p, cap, hv, hc1, hc2, hnil, hrow⟩ := h.form
  obtain ⟨g, off, rfl, hg, hcells⟩ := hrow (by omega)
  have hoff : off = 0 := by
    rcases h.own.2 with ⟨e, _⟩ | ⟨g', c', cur, e, _⟩
    · rw [hv] at e; cases e
    · rw [hv] at e; injection e with e; injection e with e; injection e
  subst hoff
  subst hv
  unfold maxLen at hc2
  obtain ⟨wb, hwb⟩ : ∃ wb, wb = w.alloc (.cells #[.int .i64 (a : Int), .int .i64 (l : Int)] 66) := ⟨_, rfl⟩
  have hob : Only (fun _ => False) w wb := by rw [hwb]; exact Only.of_below ((Below.refl _ w).alloc (Nat.le_refl _) _)
  have hD := h.only hob (fun e => e) (fun e => e) (fun _ _ e => e)
  have hE : (a : Int) + (l : Int) - 1 = (z : Int) := by omega
  have hsl := fun W => seg_run W g out.length cap a z (by omega) (by omega) (by omega)
  have k0 := hD.c0
  have b0 : wb.cell? ⟨w.heap.size, 0, none⟩ = some (.int .i64 (a : Int)) := by rw [hwb]; simp
  have b1 : wb.cell? ⟨w.heap.size, 1, none⟩ = some (.int .i64 (l : Int)) := by rw [hwb]; exact cell_two w _ _ _
  have HD := Lib.hid hD
  have HOB := Lib.hid hob
  have HX := Lib.hid hx
  have HC := Lib.hid hcells
  have HWB := Lib.hid hwb
  have H := Lib.hid h
  clear hD hob hx hcells h hrow hnil hg hwb
  go_enter Try.func45, Try.ntmps45
  go_wp2_with fail
  rw [← HWB.out]
  have hmid : ((out.drop a).take (z - a)).length = z - a := by rw [List.length_take, List.length_drop]; omega
  have hownD : wb.drew.ownsRow 0 5 1 (.slice (some ⟨g, 0, none⟩) out.length cap) out.length (cellsOf out) := HD.out.own
  have hnews := own_part (a := a) (c := z - a) hownD
  have HOWN := Lib.hid hownD
  have HNEWS := Lib.hid hnews
  have HMID := Lib.hid hmid
  have FRZ := Lib.hid (show ∀ w1, wb.drew.grownBy w1 (Value.slice (some ⟨g, 0, none⟩) out.length cap).ownBlock → w1.frozen? ⟨d, 0, none⟩ = false ∧ w1.cell? ⟨d, 0, none⟩ = some (.slice (some ⟨g, 0, none⟩) out.length cap) from by
    intro w1 hg1
    have hne : some d ≠ (Value.slice (some ⟨g, 0, none⟩) out.length cap).ownBlock := fun e => HD.out.vd e.symm
    exact ⟨(hg1.frozen_far ⟨d, 0, none⟩ HD.out.lt hne).trans (HD.out.fz 0), (hg1.cell_far ⟨d, 0, none⟩ HD.out.lt hne).trans HD.out.c0⟩)
  have FIN := Lib.hid (show ∀ g1 cap1 w1, w1.ownsRow 0 5 1 (.slice (some ⟨g1, 0, none⟩) (out.length + (z - a)) cap1) (out.length + (z - a)) (cellsOf out ++ cellsOf ((out.drop a).take (z - a))) →
      wb.drew.grownBy w1 (Value.slice (some ⟨g, 0, none⟩) out.length cap).ownBlock → ((Value.slice (some ⟨g, 0, none⟩) out.length cap).ownBlock = some g1 ∨ g1 = wb.heap.size) →
      DcT wb d m (.slice (some ⟨g, 0, none⟩) out.length cap) (out ++ (out.drop a).take (z - a)) sp la ll (w1.setCell ⟨d, 0, none⟩ (.slice (some ⟨g1, 0, none⟩) (out.length + (z - a)) cap1)) from by
    intro g1 cap1 w1 ho1 hg1 ha1
    have hon : Only (fun k => (Value.slice (some ⟨g, 0, none⟩) out.length cap).ownBlock = some k) wb w1 := Only.grown (w := wb) ⟨hg1.os, hg1.tape, hg1.output, hg1.size, hg1.block⟩
    have hv1 : ∀ k, (Value.slice (some ⟨g1, 0, none⟩) (out.length + (z - a)) cap1).ownBlock = some k → (Value.slice (some ⟨g, 0, none⟩) out.length cap).ownBlock = some k ∨ wb.heap.size ≤ k := by
      intro k hk
      injection hk with hk
      subst hk
      exact ha1.imp id (fun e => by rw [e]; exact Nat.le_refl _)
    refine ⟨_, HD.out.plain hon ?_ hv1, (hon.mono (fun k _ h => .inr (.inr h))).trans (Only.setCell (p := ⟨d, 0, none⟩) (.inl rfl) _), hv1⟩
    rw [← cellsOf_append] at ho1
    rw [List.length_append, HMID.out]
    exact ho1)
  clear hmid hownD hnews
  go_cut [] (fun wx => DcT wb d m (.slice (some ⟨g, 0, none⟩) out.length cap) (out ++ (out.drop a).take (z - a)) sp la ll wx)
  case first =>
    go_region_law (refine step_append_lies _ rfl _ _ 22 rfl 0 5 i0 (.int .u8 0) 1 1 Try.underlying22 hi hz0 hz1 hz2 rfl (by decide) (.slice (some ⟨g, 0, none⟩) out.length cap) out.length (cellsOf out) (by simp [Act.eval, Act.put]) HOWN.out ⟨g, a, none⟩ (z - a) (cap - a) (cellsOf ((out.drop a).take (z - a))) (by simp [Act.eval, Act.put]) (by rw [cellsOf_length, HMID.out, Nat.mul_one]) HNEWS.out cellsOf_one (by omega) (by unfold maxLen; omega) (by omega) (Nat.zero_le _) wb.heap.size rfl ?_; intro g1 cap1 w1 hown1 hgrow1 hat1 hlt1; have hfz1 := (FRZ.out w1 hgrow1).1; have hcl1 := (FRZ.out w1 hgrow1).2)
    all_goals
      go_wp2_with fail
      go_meet
      exact FIN.out _ _ _ hown1 hgrow1 hat1
  case rest =>
    obtain ⟨v2, hD2, ho2, hd2⟩ := hcut
    obtain ⟨out2, hout2⟩ : ∃ out2, out2 = out ++ (out.drop a).take (z - a) := ⟨_, rfl⟩
    have hl2 : out2.length = out.length + (z - a) := by rw [hout2, List.length_append, HMID.out]
    have hzl2 : z < out2.length := by omega
    have hb2 : out2.length ≤ 300000000 := by omega
    have hx2 : out2[z] = x := by
      have := HX.out
      rw [← hout2, List.getElem?_eq_getElem hzl2] at this
      injection this
    rw [← hout2] at hD2
    obtain ⟨p2, cap2, hv2, hc21, hc22, hnil2, hrow2⟩ := hD2.form
    obtain ⟨g2, off2, rfl, hg2, hcells2⟩ := hrow2 (by omega)
    have hoff2 : off2 = 0 := by
      rcases hD2.own.2 with ⟨e, _⟩ | ⟨g', c', cur, e, _⟩
      · rw [hv2] at e; cases e
      · rw [hv2] at e; injection e with e; injection e with e; injection e
    subst hoff2
    subst hv2
    unfold maxLen at hc22
    obtain ⟨wd, hwd⟩ : ∃ wd, wd = (wc.alloc (.cells #[.int .u8 (x.toNat : Int)] 5)).drew := ⟨_, rfl⟩
    have hod : Only (fun _ => False) wc wd := by rw [hwd]; exact (Only.of_below ((Below.refl _ wc).alloc (Nat.le_refl _) _)).trans (Only.drawn _ ⟨1, rfl⟩)
    have hD3 := hD2.only hod (fun e => e) (fun e => e) (fun _ _ e => e)
    have hsz : wd.heap.size = wc.heap.size + 1 := by rw [hwd]; exact Array.size_push _
    have k2 := hD2.c0
    have k3 := hD3.c0
    have k2z : wc.cell? ⟨g2, z, none⟩ = some (.int .u8 (x.toNat : Int)) := by
      have := hcells2 z hzl2
      rw [hx2, Nat.zero_add] at this
      exact this
    have hnw : ∀ j u, (cellsOf [x])[j]? = some u → wd.cell? ((⟨wc.heap.size, 0, none⟩ : Addr).add j) = some u := by
      intro j u hj
      obtain ⟨hj', rfl⟩ := cellsOf_get hj
      have : j = 0 := by simpa using hj'
      subst this
      rw [hwd, add_plain]
      exact cell_one wc _ _
    have FRZ2 := Lib.hid (show ∀ w1, wd.grownBy w1 (Value.slice (some ⟨g2, 0, none⟩) out2.length cap2).ownBlock → w1.frozen? ⟨d, 0, none⟩ = false ∧ w1.cell? ⟨d, 0, none⟩ = some (.slice (some ⟨g2, 0, none⟩) out2.length cap2) from by
      intro w1 hg1
      have hne : some d ≠ (Value.slice (some ⟨g2, 0, none⟩) out2.length cap2).ownBlock := fun e => hD3.vd e.symm
      exact ⟨(hg1.frozen_far ⟨d, 0, none⟩ hD3.lt hne).trans (hD3.fz 0), (hg1.cell_far ⟨d, 0, none⟩ hD3.lt hne).trans hD3.c0⟩)
    have FIN2 := Lib.hid (show ∀ g1 cap1 w1, w1.ownsRow 0 5 1 (.slice (some ⟨g1, 0, none⟩) (out2.length + 1) cap1) (out2.length + 1) (cellsOf out2 ++ cellsOf [x]) →
        wd.grownBy w1 (Value.slice (some ⟨g2, 0, none⟩) out2.length cap2).ownBlock → ((Value.slice (some ⟨g2, 0, none⟩) out2.length cap2).ownBlock = some g1 ∨ g1 = wc.heap.size + 1) →
        DcT w d m (.slice (some ⟨g, 0, none⟩) out.length cap) (out ++ ((out.drop a).take (z - a) ++ [x])) sp la ll (w1.setCell ⟨d, 0, none⟩ (.slice (some ⟨g1, 0, none⟩) (out2.length + 1) cap1)) from by
      intro g1 cap1 w1 ho1 hg1 ha1
      have hon : Only (fun k => (Value.slice (some ⟨g2, 0, none⟩) out2.length cap2).ownBlock = some k) wd w1 := Only.grown hg1
      have hv1 : ∀ k, (Value.slice (some ⟨g1, 0, none⟩) (out2.length + 1) cap1).ownBlock = some k → (Value.slice (some ⟨g2, 0, none⟩) out2.length cap2).ownBlock = some k ∨ wd.heap.size ≤ k := by
        intro k hk
        injection hk with hk
        subst hk
        exact ha1.imp id (fun e => by rw [e, hsz]; exact Nat.le_refl _)
      have hlast : DcT wd d m (.slice (some ⟨g2, 0, none⟩) out2.length cap2) (out2 ++ [x]) sp la ll (w1.setCell ⟨d, 0, none⟩ (.slice (some ⟨g1, 0, none⟩) (out2.length + 1) cap1)) := by
        refine ⟨_, hD3.plain hon ?_ hv1, (hon.mono (fun k _ h => .inr (.inr h))).trans (Only.setCell (p := ⟨d, 0, none⟩) (.inl rfl) _), hv1⟩
        rw [← cellsOf_append] at ho1
        rw [List.length_append]
        exact ho1
      have e0 : out ++ ((out.drop a).take (z - a) ++ [x]) = out2 ++ [x] := by rw [hout2, List.append_assoc]
      rw [e0]
      have e1 : Only (MineD d m (.slice (some ⟨g2, 0, none⟩) out2.length cap2)) wc wd := hod.mono (fun k _ e => e.elim)
      have e2 : Only (MineD d m (.slice (some ⟨g, 0, none⟩) out.length cap)) w wb := HOB.out.mono (fun k _ e => e.elim)
      exact DcT.more e2 (fun k hk => .inl hk) (DcT.more ho2 hd2 (DcT.more e1 (fun k hk => .inl hk) hlast)))
    have HOWN3 := Lib.hid hD3.own
    have HNW := Lib.hid hnw
    have hdl := hD2.lt
    have hfd : wc.drew.heap.size = wc.heap.size := rfl
    rw [hwd] at k3
    have k2d : wc.drew.cell? ⟨d, 0, none⟩ = some (.slice (some ⟨g2, 0, none⟩) out2.length cap2) := k2
    have k2zd : wc.drew.cell? ⟨g2, z, none⟩ = some (.int .u8 (x.toNat : Int)) := k2z
    have HWD := Lib.hid hwd
    have HSZ := Lib.hid hsz
    have hxb : x.toNat < 256 := x.toNat_lt
    clear hrow2 hcells2 hnil2 hg2 hnw hout2 hx2 hD2 hD3 ho2 hd2 hod hwd hsz hl2 k2 k2z hsl k0 b0 b1 hE hfd
    go_wp2_with fail
    go_region_law (rw [← HWD.out]; refine step_append_lies _ rfl _ _ 22 rfl 0 5 i0 (.int .u8 0) 1 1 Try.underlying22 hi hz0 hz1 hz2 rfl (by decide) (.slice (some ⟨g2, 0, none⟩) out2.length cap2) out2.length (cellsOf out2) (by simp [Act.eval, Act.put]) HOWN3.out ⟨wc.heap.size, 0, none⟩ 1 1 (cellsOf [x]) (by simp [Act.eval, Act.put]) rfl HNW.out cellsOf_one (by omega) (by unfold maxLen; omega) (by omega) (Nat.zero_le _) (wc.heap.size + 1) HSZ.out ?_; intro g1 cap1 w1 hown1 hgrow1 hat1 hlt1; have hfz1 := (FRZ2.out w1 hgrow1).1; have hcl1 := (FRZ2.out w1 hgrow1).2)
    all_goals
      go_wp2_with fail
      go_end0
      exact ⟨rfl, FIN2.out _ _ _ hown1 hgrow1 hat1⟩
end Go.Proofs.Ytgdcjhngjdiaoaa.Lz


/- The contract of a decoder's produce. -/
import Derived.Test.YtgdcjhngjdiaoaaLzR
namespace Go.Proofs.Ytgdcjhngjdiaoaa.Lz
open Go.RowKit Go.Proofs.Ytgdcjhngjdiaoaa.Oct Go.Proofs.Ytgdcjhngjdiaoaa.Bit
set_option linter.unusedVariables false
set_option linter.unusedSimpArgs false

set_option maxRecDepth 100000
set_option maxHeartbeats 1000000 in
theorem produce_byte (w : World) (d m : Nat) (v : Value) (out : List UInt8) (sp : List (Nat × Nat)) (la ll : Nat) (x : UInt8) (h : Dc w d m v out sp la ll) (hs : 258 + sp.length ≤ 4096) (hla : la ≤ 100000000) (hll : ll ≤ 100000000) (hb : out.length ≤ 100000000) :
    Calls Try.prog 36 #[.pointer (some ⟨d, 0, none⟩), .int .u32 (x.toNat : Int)] w fun e w' => e = .returned (.bool true) ∧ DcT w d m v (out ++ [x]) (addS sp la ll) out.length 1 w' := by
  obtain ⟨i0, hi, hz0, hz1, hz2⟩ := info_parts Try.infoByte
  have hxb : x.toNat < 256 := x.toNat_lt
  have hadd := add_dec w d m v out sp la ll h hs hla hll
  have HADD := Lib.hid hadd
  clear hadd h
  go_enter Try.func36, Try.ntmps36
  go_wp2_with fail
  refine HADD.out.mono ?_
  rintro e w1 ⟨rfl, v1, hD1, ho1, hd1⟩
  obtain ⟨p, cap, rfl, hc1, hc2, hnil, hrow⟩ := hD1.form
  unfold maxLen at hc2
  obtain ⟨wd, hwd⟩ : ∃ wd, wd = w1.alloc (.cells #[.int .u8 (x.toNat : Int)] 5) := ⟨_, rfl⟩
  have hod : Only (fun _ => False) w1 wd := by rw [hwd]; exact Only.of_below ((Below.refl _ w1).alloc (Nat.le_refl _) _)
  have hD3 := hD1.only hod (fun e => e) (fun e => e) (fun _ _ e => e)
  have hsz : wd.heap.size = w1.heap.size + 1 := by rw [hwd]; exact Array.size_push _
  have k1 := hD1.c0
  have hnw : ∀ j u, (cellsOf [x])[j]? = some u → wd.cell? ((⟨w1.heap.size, 0, none⟩ : Addr).add j) = some u := by
    intro j u hj
    obtain ⟨hj', rfl⟩ := cellsOf_get hj
    have : j = 0 := by simpa using hj'
    subst this
    rw [hwd, add_plain]
    exact cell_one w1 _ _
  have FRZ2 := Lib.hid (show ∀ w2, wd.grownBy w2 (Value.slice p out.length cap).ownBlock → w2.frozen? ⟨d, 0, none⟩ = false ∧ w2.cell? ⟨d, 0, none⟩ = some (.slice p out.length cap) ∧ w2.frozen? ⟨d, 2, none⟩ = false ∧ w2.cell? ⟨d, 2, none⟩ = some (.int .i64 (la : Int)) ∧ w2.frozen? ⟨d, 3, none⟩ = false ∧ w2.cell? ⟨d, 3, none⟩ = some (.int .i64 (ll : Int)) from by
    intro w2 hg1
    have hne : some d ≠ (Value.slice p out.length cap).ownBlock := fun e => hD3.vd e.symm
    exact ⟨(hg1.frozen_far ⟨d, 0, none⟩ hD3.lt hne).trans (hD3.fz 0), (hg1.cell_far ⟨d, 0, none⟩ hD3.lt hne).trans hD3.c0, (hg1.frozen_far ⟨d, 2, none⟩ hD3.lt hne).trans (hD3.fz 2), (hg1.cell_far ⟨d, 2, none⟩ hD3.lt hne).trans hD3.c2,
      (hg1.frozen_far ⟨d, 3, none⟩ hD3.lt hne).trans (hD3.fz 3), (hg1.cell_far ⟨d, 3, none⟩ hD3.lt hne).trans hD3.c3⟩)
  have FIN2 := Lib.hid (show ∀ g1 cap1 w2, w2.ownsRow 0 5 1 (.slice (some ⟨g1, 0, none⟩) (out.length + 1) cap1) (out.length + 1) (cellsOf out ++ cellsOf [x]) →
      wd.grownBy w2 (Value.slice p out.length cap).ownBlock → ((Value.slice p out.length cap).ownBlock = some g1 ∨ g1 = w1.heap.size + 1) →
      ∃ v', v' = (.slice (some ⟨g1, 0, none⟩) (out.length + 1) cap1) ∧ Dc (w2.setCell ⟨d, 0, none⟩ v') d m v' (out ++ [x]) (addS sp la ll) la ll ∧ Only (MineD d m v) w (w2.setCell ⟨d, 0, none⟩ v') ∧ ∀ k, v'.ownBlock = some k → v.ownBlock = some k ∨ w.heap.size ≤ k from by
    intro g1 cap1 w2 ho1' hg1 ha1
    refine ⟨_, rfl, ?_⟩
    have hon : Only (fun k => (Value.slice p out.length cap).ownBlock = some k) wd w2 := Only.grown hg1
    have hv1 : ∀ k, (Value.slice (some ⟨g1, 0, none⟩) (out.length + 1) cap1).ownBlock = some k → (Value.slice p out.length cap).ownBlock = some k ∨ wd.heap.size ≤ k := by
      intro k hk
      injection hk with hk
      subst hk
      exact ha1.imp id (fun e => by rw [e, hsz]; exact Nat.le_refl _)
    have hdc : Dc (w2.setCell ⟨d, 0, none⟩ (.slice (some ⟨g1, 0, none⟩) (out.length + 1) cap1)) d m (.slice (some ⟨g1, 0, none⟩) (out.length + 1) cap1) (out ++ [x]) (addS sp la ll) la ll := by
      refine hD3.plain hon ?_ hv1
      rw [← cellsOf_append] at ho1'
      rw [List.length_append]
      exact ho1'
    have hlast : DcT wd d m (.slice p out.length cap) (out ++ [x]) (addS sp la ll) la ll (w2.setCell ⟨d, 0, none⟩ (.slice (some ⟨g1, 0, none⟩) (out.length + 1) cap1)) :=
      ⟨_, hdc, (hon.mono (fun k _ h => .inr (.inr h))).trans (Only.setCell (p := ⟨d, 0, none⟩) (.inl rfl) _), hv1⟩
    have e1 : Only (MineD d m (.slice p out.length cap)) w1 wd := hod.mono (fun k _ e => e.elim)
    obtain ⟨v2, hD4, ho4, hd4⟩ := DcT.more ho1 hd1 (DcT.more e1 (fun k hk => .inl hk) hlast)
    have hv2 : v2 = .slice (some ⟨g1, 0, none⟩) (out.length + 1) cap1 := by
      have a1 := hD4.blk
      rw [hdc.blk] at a1
      simp at a1
      exact a1.symm
    subst hv2
    exact ⟨hdc, ho4, hd4⟩)
  have HOWN3 := Lib.hid hD3.own
  have HNW := Lib.hid hnw
  have HWD := Lib.hid hwd
  have HSZ := Lib.hid hsz
  clear hnw hD1 hD3 ho1 hd1 hod hwd hsz hnil hrow
  go_wp2_with (at_builtin; rw [← HWD.out]; refine wpList_append_lies _ rfl _ _ 22 rfl 0 5 i0 (.int .u8 0) 1 1 Try.underlying22 hi hz0 hz1 hz2 rfl (by decide) _ out.length (cellsOf out) rfl HOWN3.out ⟨w1.heap.size, 0, none⟩ 1 1 (cellsOf [x]) rfl rfl HNW.out cellsOf_one (by decide) (by unfold maxLen; omega) (by omega) (Nat.zero_le _) (w1.heap.size + 1) HSZ.out ?_)
  intro g1 cap1 w2 hown1 hgrow1 hat1 hlt1
  obtain ⟨hfz1, hcl1, hfz2, hcl2, hfz3, hcl3⟩ := FRZ2.out w2 hgrow1
  obtain ⟨v', hv', hdc, hof, hdf⟩ := FIN2.out _ _ _ hown1 hgrow1 hat1
  have HV := Lib.hid hv'
  have HDC := Lib.hid hdc
  have HOF := Lib.hid hof
  have HDF := Lib.hid hdf
  clear hv' hdc hof hdf hown1 hgrow1 hat1 hlt1 k1 hc1 hc2
  have hw1 : IntKind.i64.wrap ((out.length : Int) + 1 - (out.length : Int)) = 1 := by rw [IntWalk.i64_in _ (by omega)]; omega
  have hw2 : (out.length : Int) + 1 - (out.length : Int) = 1 := by omega
  go_wp2_with fail
  go_ret
  rw [← HV.out]
  refine ⟨rfl, v', ?_, ?_, HDF.out⟩
  · exact HDC.out.last out.length 1
  · exact (HOF.out.trans (Only.setCell (p := ⟨d, 2, none⟩) (.inl rfl) _)).trans (Only.setCell (p := ⟨d, 3, none⟩) (.inl rfl) _)
set_option maxHeartbeats 1000000 in
theorem produce_none (w : World) (d m : Nat) (v : Value) (out : List UInt8) (sp : List (Nat × Nat)) (la ll c : Nat) (h : Dc w d m v out sp la ll) (hs : 258 + sp.length ≤ 4096) (hla : la ≤ 100000000) (hll : ll ≤ 100000000) (hb : out.length ≤ 100000000)
    (hc : 258 ≤ c) (hc2 : c < 4096) (hn : (addS sp la ll)[c - 258]? = none) :
    Calls Try.prog 36 #[.pointer (some ⟨d, 0, none⟩), .int .u32 (c : Int)] w fun e w' => e = .returned (.bool false) ∧ DcT w d m v out (addS sp la ll) la ll w' := by
  have hadd := add_dec w d m v out sp la ll h hs hla hll
  have HADD := Lib.hid hadd
  have hf : spF (addS sp la ll) c = none := by unfold spF; rw [if_pos hc, hn]
  clear hadd h hn
  go_enter Try.func36, Try.ntmps36
  go_wp2_with fail
  refine HADD.out.mono ?_
  rintro e w1 ⟨rfl, v1, hD1, ho1, hd1⟩
  obtain ⟨p, cap, rfl, hc1, hcm, hnil, hrow⟩ := hD1.form
  unfold maxLen at hcm
  have k0 := hD1.c0
  have k1 := hD1.c1
  have hlk : (Instr.lookup 64 (.map (some m)) (.int .u32 (c : Int)) true).run Try.prog w1 = .ok (.tuple #[.agg #[.int .i64 0, .int .i64 0], .bool false]) w1 := by
    rw [hD1.tbl.look (by omega), hf]
    rfl
  have HD1 := Lib.hid hD1
  have HO1 := Lib.hid ho1
  have HE1 := Lib.hid hd1
  clear hD1 ho1 hd1 hnil hrow hf
  have hdc : decide ((c : Int) < 256) = false := by simp; omega
  go_wp2_with fail
  go_ret
  refine ⟨rfl, _, ?_, ?_, HE1.out⟩
  · exact HD1.out.only (S := fun _ => False) (Only.of_below ((Below.refl _ w1).alloc (Nat.le_refl _) _)) (fun e => e) (fun e => e) (fun _ _ e => e)
  · exact HO1.out.trans (Only.of_below ((Below.refl _ w1).alloc (Nat.le_refl _) _))
set_option maxHeartbeats 1000000 in
theorem produce_some (w : World) (d m : Nat) (v : Value) (out : List UInt8) (sp : List (Nat × Nat)) (la ll c a l : Nat) (x : UInt8) (h : Dc w d m v out sp la ll) (hs : 258 + sp.length ≤ 4096) (hla : la ≤ 100000000) (hll : ll ≤ 100000000) (hb : out.length ≤ 100000000)
    (hc : 258 ≤ c) (hc2 : c < 4096) (hn : (addS sp la ll)[c - 258]? = some (a, l)) (hl : 2 ≤ l) (ha : a + (l - 1) ≤ out.length) (ha2 : a < out.length) (hx : (out ++ (out.drop a).take (l - 1))[a + (l - 1)]? = some x) :
    Calls Try.prog 36 #[.pointer (some ⟨d, 0, none⟩), .int .u32 (c : Int)] w fun e w' => e = .returned (.bool true) ∧ DcT w d m v (out ++ ((out.drop a).take (l - 1) ++ [x])) (addS sp la ll) out.length l w' := by
  have hadd := add_dec w d m v out sp la ll h hs hla hll
  have HADD := Lib.hid hadd
  have hf : spF (addS sp la ll) c = some (a, l) := by unfold spF; rw [if_pos hc, hn]
  have hlen : (out ++ ((out.drop a).take (l - 1) ++ [x])).length = out.length + l := by simp; omega
  obtain ⟨out2, hout2⟩ : ∃ out2, out2 = out ++ ((out.drop a).take (l - 1) ++ [x]) := ⟨_, rfl⟩
  rw [← hout2] at hlen ⊢
  have hz : a + l = (a + (l - 1)) + 1 := by omega
  have hzz : (a + (l - 1)) - a = l - 1 := by omega
  have hrep := fun (w : World) (v : Value) (h : Dc w d m v out (addS sp la ll) la ll) => repeat_dec w d m v out (addS sp la ll) la ll a l (a + (l - 1)) x h hz (by omega) ha ha2 (by rw [hzz]; exact hx) hb
  rw [hzz, ← hout2] at hrep
  have HREP := Lib.hid hrep
  have HLEN := Lib.hid hlen
  clear hadd h hn hrep hx hout2 hlen
  go_enter Try.func36, Try.ntmps36
  go_wp2_with fail
  refine HADD.out.mono ?_
  rintro e w1 ⟨rfl, v1, hD1, ho1, hd1⟩
  obtain ⟨p, cap, rfl, hc1, hcm, hnil, hrow⟩ := hD1.form
  unfold maxLen at hcm
  have k0 := hD1.c0
  have k1 := hD1.c1
  have hlk : (Instr.lookup 64 (.map (some m)) (.int .u32 (c : Int)) true).run Try.prog w1 = .ok (.tuple #[.agg #[.int .i64 (a : Int), .int .i64 (l : Int)], .bool true]) w1 := by
    rw [hD1.tbl.look (by omega), hf]
    rfl
  have hoA : Only (fun _ => False) w1 (w1.alloc (.cells #[.int .i64 (a : Int), .int .i64 (l : Int)] 66)) := Only.of_below ((Below.refl _ w1).alloc (Nat.le_refl _) _)
  have hDA := hD1.only hoA (fun e => e) (fun e => e) (fun _ _ e => e)
  have HRP := Lib.hid (HREP.out _ _ hDA)
  have HOA := Lib.hid hoA
  have HO1 := Lib.hid ho1
  have HE1 := Lib.hid hd1
  clear hD1 ho1 hd1 hnil hrow hf hoA hDA
  have hdc : decide ((c : Int) < 256) = false := by simp; omega
  go_wp2_with fail
  refine HRP.out.mono ?_
  rintro e w2 ⟨rfl, v2, hD2, ho2, hd2⟩
  obtain ⟨p2, cap2, rfl, hc12, hcm2, hnil2, hrow2⟩ := hD2.form
  have j0 := hD2.c0
  have j2 := hD2.c2
  have j3 := hD2.c3
  have f2 := hD2.fz 2
  have f3 := hD2.fz 3
  have HD2 := Lib.hid hD2
  have HO2 := Lib.hid ho2
  have HE2 := Lib.hid hd2
  have hw1 : IntKind.i64.wrap ((out2.length : Int) - (out.length : Int)) = (l : Int) := by rw [HLEN.out, IntWalk.i64_in _ (by omega)]; omega
  have hw2 : (out2.length : Int) - (out.length : Int) = (l : Int) := by rw [HLEN.out]; omega
  have hb2 : out2.length ≤ 300000000 := by rw [HLEN.out]; omega
  clear hD2 ho2 hd2 hnil2 hrow2 hcm2
  go_wp2_with fail
  go_ret
  refine ⟨rfl, ?_⟩
  refine DcT.more HO1.out HE1.out (DcT.more (HOA.out.mono (fun k _ e => e.elim)) (fun k hk => .inl hk) (DcT.more HO2.out HE2.out ?_))
  exact ⟨_, HD2.out.last out.length l, (Only.setCell (p := ⟨d, 2, none⟩) (.inl rfl) _).trans (Only.setCell (p := ⟨d, 3, none⟩) (.inl rfl) _), fun k hk => .inl hk⟩
end Go.Proofs.Ytgdcjhngjdiaoaa.Lz


/- The contract of the document's Decode. -/
import Derived.Test.YtgdcjhngjdiaoaaLzY
import Derived.Test.YtgdcjhngjdiaoaaLzE
namespace Go.Proofs.Ytgdcjhngjdiaoaa.Lz
open Go.RowKit Go.Proofs.Ytgdcjhngjdiaoaa.Oct Go.Proofs.Ytgdcjhngjdiaoaa.Bit
set_option linter.unusedVariables false
set_option linter.unusedSimpArgs false
set_option maxRecDepth 100000

theorem Good.mono {s : St} {B B' : Nat} (h : Good s B) (hb : B ≤ B') : Good s B' := ⟨h.ne, fun x hx => Nat.le_trans (h.len x hx) hb, Nat.le_trans h.ah hb, h.top⟩
/-- a State of the document in memory -/
def StM (w : World) (d : Nat) (s : St) (a : Nat) : Prop :=
  ∃ g c, w.heap[d]? = some (.cells #[.slice (some ⟨g, 0, none⟩) (258 + s.tab.length) c, .string (bs s.ahead), .int .i64 (a : Int)] 47 (0, 0)) ∧ StrRow w (some ⟨g, 0, none⟩) (tabD s) ∧ 258 + s.tab.length ≤ c ∧ c ≤ maxLen
theorem StM.far {w : World} {d g c : Nat} {s : St} {a : Nat} {L : List (List UInt8)} (hb : w.heap[d]? = some (.cells #[.slice (some ⟨g, 0, none⟩) (258 + s.tab.length) c, .string (bs s.ahead), .int .i64 (a : Int)] 47 (0, 0))) {g' : Nat}
    (hr : StrRow w (some ⟨g', 0, none⟩) L) (hL : 0 < L.length) : g' ≠ d := by
  intro e
  subst e
  obtain ⟨b, eb, _, hc⟩ := hr
  injection eb with eb
  injection eb with eb
  subst eb
  have h0 := hc 0 hL
  simp [World.cell?, hb] at h0
theorem tabD_pos (s : St) : 0 < (tabD s).length := by rw [tabD_length]; omega
theorem StrRow.lt {w : World} {g : Nat} {L : List (List UInt8)} (h : StrRow w (some ⟨g, 0, none⟩) L) : g < w.heap.size := by
  obtain ⟨b, e, hb, _⟩ := h
  injection e with e
  injection e with e
  omega
/-- where the State stands -/
def posS (w : World) (d : Nat) : Nat := match w.cell? ⟨d, 2, none⟩ with
  | some v => (intOf v).toNat
  | none => 0
theorem posS_of {w : World} {d a : Nat} {x0 x1 : Value} (hb : w.heap[d]? = some (.cells #[x0, x1, .int .i64 (a : Int)] 47 (0, 0))) : posS w d = a := by
  unfold posS
  simp [World.cell?, hb, intOf]
/-- the world behind a call of Code whose State was put into the one at d -/
def putW (w2 : World) (d : Nat) (u v x : Value) : World := (((w2.setCell ⟨d, 0, none⟩ u).setCell ⟨d, 1, none⟩ v).setCell ⟨d, 2, none⟩ x).alloc (.cells #[u, v, x] 47)
theorem StM.put {w2 : World} {d g2 c2 a2 : Nat} {s2 : St} {z : Int} {y0 y1 y2 : Value} (hb : w2.heap[d]? = some (.cells #[y0, y1, y2] 47 (0, 0))) (hne : g2 ≠ d) (hr : StrRow w2 (some ⟨g2, 0, none⟩) (tabD s2)) (h1 : 258 + s2.tab.length ≤ c2) (h2 : c2 ≤ maxLen) (hz : z = (a2 : Int)) :
    StM (putW w2 d (.slice (some ⟨g2, 0, none⟩) (258 + s2.tab.length) c2) (.string (bs s2.ahead)) (.int .i64 z)) d s2 a2 := by
  subst hz
  unfold putW
  obtain ⟨W, hW⟩ : ∃ W, W = ((w2.setCell ⟨d, 0, none⟩ (.slice (some ⟨g2, 0, none⟩) (258 + s2.tab.length) c2)).setCell ⟨d, 1, none⟩ (.string (bs s2.ahead))).setCell ⟨d, 2, none⟩ (.int .i64 (a2 : Int)) := ⟨_, rfl⟩
  have hbW : W.heap[d]? = some (.cells #[.slice (some ⟨g2, 0, none⟩) (258 + s2.tab.length) c2, .string (bs s2.ahead), .int .i64 (a2 : Int)] 47 (0, 0)) := by rw [hW]; exact blk_set (blk_set (blk_set hb 0 _) 1 _) 2 _
  have hrW : StrRow W (some ⟨g2, 0, none⟩) (tabD s2) := by
    rw [hW]
    exact ((hr.set (fun x hx => by injection hx with hx; subst hx; exact hne) 0 _).set (fun x hx => by injection hx with hx; subst hx; exact hne) 1 _).set (fun x hx => by injection hx with hx; subst hx; exact hne) 2 _
  rw [← hW]
  have hlt : d < W.heap.size := by
    rcases Nat.lt_or_ge d W.heap.size with hlt | hge
    · exact hlt
    · rw [Array.getElem?_eq_none hge] at hbW; cases hbW
  have hA : Below W.heap.size W (W.alloc (.cells #[.slice (some ⟨g2, 0, none⟩) (258 + s2.tab.length) c2, .string (bs s2.ahead), .int .i64 (a2 : Int)] 47)) := (Below.refl _ _).alloc (Nat.le_refl _) _
  exact ⟨g2, c2, (hA.block d hlt).trans hbW, hrW.below hA, h1, h2⟩
theorem putW_below {w w2 : World} {d : Nat} (h : Below w.heap.size w w2) (hd : w.heap.size ≤ d) (u v x : Value) : Below w.heap.size w (putW w2 d u v x) := by
  unfold putW
  have h3 := ((h.setCell (p := ⟨d, 0, none⟩) hd u).setCell (p := ⟨d, 1, none⟩) hd v).setCell (p := ⟨d, 2, none⟩) hd x
  exact h3.alloc h3.size _
def RdSt (w : World) (bits : List Bool) (old : Bool) (N : Nat) (R : List UInt8 × Nat) (d : Nat) (out : List UInt8) (wr : World) : Prop :=
  ∃ (a : Nat) (s : St), StM wr d s a ∧ Good s (a + 1) ∧ a ≤ bits.length ∧ Below w.heap.size w wr ∧ run old bits N a s out = R
def RdP (w : World) (R : List UInt8 × Nat) (e : Ending) (w' : World) : Prop := e = .returned (.tuple #[.string (bs R.1), .int .i64 (R.2 : Int)]) ∧ Below w.heap.size w w'
set_option maxHeartbeats 4000000 in
theorem rdecode_any (xs : List UInt8) (z : Int) (old : Bool) (w : World) (hl : xs.length ≤ 1000) (hz : z ≤ 20000) :
    Calls Try.prog 11 #[.string (bs xs), .int .i64 z, .bool old] w (RdP w (decR old (bitsOf old xs) z)) := by
  by_cases hneg : z < 0
  · have hres : decR old (bitsOf old xs) z = ([], 1) := by unfold decR; rw [if_pos hneg]
    rw [hres]
    have hd : decide (z < 0) = true := by simp; omega
    clear hres
    go_enter Try.func11, Try.ntmps11
    go_wp2_with fail
    go_ret2
    exact ⟨rfl, Below.refl _ _⟩
  · obtain ⟨N, rfl⟩ : ∃ N : Nat, z = (N : Int) := ⟨z.toNat, by omega⟩
    have hres : decR old (bitsOf old xs) (N : Int) = run old (bitsOf old xs) N 0 s0 [] := by unfold decR; rw [if_neg hneg]; rfl
    rw [hres]
    have hbl := bitsOf_length old xs
    have hro := rof_any xs old w hl
    obtain ⟨bits, hbits⟩ : ∃ bits, bits = bitsOf old xs := ⟨_, rfl⟩
    rw [← hbits] at hro hbl ⊢
    have hbb : bits.length ≤ 8000 := by omega
    obtain ⟨R, hR0⟩ : ∃ R, R = run old bits N 0 s0 [] := ⟨_, rfl⟩
    rw [← hR0]
    have HR0 := Lib.hid hR0
    have HRO := Lib.hid hro
    have hd0 : decide ((N : Int) < 0) = false := by simp
    have hN : N ≤ 20000 := by omega
    clear hres hbl hro hbits hR0 hneg hz
    go_enter Try.func11, Try.ntmps11
    go_wp2_with fail
    refine HRO.out.mono ?_
    rintro e w1 ⟨rfl, hb1⟩
    have HB1 := Lib.hid hb1
    clear hb1
    go_wp2_with fail
    refine (rstart_any _).mono ?_
    rintro e w2 ⟨g2, c2, rfl, hc21, hc22, hs2, hb2, hg2⟩
    obtain ⟨wd, hwd⟩ : ∃ wd, wd = w2.alloc (.cells #[.slice (some ⟨g2, 0, none⟩) 258 c2, .string ⟨#[]⟩, .int .i64 0] 47) := ⟨_, rfl⟩
    have hB2 := HB1.out.trans (hb2.mono HB1.out.size)
    have hA : Below w2.heap.size w2 wd := by rw [hwd]; exact (Below.refl _ _).alloc (Nat.le_refl _) _
    have hst : RdSt w bits old N R w2.heap.size [] wd := by
      refine ⟨0, s0, ⟨g2, c2, ?_, ?_, hc21, hc22⟩, Good.start _, Nat.zero_le _, hB2.trans (hA.mono hB2.size), HR0.out.symm⟩
      · rw [hwd]
        show (w2.heap.push _)[w2.heap.size]? = _
        rw [Array.getElem?_push_size]
        rfl
      · have := hs2.below hA
        simpa [tabD, s0] using this
    have HST := Lib.hid hst
    have HWD := Lib.hid hwd
    have hdw : w.heap.size ≤ w2.heap.size := hB2.size
    obtain ⟨d, hd⟩ : ∃ d, d = w2.heap.size := ⟨_, rfl⟩
    rw [← hd] at HST hdw
    have HD := Lib.hid hd
    clear hwd hst hs2 hb2 hA hB2 hd hg2
    go_wp2_with fail
    rw [← HD.out, ← HWD.out]
    clear HD HWD hc21 hc22
    go_loopw [10] (fun o wr => ∃ out : List UInt8, o = .string (bs out) ∧ out.length ≤ N ∧ RdSt w bits old N R d out wr) (fun _ wr => bits.length - posS wr d)
    case atStart => exact ⟨[], rfl, by simp, HST.out⟩
    case round =>
      obtain ⟨out, rfl, hol, a, s, ⟨g, c, hbk, hrow, hgc, hcm⟩, hG, hab, hB, hrun⟩ := hrel
      have hsz := bs_size out
      have k0 : wr.cell? ⟨d, 0, none⟩ = some (.slice (some ⟨g, 0, none⟩) (258 + s.tab.length) c) := by simp [World.cell?, hbk]
      have k1 : wr.cell? ⟨d, 1, none⟩ = some (.string (bs s.ahead)) := by simp [World.cell?, hbk]
      have k2 : wr.cell? ⟨d, 2, none⟩ = some (.int .i64 (a : Int)) := by simp [World.cell?, hbk]
      by_cases hlt : out.length < N
      · have hd1 : decide ((out.length : Int) < (N : Int)) = true := by simp; omega
        have hd1' : decide (out.length < N) = true := by simp; omega
        have hcv := rcode_any g c s a (a + 1) bits old wr hrow hgc hcm hG (by omega) (by omega) hab (by omega)
        have HCV := Lib.hid hcv
        have HBK := Lib.hid hbk
        have HG := Lib.hid hG
        have HB := Lib.hid hB
        have HRUN := Lib.hid hrun
        have HP := Lib.hid (posS_of hbk)
        have hdl : d < wr.heap.size := by
          rcases Nat.lt_or_ge d wr.heap.size with hlt | hge
          · exact hlt
          · rw [Array.getElem?_eq_none hge] at hbk; cases hbk
        have hwd := widN_bd (258 + s.tab.length) old
        clear hcv hbk hG hB hrun hrow hgc hcm
        go_wp2_with fail
        refine HCV.out.mono ?_
        intro e w3 hcv
        unfold CodeV at hcv
        obtain ⟨wd, hwdd⟩ : ∃ wd, wd = widN (258 + s.tab.length) old := ⟨_, rfl⟩
        rw [← hwdd] at hcv hwd
        have HWDD := Lib.hid hwdd
        obtain ⟨hb3, hcut, hrest⟩ := hcv
        have HB3 := Lib.hid (HB.out.trans (hb3.mono HB.out.size))
        have HBK3 := Lib.hid ((hb3.block d hdl).trans HBK.out)
        clear hwdd k0 k1 k2
        by_cases hok : bits.length < a + wd
        · obtain ⟨q, l, c3, b, z3, rfl⟩ := hcut hok
          have hres : R = ([], 2) := by rw [← HRUN.out]; exact run_cut hlt (by rw [← HWDD.out]; exact hok)
          have HRES := Lib.hid hres
          clear hres hb3 hcut hrest
          go_wp2_with fail
          go_ret2
          exact ⟨by rw [HRES.out]; rfl, HB3.out.alloc HB3.out.size _⟩
        · have hok2 : a + wd ≤ bits.length := by omega
          obtain ⟨hend, hr2⟩ := hrest hok2
          obtain ⟨cc, hcc⟩ : ∃ cc, cc = codeAt old bits a wd := ⟨_, rfl⟩
          rw [← hcc] at hend hr2
          have hrc : codeAt old bits a (widN (258 + s.tab.length) old) = cc := by rw [← HWDD.out, hcc]
          by_cases h7 : cc = 257
          · obtain ⟨q, l, c3, b, rfl⟩ := hend h7
            have hres : R = ([], 2) := by rw [← HRUN.out]; exact run_end hlt (by rw [hrc]; exact h7)
            have HRES := Lib.hid hres
            clear hres hb3 hcut hrest hend hr2 hcc hrc
            go_wp2_with fail
            go_ret2
            exact ⟨by rw [HRES.out]; rfl, HB3.out.alloc HB3.out.size _⟩
          · obtain ⟨hbad, hgood⟩ := hr2 h7
            rcases hst : step s cc with _ | ⟨s', t⟩
            · obtain ⟨q, l, c3, b, z3, rfl⟩ := hbad hst
              have hres : R = ([], 6) := by rw [← HRUN.out]; exact run_bad hlt (by rw [← HWDD.out]; exact hok2) (by rw [hrc]; exact h7) (by rw [hrc]; exact hst)
              have HRES := Lib.hid hres
              clear hres hb3 hcut hrest hend hr2 hcc hrc hbad hgood hst
              go_wp2_with fail
              go_ret2
              exact ⟨by rw [HRES.out]; rfl, HB3.out.alloc HB3.out.size _⟩
            · obtain ⟨g3, c3, hrow3, hgc3, hcm3, rfl⟩ := hgood s' t hst
              have hstep : run old bits N (a + wd) s' (out ++ t) = R := by
                rw [← HRUN.out, run_step (s' := s') (t := t) hlt (by rw [← HWDD.out]; exact hok2) (by rw [hrc]; exact h7) (by rw [hrc]; exact hst), ← HWDD.out]
              obtain ⟨hG', htl, _⟩ := HG.out.step (by omega) hst
              have hG2 : Good s' (a + wd + 1) := hG'.mono (by omega)
              have hne := StM.far HBK3.out hrow3 (tabD_pos s')
              have hput := StM.put (a2 := a + wd) (z := (a : Int) + (wd : Int)) HBK3.out hne hrow3 hgc3 hcm3 (by omega)
              have hpb := putW_below HB3.out hdw (.slice (some ⟨g3, 0, none⟩) (258 + s'.tab.length) c3) (.string (bs s'.ahead)) (.int .i64 ((a : Int) + (wd : Int)))
              have k0 : w3.cell? ⟨d, 0, none⟩ = some (.slice (some ⟨g, 0, none⟩) (258 + s.tab.length) c) := by simp [World.cell?, HBK3.out]
              have k1 : w3.cell? ⟨d, 1, none⟩ = some (.string (bs s.ahead)) := by simp [World.cell?, HBK3.out]
              have k2 : w3.cell? ⟨d, 2, none⟩ = some (.int .i64 (a : Int)) := by simp [World.cell?, HBK3.out]
              have f0 : ∀ i, w3.frozen? ⟨d, i, none⟩ = false := fun i => by simp [World.frozen?, HBK3.out]
              have hd3 : d < w3.heap.size := Nat.lt_of_lt_of_le hdl hb3.size
              have hap := bs_append out t
              have hst3 := bs_size t
              obtain ⟨M, hM⟩ : ∃ M, M = (out ++ t).length := ⟨_, rfl⟩
              have hso : (bs (out ++ t)).size = M := by rw [bs_size, hM]
              have hMb : M ≤ 40000 := by rw [hM, List.length_append]; omega
              have hposn : posS (putW w3 d (.slice (some ⟨g3, 0, none⟩) (258 + s'.tab.length) c3) (.string (bs s'.ahead)) (.int .i64 ((a : Int) + (wd : Int)))) d = a + wd := by
                obtain ⟨_, _, hbn, _⟩ := hput
                exact posS_of hbn
              have HS := Lib.hid hstep
              have HG2 := Lib.hid hG2
              have HPUT := Lib.hid hput
              have HPB := Lib.hid hpb
              have HPN := Lib.hid hposn
              have HM := Lib.hid hM
              have H3 := Lib.hid hrow3.lt
              clear hb3 hcut hrest hend hr2 hcc hrc hbad hgood hst hstep hG' hG2 hput hrow3 hgc3 hcm3 hne hpb hposn hM
              by_cases hlg : N < M
              · have hres : R = ([], 5) := by rw [← HS.out]; exact run_long (by rw [← HM.out]; exact hlg)
                have HRES := Lib.hid hres
                have dM : decide ((N : Int) < (M : Int)) = true := by simp; omega
                have dM' : decide (N < M) = true := by simp; omega
                clear hres
                go_wp2_with fail
                go_ret2
                exact ⟨by rw [HRES.out]; rfl, HPB.out⟩
              · have dM : decide ((N : Int) < (M : Int)) = false := by simp; omega
                have dM' : decide (N < M) = false := by simp; omega
                go_wp2_with fail
                go_roundw
                case rel => exact ⟨out ++ t, rfl, by rw [← HM.out]; omega, a + wd, s', HPUT.out, HG2.out, hok2, HPB.out, HS.out⟩
                case measure => 
                  have h := HPN.out
                  unfold putW at h
                  rw [h, HP.out]
                  omega
      · have hd1 : decide ((out.length : Int) < (N : Int)) = false := by simp; omega
        have hd1' : decide (out.length < N) = false := by simp; omega
        have hres : R = (out, 0) := by rw [← hrun]; exact run_done (by omega)
        have HRES := Lib.hid hres
        have HB := Lib.hid hB
        clear hrun hB hbk hrow hgc hcm hG hres
        go_wp2_with fail
        go_ret2
        exact ⟨by rw [HRES.out]; rfl, HB.out⟩
end Go.Proofs.Ytgdcjhngjdiaoaa.Lz

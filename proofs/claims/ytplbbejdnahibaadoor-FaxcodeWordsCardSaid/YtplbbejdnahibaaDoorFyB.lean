
/- A book of modes: the contracts of New, Len, Word and Write. -/
import Derived.Test.YtplbbejdnahibaaDoorHfW
import Derived.Test.YtplbbejdnahibaaDoorFxM
namespace Go.Proofs.YtplbbejdnahibaaDoor.Fx
open Go.RowKit Go.Proofs.YtplbbejdnahibaaDoor.Oct Go.Proofs.YtplbbejdnahibaaDoor.Bit Go.Proofs.YtplbbejdnahibaaDoor.Hf Go.Proofs.YtplbbejdnahibaaDoor.Inf
set_option linter.unusedVariables false
set_option linter.unusedSimpArgs false
set_option maxRecDepth 100000

theorem Tryd.infoMode : (Tryd.prog.info? 33).map (fun i => (i.zero, i.size, i.bytes)) = some (some (.int .i64 0), 1, 8) := by kernel_rfl
set_option maxHeartbeats 400000 in
theorem mcloneI_any (p : Option Addr) (len cap : Nat) (vs : List Value) (w : World) (hr : VRow w w.heap.size p vs) (hx : vs.length = len) (hnil : p = none → cap = 0) (h47 : len ≤ 100000) (h1 : ∀ u ∈ vs, u.oneCell' = true) :
    Calls Tryd.prog 54 #[.slice p len cap] w (CloneV w vs) := by
  obtain ⟨i0, hi, hz0, hz1, hz2⟩ := info_parts Tryd.infoMode
  rcases p with _ | ad
  · have hxs : vs = [] := by
      rcases vs with _ | ⟨x, xs⟩
      · rfl
      · obtain ⟨b, off, he, _⟩ := hr (by simp)
        cases he
    subst hxs
    simp at hx
    subst hx
    have hcap := hnil rfl
    subst hcap
    clear hnil
    have heq : ∀ w' : World, (binOp .eql 29 (.slice none 0 0) (.slice none 0 0)).run Tryd.prog w' = .ok (.bool true) w' := fun w' => Lib.run_eql_slice_nil (P := Tryd.prog) w' 29 33 none 0 0 0 0 Tryd.underlying29
    go_enter Tryd.func54, Tryd.ntmps54
    go_wp2_with fail
    go_ret
    exact ⟨Below.refl _ _, none, 0, rfl, fun h => absurd h (by simp), by simp, by simp [maxLen], fun _ => rfl, (fun a h => by cases h)⟩
  · have hown := World.ownsRow_made (base := w.heap.size) (e := 33) (size := 1) w #[] 0 (Nat.le_refl _) (by simp [maxLen]) rfl
    have hba : Below w.heap.size w (w.alloc (.cells #[] 33)) := (Below.refl _ w).alloc (Nat.le_refl _) _
    have hr2 : VRow (w.alloc (.cells #[] 33)) (w.alloc (.cells #[] 33)).heap.size (some ad) vs := (hr.below hba (Nat.le_refl _)).mono (by simp)
    have HX := Lib.hid hx
    have HR2 := Lib.hid hr2
    have HBA := Lib.hid hba
    have H1 := Lib.hid h1
    clear hx hnil hr2 hba hr h1
    have heq : ∀ w' : World, (binOp .eql 29 (.slice (some ad) len cap) (.slice none 0 0)).run Tryd.prog w' = .ok (.bool false) w' := fun w' => Lib.run_eql_slice_nil (P := Tryd.prog) w' 29 33 (some ad) len cap 0 0 Tryd.underlying29
    go_enter Tryd.func54, Tryd.ntmps54
    go_wp2_with (at_builtin; refine wpList_append_vals Tryd.underlying29 hi hz0 hz1 hz2 rfl (by decide) rfl _ _ rfl w.heap.size _ 0 [] rfl hown (some ad) len cap vs rfl HR2.out HX.out (fun h => by cases h) H1.out (by omega) (by simp) ?_)
    intro v' w2 hown' hgrow hbel
    obtain ⟨q, cap2, hv', hq0, hgc, hgm, hrow2, hqb⟩ := vrow_own hown' HX.out
    rw [hv']
    have HB12 := Lib.hid (HBA.out.trans hbel)
    have HROW := Lib.hid hrow2
    have HGC := Lib.hid hgc
    have HGM := Lib.hid hgm
    have HQB := Lib.hid hqb
    have HQ0 := Lib.hid hq0
    clear hown hown' hgrow hbel hv' hrow2 hgc hgm hqb hq0
    go_wp2_with fail
    go_ret
    refine ⟨HB12.out, q, cap2, by rw [HX.out]; simp, HROW.out, by have := HGC.out; rw [HX.out]; omega, HGM.out, HQ0.out, HQB.out⟩
set_option maxHeartbeats 2000000 in
theorem mnewI_any (p q : Option Addr) (len cap cap2 : Nat) (ws : List (List UInt8)) (ms : List Value) (w : World) (hr : VRow w w.heap.size p (strs ws)) (hx : ws.length = len) (hnil : p = none → cap = 0)
    (hr2 : VRow w w.heap.size q ms) (hx2 : ms.length = len) (hnil2 : q = none → cap2 = 0) (hl : len ≤ 100000) (h1 : ∀ u ∈ ms, u.oneCell' = true) (hw : ∀ s ∈ ws, s.length ≤ 1000000) :
    Calls Tryd.prog 35 #[.slice p len cap, .slice q len cap2] w (NewP w ws ms) := by
  have HC1 := Lib.hid (cloneS_any p len cap (strs ws) w hr (by rw [strs_length]; exact hx) hnil hl (by exact strs_one))
  have HX := Lib.hid hx
  have HX2 := Lib.hid hx2
  have HR := Lib.hid hr
  have HR2 := Lib.hid hr2
  have HN2 := Lib.hid hnil2
  have H1 := Lib.hid h1
  have HW := Lib.hid hw
  clear hr hx hnil hr2 hx2 hnil2 h1 hw
  go_enter Tryd.func35, Tryd.ntmps35
  go_wp2_with fail
  refine HC1.out.mono ?_
  rintro e w1 ⟨hb1, q1, c1, rfl, hv1, hc1, hm1, hq1, hg1⟩
  rw [strs_length, HX.out] at hc1 ⊢
  have HV1 := Lib.hid hv1
  have HB1 := Lib.hid hb1
  have HC1' := Lib.hid hc1
  have HG1 := Lib.hid hg1
  have HZ01 := Lib.hid hb1.size
  clear hv1 hc1 hm1 hq1 hg1
  have HC2 := Lib.hid (mcloneI_any q len cap2 ms w1 ((HR2.out.below hb1 (Nat.le_refl _)).mono hb1.size) HX2.out HN2.out hl H1.out)
  clear hb1
  go_wp2_with fail
  refine HC2.out.mono ?_
  rintro e w2 ⟨hb2, q2, c2, rfl, hv2, hc2, hm2, hq2, hg2⟩
  rw [HX2.out] at hc2 ⊢
  have HV2 := Lib.hid hv2
  have HC2' := Lib.hid hc2
  have hT := tr_new w2 (.slice q1 len c1) (.slice q2 len c2) 104
  have hb3 : Below w.heap.size w (w2.alloc (.cells (bookC (.slice q1 len c1) (.slice q2 len c2)) 104)) := (HB1.out.trans (hb2.mono HB1.out.size)).alloc (Nat.le_trans HB1.out.size hb2.size) _
  have hvw : VRow (w2.alloc (.cells (bookC (.slice q1 len c1) (.slice q2 len c2)) 104)) w2.heap.size q1 (strs ws) := ((HV1.out.below hb2 (Nat.le_refl _)).mono hb2.size).below ((Below.refl _ w2).alloc (Nat.le_refl _) _) (Nat.le_refl _)
  have hvm : VRow (w2.alloc (.cells (bookC (.slice q1 len c1) (.slice q2 len c2)) 104)) w2.heap.size q2 ms := HV2.out.below ((Below.refl _ w2).alloc (Nat.le_refl _) _) (Nat.le_refl _)
  unfold bookC at hT hb3 hvw hvm
  have HG := Lib.hid (Nat.le_trans HB1.out.size hb2.size)
  have HG2 := Lib.hid (show ∀ a, q2 = some a → w.heap.size ≤ a.block from fun a h => Nat.le_trans HZ01.out (hg2 a h))
  have HT := Lib.hid hT
  have HB3 := Lib.hid hb3
  have HVW := Lib.hid hvw
  have HVM := Lib.hid hvm
  clear hT hb3 hvw hvm hv2 hc2 hm2 hq2 hg2 hb2 HV1 HV2 HB1 HC1 HC2
  go_wp2_with fail
  obtain ⟨w3, hw3⟩ : ∃ w3, w3 = w2.alloc (.cells #[.slice q1 len c1, .slice q2 len c2, .pointer none, .pointer none, .bool false, .int .i64 0] 104) := ⟨_, rfl⟩
  have hz3 : w3.heap.size = w2.heap.size + 1 := by rw [hw3]; simp
  rw [← hw3] at HT HB3 HVW HVM ⊢
  rw [← hz3] at HT
  generalize hge : w2.heap.size = g at *
  have hgl : g < w3.heap.size := by omega
  clear hw3 hz3
  go_loopw [7, 8, 9, 23] (fun u s e i wr => ∃ (k : Nat) (A : List Bool → Option (Nat × Nat)) (E : List Bool → Option Nat), k ≤ len ∧ i = .int .i64 (k : Int) ∧ Hid (Tr wr wr.heap.size g (.slice q1 len c1) (.slice q2 len c2) A E) ∧ Hid (St ws k A E) ∧ Hid (Below g w3 wr)) (fun _ _ _ i _ => len - (intOf i).toNat)
  case atStart => exact ⟨0, _, _, by omega, rfl, HT, Lib.hid (St.zero ws g), Lib.hid (Below.refl _ _)⟩
  case round =>
    obtain ⟨k, A, E, hk, rfl, HTr, HSt, HB⟩ := hrel
    by_cases hlt : k < len
    · have hkz : k < ws.length := by rw [HX.out]; exact hlt
      obtain ⟨b, off, hp, hbl⟩ := HR.out.addr (by rw [strs_length]; omega)
      subst hp
      have hgw := HG.out
      have hc := (HB.out.cell (p := ⟨b, off + k, none⟩) (by show b < g; omega)).trans ((HB3.out.cell (p := ⟨b, off + k, none⟩) hbl).trans (HR.out.str k hkz))
      have hget : ws[k]? = some ws[k] := List.getElem?_eq_getElem hkz
      have hsl := HW.out ws[k] (List.getElem_mem hkz)
      have hem := bs_empty ws[k]
      generalize ws[k] = s at hc hget hsl hem
      have HGET := Lib.hid hget
      have hd : decide ((k : Int) < (len : Int)) = true := by simp; omega
      have i1 : (0 : Int) ≤ (k : Int) := by omega
      have i2 : (k : Int) < (len : Int) := by omega
      clear hget hgw
      by_cases hs : s = []
      · subst hs
        have HS2 := Lib.hid (HSt.out.skip HGET.out)
        have hem : (bs []).toList.isEmpty = true := hem
        generalize bs [] = sb at hc hem
        go_wp2_with fail
        go_roundw
        case rel => exact ⟨k + 1, A, E, by omega, by go_num, HTr, HS2, HB⟩
        case measure => simp [intOf]; omega
      · have hem : (bs s).toList.isEmpty = false := by
          rw [hem]
          cases s
          · exact absurd rfl hs
          · rfl
        have HADD := Lib.hid (add_node wr g (.slice q1 len c1) (.slice q2 len c2) A E s k HTr.out hsl trivial)
        have HS := Lib.hid hs
        clear hs
        generalize hsb : bs s = sb at hc hem HADD
        clear hsb
        go_wp2_with fail
        refine HADD.out.mono ?_
        rintro e w4 ⟨hb4, hres⟩
        have HB4 := Lib.hid (HB.out.trans hb4)
        clear hb4
        rcases hres with ⟨m, hm, rfl, hq1, hq2, A', hT', hdom⟩ | ⟨c, hc0, rfl, hbad⟩
        · have HT' := Lib.hid hT'
          have HS' := Lib.hid (HSt.out.add (by rw [← hm]; exact HGET.out) (by intro e; exact HS.out (by rw [hm, e]; rfl)) hq1 hq2 hdom)
          clear hm hq1 hq2 hT' hdom
          go_wp2_with fail
          go_roundw
          case rel => exact ⟨k + 1, A', _, by omega, by go_num, HT', HS', HB4⟩
          case measure => simp [intOf]; omega
        · have HBAD := Lib.hid (HSt.out.bad HGET.out HS.out hbad)
          have hcb : (c != 0) = true := by simpa using hc0
          have HC0 := Lib.hid hc0
          clear hbad hc0
          go_wp2_with fail
          go_ret2
          exact ⟨HB3.out.trans (HB4.out.mono HG.out), .inl ⟨c, HC0.out, rfl, HBAD.out⟩⟩
    · have hke : k = len := by omega
      subst hke
      have hd : decide ((k : Int) < (k : Int)) = false := by simp
      have hzr := HB.out.size
      have hBk : BkK wr w.heap.size g ws ms := ⟨q1, c1, q2, c2, A, E, by rw [HX.out]; exact HSt.out, by rw [HX.out]; exact HC1'.out, by rw [HX2.out]; exact HC2'.out, fun wq hkq => ⟨by rw [HX.out, HX2.out]; exact HTr.out.keep (fun k h1 h2 => hkq k (Nat.le_trans HG.out h1) h2), ((HVW.out.below HB.out (Nat.le_refl _)).mono (by omega)).keep HG1.out hkq, ((HVM.out.below HB.out (Nat.le_refl _)).mono (by omega)).keep HG2.out hkq⟩⟩
      have HBK := Lib.hid hBk
      clear hBk
      go_wp2_with fail
      go_ret2
      exact ⟨HB3.out.trans (HB.out.mono HG.out), .inr ⟨g, rfl, HG.out, by omega, HBK.out⟩⟩
theorem mblen_any (w : World) (C g : Nat) (ws : List (List UInt8)) (ms : List Value) (hB : Bk w C g ws ms) : Calls Tryd.prog 64 #[.pointer (some ⟨g, 0, none⟩)] w fun e w' => e = .returned (.int .i64 (ws.length : Int)) ∧ w = w' := by
  obtain ⟨pw, cw, pm, cm, A, E, hT, hS, hvw, hvm, hlw, hlm⟩ := hB
  have h0 := hT.h0
  clear hT hS hvw hvm hlw hlm
  go_enter Tryd.func64, Tryd.ntmps64
  go_wp2_with fail
  go_ret
  exact ⟨rfl, rfl⟩
theorem mbword_in (w : World) (C g : Nat) (ws : List (List UInt8)) (ms : List Value) (i : Nat) (s : List UInt8) (hB : Bk w C g ws ms) (hi : ws[i]? = some s) :
    Calls Tryd.prog 57 #[.pointer (some ⟨g, 0, none⟩), .int .i64 (i : Int)] w (WordN w s 0) := by
  have HL := Lib.hid (mblen_any w C g ws ms hB)
  obtain ⟨pw, cw, pm, cm, A, E, hT, hS, hvw, hvm, hlw, hlm⟩ := hB
  have h0 := hT.h0
  have hs : (strs ws)[i]? = some (.string (bs s)) := by simp [strs, hi]
  obtain ⟨b, off, rfl, hb, hc⟩ := vrow_get hvw hs
  have hil : i < ws.length := (List.getElem?_eq_some_iff.1 hi).1
  have hd0 : decide ((i : Int) < 0) = false := by simp
  have hd1 : decide ((ws.length : Int) ≤ (i : Int)) = false := by simp; omega
  have j0 : (0 : Int) ≤ (i : Int) := by omega
  have j1 : (i : Int) < (ws.length : Int) := by omega
  generalize ws.length = n at *
  generalize hsb : bs s = sb at hc
  have HSB := Lib.hid hsb
  clear hT hS hvw hvm hlw hlm hs hi hil hsb
  go_enter Tryd.func57, Tryd.ntmps57
  go_wp2_with fail
  refine HL.out.mono ?_
  rintro e w' ⟨rfl, rfl⟩
  go_wp2_with fail
  go_ret2
  exact ⟨by rw [HSB.out]; rfl, rfl⟩
theorem mbwrite_in (w : World) (C g : Nat) (ws : List (List UInt8)) (ms : List Value) (gw : Nat) (v : Value) (l m : List Bool) (low : Bool) (i : Nat) (hB : Bk w C g ws ms) (hi : ws[i]? = some (m.map dig)) (hm : m ≠ []) (hW : Ws w gw v l low) (hl : l.length + m.length ≤ 2000000) :
    Calls Tryd.prog 42 #[.pointer (some ⟨g, 0, none⟩), .pointer (some ⟨gw, 0, none⟩), .int .i64 (i : Int)] w (WriteP w gw v l m low) := by
  have HW := Lib.hid (show Calls Tryd.prog 57 #[.pointer (some ⟨g, 0, none⟩), .int .i64 (i : Int)] w (fun e w' => e = .returned (.tuple #[.string (ds m), .int .i64 0]) ∧ w = w') from mbword_in w C g ws ms i _ hB hi)
  have HWW := Lib.hid (word_any w gw v l m low hl hW)
  have hem := ds_nonempty m hm
  generalize ds m = sb at HW HWW hem
  clear hB hi hm hW hl
  go_enter Tryd.func42, Tryd.ntmps42
  go_wp2_with fail
  refine HW.out.mono ?_
  rintro e w' ⟨rfl, rfl⟩
  go_wp2_with fail
  refine HWW.out.mono ?_
  rintro e w' ⟨rfl, hT⟩
  have HT := Lib.hid hT
  clear hT
  go_wp2_with fail
  go_ret
  exact ⟨rfl, HT.out⟩
theorem mbwrite_none (w : World) (C g : Nat) (ws : List (List UInt8)) (ms : List Value) (m : List Bool) (i : Nat) (hB : Bk w C g ws ms) (hi : ws[i]? = some (m.map dig)) (hm : m ≠ []) (hl : m.length ≤ 2000000) :
    Calls Tryd.prog 42 #[.pointer (some ⟨g, 0, none⟩), .pointer none, .int .i64 (i : Int)] w fun e w' => e = .returned (.int .i64 1) ∧ w = w' := by
  have HW := Lib.hid (show Calls Tryd.prog 57 #[.pointer (some ⟨g, 0, none⟩), .int .i64 (i : Int)] w (fun e w' => e = .returned (.tuple #[.string (ds m), .int .i64 0]) ∧ w = w') from mbword_in w C g ws ms i _ hB hi)
  have hwn := word_nil (m.map dig) w (by simpa using hl)
  rw [wordB_dig, if_pos rfl] at hwn
  have HWW := Lib.hid (show Calls Tryd.prog 56 #[.pointer none, .string (ds m)] w (fun e w' => e = .returned (.int .i64 1) ∧ w = w') from hwn)
  have hem := ds_nonempty m hm
  generalize ds m = sb at HW HWW hem
  clear hB hi hm hl hwn
  go_enter Tryd.func42, Tryd.ntmps42
  go_wp2_with fail
  refine HW.out.mono ?_
  rintro e w' ⟨rfl, rfl⟩
  go_wp2_with fail
  refine HWW.out.mono ?_
  rintro e w' ⟨rfl, rfl⟩
  go_wp2_with fail
  go_ret
  exact ⟨rfl, rfl⟩
end Go.Proofs.YtplbbejdnahibaaDoor.Fx

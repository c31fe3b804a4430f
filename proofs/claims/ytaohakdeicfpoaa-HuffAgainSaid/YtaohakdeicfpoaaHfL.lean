
/- The walk of HuffAgain. -/
import Derived.Test.YtaohakdeicfpoaaHfK
import Derived.Deep.AppendLies
namespace Go.Proofs.Ytaohakdeicfpoaa.Hf
open Go.RowKit Go.Proofs.Ytaohakdeicfpoaa.Oct Go.Proofs.Ytaohakdeicfpoaa.Bit
set_option linter.unusedVariables false
set_option linter.unusedSimpArgs false
set_option maxRecDepth 100000

theorem row_five (w : World) : Row (w.alloc (.cells #[.int .u8 167, .int .u8 49, .int .u8 255, .int .u8 0, .int .u8 92] 5)) (some ⟨w.heap.size, 0, none⟩) [167, 49, 255, 0, 92] := by
  have : Blk (w.alloc (.cells #[.int .u8 167, .int .u8 49, .int .u8 255, .int .u8 0, .int .u8 92] 5)) w.heap.size [167, 49, 255, 0, 92] := heap_alloc_last w _
  exact this.row
set_option maxHeartbeats 8000000 in
theorem again_walk (a : Option Addr) (len cap : Nat) (a2 : Option Addr) (len2 cap2 : Nat) (low : Bool) (W : World) (h : IsInts W a len cap) (h2 : IsInts W a2 len2 cap2) :
    Calls Try.prog 4 #[.slice a len cap, .slice a2 len2 cap2, .bool low] W fun e w' => e = .returned (.bool true) ∧ Below W.heap.size W w' := by
  obtain ⟨ls, hx, hr, hlc, hcm, hnil⟩ := h
  obtain ⟨ls2, hx2, hr2, hlc2, hcm2, hnil2⟩ := h2
  have HX := Lib.hid hx
  have HR := Lib.hid hr
  have HX2 := Lib.hid hx2
  have HR2 := Lib.hid hr2
  clear hx hr hlc hcm hnil hx2 hr2 hlc2 hcm2 hnil2
  go_enter Try.func4, Try.ntmps4
  go_wp2_with fail
  refine (lives_any _).mono ?_
  rintro e w1 ⟨rfl, hb1⟩
  have HB1 := Lib.hid hb1
  clear hb1
  have big : ∀ b : Bool, b = true → True := fun _ _ => trivial
  by_cases hbig : 100 < len
  · have hd : decide ((100 : Int) < (len : Int)) = true := by simp; omega
    go_wp2_with fail
    refine (lives_any _).mono ?_
    rintro e w2 ⟨rfl, hb2⟩
    have HB2 := Lib.hid (HB1.out.trans (hb2.mono HB1.out.size))
    clear hb2
    go_wp2_with fail
    go_ret
    exact ⟨rfl, HB2.out⟩
  have hd : decide ((100 : Int) < (len : Int)) = false := by simp; omega
  by_cases hbig2 : 200 < len2
  · have hd2 : decide ((200 : Int) < (len2 : Int)) = true := by simp; omega
    go_wp2_with fail
    refine (lives_any _).mono ?_
    rintro e w2 ⟨rfl, hb2⟩
    have HB2 := Lib.hid (HB1.out.trans (hb2.mono HB1.out.size))
    clear hb2
    go_wp2_with fail
    go_ret
    exact ⟨rfl, HB2.out⟩
  have hd2 : decide ((200 : Int) < (len2 : Int)) = false := by simp; omega
  have HCA := Lib.hid (canon_any a len cap ls w1 ((HR.out.below HB1.out (Nat.le_refl _)).mono HB1.out.size) HX.out (by omega))
  clear big
  go_wp2_with fail
  refine HCA.out.mono ?_
  rintro e w2 ⟨hb2, hres⟩
  have HB2 := Lib.hid (HB1.out.trans (hb2.mono HB1.out.size))
  rcases hres with ⟨hE, rfl⟩ | ⟨hE, q, c, rfl, hv, hq0, hlc, hcm, hqb⟩
  · have hcb : (cErr ls != 0) = true := by simpa using hE
    generalize cErr ls = ce at *
    clear hb2 hE
    go_wp2_with fail
    go_ret
    exact ⟨rfl, HB2.out⟩
  have hNl := lensN_length ls
  have hok : okZ ls = true := by
    rcases h : okZ ls with _ | _
    · unfold cErr at hE; rw [h] at hE; simp at hE
    · rfl
  have hT : startN (lensN ls) 31 ≤ 1073741824 := by
    rcases Nat.lt_or_ge 1073741824 (startN (lensN ls) 31) with h | h
    · unfold cErr at hE; rw [if_pos hok, if_neg (by omega)] at hE; simp at hE
    · exact h
  have HLM := Lib.hid (lensN_max ls hok)
  have HGOOD := Lib.hid (canon_good (lensN ls) (lensN_max ls hok) hT)
  rw [HX.out] at hNl
  generalize lensN ls = N at hv hNl hT HLM HGOOD ⊢
  have HV := Lib.hid hv
  have HQ0 := Lib.hid hq0
  have HNL := Lib.hid hNl
  rw [HX.out]
  obtain ⟨fu, hfu⟩ : ∃ fu, fu = decide (startN N 31 = 1073741824) := ⟨_, rfl⟩
  rw [← hfu]
  have HFU := Lib.hid hfu
  clear hfu hok hT hE hb2 hv hq0 hlc hcm hqb HCA hNl
  go_wp2_with fail
  refine (places_any len _ (by omega)).mono ?_
  rintro e w3 ⟨hb3, qp, cp, rfl, hvp, hqp⟩
  rw [ints_length, placesL_length]
  have HB3 := Lib.hid (HB2.out.trans (hb3.mono HB2.out.size))
  have HNEW := Lib.hid (newI_any q qp len c cp (canonB N) (ints (placesL len)) w3 ((HV.out.below hb3 (Nat.le_refl _)).mono hb3.size) (by rw [canonB_length]; exact HNL.out) HQ0.out hvp (by rw [ints_length, placesL_length]) hqp (by omega) ints_one (fun s hs => by
    obtain ⟨j, hj⟩ := List.mem_iff_getElem?.1 hs
    obtain ⟨hj', rfl⟩ := canonB_some N j s hj
    have := HLM.out j hj'
    rw [List.length_map, wordAt_length]
    omega))
  clear hb3 hvp hqp
  go_wp2_with fail
  refine HNEW.out.mono ?_
  rintro e w4 ⟨hb4, hres⟩
  have HB4 := Lib.hid (HB3.out.trans (hb4.mono HB3.out.size))
  rcases hres with ⟨_, _, _, hbad⟩ | ⟨g, rfl, hg1, hg2, hbk⟩
  · exact absurd HGOOD.out hbad
  have HBK := Lib.hid hbk.bk
  have hW4 := HB4.out.size
  clear hb4 hbk hg1
  go_wp2_with fail
  refine (newWriter_any low _).mono ?_
  rintro e w5 ⟨hb5, rfl, hW5⟩
  have HAG := Lib.hid (show Ag w4 w4.heap.size low (bitsK N []) [] (.slice none 0 0) (.slice none 0 0) w5 from ⟨hW5, by simpa [castL, ints] using World.ownsRow_nil w5 w4.heap.size 3 1, by simp [Value.ownBlock], fun k hk => by simp [Value.ownBlock] at hk, fun k hk => by simp [Value.ownBlock] at hk, fun k hk => by simp [Value.ownBlock] at hk, hb5⟩)
  generalize hgwe : w4.heap.size = gw at *
  have HGWE := Lib.hid hgwe
  clear hb5 hW5 hgwe
  go_wp2_with fail
  go_loopw [13, 15, 62] (fun u x i wr => ∃ (t : Nat) (K : List Nat) (v : Value), t ≤ len2 ∧ i = .int .i64 (t : Int) ∧ K.length ≤ t ∧ Hid (KOk N K) ∧ Hid (Ag w4 gw low (bitsK N K) K u v wr)) (fun _ _ i _ => len2 - (intOf i).toNat)
  case atStart => exact ⟨0, [], _, by omega, rfl, by simp, Lib.hid (fun i hi => by simp at hi), HAG⟩
  case round =>
    obtain ⟨t, K, v, ht, rfl, hKt, HK, HA⟩ := hrel
    have HBW := Lib.hid (HB4.out.trans (HA.out.bel.mono hW4))
    have HBKr := Lib.hid (HBK.out.below HA.out.bel)
    by_cases hlt : t < len2
    · have htz : t < ls2.length := by rw [HX2.out]; exact hlt
      obtain ⟨b, off, hq, hbl⟩ := HR2.out.addr (by rw [ints_length]; omega)
      subst hq
      have hc := (HBW.out.cell (p := ⟨b, off + t, none⟩) hbl).trans (HR2.out.int t htz)
      generalize ls2[t] = z at hc
      have hdt : decide ((t : Int) < (len2 : Int)) = true := by simp; omega
      have i1 : (0 : Int) ≤ (t : Int) := by omega
      have i2 : (t : Int) < (len2 : Int) := by omega
      have miss : Calls Try.prog 13 #[.pointer (some ⟨g, 0, none⟩), .pointer (some ⟨gw, 0, none⟩), .int .i64 z] wr (NoneP wr) ∨ ∃ k : Nat, z = (k : Int) ∧ k < N.length ∧ wN N k ≠ [] := by
        by_cases hin : 0 ≤ z ∧ z < (len : Int)
        · obtain ⟨k, rfl⟩ : ∃ k : Nat, z = (k : Int) := ⟨z.toNat, by omega⟩
          have hk : k < N.length := by rw [HNL.out]; omega
          by_cases hw : wN N k = []
          · left
            have := wN_some N k hk
            rw [hw] at this
            exact bwrite_empty wr _ g (canonB N) _ _ k HBKr.out this
          · exact .inr ⟨k, rfl, hk, hw⟩
        · left
          exact bwrite_out wr _ g (canonB N) _ _ z HBKr.out (by rw [canonB_length, HNL.out]; omega)
      rcases miss with hm | ⟨k, rfl, hk, hw⟩
      · have HM := Lib.hid hm
        clear hm
        go_wp2_with fail
        refine HM.out.mono ?_
        rintro e w' ⟨rfl, rfl⟩
        go_wp2_with fail
        go_roundw
        case rel => exact ⟨t + 1, K, v, by omega, by go_num, by omega, HK, HA⟩
        case measure => simp [intOf]; omega
      · have hbd := bitsK_bd N HLM.out K HK.out
        have hwl := wN_length N k hk
        have h30 := HLM.out k hk
        have HWR := Lib.hid (bwrite_in wr _ g (canonB N) _ gw v (bitsK N K) (wN N k) low k HBKr.out (wN_some N k hk) hw HA.out.w (by omega))
        have HK2 := Lib.hid (show KOk N (K ++ [k]) from fun j hj => by
          rcases List.mem_append.1 hj with hj | hj
          · exact HK.out j hj
          · have : j = k := by simpa using hj
            rw [this]; exact ⟨hk, hw⟩)
        have hKl : K.length ≤ 200 := by omega
        clear hbd hwl h30 hw hk
        go_wp2_with fail
        refine HWR.out.mono ?_
        rintro e w6 ⟨rfl, hT6⟩
        obtain ⟨v6, hA6⟩ := HA.out.wrote hT6
        rw [← bitsK_snoc] at hA6
        have hb7 : Below w6.heap.size w6 (w6.alloc (.cells (ints [(k : Int)]).toArray 3)) := (Below.refl _ w6).alloc (Nat.le_refl _) _
        have HA7 := Lib.hid (hA6.more hb7)
        have HS7 := Lib.hid (ints_new w6 [(k : Int)] 3 (0, 0))
        have HZ7 := Lib.hid (show gw ≤ (w6.alloc (.cells (ints [(k : Int)]).toArray 3)).heap.size by have := Wr.lt hA6.w; simp; omega)
        obtain ⟨i0, hi, hz0, hz1, hz2⟩ := info_parts Try.infoInt
        clear hT6 hA6 hb7
        go_wp2_with (at_builtin; refine wpList_append_lies _ rfl _ _ 22 rfl gw 3 i0 (.int .i64 0) 1 8 Try.underlying22 hi hz0 hz1 hz2 rfl (by decide) _ K.length (ints (castL K)) rfl HA7.out.o ⟨w6.heap.size, 0, none⟩ 1 1 (ints [(k : Int)]) rfl rfl ?d1 ints_one (by decide) ?d2 ?d3 HZ7.out (w6.heap.size + 1) (by simp) ?_)
        case d1 =>
          intro j y hj
          obtain ⟨hj', hy⟩ := List.getElem?_eq_some_iff.1 hj
          have hj0 : j = 0 := by simpa [ints] using hj'
          subst hj0
          have := HS7.out.int 0 (by simp)
          rw [← hy]
          rw [add_plain]
          exact this
        case d2 => unfold maxLen; omega
        case d3 => omega
        intro g8 c8 w8 hown8 hgrow8 hd8 hlt8
        have HA8 := Lib.hid (HA7.out.kept (i := k) hown8 hgrow8 (by simpa using hd8))
        clear hown8 hgrow8 hd8 hlt8
        go_wp2_with fail
        go_roundw
        case rel => exact ⟨t + 1, K ++ [k], v6, by omega, by go_num, by simp; omega, HK2, HA8⟩
        case measure => simp [intOf]; omega
    · have hte : t = len2 := by omega
      subst hte
      have hdt : decide ((t : Int) < (t : Int)) = false := by simp
      obtain ⟨wA, rfl⟩ : ∃ wA, wA = wr := ⟨wr, rfl⟩
      have hKl : K.length ≤ 200 := by omega
      have hbd := bitsK_bd N HLM.out K HK.out
      have HBY := Lib.hid (bytes_any wA gw v (bitsK N K) low HA.out.w (by omega))
      have hpl := packB_length low (bitsK N K)
      obtain ⟨qk, ck, rfl, _, hkc, _, hvk, _⟩ := vrow_own HA.out.o (by rw [ints_length, castL_length])
      have HVK := Lib.hid hvk
      have HBEL := Lib.hid HA.out.bel
      have HGWR := Lib.hid (Nat.le_of_lt (Wr.lt HA.out.w))
      clear HA hvk
      go_wp2_with fail
      refine HBY.out.mono ?_
      rintro e w6 ⟨hb6, q6, c6, rfl, hrow6, hlc6, hcm6, hn6, _⟩
      have HNR := Lib.hid (newReader_any q6 _ c6 (packB low (bitsK N K)) low w6 hrow6 rfl hn6 (by omega))
      have HB6 := Lib.hid hb6
      clear hb6 hrow6 hlc6 hcm6 hn6 hpl hbd
      generalize hxs : packB low (bitsK N K) = xs at *
      have HXS := Lib.hid hxs
      clear hxs
      go_wp2_with fail
      refine HNR.out.mono ?_
      rintro e w7 ⟨hb7, gr, q7, c7, rfl, hg7, hR7, _⟩
      have HBR7 := Lib.hid (HB6.out.trans (hb7.mono HB6.out.size))
      have HG7 := Lib.hid (show wA.heap.size ≤ gr from Nat.le_trans HB6.out.size hg7)
      have HZ7 := Lib.hid HBR7.out.size
      have HR7 := Lib.hid (show Rd w7 gr q7 c7 xs (bitsK N (K.take 0)).length low from hR7)
      clear hb7 hg7 hR7
      go_wp2_with fail
      go_loopw [18, 19, 20, 82] (fun x y z i wq => ∃ s : Nat, s ≤ K.length ∧ i = .int .i64 (s : Int) ∧ Hid (Rd wq gr q7 c7 xs (bitsK N (K.take s)).length low) ∧ Hid (Only (· = gr) w7 wq) ∧ Hid (wq.heap.size = w7.heap.size)) (fun _ _ _ i _ => K.length - (intOf i).toNat)
      case atStart => exact ⟨0, by omega, rfl, HR7, Lib.hid (Only.refl _ _), Lib.hid rfl⟩
      case round =>
        obtain ⟨s, hs, rfl, HRs, HOs, HZs⟩ := hrel
        have HBq := Lib.hid (show Below wA.heap.size wA wr from HBR7.out.trans (HOs.out.below HZ7.out (fun k hk e => by have := HG7.out; omega)))
        have HBq4 := Lib.hid (HBEL.out.trans (HBq.out.mono HGWR.out))
        have HBKq := Lib.hid (HBK.out.below HBq4.out)
        have HBWq := Lib.hid (HB4.out.trans (HBq4.out.mono hW4))
        by_cases hlt2 : s < K.length
        · obtain ⟨hk, hw⟩ := HK.out K[s] (List.getElem_mem hlt2)
          obtain ⟨rest, hdrop⟩ := bitsK_drop N K low s hlt2
          have htk := bitsK_take N K s hlt2
          obtain ⟨bk, ok, hqk, hbkl⟩ := HVK.out.addr (by rw [ints_length, castL_length]; omega)
          subst hqk
          have hc := (HBq.out.cell (p := ⟨bk, ok + s, none⟩) hbkl).trans (HVK.out.int s (by rw [castL_length]; exact hlt2))
          have hcv : (castL K)[s]'(by rw [castL_length]; exact hlt2) = ((K[s] : Nat) : Int) := by simp [castL]
          rw [hcv] at hc
          rw [HXS.out] at hdrop
          generalize K[s] = k at hk hw hdrop htk hc
          have HRD := Lib.hid (readI_any wr gw g (canonB N) (ints (placesL len)) gr q7 c7 xs (bitsK N (K.take s)).length low k (wN N k) rest (.int .i64 (k : Int)) HBKq.out (Nat.le_trans HGWR.out HG7.out) HRs.out (wN_some N k hk) hw (placesL_get len k (by rw [← HNL.out]; exact hk)) hdrop)
          have hdk : decide ((s : Int) < (K.length : Int)) = true := by simp; omega
          have i1 : (0 : Int) ≤ (s : Int) := by omega
          have i2 : (s : Int) < (K.length : Int) := by omega
          have hne : ((k : Int) != (k : Int)) = false := by simp
          have HTK := Lib.hid htk
          clear hk hw hdrop htk hcv
          go_wp2_with fail
          refine HRD.out.mono ?_
          rintro e w8 ⟨rfl, hR8, ho8, hz8⟩
          rw [← HTK.out] at hR8
          have HR8 := Lib.hid hR8
          have HO8 := Lib.hid (HOs.out.trans ho8)
          have HZ8 := Lib.hid (hz8.trans HZs.out)
          clear hR8 ho8 hz8
          go_wp2_with fail
          go_roundw
          case rel => exact ⟨s + 1, by omega, by go_num, HR8, HO8, HZ8⟩
          case measure => simp [intOf]; omega
        · have hse : s = K.length := by omega
          subst hse
          have hdk : decide ((K.length : Int) < (K.length : Int)) = false := by simp
          cases fu
          · go_wp2_with fail
            go_ret
            exact ⟨rfl, HBWq.out⟩
          · have hfull : startN N 31 = 1073741824 := of_decide_eq_true HFU.out.symm
            obtain ⟨i, hil, h0, h30, hpre⟩ := canon_full N hfull (bitsOf low [167, 49, 255, 0, 92]) (by rw [bitsOf_length]; decide)
            obtain ⟨rest, hrest⟩ := hpre
            have HNF := Lib.hid (fun w => newReader_any (some ⟨w.heap.size, 0, none⟩) 5 5 [167, 49, 255, 0, 92] low _ (row_five w) rfl (fun h => by cases h) (by simp))
            have hil2 : i < len := by rw [← HNL.out]; exact hil
            have hwn := wN_of N i hil
            rw [← hwn] at hrest
            have HREST := Lib.hid (show (bitsOf low [167, 49, 255, 0, 92]).drop 0 = wN N i ++ rest from hrest.symm)
            have hwne : wN N i ≠ [] := by
              intro e
              have := wN_length N i hil
              rw [e] at this
              exact h0 this.symm
            have HWNE := Lib.hid hwne
            have hwl : (wN N i).length ≤ 30 := by rw [wN_length N i hil]; exact h30
            have HIL := Lib.hid hil
            clear hfull hrest hwn h0 h30 hwne hil
            go_wp2_with fail
            refine (HNF.out _).mono ?_
            rintro e w9 ⟨hb9, g9, q9, c9, rfl, hg9, hR9, _⟩
            have HB79 := Lib.hid (show Below wr.heap.size wr w9 from ((Below.refl _ wr).alloc (Nat.le_refl _) _).trans (hb9.mono (by simp)))
            have HBK9 := Lib.hid (HBKq.out.below (HB79.out.mono (Nat.le_trans HGWR.out HBq.out.size)))
            have HRD := Lib.hid (readI_any w9 gw g (canonB N) (ints (placesL len)) g9 q9 c9 [167, 49, 255, 0, 92] 0 low i (wN N i) rest (.int .i64 (i : Int)) HBK9.out (by have := HBq.out.size; have := HGWR.out; simp at hg9; omega) hR9 (wN_some N i HIL.out) HWNE.out (placesL_get len i hil2) HREST.out)
            have HG9 := Lib.hid (show wr.heap.size ≤ g9 by simp at hg9; omega)
            clear hb9 hg9 hR9
            go_wp2_with fail
            refine HRD.out.mono ?_
            rintro e w10 ⟨rfl, hR10, ho10, hz10⟩
            rw [Nat.zero_add] at hR10
            have HAT := Lib.hid (at_any g9 q9 c9 _ _ low w10 hR10)
            have HB10 := Lib.hid (HBWq.out.trans ((HB79.out.trans (ho10.below HB79.out.size (fun k hk e => by have := HG9.out; omega))).mono HBWq.out.size))
            generalize (wN N i).length = n at *
            have hn : decide ((n : Int) ≤ 30) = true := by simp; omega
            clear hR10 ho10 hz10
            go_wp2_with fail
            refine HAT.out.mono ?_
            rintro e w' ⟨rfl, rfl⟩
            go_wp2_with fail
            go_ret
            exact ⟨rfl, HB10.out⟩
end Go.Proofs.Ytaohakdeicfpoaa.Hf


/- The walk of HuffNil. -/
import Derived.Test.YtaohakdeicfpoaaHfI
namespace Go.Proofs.Ytaohakdeicfpoaa.Hf
open Go.RowKit Go.Proofs.Ytaohakdeicfpoaa.Oct Go.Proofs.Ytaohakdeicfpoaa.Bit
set_option linter.unusedVariables false
set_option linter.unusedSimpArgs false
set_option maxRecDepth 100000

theorem Bk.words {w : World} {C g : Nat} {ws : List (List UInt8)} {ms : List Value} (h : Bk w C g ws ms) (i : Nat) (s : List UInt8) (hi : ws[i]? = some s) : s = [] ∨ ∃ m, s = m.map dig ∧ m ≠ [] := by
  obtain ⟨_, _, _, _, A, E, _, hS, _⟩ := h
  rcases hS.e2 i s (List.getElem?_eq_some_iff.1 hi).1 hi with h | ⟨q, h1, h2, _⟩
  · exact .inl h
  · exact .inr ⟨q, h1, h2⟩
set_option maxHeartbeats 4000000 in
theorem nil_walk (a : Option Addr) (len cap : Nat) (i : Int) (W : World) (h : IsStrs W a len cap) (hwf : (Lit.int .i64 i).wf = true) :
    Calls Try.prog 5 #[.slice a len cap, .int .i64 i] W fun e w' => e = .returned (.bool true) ∧ Below W.heap.size W w' := by
  obtain ⟨L, hx, hr, hlc, hcm, hnil, hsm⟩ := h
  have HX := Lib.hid hx
  have HR := Lib.hid hr
  have HNIL := Lib.hid hnil
  have HSM := Lib.hid hsm
  have hlm : len ≤ maxLen := Nat.le_trans hlc hcm
  have HLM := Lib.hid hlm
  unfold maxLen at hlm
  clear hx hr hnil hsm hlc hcm
  go_enter Try.func5, Try.ntmps5
  go_wp2_with fail
  refine (lives_any _).mono ?_
  rintro e w1 ⟨rfl, hb1⟩
  have HB1 := Lib.hid hb1
  have HFEW := Lib.hid (few_any a len cap L w1 ((HR.out.below hb1 (Nat.le_refl _)).mono hb1.size) HX.out HLM.out HSM.out)
  clear hb1
  go_wp2_with fail
  refine HFEW.out.mono ?_
  rintro e w1' ⟨rfl, fb, rfl, hfew⟩
  cases fb
  · clear hfew
    go_wp2_with fail
    refine (lives_any _).mono ?_
    rintro e w2 ⟨rfl, hb2⟩
    have HB2 := Lib.hid (HB1.out.trans (hb2.mono HB1.out.size))
    clear hb2
    go_wp2_with fail
    go_ret
    exact ⟨rfl, HB2.out⟩
  · obtain ⟨hl60, hs60⟩ := hfew rfl
    have HS60 := Lib.hid hs60
    rw [HX.out] at hl60
    clear hfew hs60
    go_wp2_with fail
    refine (newReader_any _ _ _ [1] _ _ (by exact row_one w1 1 _) rfl (fun h => by cases h) (by simp)).mono ?_
    rintro e w2 ⟨hb2, gr, q2, c2, rfl, _, _, _⟩
    have HB2 := Lib.hid (HB1.out.trans ((((Below.refl _ w1).alloc (Nat.le_refl _) _).trans (hb2.mono (by simp))).mono HB1.out.size))
    clear hb2
    go_wp2_with fail
    refine (bread_nil _ _).mono ?_
    rintro e w' ⟨rfl, rfl⟩
    go_wp2_with fail
    refine (bword_nil _ _).mono ?_
    rintro e w' ⟨rfl, rfl⟩
    rw [show bs [] = { data := #[] } from rfl]
    go_wp2_with fail
    refine (newWriter_any false _).mono ?_
    rintro e w3 ⟨hb3, rfl, hW3⟩
    have HB3 := Lib.hid (HB2.out.trans (hb3.mono HB2.out.size))
    have HGW := Lib.hid (Wr.lt hW3)
    have HW3 := Lib.hid hW3
    have hgw := HB2.out.size
    generalize w2.heap.size = gw at HW3 HGW hgw ⊢
    clear hb3 hW3
    go_wp2_with fail
    refine (blen_nil _).mono ?_
    rintro e w' ⟨rfl, rfl⟩
    go_wp2_with fail
    refine (bwrite_nil _ _ _).mono ?_
    rintro e w' ⟨rfl, rfl⟩
    go_wp2_with fail
    refine (places_any len _ (by omega)).mono ?_
    rintro e w4 ⟨hb4, qp, cp, rfl, hvp, hqp⟩
    rw [ints_length, placesL_length]
    have HB4 := Lib.hid (HB3.out.trans (hb4.mono HB3.out.size))
    have HB34 := Lib.hid hb4
    have HNEW := Lib.hid (newI_any a qp len cap cp L (ints (placesL len)) w4 ((HR.out.below HB4.out (Nat.le_refl _)).mono HB4.out.size) HX.out HNIL.out hvp (by rw [ints_length, placesL_length]) hqp (by omega) ints_one (fun s hs => by have := HS60.out s hs; omega))
    clear hb4 hvp hqp
    go_wp2_with fail
    refine HNEW.out.mono ?_
    rintro e w5 ⟨hb5, hres⟩
    have HB5 := Lib.hid (HB4.out.trans (hb5.mono HB4.out.size))
    rcases hres with ⟨c, hc0, rfl, _⟩ | ⟨g, rfl, hg1, hg2, hbk⟩
    · have hcb : (c != 0) = true := by simpa using hc0
      clear hc0 hb5
      go_wp2_with fail
      go_ret
      exact ⟨rfl, HB5.out⟩
    · have HBK := Lib.hid hbk
      have HW5 := Lib.hid (show Ws w5 gw (.slice none 0 0) [] false from Wr.only HW3.out ((Only.of_below (S := fun _ => False) HB34.out).trans (Only.of_below (S := fun _ => False) hb5)) (fun h => h) (fun _ _ h => h))
      have HZ34 := Lib.hid HB34.out.size
      clear hbk hb5
      by_cases hin : 0 ≤ i ∧ i < (len : Int)
      · obtain ⟨k, rfl⟩ : ∃ k : Nat, i = (k : Int) := ⟨i.toNat, by omega⟩
        have hk : k < len := by omega
        have hkl : k < L.length := by rw [HX.out]; exact hk
        obtain ⟨b, off, hq, hbl⟩ := HR.out.addr (by rw [strs_length]; omega)
        subst hq
        have hc := (HB5.out.cell (p := ⟨b, off + k, none⟩) hbl).trans (HR.out.str k hkl)
        have hg : L[k]? = some L[k] := List.getElem?_eq_getElem hkl
        have hs60 := HS60.out L[k] (List.getElem_mem hkl)
        generalize L[k] = s at hc hg hs60
        have HG := Lib.hid hg
        have hd1 : decide ((0 : Int) ≤ (k : Int)) = true := by simp
        have hd2 : decide ((k : Int) < (len : Int)) = true := by simp; omega
        have i1 : (0 : Int) ≤ (k : Int) := by omega
        have i2 : (k : Int) < (len : Int) := by omega
        clear hin
        rcases hbk : HBK.out.bk.words k s hg with hs | ⟨m, hs, hm⟩
        · subst hs
          have HWR := Lib.hid (bwrite_empty w5 _ g L _ (.pointer (some ⟨gw, 0, none⟩)) k HBK.out.bk HG.out)
          have hem : (bs []).toList.isEmpty = true := bs_empty []
          generalize bs [] = S at hc hem
          clear hg hbk
          go_wp2_with fail
          refine HWR.out.mono ?_
          rintro e w' ⟨rfl, rfl⟩
          go_wp2_with fail
          go_quiet (fail)
          go_wp2_with fail
          go_ret
          exact ⟨rfl, HB5.out.trans (Drawn.below ⟨_, rfl⟩ _)⟩
        · subst hs
          have hml : m.length ≤ 60 := by simpa using hs60
          have HWR := Lib.hid (bwrite_in w5 _ g L _ gw (.slice none 0 0) [] m false k HBK.out.bk HG.out hm HW5.out (by simp; omega))
          have HM := Lib.hid hm
          have hem : (bs (m.map dig)).toList.isEmpty = false := ds_nonempty m hm
          have hsz : (bs (m.map dig)).size = m.length := by rw [bs_size, List.length_map]
          generalize bs (m.map dig) = S at hc hem hsz
          clear hg hbk hm hs60
          go_wp2_with fail
          refine HWR.out.mono ?_
          rintro e w6 ⟨rfl, v6, hW6, ho6, hd6⟩
          have hmine : ∀ k, Mine gw (.slice none 0 0) k → k = gw := by
            intro k hk
            rcases hk with hk | hk
            · exact hk
            · cases hk
          have HB56 := Lib.hid (show Below W.heap.size w5 w6 from ho6.below (by have := HB5.out.size; omega) (fun k hk hmk => by have := hmine k hmk; omega))
          have HB6 := Lib.hid (HB5.out.trans HB56.out)
          have hc6 := (HB56.out.cell (p := ⟨b, off + k, none⟩) hbl).trans hc
          have HLEN := Lib.hid (show ∀ j, Calls Try.prog 21 #[.pointer (some ⟨gw, 0, none⟩)] (w6.drewN j) (fun e w' => e = .returned (.int .i64 (m.length : Int)) ∧ w6.drewN j = w') from fun j =>
            len_any (w6.drewN j) gw v6 m false (Wr.only hW6 (Only.drawn (fun _ => False) ⟨j, rfl⟩) (fun h => h) (fun _ _ h => h)))
          have HNONE := Lib.hid (show ∀ j, Calls Try.prog 13 #[.pointer (some ⟨g, 0, none⟩), .pointer none, .int .i64 (k : Int)] (w6.drewN j) (fun e w' => e = .returned (.int .i64 1) ∧ w6.drewN j = w') from fun j =>
            bwrite_none (w6.drewN j) _ g L _ m k (HBK.out (w6.drewN j) (fun k' h1 h2 => ho6.2.2.2.2 k' h2 (fun hmk => by have := hmine k' hmk; have := HGW.out; have := HZ34.out; omega))) HG.out HM.out (by omega))
          clear hW6 ho6 hd6 hmine hc
          go_wp2_with fail
          go_quiet (first | (go_at_call 21; exact quietly (HLEN.out _)) | (go_at_call 13; exact quietly (HNONE.out _)))
          go_wp2_with fail
          go_ret
          exact ⟨rfl, HB6.out.trans (Drawn.below ⟨_, rfl⟩ _)⟩
      · have HWR := Lib.hid (bwrite_out w5 _ g L _ (.pointer (some ⟨gw, 0, none⟩)) i HBK.out.bk (by rw [HX.out]; omega))
        by_cases h0 : 0 ≤ i
        · have hd1 : decide ((0 : Int) ≤ i) = true := by simpa using h0
          have hd2 : decide (i < (len : Int)) = false := by simp; omega
          clear hin
          go_wp2_with fail
          refine HWR.out.mono ?_
          rintro e w' ⟨rfl, rfl⟩
          go_wp2_with fail
          go_quiet (fail)
          go_wp2_with fail
          go_ret
          exact ⟨rfl, HB5.out.trans (Drawn.below ⟨_, rfl⟩ _)⟩
        · have hd1 : decide ((0 : Int) ≤ i) = false := by simpa using h0
          clear hin
          go_wp2_with fail
          refine HWR.out.mono ?_
          rintro e w' ⟨rfl, rfl⟩
          go_wp2_with fail
          go_quiet (fail)
          go_wp2_with fail
          go_ret
          exact ⟨rfl, HB5.out.trans (Drawn.below ⟨_, rfl⟩ _)⟩
end Go.Proofs.Ytaohakdeicfpoaa.Hf


/- The walk of the law LzTokens. -/
import Derived.Test.YtboknaakcbjkiaaLtL
namespace Go.Proofs.Ytboknaakcbjkiaa.Lzt
open Go.RowKit Go.Proofs.Ytboknaakcbjkiaa.Oct
set_option linter.unusedVariables false
set_option linter.unusedSimpArgs false
set_option maxRecDepth 100000

set_option maxHeartbeats 4000000 in
theorem tokens_walk (p : Option Addr) (len cap : Nat) (zs : List Int) (w : World) (h : IsRow .u8 w p len cap zs) :
    Calls Try.prog 4 #[.slice p len cap] w fun e w' => e = .returned (.bool true) ∧ Below w.heap.size w w' := by
  obtain ⟨xs, hx, hr, hlc, hcm, hnil⟩ := h.row
  by_cases hbig : 2000 < len
  · have hd : decide (2000 < (len : Int)) = true := by simp; omega
    clear hx hr hlc hcm hnil
    go_enter Try.func4, Try.ntmps4
    go_wp2_with fail
    refine (lives_any _).mono ?_
    rintro e w1 ⟨rfl, hb1⟩
    go_wp2_with fail
    refine (lives_any _).mono ?_
    rintro e w2 ⟨rfl, hb2⟩
    go_wp2_with fail
    go_ret
    exact ⟨rfl, hb1.trans (hb2.mono hb1.size)⟩
  · have hd : decide (2000 < (len : Int)) = false := by simp; omega
    have hlen : len ≤ 2000 := by omega
    have HX := Lib.hid hx
    have HR := Lib.hid hr
    have HLC := Lib.hid hlc
    have HCM := Lib.hid hcm
    clear hx hr hlc hcm hbig
    go_enter Try.func4, Try.ntmps4
    go_wp2_with fail
    refine (lives_any _).mono ?_
    rintro e w1 ⟨rfl, hb1⟩
    have hz1 := hb1.size
    have hown := World.ownsRow_made (base := w1.heap.size) (e := 5) (size := 1) w1 #[] 0 (Nat.le_refl _) (by simp [maxLen]) rfl
    have hrA := (HR.out.below hb1).below (alloc_below w1 (.cells #[] 5))
    have HB1 := Lib.hid hb1
    clear hb1
    go_wp2_with (at_builtin; refine wpList_append_bytes rfl _ _ rfl w1.heap.size _ 0 [] rfl hown p len cap xs rfl hrA HX.out hnil (by omega) (by simp) ?_)
    intro v2 w2 hown2 hgrow2 hv2
    have hb2 : Below w1.heap.size w1 w2 := (alloc_below w1 _).grown hgrow2 (by simp) (fun k hk => by
      simp [Value.ownBlock] at hk; omega)
    have HB2 := Lib.hid (HB1.out.trans (hb2.mono hz1))
    obtain ⟨q, c, rfl, hq1, hq2, hq3, hrow⟩ := own_shape hown2 HX.out
    have HROW := Lib.hid hrow
    have HTK := Lib.hid (tokens_any q len c xs w2 hrow HX.out hlen hq2 hq3)
    clear hown hrA hgrow2 hv2 hown2 hb2 hrow hz1
    go_wp2_with fail
    refine HTK.out.mono ?_
    rintro e w3 ⟨q3, c3, l, rfl, hl1, hl2, hl3, htk, hl4, hex, hpl, hb3⟩
    have hcnt := exp_count _ _ _ hex
    have hcn : l.length ≤ len := by rw [HX.out] at hcnt; simpa using hcnt
    have HB3 := Lib.hid (HB2.out.trans (hb3.mono HB2.out.size))
    have HRX := Lib.hid (rexpand_any q3 l.length c3 (len : Int) l w3 rfl (by omega) htk)
    have HTOK := Lib.hid htk
    have HEX := Lib.hid hex
    have HPL := Lib.hid hpl
    have HROW3 := Lib.hid (HROW.out.below hb3)
    clear htk hex hpl hb3 hcnt HTK hl4
    go_wp2_with fail
    refine HRX.out.mono ?_
    rintro e w4 ⟨hb4, hres⟩
    obtain ⟨o4, ho1, rfl⟩ : ∃ o4, expX (len : Int) l [] = .ok o4 ∧ e = .returned (.tuple #[.string (bs o4), .int .i64 0]) := by
      rcases hres with ⟨o, h1, h2, h3⟩ | ⟨c, h1, _⟩
      · exact ⟨o, h1, h3⟩
      · have := HEX.out
        rw [HX.out, h1] at this
        cases this
    have hoo : o4 = xs := by
      have := HEX.out
      rw [HX.out, ho1] at this
      injection this
    subst hoo
    have HB4 := Lib.hid (HB3.out.trans (hb4.mono HB3.out.size))
    have HTOK4 := Lib.hid ((HTOK.out.below hb4 (Nat.le_refl _)))
    have HROW4 := Lib.hid (HROW3.out.below hb4)
    clear hres ho1 hb4 HRX HROW HROW3 HTOK
    go_wp2_with fail
    go_loopw [31] (fun i wr => ∃ k : Nat, k ≤ l.length ∧ i = .int .i64 (k : Int) ∧ Hid (Below w4.heap.size w4 wr)) (fun i _ => l.length - (intOf i).toNat)
    case atStart => exact ⟨0, by omega, rfl, Lib.hid (Below.refl _ _)⟩
    case round =>
      obtain ⟨k, hk, rfl, HBR⟩ := hrel
      by_cases hlt : k < l.length
      · have ql : decide ((k : Int) < (l.length : Int)) = true := by simpa using hlt
        obtain ⟨b, off, rfl, hbl, hc⟩ := HTOK4.out.2 (by omega)
        obtain ⟨c0, c1, c2⟩ := (hc k hlt).below (HBR.out.mono (by have := HTOK4.out; exact Nat.le_refl _)) (by
          have := lt_of_cell (hc k hlt).1
          exact this)
        have hp := HPL.out _ (List.getElem_mem hlt)
        generalize l[k] = t at c0 c1 c2 hp
        obtain ⟨x, n, d⟩ := t
        obtain ⟨hp1, hp2⟩ := hp
        simp only at c0 c1 c2 hp1 hp2
        have i1 : (0 : Int) ≤ (k : Int) := by omega
        have i2 : (k : Int) < (l.length : Int) := by omega
        have HBA := Lib.hid (HBR.out.trans ((alloc_below wr (.cells #[.int .u8 (x.toNat : Int), .int .i64 n, .int .i64 d] 31)).mono HBR.out.size))
        clear hc
        by_cases hn0 : n = 0
        · have hd0 := hp1 hn0
          subst hn0 hd0
          clear hp1 hp2
          go_wp2_with fail
          go_roundw
          case rel => exact ⟨k + 1, by omega, by first | rfl | (push_cast; rfl), HBA⟩
          case measure => simp [intOf]; omega
        · have hx0 := hp2 hn0
          subst hx0
          have q0 : (n == 0) = false := by simpa using hn0
          clear hp1 hp2
          go_wp2_with fail
          go_roundw
          case rel => exact ⟨k + 1, by omega, by first | rfl | (push_cast; rfl), HBA⟩
          case measure => simp [intOf]; omega
      · have hkl : k = l.length := by omega
        have ql : decide ((k : Int) < (l.length : Int)) = false := by simp; omega
        have hcA := conv_row (w := wr) len cap ((HR.out.below HB4.out).below HBR.out) HX.out
        have hcO := conv_row (w := wr) len c (HROW4.out.below HBR.out) HX.out
        have qc : decide ((l.length : Int) ≤ (len : Int)) = true := by simp; omega
        have HFIN := Lib.hid (HB4.out.trans (HBR.out.mono HB4.out.size))
        clear hkl
        go_wp2_with fail
        go_ret
        exact ⟨by simp, HFIN.out⟩
end Go.Proofs.Ytboknaakcbjkiaa.Lzt

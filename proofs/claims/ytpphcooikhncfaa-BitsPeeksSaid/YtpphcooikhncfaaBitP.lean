/- The walk of BitsPeeks: it returns true for any bytes, either end and any counts, and nothing that was there is written. -/
import Derived.Test.YtpphcooikhncfaaBitD
namespace Go.Proofs.Ytpphcooikhncfaa.Bit
open Go.RowKit Go.Proofs.Ytpphcooikhncfaa.Oct
set_option linter.unusedVariables false

def PkR (W : World) (g : Nat) (q : Option Addr) (cap : Nat) (xs : List UInt8) (low : Bool) (at_ : Nat) (wr : World) : Prop := Rd wr g q cap xs at_ low ∧ Below W.heap.size W wr
set_option maxHeartbeats 1000000 in
set_option maxRecDepth 100000 in
theorem peeks_walk (p : Option Addr) (len cap : Nat) (zs0 : List Int) (low : Bool) (p2 : Option Addr) (len2 cap2 : Nat) (zs2 : List Int) (w : World) (hr0 : IsRow .u8 w p len cap zs0) (hr2 : IsRow .u8 w p2 len2 cap2 zs2) :
    Calls Try.prog 7 #[.slice p len cap, .bool low, .slice p2 len2 cap2] w fun e w' => e = .returned (.bool true) ∧ Below w.heap.size w w' := by
  obtain ⟨xs, hx, hr, hlc, hcm, hnil⟩ := hr0.row
  obtain ⟨ys, hy, hrY, hlc2, hcm2, hnil2⟩ := hr2.row
  clear hr0 hr2
  unfold maxLen at hcm hcm2
  by_cases hbig : 300 < len ∨ 300 < len2
  · have hd1 : decide (300 < (len : Int)) = true ∨ (decide (300 < (len : Int)) = false ∧ decide (300 < (len2 : Int)) = true) := by
      by_cases h : 300 < len
      · left; simp; omega
      · right; simp; omega
    rcases hd1 with hd | ⟨hd, hd'⟩
    all_goals
      go_enter Try.func7, Try.ntmps7
      go_wp2_with fail
      refine (lives_any _).mono ?_
      rintro e w1 ⟨rfl, hb1⟩
      go_wp2_with fail
      refine (lives_any _).mono ?_
      rintro e w2 ⟨rfl, hb2⟩
      go_wp2_with fail
      go_ret
      exact ⟨rfl, hb1.trans (hb2.mono hb1.size)⟩
  · have hd : decide (300 < (len : Int)) = false := by simp; omega
    have hd' : decide (300 < (len2 : Int)) = false := by simp; omega
    have HX := Lib.hid hx
    have HY := Lib.hid hy
    clear hx hy
    go_enter Try.func7, Try.ntmps7
    go_wp2_with fail
    refine (lives_any _).mono ?_
    rintro e w1 ⟨rfl, hb1⟩
    have hz1 := hb1.size
    go_wp2_with fail
    refine (newReader_any _ _ _ xs _ _ (by exact hr.below hb1) HX.out hnil (by omega)).mono ?_
    rintro e w2 ⟨hb2, g, q, cap1, rfl, hg, hR2, _⟩
    have hbw2 : Below w.heap.size w w2 := hb1.trans (hb2.mono hz1)
    have HR2 := Lib.hid hR2
    clear hR2 hb2 hb1 hnil hnil2
    go_wp2_with fail
    go_loopw [35] (fun c wr => ∃ k at_ : Nat, k ≤ len2 ∧ c = .int .i64 (k : Int) ∧ PkR w g q cap1 xs low at_ wr) (fun c _ => len2 - (intOf c).toNat)
    case atStart => exact ⟨0, 0, by omega, rfl, HR2.out, hbw2⟩
    case round =>
      obtain ⟨k, at_, hk, rfl, hP⟩ := hrel
      obtain ⟨hR, hB⟩ := hP
      by_cases hlt : k < len2
      · have hky : k < ys.length := by rw [HY.out]; exact hlt
        obtain ⟨b, off, hpe, hbl, hcs⟩ := hrY (by omega)
        subst hpe
        have hc := (hB.cell (p := ⟨b, off + k, none⟩) hbl).trans (hcs k hky)
        have hyb : ys[k].toNat < 256 := ys[k].toNat_lt
        clear hcs
        go_wp2_with fail
        have e33 : ((ys[k].toNat : Int) % 33) = ((ys[k].toNat % 33 : Nat) : Int) := by omega
        have hn0 : ys[k].toNat % 33 ≤ 32 := by omega
        rw [e33]
        clear e33
        generalize ys[k].toNat % 33 = n at hn0 ⊢
        have hcn : cntB (n : Int) = true := by unfold cntB; simp; omega
        have HCN := Lib.hid hcn
        clear hcn
        refine (at_any _ _ _ _ _ _ _ hR).mono ?_
        rintro e w' ⟨rfl, rfl⟩
        go_wp2_with fail
        refine (left_any _ _ _ _ _ _ _ hR).mono ?_
        rintro e w3 ⟨rfl, hd3⟩
        have hR3 := hR.drawn hd3
        have hl := hR.2.2.1
        obtain ⟨lf, hlf⟩ : ∃ lf, lf = 8 * xs.length - at_ := ⟨_, rfl⟩
        rw [← hlf]
        have hs0 : at_ + lf = 8 * len := by rw [← HX.out]; omega
        have HLF := Lib.hid hlf
        have HS0 := Lib.hid hs0
        have hs : ((at_ : Int) + (lf : Int) != 8 * (len : Int)) = false := by simp; omega
        have ha0 : at_ ≤ 2400 := by omega
        have hl0 : lf ≤ 2400 := by omega
        clear hlf hs0
        go_wp2_with fail
        refine (peek_any _ _ _ _ _ _ _ _ hR3).mono ?_
        rintro e w4 ⟨rfl, hd4⟩
        have hR4 := hR3.drawn hd4
        have e1 : peekA (n : Int) low xs at_ = ((nextV low xs at_ n : Nat) : Int) := by unfold peekA; rw [HCN.out]; rfl
        have e2 : peekE (n : Int) = 0 := by unfold peekE; rw [HCN.out]; rfl
        rw [e1, e2]
        clear e1 e2
        go_wp2_with fail
        refine (at_any _ _ _ _ _ _ _ hR4).mono ?_
        rintro e w' ⟨rfl, rfl⟩
        go_wp2_with fail
        refine (left_any _ _ _ _ _ _ _ hR4).mono ?_
        rintro e w5 ⟨rfl, hd5⟩
        have hR5 := hR4.drawn hd5
        rw [← HLF.out]
        go_wp2_with fail
        refine (read_any _ _ _ _ _ _ _ _ hR5).mono ?_
        rintro e w6 ⟨rfl, hR6, ho6, hz6⟩
        have hB5 : Below w.heap.size w w5 := ((hB.trans (hd3.below _)).trans (hd4.below _)).trans (hd5.below _)
        have hB6 : Below w.heap.size w w6 := hB5.trans (ho6.below (by have := hB5.size; omega) (fun k hk e => by omega))
        clear hz6 ho6
        by_cases hnl : n ≤ lf
        · have ho : okR (n : Int) (8 * xs.length) at_ = true := by unfold okR; rw [HCN.out]; simp; have := HLF.out; omega
          have e1 : readV (n : Int) low xs at_ = ((nextV low xs at_ n : Nat) : Int) := by unfold readV; rw [ho]; rfl
          have e2 : readE (n : Int) (8 * xs.length) at_ = 0 := by unfold readE; rw [ho]; rfl
          have e3 : readA (n : Int) (8 * xs.length) at_ = at_ + n := by unfold readA; rw [ho]; rfl
          rw [e1, e2]
          rw [e3] at hR6
          have hdec : decide (lf < n) = false := by simp; omega
          clear e1 e2 e3 ho hs
          go_wp2_with fail
          refine (at_any _ _ _ _ _ _ _ hR6).mono ?_
          rintro e w' ⟨rfl, rfl⟩
          have hs2 : (((at_ + n : Nat) : Int) != (at_ : Int) + (n : Int)) = false := by simp
          go_wp2_with fail
          go_roundw
          case rel => exact ⟨k + 1, at_ + n, by omega, by go_num, hR6, hB6⟩
          case measure => simp [intOf]; omega
        · have ho : okR (n : Int) (8 * xs.length) at_ = false := by unfold okR; rw [HCN.out]; simp; have := HLF.out; omega
          have e1 : readV (n : Int) low xs at_ = 0 := by unfold readV; rw [ho]; rfl
          have e2 : readE (n : Int) (8 * xs.length) at_ = 2 := by unfold readE; rw [ho, HCN.out]; rfl
          rw [e1, e2]
          have hdec : decide (lf < n) = true := by simp; omega
          clear e1 e2 ho hs
          go_wp2_with fail
          go_ret
          exact ⟨rfl, hB6⟩
      · go_wp2_with fail
        go_ret
        exact ⟨rfl, hB⟩
end Go.Proofs.Ytpphcooikhncfaa.Bit


/- The contract of an encoder's longest. -/
import Derived.Test.YtgdcjhngjdiaoaaLzC
import Derived.Test.YtgdcjhngjdiaoaaTail
namespace Go.Proofs.Ytgdcjhngjdiaoaa.Lz
open Go.RowKit Go.Proofs.Ytgdcjhngjdiaoaa.Oct Go.Proofs.Ytgdcjhngjdiaoaa.Bit
set_option linter.unusedVariables false
set_option linter.unusedSimpArgs false
set_option maxRecDepth 100000

def LongP (w : World) (T : List (List UInt8)) (xs : List UInt8) (e : Ending) (w' : World) : Prop :=
  ∃ c n : Nat, e = .returned (.tuple #[.int .u32 (c : Int), .int .i64 (n : Int)]) ∧ 1 ≤ n ∧ n ≤ xs.length ∧ look T c = some (xs.take n) ∧ Drawn w w'
def fOpt (o : Option Nat) : Value := .tuple #[.int .u32 ((o.getD 0 : Nat) : Int), .bool o.isSome]
set_option maxHeartbeats 1000000 in
theorem longest_any (w : World) (d g m : Nat) (v : Value) (l : List Bool) (f : Nat → Option Nat) (nf k : Nat) (pr : Bool) (s : St) (p : Option Addr) (len cap : Nat) (xs : List UInt8) (h : Ec w d g m v l f nf k pr)
    (hI : EInv f k pr s xs) (hr : Row w p xs) (hx : xs.length = len) (hpos : 0 < len) (hl : len ≤ 100000) (hlc : len ≤ cap) :
    Calls Try.prog 26 #[.pointer (some ⟨d, 0, none⟩), .slice p len cap] w (LongP w (tabE s xs) xs) := by
  obtain ⟨b, off, rfl, hb, hc⟩ := hr (by omega)
  have c1 := h.c1
  have hg0 : 0 < xs.length := by omega
  have hz := hc 0 hg0
  have hbeg := hI.begin_ hg0
  obtain ⟨x0, e0⟩ : ∃ x0, x0 = xs[0] := ⟨_, rfl⟩
  rw [← e0] at hz hbeg
  have hx0 := x0.toNat_lt
  have HB := Lib.hid hbeg
  have HX := Lib.hid hx
  have hposI : (0 : Int) < (len : Int) := by omega
  have htop := hI.top
  have HI := Lib.hid hI
  have H := Lib.hid h
  have HC := Lib.hid hc
  have hz' : w.cell? ⟨b, off, none⟩ = some (.int .u8 (x0.toNat : Int)) := hz
  clear hI h hc e0 hr hz hbeg hx hg0
  go_enter Try.func26, Try.ntmps26
  go_wp2_with fail
  go_loopw [6, 7] (fun u q wr => ∃ c n : Nat, u = .int .u32 (c : Int) ∧ q = .int .i64 (n : Int) ∧ 1 ≤ n ∧ n ≤ len ∧ Hid (look (tabE s xs) c = some (xs.take n)) ∧ Drawn w wr) (fun _ q _ => len - (intOf q).toNat)
  case atStart => exact ⟨x0.toNat, 1, rfl, rfl, Nat.le_refl _, hpos, HB, ⟨0, rfl⟩⟩
  case round =>
    obtain ⟨c, n, rfl, rfl, hn1, hn2, HL, hDr⟩ := hrel
    have HDr := Lib.hid hDr
    have Hw := Lib.hid (H.out.drawn hDr)
    have d1 := Hw.out.c1
    have hcw : ∀ o, wr.cell? ⟨b, o, none⟩ = w.cell? ⟨b, o, none⟩ := by
      intro o; obtain ⟨j, rfl⟩ := hDr; rfl
    have HCW := Lib.hid hcw
    clear hDr hcw c1 hz'
    have hcb := (HI.out.bound HL.out).1
    by_cases hlt : n < len
    · have hn3 : n < xs.length := by rw [HX.out]; exact hlt
      have hcell := (HCW.out (off + n)).trans (HC.out n hn3)
      have HLG := Lib.hid (fun c' => HI.out.longer (c' := c') HL.out hn3)
      generalize xs[n] = x at hcell HLG
      have hxb := x.toNat_lt
      have hlk : ∀ j, (Instr.lookup 55 (.map (some m)) (.int .u32 ((c * 256 + x.toNat : Nat) : Int)) true).run Try.prog (wr.drewN j) = .ok (fOpt (f (c * 256 + x.toNat))) (wr.drewN j) := fun j =>
        (Hw.out.drawn ⟨j, rfl⟩).tbl.look (by omega)
      have hd : decide ((n : Int) < (len : Int)) = true := by simp; omega
      have i0 : (0 : Int) ≤ (n : Int) := by omega
      have i1 : (n : Int) < (len : Int) := by omega
      rcases hf : f (c * 256 + x.toNat) with _ | c'
      · rw [hf] at hlk
        simp only [fOpt, Option.getD_none, Option.isSome_none] at hlk
        generalize hky : ((c * 256 + x.toNat : Nat) : Int) = ky at hlk
        have hst : ∀ j, Calls Try.prog 28 #[.int .u32 (c : Int), .int .u8 (x.toNat : Int)] (wr.drewN j) fun e w' => e = .returned (.int .u32 ky) ∧ wr.drewN j = w' := by
          rw [← hky]; exact fun j => step_any c x (wr.drewN j) (by omega)
        have HST := Lib.hid hst
        clear hst hf hky
        go_wp2_with fail
        go_quiet ((go_at_call 28; exact quietly (HST.out _)))
        go_wp2_with fail
        go_ret2
        exact ⟨c, n, rfl, hn1, by rw [HX.out]; exact hn2, HL.out, HDr.out.more _⟩
      · rw [hf] at hlk
        simp only [fOpt, Option.getD_some, Option.isSome_some] at hlk
        generalize hky : ((c * 256 + x.toNat : Nat) : Int) = ky at hlk
        have hst : ∀ j, Calls Try.prog 28 #[.int .u32 (c : Int), .int .u8 (x.toNat : Int)] (wr.drewN j) fun e w' => e = .returned (.int .u32 ky) ∧ wr.drewN j = w' := by
          rw [← hky]; exact fun j => step_any c x (wr.drewN j) (by omega)
        have HST := Lib.hid hst
        have HNX := Lib.hid (HLG.out c' hf)
        clear hst hf hky
        go_wp2_with fail
        go_quiet ((go_at_call 28; exact quietly (HST.out _)))
        go_wp2_with fail
        go_roundw
        case rel => exact ⟨c', n + 1, rfl, by go_num, by omega, by omega, HNX, HDr.out.more _⟩
        case measure => simp [intOf]; omega
    · have hne : n = len := by omega
      subst hne
      go_wp2_with fail
      go_ret2
      exact ⟨c, n, rfl, hn1, by rw [HX.out]; exact Nat.le_refl _, HL.out, HDr.out⟩
end Go.Proofs.Ytgdcjhngjdiaoaa.Lz

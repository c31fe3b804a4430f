/- Decode at whatever number, the document's too; the chapter's example. -/
import Derived.Test.YtcgoejijeeeanaaPbE
import Derived.Test.YtcgoejijeeeanaaPbF
namespace Go.Proofs.Ytcgoejijeeeanaa.Pb
open Go.RowKit Go.Proofs.Ytcgoejijeeeanaa.Oct
set_option linter.unusedVariables false

def decZ (z : Int) (xs : List UInt8) : List UInt8 × Nat × Nat := if z < 0 then ([], 0, 1) else dec z.toNat [] 0 xs
theorem decodeZ_any (p : Option Addr) (len cap : Nat) (z : Int) (xs : List UInt8) (w : World) (hr : Row w p xs) (hx : xs.length = len) (hlc : len ≤ cap) (hcm : cap ≤ maxLen) (hl : len ≤ 100000) (hz : z ≤ 9223372036854775807) :
    Calls Try.prog 8 #[.slice p len cap, .int .i64 z] w (DecP (decZ z xs) w) := by
  unfold decZ
  by_cases h : z < 0
  · rw [if_pos h]
    exact decode_neg _ z w h
  · rw [if_neg h]
    obtain ⟨n, rfl⟩ : ∃ n : Nat, z = (n : Int) := ⟨z.toNat, by omega⟩
    exact decode_any p len cap n xs w hr hx hlc hcm hl (by omega)
theorem rdecodeZ_any (xs : List UInt8) (z : Int) (w : World) (hl : xs.length ≤ 100000) (hz : z ≤ 9223372036854775807) :
    Calls Try.prog 9 #[.string (bs xs), .int .i64 z] w fun e w' => e = .returned (decV (decZ z xs)) ∧ Drawn w w' := by
  unfold decZ
  by_cases h : z < 0
  · rw [if_pos h]
    exact rdecode_neg _ z w h
  · rw [if_neg h]
    obtain ⟨n, rfl⟩ : ∃ n : Nat, z = (n : Int) := ⟨z.toNat, by omega⟩
    exact rdecode_any xs n w hl (by omega)
def exL : List UInt8 := [254, 7, 2, 7, 8, 9]
theorem ex_dec : dec 6 [] 0 exL = ([7, 7, 7, 7, 8, 9], 6, 0) := by
  rw [dec_step (p := [7, 7, 7]) (k := 2) (by decide) (by decide) (by decide)]
  rw [dec_step (p := [7, 8, 9]) (k := 4) (by decide) (by decide) (by decide)]
  rw [dec_done (by decide)]
  rfl
set_option maxRecDepth 100000 in
theorem lives_any (w : World) : Calls Try.prog 7 #[] w fun e w' => e = .returned (.bool true) ∧ Below w.heap.size w w' := by
  have HE := Lib.hid ex_dec
  have HW := Lib.hid (row_new w exL 5 (0, 0))
  go_enter Try.func7, Try.ntmps7
  go_wp2_with fail
  refine (decode_any _ 6 6 6 exL _ (by exact HW.out) (by rfl) (by decide) (by decide) (by decide) (by decide)).mono ?_
  rintro e w1 ⟨q, c, rfl, hrow, hqc, hb⟩
  rw [HE.out] at hrow ⊢
  have ca := conv_row 6 c hrow rfl
  have hbs : bs [7, 7, 7, 7, 8, 9] = ⟨#[7, 7, 7, 7, 8, 9]⟩ := rfl
  rw [hbs] at ca
  have HB := Lib.hid hb
  clear hrow hqc hb hbs HW HE
  go_wp2_with fail
  go_ret
  exact ⟨rfl, ((Below.refl _ w).alloc (Nat.le_refl _) _).trans (HB.out.mono (by simp))⟩
end Go.Proofs.Ytcgoejijeeeanaa.Pb

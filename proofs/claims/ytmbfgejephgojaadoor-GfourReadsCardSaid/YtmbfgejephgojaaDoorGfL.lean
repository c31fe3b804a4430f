
/- The walk of GfourReads. -/
import Derived.Test.YtmbfgejephgojaaDoorGfJ
import Derived.Test.YtmbfgejephgojaaDoorGfH
import Derived.Test.YtmbfgejephgojaaDoorMiW
namespace Go.Proofs.YtmbfgejephgojaaDoor.Gf
open Go.RowKit Go.Proofs.YtmbfgejephgojaaDoor.Oct Go.Proofs.YtmbfgejephgojaaDoor.Bit
open Go.Proofs.YtmbfgejephgojaaDoor.Fx (Tab TrueT)
open Go.Proofs.YtmbfgejephgojaaDoor.Mh (DecP RDecP Tbl Txs txt wideM ArgR rsameT_any)
open Go.Proofs.YtmbfgejephgojaaDoor.Rn (changes)
open Go.Proofs.YtmbfgejephgojaaDoor.Lp (VRow)
set_option linter.unusedVariables false
set_option linter.unusedSimpArgs false
set_option maxRecDepth 100000

/-- what Decode gives, whatever the numbers -/
def hdecF (L : List Bool) (z n : Int) : List (List Bool) × Int := if wideM z = true ∧ 0 ≤ n then match readQ L z.toNat n.toNat 0 (List.replicate z.toNat false) [] with
  | .ok Xs => (Xs, 0)
  | .error e => ([], (e : Int))
  else ([], 1)
theorem hdecF_len {L : List Bool} {z n : Int} (hz : z ≤ 1000) (hn : n ≤ 1000) : (∀ X ∈ (hdecF L z n).1, X.length ≤ 1000) ∧ (hdecF L z n).1.length ≤ 1000 := by
  unfold hdecF
  split
  · rename_i h
    have h0 := of_decide_eq_true h.1
    rcases hy : readQ L z.toNat n.toNat 0 (List.replicate z.toNat false) [] with e | Xs
    · exact ⟨fun X h => (by cases h), Nat.zero_le _⟩
    · have h1 := readQ_len (by omega) n.toNat 0 (List.replicate z.toNat false) [] (Nat.zero_le _) (by simp) (fun X h => by cases h) hy
      refine ⟨fun X hX => ?_, ?_⟩
      · have := h1.1 X hX; omega
      · have h2 := h1.2
        simp only [List.length_nil] at h2
        show Xs.length ≤ 1000
        omega
  · exact ⟨fun X h => (by cases h), Nat.zero_le _⟩
theorem hdecode_gen (w : World) (hT : Tab w) (p : Option Addr) (len cap : Nat) (xs : List UInt8) (z n : Int) (hr : Row w p xs) (hx : xs.length = len) (hnil : p = none → cap = 0) (hl : len ≤ 1000000) (hn : n ≤ 1000) :
    Calls Tryd.prog 11 #[.slice p len cap, .int .i64 z, .int .i64 n] w fun e w' => Below w.heap.size w w' ∧ ∃ q c, e = .returned (.tuple #[.slice q (hdecF (bitsOf false xs) z n).1.length c, .int .i64 (hdecF (bitsOf false xs) z n).2]) ∧ Tbl w' w'.heap.size q ((hdecF (bitsOf false xs) z n).1.map changes) := by
  unfold hdecF
  by_cases h : wideM z = true ∧ 0 ≤ n
  · rw [if_pos h]
    have h0 := of_decide_eq_true h.1
    have hz : z = (z.toNat : Int) := by omega
    have hnn : n = (n.toNat : Int) := by omega
    have hd := hdecode_any w hT p len cap xs z.toNat n.toNat hr hx hnil hl (by omega) (by omega) (by omega)
    rw [← hz, ← hnn] at hd
    refine hd.mono ?_
    rintro e w' ⟨hb, hm⟩
    rcases hy : readQ (bitsOf false xs) z.toNat n.toNat 0 (List.replicate z.toNat false) [] with c | Xs
    · rw [hy] at hm
      exact ⟨hb, none, 0, hm, Mh.Tbl.nil _ _ _⟩
    · rw [hy] at hm
      obtain ⟨q, c, h1, h2⟩ := hm
      exact ⟨hb, q, c, h1, h2⟩
  · rw [if_neg h]
    refine (hdecode_bad w p len cap z n (by
      by_cases h1 : wideM z = true
      · right
        have : ¬ 0 ≤ n := fun h2 => h ⟨h1, h2⟩
        omega
      · left
        have h2 : wideM z = false := by simpa using h1
        exact h2)).mono ?_
    rintro e w' ⟨rfl, rfl⟩
    exact ⟨Below.refl _ _, none, 0, rfl, Mh.Tbl.nil _ _ _⟩
theorem rhdecode_gen (w : World) (xs : List UInt8) (z n : Int) (hx : xs.length ≤ 1000) (hz3 : z ≤ 300) (hn : n ≤ 1000) :
    Calls Tryd.prog 12 #[.string (bs xs), .int .i64 z, .int .i64 n] w fun e w' => Below w.heap.size w w' ∧ ∃ q c, e = .returned (.tuple #[.slice q (hdecF (bitsOf false xs) z n).1.length c, .int .i64 (hdecF (bitsOf false xs) z n).2]) ∧ VRow w' w'.heap.size q (txt (hdecF (bitsOf false xs) z n).1) := by
  unfold hdecF
  by_cases h : wideM z = true ∧ 0 ≤ n
  · rw [if_pos h]
    have h0 := of_decide_eq_true h.1
    have hz : z = (z.toNat : Int) := by omega
    have hnn : n = (n.toNat : Int) := by omega
    have hd := rhdecode_any w xs z.toNat n.toNat hx (by omega) (by omega) (by omega)
    rw [← hz, ← hnn] at hd
    refine hd.mono ?_
    rintro e w' ⟨hb, hm⟩
    rcases hy : readQ (bitsOf false xs) z.toNat n.toNat 0 (List.replicate z.toNat false) [] with c | Xs
    · rw [hy] at hm
      exact ⟨hb, none, 0, hm, fun h => absurd h (by simp [txt])⟩
    · rw [hy] at hm
      obtain ⟨q, c, h1, h2⟩ := hm
      exact ⟨hb, q, c, h1, h2⟩
  · rw [if_neg h]
    refine (rhdecode_bad w _ z n (by
      by_cases h1 : wideM z = true
      · right
        have : ¬ 0 ≤ n := fun h2 => h ⟨h1, h2⟩
        omega
      · left; simpa using h1)).mono ?_
    rintro e w' ⟨rfl, rfl⟩
    exact ⟨Below.refl _ _, none, 0, rfl, fun h => absurd h (by simp [txt])⟩
set_option maxHeartbeats 16000000 in
theorem reads_walk (p : Option Addr) (len cap : Nat) (zs : List Int) (z n : Int) (w : World) (hT : Tab w) (hr0 : IsRow .u8 w p len cap zs) :
    Calls Tryd.prog 4 #[.slice p len cap, .int .i64 z, .int .i64 n] w fun e w' => e = .returned (.bool true) ∧ Below w.heap.size w w' := by
  obtain ⟨xs, hx, hr, hlc, hcm, hnil⟩ := hr0.row
  have HT := Lib.hid hT
  unfold maxLen at hcm
  clear hr0 hT
  by_cases hbad : 100 < len ∨ 300 < z ∨ 40 < n
  · have hways : decide (100 < (len : Int)) = true ∨ (decide (100 < (len : Int)) = false ∧ (decide (300 < z) = true ∨ (decide (300 < z) = false ∧ decide (40 < n) = true))) := by
      by_cases h1 : 100 < len
      · left; simp; omega
      · right
        refine ⟨by simp; omega, ?_⟩
        by_cases h2 : 300 < z
        · left; simpa using h2
        · right; constructor <;> simp <;> omega
    clear hbad hx hr hnil hlc
    rcases hways with q1 | ⟨q1, q2 | ⟨q2, q3⟩⟩ <;>
      (go_enter Tryd.func4, Tryd.ntmps4
       go_wp2_with fail
       refine (lives_any w HT.out).mono ?_
       rintro e w1 ⟨rfl, hb1⟩
       have HB1 := Lib.hid hb1
       have HT1 := Lib.hid (HT.out.below hb1 HT.out.lt)
       clear hb1
       go_wp2_with fail
       refine (lives_any w1 HT1.out).mono ?_
       rintro e w2 ⟨rfl, hb2⟩
       have HB2 := Lib.hid (HB1.out.trans (hb2.mono HB1.out.size))
       clear hb2
       go_wp2_with fail
       go_ret
       exact ⟨rfl, HB2.out⟩)
  · have q1 : decide (100 < (len : Int)) = false := by simp; omega
    have q2 : decide (300 < z) = false := by simp; omega
    have q3 : decide (40 < n) = false := by simp; omega
    have hl120 : len ≤ 100 := by omega
    have hn40 : n ≤ 40 := by omega
    have hz300 : z ≤ 300 := by omega
    have HX := Lib.hid hx
    have HR := Lib.hid hr
    have HNIL := Lib.hid hnil
    have HDL := Lib.hid (hdecF_len (L := bitsOf false xs) (z := z) (n := n) (by omega) (by omega))
    clear hbad hx hr hnil hlc
    go_enter Tryd.func4, Tryd.ntmps4
    go_wp2_with fail
    refine (lives_any w HT.out).mono ?_
    rintro e w1 ⟨rfl, hb1⟩
    have HB1 := Lib.hid hb1
    have hDC := hdecode_gen w1 (HT.out.below HB1.out HT.out.lt) p len cap xs z n (HR.out.below HB1.out) HX.out HNIL.out (by omega) (by omega)
    have hRD := fun w9 => rhdecode_gen w9 xs z n (by have := HX.out; omega) (by omega) (by omega)
    generalize hdecF (bitsOf false xs) z n = dd at *
    obtain ⟨Xs, er⟩ := dd
    simp only at hDC hRD HDL
    obtain ⟨nx, hnx⟩ : ∃ nx, nx = Xs.length := ⟨_, rfl⟩
    rw [← hnx] at hDC HDL
    have hRD2 : ∀ w9, Calls Tryd.prog 12 #[.string (bs xs), .int .i64 z, .int .i64 n] w9 fun e w' => Below w9.heap.size w9 w' ∧ ∃ q c, e = .returned (.tuple #[.slice q nx c, .int .i64 er]) ∧ VRow w' w'.heap.size q (txt Xs) := fun w9 => by rw [hnx]; exact hRD w9
    have HNX := Lib.hid hnx.symm
    have HDC := Lib.hid hDC
    have HRD := Lib.hid hRD2
    clear hb1 hDC hRD hRD2 hnx
    go_wp2_with fail
    refine HDC.out.mono ?_
    rintro e w2 ⟨hb2, qx, cx, rfl, htx⟩
    have HB2 := Lib.hid (HB1.out.trans (hb2.mono HB1.out.size))
    have HTX := Lib.hid htx
    have hconv : (convert 28 9 (.slice p len cap)).run Tryd.prog w2 = .ok (.string (bs xs)) w2 := conv_row len cap (HR.out.below HB2.out) HX.out
    clear hb2 htx HDC
    go_wp2_with fail
    refine (HRD.out w2).mono ?_
    rintro e w3 ⟨hb3, qy, cy, rfl, hty⟩
    have HB3 := Lib.hid (HB2.out.trans (hb3.mono HB2.out.size))
    have hne : (er == er) = true := by simp
    have HSM := Lib.hid (rsameT_any w3 qx qy nx cx cy Xs ((HTX.out.below hb3).mono hb3.size) hty HNX.out HDL.out.1 HDL.out.2)
    clear hb3 hty hconv HRD
    go_wp2_with fail
    refine HSM.out.mono ?_
    rintro e w4 ⟨rfl, hb4⟩
    have HB4 := Lib.hid (HB3.out.trans (hb4.mono HB3.out.size))
    clear hb4
    go_wp2_with fail
    go_ret
    exact ⟨rfl, HB4.out⟩
end Go.Proofs.YtmbfgejephgojaaDoor.Gf

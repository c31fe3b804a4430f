
/- The contract of codes, and of lives: the chapter's example holds. -/
import Derived.Test.YtgdcjhngjdiaoaaLzE
import Derived.Test.YtgdcjhngjdiaoaaLzN
import Derived.Test.YtgdcjhngjdiaoaaBitV
import Derived.Test.YtgdcjhngjdiaoaaStr
namespace Go.Proofs.Ytgdcjhngjdiaoaa.Lz
open Go.RowKit Go.Proofs.Ytgdcjhngjdiaoaa.Oct Go.Proofs.Ytgdcjhngjdiaoaa.Bit
set_option linter.unusedVariables false
set_option linter.unusedSimpArgs false
set_option maxRecDepth 100000

def cws (l : List Nat) : List Bool := l.flatMap (fun c => word c 9)
theorem cws_length (l : List Nat) : (cws l).length = 9 * l.length := by
  induction l with
  | nil => rfl
  | cons c l ih => simp only [cws, List.flatMap_cons, List.length_append, word_length, List.length_cons] at ih ⊢; omega
theorem cws_snoc (l : List Nat) (c : Nat) : cws (l ++ [c]) = cws l ++ word c 9 := by simp [cws]
set_option maxHeartbeats 1000000 in
theorem codes_law (g : Nat) (l : List Nat) (w : World) (hg : g < w.heap.size) (hl : l.length ≤ 1000) (hb : ∀ i (h : i < l.length), l[i] < 512) (hc : ∀ i (h : i < l.length), w.cell? ⟨g, i, none⟩ = some (.int .i64 (l[i] : Int))) :
    Calls Try.prog 17 #[.slice (some ⟨g, 0, none⟩) l.length l.length] w (RowP w (packB false (cws l))) := by
  have HC := Lib.hid hc
  have HB := Lib.hid hb
  clear hc hb
  go_enter Try.func17, Try.ntmps17
  go_wp2_with fail
  go_loopw [3, 8] (fun u i wr => ∃ k : Nat, k ≤ l.length ∧ i = .int .i64 (k : Int) ∧ u = .string (ds (cws (l.take k))) ∧ Below w.heap.size w wr) (fun _ i _ => l.length - (intOf i).toNat)
  case atStart => exact ⟨0, by omega, rfl, rfl, Below.refl _ _⟩
  case round =>
    obtain ⟨k, hk, rfl, rfl, hF⟩ := hrel
    have hz2 : (ds (cws (l.take k))).size ≤ 9000 := by rw [ds_size, cws_length, List.length_take]; omega
    by_cases hlt : k < l.length
    · have hcell := (hF.cell (p := ⟨g, k, none⟩) hg).trans (HC.out k hlt)
      have hb := HB.out k hlt
      have HX := Lib.hid (show l.take (k + 1) = l.take k ++ [l[k]] from by rw [List.take_succ_eq_append_getElem hlt])
      generalize l[k] = c at hcell hb HX
      have hd : decide ((k : Int) < (l.length : Int)) = true := by simp; omega
      have HF := Lib.hid hF
      clear hF
      go_wp2_with fail
      refine (rword_any c 9 _ (by omega) (by omega)).mono ?_
      rintro e w1 ⟨rfl, hb1⟩
      have HF1 := Lib.hid (HF.out.trans (hb1.mono HF.out.size))
      have hz1 : (ds (word c 9)).size = 9 := by rw [ds_size, word_length]
      have ha := ds_append (cws (l.take k)) (word c 9)
      clear hb1
      go_wp2_with fail
      go_roundw
      case rel => exact ⟨k + 1, by omega, by go_num, by rw [HX.out, cws_snoc], HF1.out⟩
      case measure => simp [intOf]; omega
    · have : k = l.length := by omega
      subst this
      rw [List.take_length] at hz2 ⊢
      have hd : decide ((l.length : Int) < (l.length : Int)) = false := by simp
      have HF := Lib.hid hF
      have hcl := cws_length l
      have hrb := fun W => rbytes_any (cws l) false W (by omega)
      have HRB := Lib.hid hrb
      clear hF hcl hrb
      go_wp2_with fail
      refine (HRB.out _).mono ?_
      rintro e w1 ⟨rfl, hb1⟩
      obtain ⟨w2, c, hcv, hb2, hrow⟩ := str_row w1 (packB false (cws l))
      have HROW := Lib.hid hrow
      have HB2 := Lib.hid (HF.out.trans ((hb1.trans (hb2.mono hb1.size)).mono HF.out.size))
      clear hb1 hb2 hrow
      go_wp2_with fail
      go_ret
      exact ⟨_, c, rfl, HROW.out, (fun h => by cases h), HB2.out⟩
theorem ex_tells : ∃ s, Tells (cws [256, 97, 258]) s [97, 97, 97] := by
  have h1 := Tells.snoc (c := 256) (t := []) Tells.nil (by decide) (by decide) (step_clear s0) (fun h => absurd rfl h)
  have h2 := Tells.snoc (c := 97) (s' := nxt s0 [97]) (t := [97]) h1 (by decide) (by decide) (by rfl) (fun _ => by decide)
  have h3 := Tells.snoc (c := 258) (s' := nxt (nxt s0 [97]) [97, 97]) (t := [97, 97]) h2 (by decide) (by decide) (by rfl) (fun _ => by decide)
  exact ⟨_, h3⟩
theorem ex_run : run false (bitsOf false (packB false (cws [256, 97, 258, 257]))) 3 0 s0 [] = ([97, 97, 97], 0) := by
  obtain ⟨s, h⟩ := ex_tells
  rw [bitsOf_packB]
  have e : cws [256, 97, 258, 257] = cws [256, 97, 258] ++ word 257 9 := by rw [show [256, 97, 258, 257] = [256, 97, 258] ++ [257] from rfl, cws_snoc]
  rw [e, List.append_assoc]
  exact h.all _
theorem lives_any (w : World) : Calls Try.prog 8 #[] w fun e w' => e = .returned (.bool true) ∧ Below w.heap.size w w' := by
  have HE := Lib.hid ex_run
  obtain ⟨wd, hwd⟩ : ∃ wd, wd = w.alloc (.cells #[.int .i64 256, .int .i64 97, .int .i64 258, .int .i64 257] 3) := ⟨_, rfl⟩
  have hbd : Below w.heap.size w wd := by rw [hwd]; exact (Below.refl _ w).alloc (Nat.le_refl _) _
  have hsz : w.heap.size < wd.heap.size := by rw [hwd]; simp
  have hcd := codes_law w.heap.size [256, 97, 258, 257] wd hsz (by simp) (by decide) (by
    intro i h
    have hbk : wd.heap[w.heap.size]? = some (.cells #[.int .i64 256, .int .i64 97, .int .i64 258, .int .i64 257] 3 (0, 0)) := by
      rw [hwd]
      show (w.heap.push _)[w.heap.size]? = _
      rw [Array.getElem?_push_size]
    have h4 : i < 4 := h
    rcases (by omega : i = 0 ∨ i = 1 ∨ i = 2 ∨ i = 3) with rfl | rfl | rfl | rfl <;> simp [World.cell?, hbk])
  have HCD := Lib.hid hcd
  have HWD := Lib.hid hwd
  have HBD := Lib.hid hbd
  have hpl : (packB false (cws [256, 97, 258, 257])).length = 5 := by rw [packB_length, cws_length]; rfl
  have HPL := Lib.hid hpl
  clear hcd hwd hbd hpl
  generalize packB false (cws [256, 97, 258, 257]) = ys at *
  go_enter Try.func8, Try.ntmps8
  go_wp2_with fail
  try rw [← HWD.out]
  refine HCD.out.mono ?_
  rintro e w1 ⟨q, c, rfl, hrow, hq, hb1⟩
  have HB1 := Lib.hid (HBD.out.trans (hb1.mono HBD.out.size))
  have hdc := decodeN_any q ys.length c ys 3 w1 hrow rfl hq (by rw [HPL.out]; omega) (by omega)
  have hdr : decR false (bitsOf false ys) 3 = ([97, 97, 97], 0) := by unfold decR; rw [if_neg (by decide)]; exact HE.out
  rw [hdr] at hdc
  have HDC := Lib.hid hdc
  clear hdc hdr hrow hq hb1
  go_wp2_with fail
  refine HDC.out.mono ?_
  rintro e w2 ⟨hb2, q2, c2, rfl, hrow2, _⟩
  have ca := conv_row 3 c2 hrow2 rfl
  have hbs : bs [97, 97, 97] = ⟨#[97, 97, 97]⟩ := rfl
  rw [hbs] at ca
  have HB2 := Lib.hid (HB1.out.trans (hb2.mono HB1.out.size))
  clear hrow2 hb2 hbs
  go_wp2_with fail
  go_ret
  exact ⟨rfl, HB2.out⟩
end Go.Proofs.Ytgdcjhngjdiaoaa.Lz

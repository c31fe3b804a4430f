
/- The contract of lives. -/
import Derived.Test.YtboknaakcbjkiaaLtG
import Derived.Test.YtboknaakcbjkiaaLtR
import Derived.Lib.SlBytesConst
namespace Go.Proofs.Ytboknaakcbjkiaa.Lzt
open Go.RowKit Go.Proofs.Ytboknaakcbjkiaa.Oct
set_option linter.unusedVariables false
set_option linter.unusedSimpArgs false
set_option maxRecDepth 100000

theorem toks_made (w : World) (l : List Tok) (hok : ∀ t ∈ l, TokOk t) : Toks (w.alloc (.cells (tcells l).toArray 31)) (w.alloc (.cells (tcells l).toArray 31)).heap.size (some ⟨w.heap.size, 0, none⟩) l := by
  refine ⟨hok, fun _ => ⟨w.heap.size, 0, rfl, by simp, toks_of fun j u hj => ?_⟩⟩
  rw [Nat.zero_add, cell_of_row _ w.heap.size j _ _ _ (show (w.alloc (.cells (tcells l).toArray 31)).heap[w.heap.size]? = some (.cells (tcells l).toArray 31 (0, 0)) from Array.getElem?_push_size)]
  simpa using hj
theorem row_fr (w : World) (xs : List UInt8) (fr : Nat × Nat) : Row (w.alloc (.cells (cellsOf xs).toArray 5 fr)) (some ⟨w.heap.size, 0, none⟩) xs := by
  intro hp
  refine ⟨w.heap.size, 0, rfl, by simp, fun i hi => ?_⟩
  rw [Nat.zero_add, cell_of_row _ w.heap.size i _ _ _ (show (w.alloc (.cells (cellsOf xs).toArray 5 fr)).heap[w.heap.size]? = some (.cells (cellsOf xs).toArray 5 fr) from Array.getElem?_push_size)]
  simp [cellsOf, hi]
theorem Toks.mono {w : World} {C D : Nat} {a : Option Addr} {l : List Tok} (h : Toks w C a l) (hC : C ≤ D) : Toks w D a l :=
  ⟨h.1, fun hp => by
    obtain ⟨b, off, e, hlt, hc⟩ := h.2 hp
    exact ⟨b, off, e, Nat.lt_of_lt_of_le hlt hC, hc⟩⟩
def abc : List UInt8 := [97, 98, 99, 97, 98, 99, 97, 98, 99]
set_option maxHeartbeats 1000000 in
theorem lives_any (w : World) : Calls Try.prog 6 #[] w fun e w' => e = .returned (.bool true) ∧ Below w.heap.size w w' := by
  have hr0 : Row (w.alloc (.cells #[.int .u8 97, .int .u8 98, .int .u8 99, .int .u8 97, .int .u8 98, .int .u8 99, .int .u8 97, .int .u8 98, .int .u8 99] 5 (9, 10))) (some ⟨w.heap.size, 0, none⟩) abc := row_fr w abc (9, 10)
  have HB1 := Lib.hid (alloc_below w (.cells #[.int .u8 97, .int .u8 98, .int .u8 99, .int .u8 97, .int .u8 98, .int .u8 99, .int .u8 97, .int .u8 98, .int .u8 99] 5 (9, 10)))
  have HT := Lib.hid (tokens_any (some ⟨w.heap.size, 0, none⟩) 9 9 abc _ hr0 rfl (by decide) (by decide) (by unfold maxLen; decide))
  have HS1 := Lib.hid (alloc_size w (.cells #[.int .u8 97, .int .u8 98, .int .u8 99, .int .u8 97, .int .u8 98, .int .u8 99, .int .u8 97, .int .u8 98, .int .u8 99] 5 (9, 10)))
  have kc := fun (w : World) (C : Array Value) (n c : Nat) => Lib.run_convert_bytes_const (P := Try.prog) w 24 5 C n c Try.underlying24 Try.underlying5
  clear hr0
  go_enter Try.func6, Try.ntmps6
  go_wp2_with fail
  refine HT.out.mono ?_
  rintro e w1 ⟨q, c, l, rfl, hq1, hq2, hq3, htk, hq4, hex, hpl, hb1⟩
  have HTK := Lib.hid htk
  have HEX := Lib.hid hex
  have HBA := Lib.hid (HB1.out.trans (hb1.mono (by rw [HS1.out]; exact Nat.le_succ _)))
  have hcnt := exp_count _ _ _ hex
  have HCNT := Lib.hid hcnt
  have HTM := Lib.hid (toks_made w1 [⟨97, 0, 0⟩, ⟨0, 3, 1⟩] (fun t ht => by
    rcases List.mem_cons.1 ht with h | h
    · rw [h]; exact ⟨by decide, by decide, by decide, by decide⟩
    · rw [List.mem_singleton.1 h]; exact ⟨by decide, by decide, by decide, by decide⟩))
  have HEP := Lib.hid (expand_any (some ⟨w1.heap.size, 0, none⟩) 2 2 9 [⟨97, 0, 0⟩, ⟨0, 3, 1⟩] _ rfl (by decide) (by decide) HTM.out)
  clear htk hex hb1 hcnt hpl
  go_wp2_with fail
  refine HEP.out.mono ?_
  rintro e w2 ⟨hb2, hres⟩
  obtain ⟨o, v, ho1, ho2, ho3, rfl⟩ : ∃ o v, expX 9 [⟨97, 0, 0⟩, ⟨0, 3, 1⟩] [] = .ok o ∧ o.length ≤ 100000 ∧ w2.ownsRow _ 5 1 v o.length (cellsOf o) ∧ e = .returned (.tuple #[v, .int .i64 0]) := by
    rcases hres with ⟨o, v, h1, h2, h3, h4⟩ | ⟨c, h1, _⟩
    · exact ⟨o, v, h1, h2, h3, h4⟩
    · cases h1
  have hoo : o = [97, 97, 97, 97] := by
    have h1 : expX 9 [⟨97, 0, 0⟩, ⟨0, 3, 1⟩] [] = .ok [97, 97, 97, 97] := rfl
    rw [h1] at ho1
    injection ho1 with h2
    exact h2.symm
  subst hoo
  obtain ⟨q2, c2, rfl, h1, h2, h3, hrow⟩ := own_shape ho3 rfl
  have hb12 : Below w1.heap.size w1 w2 := (alloc_below w1 _).trans (hb2.mono (by rw [alloc_size]; exact Nat.le_succ _))
  have HB2 := Lib.hid (HBA.out.trans (hb12.mono (by have := HBA.out.size; exact this)))
  have HRX := Lib.hid (rexpand_any q l.length c 100 l w2 rfl (by have := HCNT.out; simp [abc] at this; omega) ((HTK.out.below hb12 (Nat.le_refl _)).mono hb12.size))
  have HROW := Lib.hid hrow
  clear hb2 hres ho1 ho2 ho3 hb12 hrow HEP HTM HT HB1
  go_wp2_with fail
  refine HRX.out.mono ?_
  rintro e w3 ⟨hb3, hres⟩
  obtain ⟨o3, ho1, rfl⟩ : ∃ o3, expX 100 l [] = .ok o3 ∧ e = .returned (.tuple #[.string (bs o3), .int .i64 0]) := by
    rcases hres with ⟨o, h1, h2, h3⟩ | ⟨c, h1, _⟩
    · exact ⟨o, h1, h3⟩
    · rw [show expX 100 l [] = .ok ([] ++ abc) from exp_more [] l [] abc HEX.out (by decide)] at h1
      cases h1
  have hoo : o3 = abc := by
    rw [show expX 100 l [] = .ok ([] ++ abc) from exp_more [] l [] abc HEX.out (by decide)] at ho1
    injection ho1 with h2
    exact h2.symm
  subst hoo
  have HB3 := Lib.hid (HB2.out.trans (hb3.mono HB2.out.size))
  have hcv := conv_row (w := w3) 4 c2 (HROW.out.below hb3) rfl
  have e1 : (bs [97, 97, 97, 97]).toList = [97, 97, 97, 97] := bs_toList _
  have e2 : (bs abc).toList = [97, 98, 99, 97, 98, 99, 97, 98, 99] := bs_toList _
  have e3 : ((bs [97, 97, 97, 97]).toList == [97, 97, 97, 97]) = true := by rw [e1]; rfl
  have e4 : ((bs abc).toList == [97, 98, 99, 97, 98, 99, 97, 98, 99]) = true := by rw [e2]; rfl
  clear hres ho1 hb3
  go_wp2_with fail
  go_ret
  exact ⟨by simp [e1, e2], HB3.out⟩
end Go.Proofs.Ytboknaakcbjkiaa.Lzt

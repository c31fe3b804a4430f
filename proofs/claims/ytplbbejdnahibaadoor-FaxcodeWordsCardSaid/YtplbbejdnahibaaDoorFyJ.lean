
/- A writer beside the books of all words; the chapter's examples hold. -/
import Derived.Test.YtplbbejdnahibaaDoorFyI
namespace Go.Proofs.YtplbbejdnahibaaDoor.Fx
open Go.RowKit Go.Proofs.YtplbbejdnahibaaDoor.Oct Go.Proofs.YtplbbejdnahibaaDoor.Bit Go.Proofs.YtplbbejdnahibaaDoor.Hf Go.Proofs.YtplbbejdnahibaaDoor.Inf
set_option linter.unusedVariables false
set_option linter.unusedSimpArgs false
set_option maxRecDepth 100000

/-- books in the blocks from B up to C, a writer outside of them; all that lies below D is as it was in W0 -/
structure CW (D : Nat) (W0 : World) (B C c gw : Nat) (v : Value) (l : List Bool) (low : Bool) (w : World) : Prop where
  cd : Cd w B C c
  ws : Ws w gw v l low
  out : OutW B C gw v
  mine : ∀ k, Mine gw v k → D ≤ k
  bel : Below D W0 w
  dz : D ≤ w.heap.size
section
variable {D : Nat} {W0 w w' : World} {B C c gw : Nat} {v : Value} {l m : List Bool} {low : Bool}
theorem CW.wrote (h : CW D W0 B C c gw v l low w) (hT : WsT w gw v (l ++ m) low w') : ∃ v', CW D W0 B C c gw v' (l ++ m) low w' := by
  obtain ⟨v', hW, ho, hv⟩ := hT
  have hz := ho.2.2.2.1
  refine ⟨v', h.cd.only ho h.out, hW, fun k hk => ?_, fun k hk => ?_, h.bel.trans (ho.below h.dz fun k hk hm => by have := h.mine k hm; omega), Nat.le_trans h.dz hz⟩
  · rcases hk with e | e
    · exact h.out k (.inl e)
    · rcases hv k e with e2 | e2
      · exact h.out k (.inr e2)
      · exact .inr (by have := h.cd.1; omega)
  · rcases hk with e | e
    · exact h.mine k (.inl e)
    · rcases hv k e with e2 | e2
      · exact h.mine k (.inr e2)
      · have := h.dz; omega
theorem CW.more (h : CW D W0 B C c gw v l low w) (hb : Below w.heap.size w w') : CW D W0 B C c gw v l low w' := by
  have ho : Only (fun _ => False) w w' := Only.of_below hb
  exact ⟨h.cd.below hb h.cd.1, h.ws.only ho (fun e => e) (fun _ _ e => e), h.out, h.mine, h.bel.trans (hb.mono h.dz), Nat.le_trans h.dz hb.size⟩
/-- the writer made first -/
theorem CW.first {w0 : World} (hw : Ws w gw (.slice none 0 0) [] low) (hg : gw = w0.heap.size) (hb : Below w0.heap.size w0 w) (hb2 : Below w.heap.size w w') (hc : Cd w' w.heap.size w'.heap.size c) : CW w0.heap.size w0 w.heap.size w'.heap.size c gw (.slice none 0 0) [] low w' := by
  have hlt := Wr.lt hw
  have key : ∀ k, Mine gw (.slice none 0 0) k → k = gw := fun k hk => by
    rcases hk with e | e
    · exact e
    · cases e
  have ho : Only (fun _ => False) w w' := Only.of_below hb2
  exact ⟨hc, hw.only ho (fun e => e) (fun _ _ e => e), fun k hk => by rw [key k hk]; exact .inl hlt, fun k hk => by rw [key k hk, hg]; exact Nat.le_refl _, hb.trans (hb2.mono hb.size), Nat.le_trans hb.size hb2.size⟩
/-- the books made first -/
theorem CW.second {w0 : World} (hc : Cd w w0.heap.size w.heap.size c) (hb : Below w0.heap.size w0 w) (hw : Ws w' w.heap.size (.slice none 0 0) [] low) (hb2 : Below w.heap.size w w') : CW w0.heap.size w0 w0.heap.size w.heap.size c w.heap.size (.slice none 0 0) [] low w' := by
  have key : ∀ k, Mine w.heap.size (.slice none 0 0) k → k = w.heap.size := fun k hk => by
    rcases hk with e | e
    · exact e
    · cases e
  exact ⟨hc.below hb2 (Nat.le_refl _), hw, fun k hk => by rw [key k hk]; exact .inr (Nat.le_refl _), fun k hk => by rw [key k hk]; exact hb.size, hb.trans (hb2.mono hb.size), Nat.le_trans hb.size hb2.size⟩
end
def TrueT (w : World) (e : Ending) (w' : World) : Prop := e = .returned (.bool true) ∧ Below w.heap.size w w'
theorem ex_read : lenZ false (bitsOf false (packB false (tellF false 64 ++ tellF true 0))) 100 0 0 = (13, .ok 64) := by kernel_rfl
theorem ex_len : (tellF false 64 ++ tellF true 0).length = 23 := by kernel_rfl
set_option maxHeartbeats 2000000 in
theorem lives_any (w : World) (hT : Tab w) : Calls Tryd.prog 9 #[] w (TrueT w) := by
  have HT := Lib.hid hT
  clear hT
  go_enter Tryd.func9, Tryd.ntmps9
  go_wp2_with fail
  refine (newWriter_any false w).mono ?_
  rintro e w1 ⟨hb1, rfl, hw1⟩
  have HB1 := Lib.hid hb1
  have HW1 := Lib.hid hw1
  clear hb1 hw1
  go_wp2_with fail
  refine (codes_any w1 (HT.out.below HB1.out HT.out.lt)).mono ?_
  rintro e w2 ⟨hb2, c, rfl, hc⟩
  have HCW := Lib.hid (CW.first HW1.out rfl HB1.out hb2 hc)
  generalize hgwe : w.heap.size = gw at *
  have HGWE := Lib.hid hgwe
  generalize w1.heap.size = B at *
  generalize w2.heap.size = C at *
  clear hb2 hc HW1 hgwe
  go_wp2_with fail
  refine (cwrite_any w2 B C c gw _ [] false 64 false HCW.out.cd HCW.out.ws HCW.out.out (by omega) (by simp)).mono ?_
  rintro e w3 ⟨rfl, ht⟩
  obtain ⟨v3, h3⟩ := HCW.out.wrote ht
  have H3 := Lib.hid h3
  clear ht h3
  go_wp2_with fail
  refine (cwrite_any w3 B C c gw _ _ false 0 true H3.out.cd H3.out.ws H3.out.out (by omega) (by decide)).mono ?_
  rintro e w4 ⟨rfl, ht⟩
  obtain ⟨v4, h4⟩ := H3.out.wrote ht
  rw [List.nil_append] at h4
  have H4 := Lib.hid h4
  clear ht h4
  go_wp2_with fail
  refine (bytes_any w4 gw v4 _ false H4.out.ws (by rw [ex_len]; omega)).mono ?_
  rintro e w5 ⟨hb5, q5, c5, rfl, hr5, hc5, hm5, hn5, ha5⟩
  have H5 := Lib.hid (H4.out.more hb5)
  have HNR := Lib.hid (newReader_any q5 _ c5 _ false w5 hr5 rfl hn5 (by rw [packB_length, ex_len]; omega))
  clear hb5 hr5 hc5 hm5 hn5 ha5
  go_wp2_with fail
  refine HNR.out.mono ?_
  rintro e w6 ⟨hb6, gr, q6, c6, rfl, hg6, hr6, _⟩
  have H6 := Lib.hid (H5.out.more hb6)
  have HRD := Lib.hid (cread_any w6 B C c gr q6 c6 _ 0 false 100 false H6.out.cd (.inr (by have := H5.out.cd.1; omega)) hr6 (by omega) (by omega))
  have HG6 := Lib.hid hg6
  have HZ5 := Lib.hid hb6.size
  rw [ex_read] at HRD
  clear hb6 hr6 hg6 HNR
  go_wp2_with fail
  refine HRD.out.mono ?_
  rintro e w7 ⟨rfl, hr7, ho7, hz7⟩
  have hb7 : Below w5.heap.size w6 w7 := ho7.below HZ5.out (fun k hk e => by have := HG6.out; omega)
  have HBE := Lib.hid (H6.out.bel.trans (hb7.mono H5.out.dz))
  have hw7 : Ws w7 gw v4 (tellF false 64 ++ tellF true 0) false := H6.out.ws.only ho7 (fun e => by have := H5.out.ws.lt; have := HG6.out; omega) (fun k hk e => by
    have h1 := H5.out.ws.2.1.lt
    have h2 := HG6.out
    have := h1 k hk
    omega)
  have HLEN := Lib.hid (len_any w7 gw v4 _ false hw7)
  rw [ex_len] at HLEN
  clear hr7 ho7 hz7 hb7 hw7
  simp only [valR, errR]
  go_wp2_with fail
  refine HLEN.out.mono ?_
  rintro e w8 ⟨rfl, rfl⟩
  go_wp2_with fail
  go_ret
  exact ⟨rfl, by rw [HGWE.out]; exact HBE.out⟩
end Go.Proofs.YtplbbejdnahibaaDoor.Fx


/- The contracts of a book's Read, where the bits go on with one of its words. -/
import Derived.Test.YtidicajedckaoaaGreatDoorHfP
import Derived.Deep.QuietTactic
namespace Go.Proofs.YtidicajedckaoaaGreatDoor.Hf
open Go.RowKit Go.Proofs.YtidicajedckaoaaGreatDoor.Oct Go.Proofs.YtidicajedckaoaaGreatDoor.Bit
set_option linter.unusedVariables false
set_option linter.unusedSimpArgs false
set_option maxRecDepth 100000

theorem bit_read {low : Bool} {xs : List UInt8} {a : Nat} {b : Bool} {rest : List Bool} (h : (bitsOf low xs).drop a = b :: rest) :
    readV 1 low xs a = (b.toNat : Int) ∧ readE 1 (8 * xs.length) a = 0 ∧ readA 1 (8 * xs.length) a = a + 1 := by
  have hl := congrArg List.length h
  rw [List.length_drop, bitsOf_length, List.length_cons] at hl
  have ho : okR 1 (8 * xs.length) a = true := by unfold okR cntB; simp; omega
  refine ⟨?_, ?_, ?_⟩
  · unfold readV
    rw [ho, if_pos rfl]
    show ((nextV low xs a 1 : Nat) : Int) = _
    unfold nextV peekV
    rw [h, List.cons_append]
    show ((numE low [b] : Nat) : Int) = _
    cases low <;> simp [numE, num]
  · unfold readE; rw [ho]; rfl
  · unfold readA; rw [ho]; rfl
/-- where a reader stands -/
def rdAt (gr : Nat) (W : World) : Nat :=
  match W.cell? ⟨gr, 1, none⟩ with
  | some (.int _ z) => z.toNat
  | _ => 0
theorem rdAt_of {W : World} {gr : Nat} {p : Option Addr} {cap : Nat} {xs : List UInt8} {a : Nat} {low : Bool} (h : Rd W gr p cap xs a low) : rdAt gr W = a := by
  unfold rdAt
  rw [h.c1]
  simp
def ReadB (w : World) (gr : Nat) (p : Option Addr) (cap : Nat) (xs : List UInt8) (a : Nat) (low : Bool) (v : Value) (m : List Bool) (e : Ending) (w' : World) : Prop :=
  e = .returned (.tuple #[v, .int .i64 0]) ∧ Rd w' gr p cap xs (a + m.length) low ∧ Only (· = gr) w w' ∧ w'.heap.size = w.heap.size
theorem vrow_get {w : World} {C : Nat} {p : Option Addr} {vs : List Value} {i : Nat} {v : Value} (h : VRow w C p vs) (hv : vs[i]? = some v) : ∃ b off, p = some ⟨b, off, none⟩ ∧ b < C ∧ w.cell? ⟨b, off + i, none⟩ = some v := by
  obtain ⟨hi, he⟩ := List.getElem?_eq_some_iff.1 hv
  obtain ⟨b, off, hp, hb, hc⟩ := h (by omega)
  exact ⟨b, off, hp, hb, by rw [hc i hi, he]⟩
set_option maxHeartbeats 2000000 in
theorem readI_any (w : World) (C g : Nat) (ws : List (List UInt8)) (ms : List Value) (gr : Nat) (p : Option Addr) (cap : Nat) (xs : List UInt8) (a : Nat) (low : Bool) (i : Nat) (m rest : List Bool) (v : Value)
    (hB : Bk w C g ws ms) (hC : C ≤ gr) (hR : Rd w gr p cap xs a low) (hi : ws[i]? = some (m.map dig)) (hm : m ≠ []) (hv : ms[i]? = some v) (hd : (bitsOf low xs).drop a = m ++ rest) :
    Calls Tryz.prog 119 #[.pointer (some ⟨g, 0, none⟩), .pointer (some ⟨gr, 0, none⟩)] w (ReadB w gr p cap xs a low v m) := by
  obtain ⟨pw, cw, pm, cm, A, E, hT, hS, hvw, hvm, hlw, hlm⟩ := hB
  have hEm : E m = some i := by
    obtain ⟨hil, _⟩ := List.getElem?_eq_some_iff.1 hi
    rcases hS.e2 i _ hil hi with e | ⟨q, hq, _, hE⟩
    · exact absurd (by simpa using e) hm
    · have hinj : ∀ a b : Bool, dig a = dig b → a = b := by intro a b; cases a <;> cases b <;> simp [dig]
      have : m = q := (List.map_inj_right (f := dig) (fun a b => hinj a b)).1 hq
      rw [this]; exact hE
  have hgw := hR.lt
  have hApre : ∀ j, A (m.take j) ≠ none := fun j => hS.a2 _ m (by rw [hEm]; simp) (List.take_prefix _ _)
  have hEpre : ∀ j, j < m.length → E (m.take j) = none := by
    intro j hj
    rcases he : E (m.take j) with _ | k
    · rfl
    · have := hS.lf (m.take j) m (by rw [he]; simp) (by rw [hEm]; simp) (List.take_prefix _ _)
      have := congrArg List.length this
      rw [List.length_take] at this
      omega
  have HTw := Lib.hid hT
  have HAP := Lib.hid hApre
  have HEP := Lib.hid hEpre
  have HEM := Lib.hid hEm
  have HR0 := Lib.hid hR
  have HD := Lib.hid hd
  obtain ⟨bm, om, hpm, hbm, hcm⟩ := vrow_get hvm hv
  subst hpm
  have hil : i < ms.length := (List.getElem?_eq_some_iff.1 hv).1
  have HCM := Lib.hid hcm
  have HIL := Lib.hid hil
  clear hT hS hvw hvm hApre hEpre hEm hR hd hi hv hm hcm
  go_enter Tryz.func119, Tryz.ntmps119
  go_wp2_with fail
  go_loopw [7, 8, 9] (fun q u s wr => ∃ (j b o : Nat), j ≤ m.length ∧ A (m.take j) = some (b, o) ∧ q = .pointer (some ⟨b, o, none⟩) ∧ Hid (Rd wr gr p cap xs (a + j) low) ∧ Hid (Only (· = gr) w wr) ∧ Hid (wr.heap.size = w.heap.size)) (fun _ _ _ wr => a + m.length - rdAt gr wr)
  case atStart => exact ⟨0, g, 2, by omega, HTw.out.root, rfl, HR0, Lib.hid (Only.refl _ _), Lib.hid rfl⟩
  case round =>
    obtain ⟨j, b, o, hj, hA, rfl, HR, HO, HZ⟩ := hrel
    have hBel := HO.out.below (B := C) (by omega) (fun k hk e => by omega)
    have HT := Lib.hid (HTw.out.below hBel)
    have HBEL := Lib.hid hBel
    have hbC := (HT.out.lo _ b o hA).2
    have hne := HT.out.ne _ b o hA
    clear hBel
    by_cases hlt : j < m.length
    · rw [HEP.out j hlt] at hne
      have hne : wr.cell? ⟨b, o + 2, none⟩ = some (.bool false) := hne
      obtain ⟨x, hx⟩ : ∃ x, x = m[j] := ⟨_, rfl⟩
      have htk : m.take (j + 1) = m.take j ++ [x] := by rw [hx, List.take_succ_eq_append_getElem hlt]
      have hdr : (bitsOf low xs).drop (a + j) = x :: (m.drop (j + 1) ++ rest) := by
        rw [← List.drop_drop, HD.out, List.drop_append_of_le_length (by omega), List.drop_eq_getElem_cons hlt, hx]
        rfl
      obtain ⟨hv1, he1, ha1⟩ := bit_read hdr
      have HV := Lib.hid hv1
      have HE := Lib.hid he1
      have HA1 := Lib.hid ha1
      have HRD := Lib.hid (read_any gr p cap xs (a + j) low wr 1 HR.out)
      rcases hk : A (m.take (j + 1)) with _ | ⟨b2, o2⟩
      · exact absurd hk (HAP.out (j + 1))
      · have HK := Lib.hid hk
        rw [htk] at hk
        clear hx hdr hv1 he1 ha1 htk
        cases x
        · have hn : wr.cell? ⟨b, o, none⟩ = some (.pointer (some ⟨b2, o2, none⟩)) := by
            have := HT.out.n0 (m.take j) b o hA
            rw [hk] at this
            exact this
          go_wp2_with fail
          refine HRD.out.mono ?_
          rintro e w4 ⟨rfl, hr4, ho4, hz4⟩
          rw [HV.out, HE.out]
          have HR4 := Lib.hid hr4
          have HO4 := Lib.hid (HO.out.trans ho4)
          have HZ4 := Lib.hid (hz4.trans HZ.out)
          have hn4 : w4.cell? ⟨b, o, none⟩ = some (.pointer (some ⟨b2, o2, none⟩)) := by
            rw [← hn]
            exact (Only.below (B := C) ho4 (by have := HZ.out; omega) (fun k hk e => by omega)).cell (p := ⟨b, o, none⟩) hbC
          clear hr4 ho4 hz4 hn
          go_wp2_with fail
          go_roundw
          case rel => exact ⟨j + 1, b2, o2, by omega, HK.out, rfl, Lib.hid (by have := HR4.out; rwa [HA1.out, Nat.add_assoc] at this), HO4, HZ4⟩
          case measure => rw [rdAt_of HR.out, rdAt_of HR4.out, HA1.out]; omega
        · have hn : wr.cell? ⟨b, o + 1, none⟩ = some (.pointer (some ⟨b2, o2, none⟩)) := by
            have := HT.out.n1 (m.take j) b o hA
            rw [hk] at this
            exact this
          go_wp2_with fail
          refine HRD.out.mono ?_
          rintro e w4 ⟨rfl, hr4, ho4, hz4⟩
          rw [HV.out, HE.out]
          have HR4 := Lib.hid hr4
          have HO4 := Lib.hid (HO.out.trans ho4)
          have HZ4 := Lib.hid (hz4.trans HZ.out)
          have hn4 : w4.cell? ⟨b, o + 1, none⟩ = some (.pointer (some ⟨b2, o2, none⟩)) := by
            rw [← hn]
            exact (Only.below (B := C) ho4 (by have := HZ.out; omega) (fun k hk e => by omega)).cell (p := ⟨b, o + 1, none⟩) hbC
          clear hr4 ho4 hz4 hn
          go_wp2_with fail
          go_roundw
          case rel => exact ⟨j + 1, b2, o2, by omega, HK.out, rfl, Lib.hid (by have := HR4.out; rwa [HA1.out, Nat.add_assoc] at this), HO4, HZ4⟩
          case measure => rw [rdAt_of HR.out, rdAt_of HR4.out, HA1.out]; omega
    · have hje : j = m.length := by omega
      subst hje
      rw [List.take_length] at hA hne
      rw [HEM.out] at hne
      have hne : wr.cell? ⟨b, o + 2, none⟩ = some (.bool true) := hne
      have hni := HT.out.ni _ b o hA
      rw [HEM.out] at hni
      have hni : wr.cell? ⟨b, o + 3, none⟩ = some (.int .i64 (i : Int)) := hni
      have h1 := HT.out.h1
      have hcm := (HBEL.out.cell (p := ⟨bm, om + i, none⟩) hbm).trans HCM.out
      have j0 : (0 : Int) ≤ (i : Int) := by omega
      have j1 : (i : Int) < (ms.length : Int) := by have := HIL.out; omega
      generalize ms.length = ml at h1 j1
      go_wp2_with fail
      go_quiet (fail)
      go_wp2_with fail
      go_ret2
      exact ⟨rfl, HR.out.drawn ⟨_, rfl⟩, HO.out.trans (Only.drawn _ ⟨_, rfl⟩), HZ.out⟩
end Go.Proofs.YtidicajedckaoaaGreatDoor.Hf

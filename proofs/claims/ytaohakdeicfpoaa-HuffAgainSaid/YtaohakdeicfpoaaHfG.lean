
/- Slices of numbers and of strings that came in; the walk of HuffCanon. -/
import Derived.Test.YtaohakdeicfpoaaHfV
import Derived.Test.YtaohakdeicfpoaaHfF
import Derived.ChangeSlices
import Derived.SliceStrings
namespace Go.Proofs.Ytaohakdeicfpoaa.Hf
open Go.RowKit Go.Proofs.Ytaohakdeicfpoaa.Oct Go.Proofs.Ytaohakdeicfpoaa.Bit
set_option linter.unusedVariables false
set_option linter.unusedSimpArgs false
set_option maxRecDepth 100000

def IsInts (w : World) (a : Option Addr) (len cap : Nat) : Prop :=
  ∃ zs : List Int, zs.length = len ∧ VRow w w.heap.size a (ints zs) ∧ len ≤ cap ∧ cap ≤ maxLen ∧ (a = none → cap = 0)
def IsStrs (w : World) (a : Option Addr) (len cap : Nat) : Prop :=
  ∃ L : List (List UInt8), L.length = len ∧ VRow w w.heap.size a (strs L) ∧ len ≤ cap ∧ cap ≤ maxLen ∧ (a = none → cap = 0) ∧ ∀ s ∈ L, s.length ≤ maxLen
section
variable {H : Type} {enc : TypeId × Value → H} {w : World} {spare : Nat → Bool} {held : Bool}
theorem open_introw {fuel : Nat} {a : Option Addr} {len cap : Nat} {x : DataW H × List MemPlace} (h : DataW.trod enc Try.prog w 0 spare held fuel 22 [.slice a len cap] = some x) : IsInts w a len cap := by
  rcases ChangeShapes.open_ints Try.underlying22 Try.underlying3 (by kernel_rfl) h with ⟨hcs, _⟩ | ⟨ad, l, c, zs, hcs, _, hl, hm, hz, _, hcell, hwz⟩
  · simp at hcs
    obtain ⟨rfl, rfl, rfl⟩ := hcs
    exact ⟨[], rfl, fun h => absurd h (by simp [ints]), Nat.le_refl _, by simp [maxLen], fun _ => rfl⟩
  · simp at hcs
    obtain ⟨rfl, rfl, rfl⟩ := hcs
    have hzl : len ≤ zs.length := by rw [hz]; split <;> omega
    refine ⟨zs.take len, by rw [List.length_take]; omega, fun hp => ?_, hl, hm, fun h => by cases h⟩
    rw [ints_length, List.length_take] at hp
    obtain ⟨b, off, spot⟩ := ad
    have h0 := hcell 0 (by omega)
    have hs : spot = none := by simpa [Addr.add] using World.cell?_spot h0
    subst hs
    refine ⟨b, off, rfl, lt_of_cell h0, fun i hi => ?_⟩
    rw [ints_length, List.length_take] at hi
    have h1 := hcell i (by omega)
    rw [add_plain] at h1
    rw [h1]
    have hg : zs.getD i 0 = zs[i]'(by omega) := by simp [List.getD, List.getElem?_eq_getElem (show i < zs.length by omega)]
    rw [hg]
    simp [ints]
theorem open_strrow {fuel : Nat} {a : Option Addr} {len cap : Nat} {x : DataW H × List MemPlace} (h : DataW.trod enc Try.prog w 0 spare held fuel 24 [.slice a len cap] = some x) : IsStrs w a len cap := by
  rcases Go.ChangeShapes.open_strings Try.underlying24 Try.underlying9 (by kernel_rfl) h with ⟨hcs, _⟩ | ⟨ad, l, c, ss, hcs, _, hl, hm, hz, _, hcell, hwz⟩
  · simp at hcs
    obtain ⟨rfl, rfl, rfl⟩ := hcs
    exact ⟨[], rfl, fun h => absurd h (by simp [strs]), Nat.le_refl _, by simp [maxLen], fun _ => rfl, fun s hs => by simp at hs⟩
  · simp at hcs
    obtain ⟨rfl, rfl, rfl⟩ := hcs
    have hzl : len ≤ ss.length := by rw [hz]; split <;> omega
    refine ⟨(ss.take len).map fun s => s.data.toList, by rw [List.length_map, List.length_take]; omega, fun hp => ?_, hl, hm, fun h => (by cases h), fun s hs => ?_⟩
    · rw [strs_length, List.length_map, List.length_take] at hp
      obtain ⟨b, off, spot⟩ := ad
      have h0 := hcell 0 (by omega)
      have hs : spot = none := by simpa [Addr.add] using World.cell?_spot h0
      subst hs
      refine ⟨b, off, rfl, lt_of_cell h0, fun i hi => ?_⟩
      rw [strs_length, List.length_map, List.length_take] at hi
      have h1 := hcell i (by omega)
      rw [add_plain] at h1
      rw [h1]
      have hg : ss.getD i ByteArray.empty = ss[i]'(by omega) := by simp [List.getD, List.getElem?_eq_getElem (show i < ss.length by omega)]
      rw [hg]
      have e := bs_of (ss[i]'(by omega))
      simp only [strs, List.getElem_map, List.getElem_take]
      exact congrArg (fun t => some (Value.string t)) e
    · obtain ⟨u, hu, rfl⟩ := List.mem_map.1 hs
      have := hwz u (List.mem_of_mem_take hu)
      rw [← bs_size, ← bs_of u]
      exact this
end
set_option maxHeartbeats 2000000 in
theorem canonL_walk (a : Option Addr) (len cap : Nat) (W : World) (h : IsInts W a len cap) :
    Calls Try.prog 3 #[.slice a len cap] W fun e w' => e = .returned (.bool true) ∧ Below W.heap.size W w' := by
  obtain ⟨zs, hx, hr, _, _, _⟩ := h
  have HX := Lib.hid hx
  have HR := Lib.hid hr
  clear hx hr
  go_enter Try.func3, Try.ntmps3
  go_wp2_with fail
  refine (lives_any _).mono ?_
  rintro e w1 ⟨rfl, hb1⟩
  have HB1 := Lib.hid hb1
  clear hb1
  by_cases hbig : 300 < len
  · have hd : decide ((300 : Int) < (len : Int)) = true := by simp; omega
    go_wp2_with fail
    refine (lives_any _).mono ?_
    rintro e w2 ⟨rfl, hb2⟩
    have HB2 := Lib.hid (HB1.out.trans (hb2.mono HB1.out.size))
    clear hb2
    go_wp2_with fail
    go_ret
    exact ⟨rfl, HB2.out⟩
  · have hd : decide ((300 : Int) < (len : Int)) = false := by simp; omega
    have HCA := Lib.hid (canon_any a len cap zs w1 ((HR.out.below HB1.out (Nat.le_refl _)).mono HB1.out.size) HX.out (by omega))
    go_wp2_with fail
    refine HCA.out.mono ?_
    rintro e w2 ⟨hb2, hres⟩
    have HB2 := Lib.hid (HB1.out.trans (hb2.mono HB1.out.size))
    have HRC := Lib.hid (rcanon_any a len cap zs w2 ((HR.out.below HB2.out (Nat.le_refl _)).mono HB2.out.size) HX.out (by omega))
    rcases hres with ⟨hE, rfl⟩ | ⟨hE, q, c, rfl, hv, hq0, hlc, hcm, hqb⟩
    · have HE := Lib.hid hE
      generalize hce : cErr zs = ce at *
      have HCE := Lib.hid hce
      clear hb2 hE hce
      go_wp2_with fail
      refine HRC.out.mono ?_
      rintro e w3 ⟨hb3, hres⟩
      have HB3 := Lib.hid (HB2.out.trans (hb3.mono HB2.out.size))
      rw [HCE.out] at hres
      rcases hres with ⟨_, rfl⟩ | ⟨hE3, _⟩
      · clear hb3
        have hne : (ce != ce) = false := by simp
        go_wp2_with fail
        go_loopw [9, 47] (fun u i wr => i = .int .i64 0 ∧ Hid (Below W.heap.size W wr)) (fun _ _ _ => 0)
        case atStart => exact ⟨rfl, HB3⟩
        case round =>
          obtain ⟨rfl, HB⟩ := hrel
          go_wp2_with fail
          go_ret
          exact ⟨rfl, HB.out⟩
      · exact absurd hE3 HE.out
    · have HCE := Lib.hid hE
      have HV := Lib.hid hv
      have HB2' := Lib.hid hb2
      clear hb2 hE hv hq0 hlc hcm hqb
      generalize hfu : decide (startN (lensN zs) 31 = 1073741824) = fu at *
      have HFU := Lib.hid hfu
      clear hfu
      go_wp2_with fail
      refine HRC.out.mono ?_
      rintro e w3 ⟨hb3, hres⟩
      have HB3 := Lib.hid (HB2.out.trans (hb3.mono HB2.out.size))
      rcases hres with ⟨hE3, _⟩ | ⟨_, q2, c2, rfl, hv2, _⟩
      · exact absurd HCE.out hE3
      rw [HFU.out]
      have HV1 := Lib.hid ((HV.out.below hb3 (Nat.le_refl _)).mono hb3.size)
      have HV2 := Lib.hid hv2
      have HXL := Lib.hid (show (canonB (lensN zs)).length = len by rw [canonB_length, lensN_length]; exact HX.out)
      have hne : (fu != fu) = false := by simp
      rw [HX.out]
      generalize canonB (lensN zs) = L at *
      clear hb3 hv2
      have hxl : decide ((len : Int) < (len : Int)) = false := by simp
      go_wp2_with fail
      go_loopw [9, 47] (fun u i wr => ∃ k : Nat, k ≤ len ∧ i = .int .i64 (k : Int) ∧ Hid (Drawn w3 wr)) (fun _ i _ => len - (intOf i).toNat)
      case atStart => exact ⟨0, by omega, rfl, Lib.hid ⟨0, rfl⟩⟩
      case round =>
        obtain ⟨k, hk, rfl, HD⟩ := hrel
        by_cases hlt : k < len
        · have hkl : k < L.length := by rw [HXL.out]; exact hlt
          obtain ⟨b1, o1, rfl, _⟩ := HV1.out.addr (by rw [strs_length]; omega)
          obtain ⟨b2, o2, rfl, _⟩ := HV2.out.addr (by rw [strs_length]; omega)
          have hcw : ∀ x : Addr, wr.cell? x = w3.cell? x := by intro x; obtain ⟨n, rfl⟩ := HD.out; rfl
          have hc1 := (hcw _).trans (HV1.out.str k hkl)
          have hc2 := (hcw _).trans (HV2.out.str k hkl)
          generalize bs L[k] = sb at hc1 hc2
          have hdk : decide ((k : Int) < (len : Int)) = true := by simp; omega
          have i1 : (0 : Int) ≤ (k : Int) := by omega
          have i2 : (k : Int) < (len : Int) := by omega
          clear hcw
          go_wp2_with fail
          go_quiet (fail)
          go_wp2_with fail
          go_roundw
          case rel => exact ⟨k + 1, by omega, by go_num, Lib.hid (HD.out.more _)⟩
          case measure => simp [intOf]; omega
        · have hke : k = len := by omega
          subst hke
          have HBE := Lib.hid (HB3.out.trans (HD.out.below W.heap.size))
          go_wp2_with fail
          go_ret
          exact ⟨rfl, HBE.out⟩
end Go.Proofs.Ytaohakdeicfpoaa.Hf

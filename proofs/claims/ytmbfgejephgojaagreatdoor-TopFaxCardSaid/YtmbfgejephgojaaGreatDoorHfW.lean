
/- The contracts of a book's Len, Word and Write, of a nil book too. -/
import Derived.Test.YtmbfgejephgojaaGreatDoorHfR
import Derived.Test.YtmbfgejephgojaaGreatDoorBitY
namespace Go.Proofs.YtmbfgejephgojaaGreatDoor.Hf
open Go.RowKit Go.Proofs.YtmbfgejephgojaaGreatDoor.Oct Go.Proofs.YtmbfgejephgojaaGreatDoor.Bit
set_option linter.unusedVariables false
set_option linter.unusedSimpArgs false
set_option maxRecDepth 100000

theorem blen_any (w : World) (C g : Nat) (ws : List (List UInt8)) (ms : List Value) (hB : Bk w C g ws ms) : Calls Tryz.prog 108 #[.pointer (some ⟨g, 0, none⟩)] w fun e w' => e = .returned (.int .i64 (ws.length : Int)) ∧ w = w' := by
  obtain ⟨pw, cw, pm, cm, A, E, hT, hS, hvw, hvm, hlw, hlm⟩ := hB
  have h0 := hT.h0
  clear hT hS hvw hvm hlw hlm
  go_enter Tryz.func108, Tryz.ntmps108
  go_wp2_with fail
  go_ret
  exact ⟨rfl, rfl⟩
theorem blen_nil (w : World) : Calls Tryz.prog 108 #[.pointer none] w fun e w' => e = .returned (.int .i64 0) ∧ w = w' := by
  go_enter Tryz.func108, Tryz.ntmps108
  go_wp2_with fail
  go_ret
  exact ⟨rfl, rfl⟩
def WordN (w : World) (s : List UInt8) (c : Int) (e : Ending) (w' : World) : Prop := e = .returned (.tuple #[.string (bs s), .int .i64 c]) ∧ w = w'
theorem bword_in (w : World) (C g : Nat) (ws : List (List UInt8)) (ms : List Value) (i : Nat) (s : List UInt8) (hB : Bk w C g ws ms) (hi : ws[i]? = some s) :
    Calls Tryz.prog 98 #[.pointer (some ⟨g, 0, none⟩), .int .i64 (i : Int)] w (WordN w s 0) := by
  have HL := Lib.hid (blen_any w C g ws ms hB)
  obtain ⟨pw, cw, pm, cm, A, E, hT, hS, hvw, hvm, hlw, hlm⟩ := hB
  have h0 := hT.h0
  have hs : (strs ws)[i]? = some (.string (bs s)) := by simp [strs, hi]
  obtain ⟨b, off, rfl, hb, hc⟩ := vrow_get hvw hs
  have hil : i < ws.length := (List.getElem?_eq_some_iff.1 hi).1
  have hd0 : decide ((i : Int) < 0) = false := by simp
  have hd1 : decide ((ws.length : Int) ≤ (i : Int)) = false := by simp; omega
  have j0 : (0 : Int) ≤ (i : Int) := by omega
  have j1 : (i : Int) < (ws.length : Int) := by omega
  generalize ws.length = n at *
  generalize hsb : bs s = sb at hc
  have HSB := Lib.hid hsb
  clear hT hS hvw hvm hlw hlm hs hi hil hsb
  go_enter Tryz.func98, Tryz.ntmps98
  go_wp2_with fail
  refine HL.out.mono ?_
  rintro e w' ⟨rfl, rfl⟩
  go_wp2_with fail
  go_ret2
  exact ⟨by rw [HSB.out]; rfl, rfl⟩
theorem bword_out (w : World) (C g : Nat) (ws : List (List UInt8)) (ms : List Value) (i : Int) (hB : Bk w C g ws ms) (hi : i < 0 ∨ (ws.length : Int) ≤ i) :
    Calls Tryz.prog 98 #[.pointer (some ⟨g, 0, none⟩), .int .i64 i] w (WordN w [] 12) := by
  have HL := Lib.hid (blen_any w C g ws ms hB)
  clear hB
  by_cases h0 : i < 0
  · have hd0 : decide (i < 0) = true := by simpa using h0
    clear hi h0
    go_enter Tryz.func98, Tryz.ntmps98
    go_wp2_with fail
    go_ret2
    exact ⟨rfl, rfl⟩
  · have hd0 : decide (i < 0) = false := by simpa using h0
    have hd1 : decide ((ws.length : Int) ≤ i) = true := by simp; omega
    generalize ws.length = n at *
    clear hi h0
    go_enter Tryz.func98, Tryz.ntmps98
    go_wp2_with fail
    refine HL.out.mono ?_
    rintro e w' ⟨rfl, rfl⟩
    go_wp2_with fail
    go_ret2
    exact ⟨rfl, rfl⟩
theorem bword_nil (w : World) (i : Int) : Calls Tryz.prog 98 #[.pointer none, .int .i64 i] w (WordN w [] 12) := by
  have HL := Lib.hid (blen_nil w)
  by_cases h0 : i < 0
  · have hd0 : decide (i < 0) = true := by simpa using h0
    clear h0
    go_enter Tryz.func98, Tryz.ntmps98
    go_wp2_with fail
    go_ret2
    exact ⟨rfl, rfl⟩
  · have hd0 : decide (i < 0) = false := by simpa using h0
    have hd1 : decide ((0 : Int) ≤ i) = true := by simp; omega
    clear h0
    go_enter Tryz.func98, Tryz.ntmps98
    go_wp2_with fail
    refine HL.out.mono ?_
    rintro e w' ⟨rfl, rfl⟩
    go_wp2_with fail
    go_ret2
    exact ⟨rfl, rfl⟩
def NoneP (w : World) (e : Ending) (w' : World) : Prop := e = .returned (.int .i64 12) ∧ w = w'
theorem bread_nil (w : World) (r : Value) : Calls Tryz.prog 92 #[.pointer none, r] w fun e w' => e = .returned (.tuple #[.int .i64 0, .int .i64 6]) ∧ w = w' := by
  go_enter Tryz.func92, Tryz.ntmps92
  go_wp2_with fail
  go_ret2
  exact ⟨rfl, rfl⟩
theorem bwrite_nil (w : World) (r : Value) (i : Int) : Calls Tryz.prog 81 #[.pointer none, r, .int .i64 i] w (NoneP w) := by
  go_enter Tryz.func81, Tryz.ntmps81
  go_wp2_with fail
  refine (bword_nil w i).mono ?_
  rintro e w' ⟨rfl, rfl⟩
  go_wp2_with fail
  go_ret
  exact ⟨rfl, rfl⟩
theorem bwrite_out (w : World) (C g : Nat) (ws : List (List UInt8)) (ms : List Value) (r : Value) (i : Int) (hB : Bk w C g ws ms) (hi : i < 0 ∨ (ws.length : Int) ≤ i) :
    Calls Tryz.prog 81 #[.pointer (some ⟨g, 0, none⟩), r, .int .i64 i] w (NoneP w) := by
  have HW := Lib.hid (bword_out w C g ws ms i hB hi)
  clear hB hi
  go_enter Tryz.func81, Tryz.ntmps81
  go_wp2_with fail
  refine HW.out.mono ?_
  rintro e w' ⟨rfl, rfl⟩
  go_wp2_with fail
  go_ret
  exact ⟨rfl, rfl⟩
theorem bwrite_empty (w : World) (C g : Nat) (ws : List (List UInt8)) (ms : List Value) (r : Value) (i : Nat) (hB : Bk w C g ws ms) (hi : ws[i]? = some []) :
    Calls Tryz.prog 81 #[.pointer (some ⟨g, 0, none⟩), r, .int .i64 (i : Int)] w (NoneP w) := by
  have HW := Lib.hid (show Calls Tryz.prog 98 #[.pointer (some ⟨g, 0, none⟩), .int .i64 (i : Int)] w (fun e w' => e = .returned (.tuple #[.string (bs []), .int .i64 0]) ∧ w = w') from bword_in w C g ws ms i [] hB hi)
  clear hB hi
  have hem : (bs []).toList.isEmpty = true := (bs_empty []).trans rfl
  generalize bs [] = sb at HW hem
  go_enter Tryz.func81, Tryz.ntmps81
  go_wp2_with fail
  refine HW.out.mono ?_
  rintro e w' ⟨rfl, rfl⟩
  go_wp2_with fail
  go_ret
  exact ⟨rfl, rfl⟩
def WriteP (w : World) (gw : Nat) (v : Value) (l m : List Bool) (low : Bool) (e : Ending) (w' : World) : Prop := e = .returned (.int .i64 0) ∧ WsT w gw v (l ++ m) low w'
theorem ds_nonempty (m : List Bool) (hm : m ≠ []) : (ds m).toList.isEmpty = false := by
  show (bs (m.map dig)).toList.isEmpty = false
  rw [bs_toList]
  cases m
  · exact absurd rfl hm
  · rfl
theorem bwrite_in (w : World) (C g : Nat) (ws : List (List UInt8)) (ms : List Value) (gw : Nat) (v : Value) (l m : List Bool) (low : Bool) (i : Nat) (hB : Bk w C g ws ms) (hi : ws[i]? = some (m.map dig)) (hm : m ≠ []) (hW : Ws w gw v l low) (hl : l.length + m.length ≤ 2000000) :
    Calls Tryz.prog 81 #[.pointer (some ⟨g, 0, none⟩), .pointer (some ⟨gw, 0, none⟩), .int .i64 (i : Int)] w (WriteP w gw v l m low) := by
  have HW := Lib.hid (show Calls Tryz.prog 98 #[.pointer (some ⟨g, 0, none⟩), .int .i64 (i : Int)] w (fun e w' => e = .returned (.tuple #[.string (ds m), .int .i64 0]) ∧ w = w') from bword_in w C g ws ms i _ hB hi)
  have HWW := Lib.hid (word_any w gw v l m low hl hW)
  have hem := ds_nonempty m hm
  generalize ds m = sb at HW HWW hem
  clear hB hi hm hW hl
  go_enter Tryz.func81, Tryz.ntmps81
  go_wp2_with fail
  refine HW.out.mono ?_
  rintro e w' ⟨rfl, rfl⟩
  go_wp2_with fail
  refine HWW.out.mono ?_
  rintro e w' ⟨rfl, hT⟩
  have HT := Lib.hid hT
  clear hT
  go_wp2_with fail
  go_ret
  exact ⟨rfl, HT.out⟩
theorem bwrite_none (w : World) (C g : Nat) (ws : List (List UInt8)) (ms : List Value) (m : List Bool) (i : Nat) (hB : Bk w C g ws ms) (hi : ws[i]? = some (m.map dig)) (hm : m ≠ []) (hl : m.length ≤ 2000000) :
    Calls Tryz.prog 81 #[.pointer (some ⟨g, 0, none⟩), .pointer none, .int .i64 (i : Int)] w fun e w' => e = .returned (.int .i64 1) ∧ w = w' := by
  have HW := Lib.hid (show Calls Tryz.prog 98 #[.pointer (some ⟨g, 0, none⟩), .int .i64 (i : Int)] w (fun e w' => e = .returned (.tuple #[.string (ds m), .int .i64 0]) ∧ w = w') from bword_in w C g ws ms i _ hB hi)
  have hwn := word_nil (m.map dig) w (by simpa using hl)
  rw [wordB_dig, if_pos rfl] at hwn
  have HWW := Lib.hid (show Calls Tryz.prog 25 #[.pointer none, .string (ds m)] w (fun e w' => e = .returned (.int .i64 1) ∧ w = w') from hwn)
  have hem := ds_nonempty m hm
  generalize ds m = sb at HW HWW hem
  clear hB hi hm hl hwn
  go_enter Tryz.func81, Tryz.ntmps81
  go_wp2_with fail
  refine HW.out.mono ?_
  rintro e w' ⟨rfl, rfl⟩
  go_wp2_with fail
  refine HWW.out.mono ?_
  rintro e w' ⟨rfl, rfl⟩
  go_wp2_with fail
  go_ret
  exact ⟨rfl, rfl⟩
end Go.Proofs.YtmbfgejephgojaaGreatDoor.Hf


/- Contracts of NewWriter, Len, Bytes, Align, Write and Word of a writer. -/
import Derived.Test.YtgddpjnikgcamaaDoorBitX
namespace Go.Proofs.YtgddpjnikgcamaaDoor.Bit
open Go.RowKit Go.Proofs.YtgddpjnikgcamaaDoor.Oct
set_option linter.unusedVariables false
set_option maxRecDepth 20000

/-- a writer that has written these bits -/
def Ws (w : World) (g : Nat) (v : Value) (l : List Bool) (low : Bool) : Prop := Wr w g v (packB low l) l.length low
def WsT (w : World) (g : Nat) (v : Value) (l : List Bool) (low : Bool) (w' : World) : Prop := WrT w g v (packB low l) l.length low w'
def NewW (w : World) (low : Bool) (e : Ending) (w' : World) : Prop :=
  Below w.heap.size w w' ∧ e = .returned (.pointer (some ⟨w.heap.size, 0, none⟩)) ∧ Ws w' w.heap.size (.slice none 0 0) [] low
theorem newWriter_any (low : Bool) (w : World) : Calls Tryd.prog 11 #[.bool low] w (NewW w low) := by
  go_enter Tryd.func11, Tryd.ntmps11
  go_wp2_with fail
  go_ret
  refine ⟨(Below.refl _ w).alloc (Nat.le_refl _) _, rfl, ?_, ?_, ?_⟩
  · show (w.heap.push _)[w.heap.size]? = _
    simp
  · rw [packB_nil]
    exact World.ownsRow_nil _ _ _ _
  · intro h; cases h
theorem len_any (w : World) (g : Nat) (v : Value) (l : List Bool) (low : Bool) (hW : Ws w g v l low) :
    Calls Tryd.prog 17 #[.pointer (some ⟨g, 0, none⟩)] w fun e w' => e = .returned (.int .i64 (l.length : Int)) ∧ w = w' := by
  have c1 := Wr.c1 hW
  clear hW
  go_enter Tryd.func17, Tryd.ntmps17
  go_wp2_with fail
  go_ret
  exact ⟨rfl, rfl⟩
theorem bytes_any (w : World) (g : Nat) (v : Value) (l : List Bool) (low : Bool) (hW : Ws w g v l low) (hl : l.length ≤ 2000000) :
    Calls Tryd.prog 18 #[.pointer (some ⟨g, 0, none⟩)] w (CloneP w (packB low l)) := by
  have c0 := Wr.c0 hW
  obtain ⟨p, cap, hv, hr, hnil⟩ : ∃ p cap, v = .slice p (packB low l).length cap ∧ Row w p (packB low l) ∧ (p = none → cap = 0) := by
    rcases Wr.form hW with ⟨rfl, h0⟩ | ⟨r, cap, rfl, _, _, _, _, hr⟩
    · exact ⟨none, 0, by rw [h0]; rfl, by rw [h0]; exact fun h => absurd h (by simp), fun _ => rfl⟩
    · exact ⟨_, _, rfl, hr, fun h => by cases h⟩
  subst hv
  have hpl := packB_length low l
  have hcl := clone_any p (packB low l).length cap (packB low l) w hr rfl hnil (by omega)
  have HCL := Lib.hid hcl
  clear hcl hnil hr hW hpl
  go_enter Tryd.func18, Tryd.ntmps18
  go_wp2_with fail
  refine HCL.out.mono ?_
  rintro e w1 ⟨hb, q, cap1, rfl, r⟩
  have R := Lib.hid r
  clear r
  go_wp2_with fail
  go_ret
  exact ⟨hb, q, cap1, rfl, R.out⟩
/-- 0 bits till a byte is full -/
def padL (l : List Bool) : List Bool := l ++ zs (8 * ((l.length + 7) / 8) - l.length)
theorem padL_length (l : List Bool) : (padL l).length = 8 * ((l.length + 7) / 8) := by unfold padL; rw [List.length_append, zs_length]; omega
def WAlP (w : World) (g : Nat) (v : Value) (l : List Bool) (low : Bool) (e : Ending) (w' : World) : Prop := e = .returned (.tuple #[]) ∧ WsT w g v (padL l) low w'
theorem walign_any (w : World) (g : Nat) (v : Value) (l : List Bool) (low : Bool) (hW : Ws w g v l low) (hl : l.length ≤ 2000000) :
    Calls Tryd.prog 61 #[.pointer (some ⟨g, 0, none⟩)] w (WAlP w g v l low) := by
  have c1 := Wr.c1 hW
  have hfz := Wr.fz hW 1
  have hS := Wr.setLen hW (8 * ((l.length + 7) / 8))
  have hO : Only (Mine g v) w (w.setCell ⟨g, 1, none⟩ (.int .i64 ((8 * ((l.length + 7) / 8) : Nat) : Int))) := Only.setCell (p := ⟨g, 1, none⟩) (.inl rfl) _
  rw [Int.natCast_mul] at hS hO
  have HS := Lib.hid hS
  have HO := Lib.hid hO
  clear hS hO hW
  go_enter Tryd.func61, Tryd.ntmps61
  go_wp2_with fail
  refine (bytesFor_any _ _ (by omega)).mono ?_
  rintro e w' ⟨rfl, rfl⟩
  go_wp2_with fail
  go_end0
  refine ⟨rfl, v, ?_, HO.out, fun _ h => .inl h⟩
  rw [padL_length, show packB low (padL l) = packB low l from packB_pad low l]
  exact HS.out
/-- may a number be written in so many bits? -/
def okW (m : Nat) (n : Int) : Bool := cntB n && decide (m < 2 ^ n.toNat)
def wrE (m : Nat) (n : Int) : Int := if cntB n then (if okW m n then 0 else 7) else 1
def wrL (low : Bool) (l : List Bool) (m : Nat) (n : Int) : List Bool := if okW m n then l ++ wordE low m n.toNat else l
def WrtP (w : World) (g : Nat) (v : Value) (l : List Bool) (low : Bool) (m : Nat) (n : Int) (e : Ending) (w' : World) : Prop :=
  e = .returned (.int .i64 (wrE m n)) ∧ WsT w g v (wrL low l m n) low w'
theorem shr_zero (m k : Nat) : ((m : Int) / 2 ^ k != 0) = !decide (m < 2 ^ k) := by
  have e : ((m : Int) / 2 ^ k) = ((m / 2 ^ k : Nat) : Int) := by push_cast; rfl
  rw [e, Bool.eq_iff_iff]
  have hp : 0 < 2 ^ k := Nat.pow_pos (by omega)
  have hz := @Nat.div_eq_zero_iff m (2 ^ k)
  generalize m / 2 ^ k = d at hz ⊢
  generalize 2 ^ k = b at hz hp ⊢
  simp
  omega
theorem wordE_one (low b : Bool) : wordE low b.toNat 1 = [b] := by cases low <;> cases b <;> rfl
def WordP (w : World) (g : Nat) (v : Value) (l m : List Bool) (low : Bool) (e : Ending) (w' : World) : Prop := e = .returned (.int .i64 0) ∧ WsT w g v (l ++ m) low w'
set_option maxHeartbeats 400000 in
theorem word_any (w : World) (g : Nat) (v : Value) (l m : List Bool) (low : Bool) (hl : l.length + m.length ≤ 2000000) (hW : Ws w g v l low) :
    Calls Tryd.prog 92 #[.pointer (some ⟨g, 0, none⟩), .string (ds m)] w (WordP w g v l m low) := by
  have hsz := ds_size m
  have hwd := isWord_any (m.map dig) w (by simp; omega)
  rw [wordB_dig] at hwd
  have HWD := Lib.hid hwd
  have HW := Lib.hid hW
  clear hwd hW
  go_enter Tryd.func92, Tryd.ntmps92
  go_wp2_with fail
  refine HWD.out.mono ?_
  rintro e w' ⟨rfl, rfl⟩
  go_wp2_with fail
  go_loopw [5, 13] (fun u i wr => ∃ j : Nat, j ≤ m.length ∧ i = .int .i64 (j : Int) ∧ WsT w g v (l ++ m.take j) low wr) (fun _ i _ => m.length - (intOf i).toNat)
  case atStart => exact ⟨0, by omega, rfl, by rw [List.take_zero, List.append_nil]; exact WrT.refl HW.out⟩
  case round =>
    obtain ⟨j, hj, rfl, hT⟩ := hrel
    by_cases hlt : j < m.length
    · obtain ⟨v1, hW1, ho1, hd1⟩ := hT
      obtain ⟨b, hb⟩ : ∃ b, b = m[j] := ⟨_, rfl⟩
      have hg : ∀ h, (ds m)[j]'h = dig b := fun h => (ds_get m j h hlt).trans (by rw [hb])
      have htk : m.take (j + 1) = m.take j ++ [b] := by rw [hb, List.take_succ_eq_append_getElem hlt]
      have hdb := dig_toNat b
      have hbl : b.toNat ≤ 1 := by cases b <;> simp
      have hv1 : (((dig b).toNat : Int) - 48) % 256 = (b.toNat : Int) := by rw [hdb]; omega
      have hv2 : b.toNat < 4294967296 := by omega
      have ha := add_any wr g v1 (l ++ m.take j) low b.toNat 1 (by omega) (by omega) (by simp; omega) hW1
      rw [wordE_one, List.append_assoc, ← htk] at ha
      have HA := Lib.hid ha
      have HV := Lib.hid hv1
      clear ha hb htk hdb hv1
      have HG := Lib.hid hg
      clear hg
      go_wp2_with fail
      rw [HG.out]
      first | rw [HV.out] | rw [IntKind.wrap_u8, HV.out]
      refine HA.out.mono ?_
      rintro e w2 ⟨rfl, hT2⟩
      go_wp2_with fail
      go_roundw
      case rel => exact ⟨j + 1, by omega, by go_num, WrT.more ho1 hd1 hT2⟩
      case measure => simp [intOf]; omega
    · have hjl : j = m.length := by omega
      subst hjl
      rw [List.take_length] at hT
      go_wp2_with fail
      go_ret
      exact ⟨rfl, hT⟩
theorem word_bad (w : World) (g : Nat) (xs : List UInt8) (hl : xs.length ≤ 2000000) (hb : wordB xs = false) :
    Calls Tryd.prog 92 #[.pointer (some ⟨g, 0, none⟩), .string (bs xs)] w fun e w' => e = .returned (.int .i64 3) ∧ w = w' := by
  have hwd := isWord_any xs w hl
  rw [hb] at hwd
  have HWD := Lib.hid hwd
  clear hwd hb
  go_enter Tryd.func92, Tryd.ntmps92
  go_wp2_with fail
  refine HWD.out.mono ?_
  rintro e w' ⟨rfl, rfl⟩
  go_wp2_with fail
  go_ret
  exact ⟨rfl, rfl⟩
end Go.Proofs.YtgddpjnikgcamaaDoor.Bit

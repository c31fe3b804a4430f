
/- Contracts of NewWriter, Len, Bytes, Align, Write and Word of a writer. -/
import Derived.Test.YtgdcjhngjdiaoaaBitX
namespace Go.Proofs.Ytgdcjhngjdiaoaa.Bit
open Go.RowKit Go.Proofs.Ytgdcjhngjdiaoaa.Oct
set_option linter.unusedVariables false

/-- a writer that has written these bits -/
def Ws (w : World) (g : Nat) (v : Value) (l : List Bool) (low : Bool) : Prop := Wr w g v (packB low l) l.length low
def WsT (w : World) (g : Nat) (v : Value) (l : List Bool) (low : Bool) (w' : World) : Prop := WrT w g v (packB low l) l.length low w'
def NewW (w : World) (low : Bool) (e : Ending) (w' : World) : Prop :=
  Below w.heap.size w w' ∧ e = .returned (.pointer (some ⟨w.heap.size, 0, none⟩)) ∧ Ws w' w.heap.size (.slice none 0 0) [] low
theorem newWriter_any (low : Bool) (w : World) : Calls Try.prog 24 #[.bool low] w (NewW w low) := by
  go_enter Try.func24, Try.ntmps24
  go_wp2_with fail
  go_ret
  refine ⟨(Below.refl _ w).alloc (Nat.le_refl _) _, rfl, ?_, ?_, ?_⟩
  · show (w.heap.push _)[w.heap.size]? = _
    simp
  · rw [packB_nil]
    exact World.ownsRow_nil _ _ _ _
  · intro h; cases h
theorem bytes_any (w : World) (g : Nat) (v : Value) (l : List Bool) (low : Bool) (hW : Ws w g v l low) (hl : l.length ≤ 1000000) :
    Calls Try.prog 30 #[.pointer (some ⟨g, 0, none⟩)] w (CloneP w (packB low l)) := by
  have c0 := Wr.c0 hW
  obtain ⟨p, cap, hv, hr, hnil⟩ : ∃ p cap, v = .slice p (packB low l).length cap ∧ Row w p (packB low l) ∧ (p = none → cap = 0) := by
    rcases Wr.form hW with ⟨rfl, h0⟩ | ⟨r, cap, rfl, _, _, _, _, hr⟩
    · exact ⟨none, 0, by rw [h0]; rfl, by rw [h0]; exact fun h => absurd h (by simp), fun _ => rfl⟩
    · exact ⟨_, _, rfl, hr, fun h => by cases h⟩
  subst hv
  have hpl := packB_length low l
  have hcl := clone_any p (packB low l).length cap (packB low l) w hr rfl hnil (by omega)
  have HCL := Lib.hid hcl
  clear hcl hnil hr hW hpl
  go_enter Try.func30, Try.ntmps30
  go_wp2_with fail
  refine HCL.out.mono ?_
  rintro e w1 ⟨hb, q, cap1, rfl, r⟩
  have R := Lib.hid r
  clear r
  go_wp2_with fail
  go_ret
  exact ⟨hb, q, cap1, rfl, R.out⟩
/-- 0 bits till a byte is full -/
def padL (l : List Bool) : List Bool := l ++ zs (8 * ((l.length + 7) / 8) - l.length)
theorem padL_length (l : List Bool) : (padL l).length = 8 * ((l.length + 7) / 8) := by unfold padL; rw [List.length_append, zs_length]; omega
def WAlP (w : World) (g : Nat) (v : Value) (l : List Bool) (low : Bool) (e : Ending) (w' : World) : Prop := e = .returned (.tuple #[]) ∧ WsT w g v (padL l) low w'
/-- may a number be written in so many bits? -/
def okW (m : Nat) (n : Int) : Bool := cntB n && decide (m < 2 ^ n.toNat)
def wrE (m : Nat) (n : Int) : Int := if cntB n then (if okW m n then 0 else 7) else 1
def wrL (low : Bool) (l : List Bool) (m : Nat) (n : Int) : List Bool := if okW m n then l ++ wordE low m n.toNat else l
def WrtP (w : World) (g : Nat) (v : Value) (l : List Bool) (low : Bool) (m : Nat) (n : Int) (e : Ending) (w' : World) : Prop :=
  e = .returned (.int .i64 (wrE m n)) ∧ WsT w g v (wrL low l m n) low w'
theorem shr_zero (m k : Nat) : ((m : Int) / 2 ^ k != 0) = !decide (m < 2 ^ k) := by
  have e : ((m : Int) / 2 ^ k) = ((m / 2 ^ k : Nat) : Int) := by push_cast; rfl
  rw [e, Bool.eq_iff_iff]
  have hp : 0 < 2 ^ k := Nat.pow_pos (by omega)
  have hz := @Nat.div_eq_zero_iff m (2 ^ k)
  generalize m / 2 ^ k = d at hz ⊢
  generalize 2 ^ k = b at hz hp ⊢
  simp
  omega
theorem write_any (w : World) (g : Nat) (v : Value) (l : List Bool) (low : Bool) (m : Nat) (n : Int) (hm : m < 4294967296) (hl : l.length ≤ 1000000) (hW : Ws w g v l low) :
    Calls Try.prog 39 #[.pointer (some ⟨g, 0, none⟩), .int .u32 (m : Int), .int .i64 n] w (WrtP w g v l low m n) := by
  have HW := Lib.hid hW
  clear hW
  by_cases hc : cntB n = true
  · have hb := of_decide_eq_true hc
    obtain ⟨k, rfl⟩ : ∃ k : Nat, n = (k : Int) := ⟨n.toNat, by omega⟩
    have hk : k ≤ 32 := by omega
    have hsz := shr_zero m k
    by_cases ho : m < 2 ^ k
    · have how : okW m (k : Int) = true := by unfold okW; rw [hc]; simpa using ho
      have e1 : wrE m (k : Int) = 0 := by unfold wrE; rw [hc, how]; rfl
      have e2 : wrL low l m (k : Int) = l ++ wordE low m k := by unfold wrL; rw [how]; rfl
      rw [show decide (m < 2 ^ k) = true from by simpa using ho, Bool.not_true] at hsz
      have HC := Lib.hid hc
      have E1 := Lib.hid e1
      have E2 := Lib.hid e2
      have HO := Lib.hid ho
      clear hc e1 e2 how ho
      go_enter Try.func39, Try.ntmps39
      go_wp2_with fail
      refine (count_any _ _).mono ?_
      rintro e w' ⟨rfl, rfl⟩
      rw [HC.out]
      go_wp2_with fail
      refine (add_any _ _ _ _ _ _ _ HO.out hk hl HW.out).mono ?_
      rintro e w1 ⟨rfl, hT⟩
      have HT := Lib.hid hT
      clear hT
      go_wp2_with fail
      go_ret
      exact ⟨by rw [E1.out]; rfl, by rw [E2.out]; exact HT.out⟩
    · have how : okW m (k : Int) = false := by unfold okW; rw [hc]; simp at ho; simpa using ho
      have e1 : wrE m (k : Int) = 7 := by unfold wrE; rw [hc, how]; rfl
      have e2 : wrL low l m (k : Int) = l := by unfold wrL; rw [how]; rfl
      rw [show decide (m < 2 ^ k) = false from by simp at ho; simpa using ho, Bool.not_false] at hsz
      have HC := Lib.hid hc
      have E1 := Lib.hid e1
      have E2 := Lib.hid e2
      clear hc e1 e2 how ho
      go_enter Try.func39, Try.ntmps39
      go_wp2_with fail
      refine (count_any _ _).mono ?_
      rintro e w' ⟨rfl, rfl⟩
      rw [HC.out]
      go_wp2_with fail
      go_ret
      exact ⟨by rw [E1.out]; rfl, by rw [E2.out]; exact WrT.refl HW.out⟩
  · have hc' : cntB n = false := by simpa using hc
    have how : okW m n = false := by unfold okW; rw [hc']; rfl
    have e1 : wrE m n = 1 := by unfold wrE; rw [hc']; rfl
    have e2 : wrL low l m n = l := by unfold wrL; rw [how]; rfl
    have HC := Lib.hid hc'
    have E1 := Lib.hid e1
    have E2 := Lib.hid e2
    clear hc hc' e1 e2 how
    go_enter Try.func39, Try.ntmps39
    go_wp2_with fail
    refine (count_any _ _).mono ?_
    rintro e w' ⟨rfl, rfl⟩
    rw [HC.out]
    go_wp2_with fail
    go_ret
    exact ⟨by rw [E1.out]; rfl, by rw [E2.out]; exact WrT.refl HW.out⟩
theorem wordE_one (low b : Bool) : wordE low b.toNat 1 = [b] := by cases low <;> cases b <;> rfl
def WordP (w : World) (g : Nat) (v : Value) (l m : List Bool) (low : Bool) (e : Ending) (w' : World) : Prop := e = .returned (.int .i64 0) ∧ WsT w g v (l ++ m) low w'
end Go.Proofs.Ytgdcjhngjdiaoaa.Bit

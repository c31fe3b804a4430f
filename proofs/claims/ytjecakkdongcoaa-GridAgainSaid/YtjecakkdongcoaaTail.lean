
/- Parts of rows: 'b[a:]' of whatever slice under one name; an own row's form, nil or not. -/
import Derived.Test.YtjecakkdongcoaaBase
namespace Go.Proofs.Ytjecakkdongcoaa.Oct
open Go.RowKit
set_option linter.unusedVariables false
set_option maxRecDepth 20000

/-- where b[a:] lies -/
def tailA (p : Option Addr) (cap a : Nat) : Option Addr := if cap = a then p else p.map (·.add a)
theorem tail_row {w : World} {p : Option Addr} {xs : List UInt8} (cap a : Nat) (h : Row w p xs) (hx : xs.length ≤ cap) : Row w (tailA p cap a) (xs.drop a) := by
  intro hp
  rw [List.length_drop] at hp
  obtain ⟨b, off, rfl, hb, hc⟩ := h (by omega)
  have hne : ¬ cap = a := by omega
  refine ⟨b, off + a, by simp [tailA, hne, add_plain], hb, fun i hi => ?_⟩
  rw [List.length_drop] at hi
  rw [Nat.add_assoc, hc (a + i) (by omega)]
  simp
theorem tail_none {p : Option Addr} {cap a : Nat} (h : p = none → cap = 0) (ht : tailA p cap a = none) : cap - a = 0 := by
  unfold tailA at ht
  split at ht
  · omega
  · have := h (by simpa using ht)
    omega
theorem own_shape {w : World} {base n : Nat} {v : Value} {xs : List UInt8} (h : w.ownsRow base 5 1 v n (cellsOf xs)) (hn : xs.length = n) :
    ∃ q c, v = .slice q n c ∧ (q = none → c = 0) ∧ n ≤ c ∧ c ≤ maxLen ∧ Row w q xs := by
  by_cases hv : v = .slice none 0 0
  · have h0 : n = 0 := by
      rcases h.2 with ⟨_, h0⟩ | ⟨g, cap, cur, he, _⟩
      · exact h0
      · rw [hv] at he; cases he
    subst h0
    have : xs = [] := List.eq_nil_of_length_eq_zero hn
    subst this
    exact ⟨none, 0, hv, fun _ => rfl, Nat.le_refl _, by simp [maxLen], fun h => absurd h (by simp)⟩
  · obtain ⟨g, cap, rfl, h1, h2, _, _, h5⟩ := own_form h hv
    exact ⟨_, cap, rfl, fun h => absurd h (by simp), h1, h2, h5⟩
theorem row_take {w : World} {p : Option Addr} {xs : List UInt8} (h : Row w p xs) (n : Nat) : Row w p (xs.take n) := by
  intro hp
  rw [List.length_take] at hp
  obtain ⟨b, off, rfl, hb, hc⟩ := h (by omega)
  exact ⟨b, off, rfl, hb, fun i hi => by
    rw [List.length_take] at hi
    rw [hc i (by omega)]
    simp⟩
/-- where b[:k] lies -/
def headA (p : Option Addr) (cap : Nat) : Option Addr := if cap = 0 then p else p.map (·.add (0 * 1))
theorem head_row {w : World} {p : Option Addr} {xs : List UInt8} (cap k : Nat) (h : Row w p xs) : Row w (headA p cap) (xs.take k) := by
  intro hp
  rw [List.length_take] at hp
  obtain ⟨b, off, rfl, hb, hc⟩ := h (by omega)
  refine ⟨b, off, ?_, hb, fun i hi => ?_⟩
  · unfold headA
    split
    · rfl
    · simp [add_plain]
  · rw [List.length_take] at hi
    rw [hc i (by omega)]
    simp
theorem own_below {w w' : World} {base e n : Nat} {v : Value} {cs : List Value} (h : w.ownsRow base e 1 v n cs) (hb : Below w.heap.size w w') : w'.ownsRow base e 1 v n cs := by
  refine ⟨h.1, ?_⟩
  rcases h.2 with hn | ⟨g, cap, cur, rfl, hbs, hh, r⟩
  · exact .inl hn
  · refine .inr ⟨g, cap, cur, rfl, hbs, ?_, r⟩
    have hlt : g < w.heap.size := by
      rcases Nat.lt_or_ge g w.heap.size with hlt | hge
      · exact hlt
      · rw [Array.getElem?_eq_none hge] at hh; cases hh
    rw [hb.block g hlt]
    exact hh
theorem grown_below {w w' : World} {base e n : Nat} {v : Value} {cs : List Value} (h : w.ownsRow base e 1 v n cs) (hg : w.grownBy w' v.ownBlock) (hb : base ≤ w.heap.size) : Below base w w' :=
  (Below.refl _ w).grown hg hb (fun k hk => (h.lt k hk).1)
/-- 'uint(at) % uint(n)' -/
def spot (z : Int) (n : Nat) : Nat := (z % 18446744073709551616).toNat % n
theorem spot_lt (z : Int) (n : Nat) (h : 0 < n) : spot z n < n := Nat.mod_lt _ h
theorem spot_cast (z : Int) (n : Nat) : (IntKind.u64.wrap z).tmod (n : Int) = ((spot z n : Nat) : Int) := by
  unfold spot
  have h : 0 ≤ z % 18446744073709551616 := Int.emod_nonneg _ (by decide)
  rw [IntKind.wrap_u64, Int.tmod_eq_emod_of_nonneg h, Int.natCast_emod, Int.toNat_of_nonneg h]
end Go.Proofs.Ytjecakkdongcoaa.Oct

/- A row of bytes that the call has made for itself, one cell of it written. -/
import Derived.Test.YtoeaillhklephaaAdlA
namespace Go.Proofs.Ytoeaillhklephaa.Adl
open Go.RowKit Go.Proofs.Ytoeaillhklephaa.Oct
set_option linter.unusedVariables false

/-- block g begins with these bytes, none of them frozen -/
def Beg (w : World) (g : Nat) (xs : List UInt8) : Prop :=
  ∃ cur : Array Value, w.heap[g]? = some (.cells cur 5 (0, 0)) ∧ xs.length ≤ cur.size ∧ cur.toList.take xs.length = cellsOf xs
theorem Beg.of {w : World} {base n : Nat} {v : Value} {xs : List UInt8} (h : w.ownsRow base 5 1 v n (cellsOf xs)) (hn : xs.length = n) (hv : v ≠ .slice none 0 0) :
    ∃ g cap, v = .slice (some ⟨g, 0, none⟩) n cap ∧ n ≤ cap ∧ cap ≤ maxLen ∧ base ≤ g ∧ g < w.heap.size ∧ Beg w g xs := by
  have hl := fun k hk => h.lt k hk
  rcases h.2 with ⟨e, _⟩ | ⟨g, cap, cur, rfl, hb, hh, h1, h2, h3, h4⟩
  · exact absurd e hv
  · refine ⟨g, cap, rfl, h1, h2, hb, (hl g rfl).2, cur, hh, by omega, ?_⟩
    rw [hn]; simpa using h4
theorem Beg.lt {w : World} {g : Nat} {xs : List UInt8} (h : Beg w g xs) : g < w.heap.size := by
  obtain ⟨cur, hh, _⟩ := h
  rcases Nat.lt_or_ge g w.heap.size with hlt | hge
  · exact hlt
  · rw [Array.getElem?_eq_none hge] at hh; cases hh
theorem Beg.get {w : World} {g : Nat} {xs : List UInt8} (h : Beg w g xs) (i : Nat) (hi : i < xs.length) : w.cell? ⟨g, i, none⟩ = some (.int .u8 (xs[i].toNat : Int)) := by
  obtain ⟨cur, hh, hs, ht⟩ := h
  have h1 : cur.toList[i]? = (cellsOf xs)[i]? := by
    rw [← ht, List.getElem?_take_of_lt hi]
  simp [World.cell?, hh, cellsOf, hi] at h1 ⊢
  exact h1
theorem Beg.frozen {w : World} {g : Nat} {xs : List UInt8} (h : Beg w g xs) (i : Nat) : w.frozen? ⟨g, i, none⟩ = false := by
  obtain ⟨cur, hh, _⟩ := h
  simp [World.frozen?, hh]
theorem Beg.row {w : World} {g : Nat} {xs : List UInt8} (h : Beg w g xs) : Row w (some ⟨g, 0, none⟩) xs := by
  intro _
  exact ⟨g, 0, rfl, h.lt, fun i hi => by rw [Nat.zero_add]; exact h.get i hi⟩
theorem Beg.put {w : World} {g : Nat} {xs : List UInt8} (h : Beg w g xs) (i : Nat) (x : UInt8) : Beg (w.setCell ⟨g, i, none⟩ (.int .u8 (x.toNat : Int))) g (xs.set i x) := by
  obtain ⟨cur, hh, hs, ht⟩ := h
  refine ⟨cur.setIfInBounds i (.int .u8 (x.toNat : Int)), ?_, by simpa using hs, ?_⟩
  · simp [World.setCell, Array.getElem?_modify, hh]
  · rw [Array.toList_setIfInBounds, List.length_set, List.take_set, ht]
    simp [cellsOf, List.map_set]
/-- the place at which a byte is turned -/
def spot (z : Int) (n : Nat) : Nat := (z % 18446744073709551616).toNat % n
theorem spot_lt (z : Int) (n : Nat) (h : 0 < n) : spot z n < n := Nat.mod_lt _ h
theorem spot_cast (z : Int) (n : Nat) : (IntKind.u64.wrap z).tmod (n : Int) = ((spot z n : Nat) : Int) := by
  unfold spot
  have h : 0 ≤ z % 18446744073709551616 := Int.emod_nonneg _ (by decide)
  rw [IntKind.wrap_u64, Int.tmod_eq_emod_of_nonneg h, Int.natCast_emod, Int.toNat_of_nonneg h]
theorem xor_ne (x y : UInt8) (hy : y ≠ 0) : x ≠ x ^^^ y := by
  intro e
  apply hy
  have h1 : x ^^^ (x ^^^ y) = x ^^^ x := congrArg (x ^^^ ·) e.symm
  rw [← UInt8.xor_assoc, UInt8.xor_self, UInt8.zero_xor] at h1
  exact h1
end Go.Proofs.Ytoeaillhklephaa.Adl

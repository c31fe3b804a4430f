
/- A writer in memory; the contracts of fill, NewWriter, Len, Bytes and Align. -/
import Derived.Test.YtklofifmmcegpaaBitS
import Derived.Deep.AppendLies
namespace Go.Proofs.Ytklofifmmcegpaa.Bit
open Go.RowKit Go.Proofs.Ytklofifmmcegpaa.Oct
set_option linter.unusedVariables false
set_option maxRecDepth 20000

theorem own_only {S : Nat → Prop} {w w' : World} {e n : Nat} {v : Value} {cs : List Value} (h : w.ownsRow 0 e 1 v n cs) (ho : Only S w w') (hv : ∀ k, v.ownBlock = some k → ¬ S k) : w'.ownsRow 0 e 1 v n cs := by
  refine ⟨h.1, ?_⟩
  rcases h.2 with hn | ⟨g, cap, cur, rfl, hb, hh, r⟩
  · exact .inl hn
  · refine .inr ⟨g, cap, cur, rfl, hb, ?_, r⟩
    have hlt : g < w.heap.size := by
      rcases Nat.lt_or_ge g w.heap.size with hlt | hge
      · exact hlt
      · rw [Array.getElem?_eq_none hge] at hh; cases hh
    rw [ho.2.2.2.2 g hlt (hv g rfl)]
    exact hh
section
variable {w w' : World} {g n : Nat} {v : Value} {xs : List UInt8} {low : Bool}
theorem own_set {r i cap : Nat} (h : w.ownsRow 0 5 1 (.slice (some ⟨r, 0, none⟩) xs.length cap) xs.length (cellsOf xs)) (c : UInt8) :
    (w.setCell ⟨r, i, none⟩ (.int .u8 (c.toNat : Int))).ownsRow 0 5 1 (.slice (some ⟨r, 0, none⟩) (xs.set i c).length cap) (xs.set i c).length (cellsOf (xs.set i c)) := by
  obtain ⟨h1, h2⟩ := h
  refine ⟨by simp [cellsOf], .inr ?_⟩
  rcases h2 with ⟨hv, _⟩ | ⟨g', cap', cur, hv, hb, hh, hl, hm, hs, ht⟩
  · cases hv
  · injection hv with e1 _ e3
    injection e1 with e1
    injection e1 with e1
    subst e1
    subst e3
    refine ⟨r, cap, cur.setIfInBounds i (.int .u8 (c.toNat : Int)), by simp, hb, ?_, by simpa using hl, hm, by simpa using hs, ?_⟩
    · simp [World.setCell, Array.getElem?_modify, hh]
    · simp only [List.length_set, Array.toList_setIfInBounds, List.take_set]
      rw [ht]
      simp [cellsOf, List.map_set]
end
theorem Only.grown {w w' : World} {row : Option Nat} (hg : w.grownBy w' row) : Only (fun k => row = some k) w w' :=
  ⟨hg.os, hg.tape, hg.output, hg.size, fun k hk hs => hg.block k hk (fun e => hs e.symm)⟩
/-- which blocks a call on a writer may turn -/
def Mine (g : Nat) (v : Value) (k : Nat) : Prop := k = g ∨ v.ownBlock = some k
theorem or_u8 (a b : UInt8) : bits .or .u8 (a.toNat : Int) (b.toNat : Int) = (((a ||| b).toNat : Nat) : Int) := by
  rw [u8_or_nat _ _ a.toNat_lt b.toNat_lt, UInt8.toNat_or]
end Go.Proofs.Ytklofifmmcegpaa.Bit


/- A writer in memory; the contracts of fill, NewWriter, Len, Bytes and Align. -/
import Derived.Test.YtgddpjnikgcamaaDoorBitS
import Derived.Deep.AppendLies
namespace Go.Proofs.YtgddpjnikgcamaaDoor.Bit
open Go.RowKit Go.Proofs.YtgddpjnikgcamaaDoor.Oct
set_option linter.unusedVariables false
set_option maxRecDepth 20000

theorem own_only {S : Nat → Prop} {w w' : World} {e n : Nat} {v : Value} {cs : List Value} (h : w.ownsRow 0 e 1 v n cs) (ho : Only S w w') (hv : ∀ k, v.ownBlock = some k → ¬ S k) : w'.ownsRow 0 e 1 v n cs := by
  refine ⟨h.1, ?_⟩
  rcases h.2 with hn | ⟨g, cap, cur, rfl, hb, hh, r⟩
  · exact .inl hn
  · refine .inr ⟨g, cap, cur, rfl, hb, ?_, r⟩
    have hlt : g < w.heap.size := by
      rcases Nat.lt_or_ge g w.heap.size with hlt | hge
      · exact hlt
      · rw [Array.getElem?_eq_none hge] at hh; cases hh
    rw [ho.2.2.2.2 g hlt (hv g rfl)]
    exact hh
/-- a writer in memory, its bytes a row of its own -/
def Wr (w : World) (g : Nat) (v : Value) (xs : List UInt8) (n : Nat) (low : Bool) : Prop :=
  w.heap[g]? = some (.cells #[v, .int .i64 (n : Int), .bool low] 68 (0, 0)) ∧ w.ownsRow 0 5 1 v xs.length (cellsOf xs) ∧ v.ownBlock ≠ some g
section
variable {w w' : World} {g n : Nat} {v : Value} {xs : List UInt8} {low : Bool}
theorem Wr.c0 (h : Wr w g v xs n low) : w.cell? ⟨g, 0, none⟩ = some v := by simp [World.cell?, h.1]
theorem Wr.c1 (h : Wr w g v xs n low) : w.cell? ⟨g, 1, none⟩ = some (.int .i64 (n : Int)) := by simp [World.cell?, h.1]
theorem Wr.c2 (h : Wr w g v xs n low) : w.cell? ⟨g, 2, none⟩ = some (.bool low) := by simp [World.cell?, h.1]
theorem Wr.fz (h : Wr w g v xs n low) (i : Nat) : w.frozen? ⟨g, i, none⟩ = false := by simp [World.frozen?, h.1]
theorem Wr.lt (h : Wr w g v xs n low) : g < w.heap.size := by
  rcases Nat.lt_or_ge g w.heap.size with hlt | hge
  · exact hlt
  · have := h.1; rw [Array.getElem?_eq_none hge] at this; cases this
theorem Wr.only {S : Nat → Prop} (h : Wr w g v xs n low) (ho : Only S w w') (hg : ¬ S g) (hv : ∀ k, v.ownBlock = some k → ¬ S k) : Wr w' g v xs n low :=
  ⟨(ho.2.2.2.2 g h.lt hg).trans h.1, own_only h.2.1 ho hv, h.2.2⟩
theorem Wr.form (h : Wr w g v xs n low) : (v = .slice none 0 0 ∧ xs = []) ∨ ∃ r cap, v = .slice (some ⟨r, 0, none⟩) xs.length cap ∧ xs.length ≤ cap ∧ cap ≤ maxLen ∧ r < w.heap.size ∧ r ≠ g ∧ Row w (some ⟨r, 0, none⟩) xs := by
  by_cases hv : v = .slice none 0 0
  · left
    refine ⟨hv, ?_⟩
    rcases h.2.1.2 with ⟨_, h0⟩ | ⟨r, cap, cur, he, _⟩
    · exact List.eq_nil_of_length_eq_zero h0
    · rw [hv] at he; cases he
  · right
    obtain ⟨r, cap, rfl, h1, h2, _, h4, h5⟩ := own_form h.2.1 hv
    exact ⟨r, cap, rfl, h1, h2, h4, fun e => h.2.2 (by rw [e]; rfl), h5⟩
theorem Wr.setLen (h : Wr w g v xs n low) (m : Nat) : Wr (w.setCell ⟨g, 1, none⟩ (.int .i64 (m : Int))) g v xs m low := by
  refine ⟨?_, own_only h.2.1 (Only.setCell (S := (· = g)) (p := ⟨g, 1, none⟩) (by rfl) _) (fun k hk e => h.2.2 (by rw [hk, e])), h.2.2⟩
  have := h.1
  simp [World.setCell, Array.getElem?_modify, this]
theorem own_set {r i cap : Nat} (h : w.ownsRow 0 5 1 (.slice (some ⟨r, 0, none⟩) xs.length cap) xs.length (cellsOf xs)) (c : UInt8) :
    (w.setCell ⟨r, i, none⟩ (.int .u8 (c.toNat : Int))).ownsRow 0 5 1 (.slice (some ⟨r, 0, none⟩) (xs.set i c).length cap) (xs.set i c).length (cellsOf (xs.set i c)) := by
  obtain ⟨h1, h2⟩ := h
  refine ⟨by simp [cellsOf], .inr ?_⟩
  rcases h2 with ⟨hv, _⟩ | ⟨g', cap', cur, hv, hb, hh, hl, hm, hs, ht⟩
  · cases hv
  · injection hv with e1 _ e3
    injection e1 with e1
    injection e1 with e1
    subst e1
    subst e3
    refine ⟨r, cap, cur.setIfInBounds i (.int .u8 (c.toNat : Int)), by simp, hb, ?_, by simpa using hl, hm, by simpa using hs, ?_⟩
    · simp [World.setCell, Array.getElem?_modify, hh]
    · simp only [List.length_set, Array.toList_setIfInBounds, List.take_set]
      rw [ht]
      simp [cellsOf, List.map_set]
end
theorem Only.grown {w w' : World} {row : Option Nat} (hg : w.grownBy w' row) : Only (fun k => row = some k) w w' :=
  ⟨hg.os, hg.tape, hg.output, hg.size, fun k hk hs => hg.block k hk (fun e => hs e.symm)⟩
/-- which blocks a call on a writer may turn -/
def Mine (g : Nat) (v : Value) (k : Nat) : Prop := k = g ∨ v.ownBlock = some k
def FillP (w : World) (g : Nat) (v : Value) (ys : List UInt8) (n : Nat) (low : Bool) (e : Ending) (w' : World) : Prop :=
  e = .returned (.tuple #[]) ∧ ∃ v', Wr w' g v' ys n low ∧ Only (Mine g v) w w' ∧ ∀ k, v'.ownBlock = some k → v.ownBlock = some k ∨ w.heap.size ≤ k
theorem fill_new (w : World) (g : Nat) (v : Value) (xs : List UInt8) (n : Nat) (low : Bool) (c : UInt8) (hW : Wr w g v xs n low) (hl : xs.length ≤ 2000000) :
    Calls Tryd.prog 106 #[.pointer (some ⟨g, 0, none⟩), .int .i64 (xs.length : Int), .int .u8 (c.toNat : Int)] w (FillP w g v (xs ++ [c]) n low) := by
  obtain ⟨i0, hi, hz0, hz1, hz2⟩ := info_parts Tryd.infoByte
  have c0 := hW.c0
  have hlt := hW.lt
  have hA : Only (fun _ => False) w (w.alloc (.cells #[.int .u8 (c.toNat : Int)] 5)) := Only.of_below ((Below.refl _ w).alloc (Nat.le_refl _) _)
  have hWA := hW.only hA (fun h => h) (fun _ _ h => h)
  have hrow := row_one w c 5
  have hcell : (w.alloc (.cells #[.int .u8 (c.toNat : Int)] 5)).cell? ⟨w.heap.size, 0, none⟩ = some (.int .u8 (c.toNat : Int)) := by simp
  obtain ⟨len, cap, p, hv⟩ : ∃ len cap p, v = .slice p len cap ∧ len = xs.length := by
    rcases hW.form with ⟨rfl, rfl⟩ | ⟨r, cap, rfl, _⟩
    · exact ⟨0, 0, none, rfl, rfl⟩
    · exact ⟨_, _, _, rfl, rfl⟩
  obtain ⟨rfl, rfl⟩ := hv
  have HWA := Lib.hid hWA
  have HC := Lib.hid hcell
  have HW := Lib.hid hW
  clear hWA hrow hA hcell hW
  go_enter Tryd.func106, Tryd.ntmps106
  go_wp2_with (at_builtin; refine wpList_append_lies _ rfl _ _ 22 rfl 0 5 i0 (.int .u8 0) 1 1 Tryd.underlying22 hi hz0 hz1 hz2 rfl (by decide) _ xs.length (cellsOf xs) rfl HWA.out.2.1 ⟨w.heap.size, 0, none⟩ 1 1 (cellsOf [c]) rfl rfl ?d1 cellsOf_one (by decide) ?d2 ?d3 (Nat.zero_le _) (w.heap.size + 1) (by simp) ?_)
  case d1 =>
    intro j u hj
    obtain ⟨hj', rfl⟩ := cellsOf_get hj
    have : j = 0 := by simpa using hj'
    subst this
    exact HC.out
  case d2 => unfold maxLen; omega
  case d3 => omega
  intro g' cap' w1 hown1 hgrow hdich hlt1
  have hne := HW.out.2.2
  have hG := Only.grown hgrow
  have hWg := HWA.out.1
  have hg1 : w1.heap[g]? = some (.cells #[.slice p xs.length cap, .int .i64 (n : Int), .bool low] 68 (0, 0)) := (hG.2.2.2.2 g (by simp; omega) hne).trans hWg
  have hgg : g' ≠ g := by
    rcases hdich with h | h
    · intro e; exact hne (by rw [h, e])
    · omega
  have c1 : w1.cell? ⟨g, 0, none⟩ = some (.slice p xs.length cap) := by simp [World.cell?, hg1]
  have f1 : w1.frozen? ⟨g, 0, none⟩ = false := by simp [World.frozen?, hg1]
  have HO := Lib.hid hown1
  have HG := Lib.hid hG
  have HG1 := Lib.hid hg1
  have HD := Lib.hid hdich
  clear hown1 hG hWg hg1 hgrow hdich
  go_wp2_with fail
  go_end0
  refine ⟨rfl, .slice (some ⟨g', 0, none⟩) (xs.length + 1) cap', ⟨?_, ?_, ?_⟩, ?_, ?_⟩
  · have := HG1.out
    simp [World.setCell, Array.getElem?_modify, this]
  · have h1 := own_only HO.out (Only.setCell (S := (· = g)) (p := ⟨g, 0, none⟩) (by rfl) (.slice (some ⟨g', 0, none⟩) (xs.length + 1) cap')) (fun k hk e => by injection hk with hk; exact hgg (hk.trans e))
    rw [← cellsOf_append] at h1
    simpa using h1
  · intro e
    injection e with e
    exact hgg e
  · have hA : Only (Mine g (.slice p xs.length cap)) w (w.alloc (.cells #[.int .u8 (c.toNat : Int)] 5)) := Only.of_below ((Below.refl _ w).alloc (Nat.le_refl _) _)
    exact (hA.trans (HG.out.mono (fun k _ h => .inr h))).trans (Only.setCell (p := ⟨g, 0, none⟩) (.inl rfl) _)
  · intro k hk
    injection hk with hk
    subst hk
    rcases HD.out with h | h
    · exact .inl h
    · exact .inr (by show w.heap.size ≤ g'; omega)
theorem or_u8 (a b : UInt8) : bits .or .u8 (a.toNat : Int) (b.toNat : Int) = (((a ||| b).toNat : Nat) : Int) := by
  rw [u8_or_nat _ _ a.toNat_lt b.toNat_lt, UInt8.toNat_or]
theorem fill_or (w : World) (g : Nat) (v : Value) (xs : List UInt8) (n : Nat) (low : Bool) (i : Nat) (c : UInt8) (hW : Wr w g v xs n low) (hl : xs.length ≤ 2000000) (hi : i < xs.length) :
    Calls Tryd.prog 106 #[.pointer (some ⟨g, 0, none⟩), .int .i64 (i : Int), .int .u8 (c.toNat : Int)] w (FillP w g v (xs.set i (xs[i] ||| c)) n low) := by
  have c0 := hW.c0
  rcases hW.form with ⟨_, h0⟩ | ⟨r, cap, rfl, hlc, hcm, hr, hrg, hrow⟩
  · subst h0; simp at hi
  obtain ⟨b, off, he, _, hc⟩ := hrow (by omega)
  injection he with he
  injection he with e1 e2
  subst e1
  subst e2
  have hci := hc i hi
  rw [Nat.zero_add] at hci
  have hfz : w.frozen? ⟨r, i, none⟩ = false := by
    rcases hW.2.1.2 with ⟨hv, _⟩ | ⟨g', cap', cur, hv, _, hh, _⟩
    · cases hv
    · injection hv with e1
      injection e1 with e1
      injection e1 with e1
      subst e1
      simp [World.frozen?, hh]
  have hx : xs[i].toNat < 256 := xs[i].toNat_lt
  have hcb : c.toNat < 256 := c.toNat_lt
  have hor := or_u8 xs[i] c
  have hne : ((i : Int) == (xs.length : Int)) = false := by simp; omega
  have HW := Lib.hid hW
  have HOR := Lib.hid hor
  clear hor hW hc hrow
  go_enter Tryd.func106, Tryd.ntmps106
  go_wp2_with fail
  go_end0
  rw [HOR.out]
  have hO := Only.setCell (S := Mine g (.slice (some ⟨r, 0, none⟩) xs.length cap)) (w := w) (p := ⟨r, i, none⟩) (.inr rfl) (.int .u8 (((xs[i] ||| c).toNat : Nat) : Int))
  refine ⟨rfl, .slice (some ⟨r, 0, none⟩) xs.length cap, ⟨?_, ?_, HW.out.2.2⟩, hO, fun k hk => .inl hk⟩
  · rw [Below.heap_setCell _ _ _ _ (by show g ≠ r; omega)]
    exact HW.out.1
  · have := own_set (i := i) HW.out.2.1 (xs[i] ||| c)
    simpa using this
end Go.Proofs.YtgddpjnikgcamaaDoor.Bit


/- Words for bytes in memory and strings: rows, blocks, rows of the call's own, strings of bytes; of whatever program. -/
import Derived.Test.YtjecakkdongcoaaRows
import Derived.Test.YtjecakkdongcoaaOctM
import Derived.WalkKit
import Derived.ProofKit
import Derived.WalkLawsBesides
import Derived.Lib.Hide
import Derived.Deep.QuietTactic
import Derived.BigQuiet
import Derived.Outline
import Derived.Laws.NewBlocks
import Derived.Laws.CopyOwn
import Derived.Laws.Concat
import Derived.Laws.Strings2
import Derived.WalkSpells
import Derived.Laws.AppendOwnNone
import Derived.Laws.BytesArg
import Derived.OpenShut
namespace Go.Proofs.Ytjecakkdongcoaa.Oct
open Go.RowKit
set_option linter.unusedVariables false
set_option maxRecDepth 20000

def Drawn (w w' : World) : Prop := ∃ n, w' = w.drewN n
/-- a slice's value reads as these bytes -/
def Row (w : World) (p : Option Addr) (xs : List UInt8) : Prop :=
  0 < xs.length → ∃ b off, p = some ⟨b, off, none⟩ ∧ b < w.heap.size ∧ ∀ i (h : i < xs.length), w.cell? ⟨b, off + i, none⟩ = some (.int .u8 (xs[i].toNat : Int))
theorem take_succ' (ys : List UInt8) (k : Nat) (h : k < ys.length) : ys.take (k + 1) = ys.take k ++ [ys[k]] := by
  rw [List.take_succ_eq_append_getElem h]
theorem Drawn.more {w w' : World} (h : Drawn w w') (n : Nat) : Drawn w (w'.drewN n) := by
  obtain ⟨m, rfl⟩ := h
  exact ⟨m + n, by rw [World.drewN_drewN]⟩
theorem quietly {P : Program} {f : FuncId} {args : Array Value} {w : World} {n : Nat} {v : Value}
    (h : Calls P f args (w.drewN n) fun e w' => e = .returned v ∧ w.drewN n = w') : Calls P f args (w.drewN n) fun e w'' => e = .returned v ∧ ∃ m, w'' = w.drewN m :=
  h.mono fun _ _ ⟨he, hm⟩ => ⟨he, n, hm.symm⟩
theorem Drawn.below {w w' : World} (h : Drawn w w') (B : Nat) : Below B w w' := by
  obtain ⟨n, rfl⟩ := h
  exact ⟨rfl, rfl, rfl, Nat.le_refl _, fun _ _ => rfl⟩
def cellsOf (xs : List UInt8) : List Value := xs.map fun x => .int .u8 (x.toNat : Int)
/-- block g is just these bytes, none of them frozen -/
def Blk (w : World) (g : Nat) (xs : List UInt8) : Prop := w.heap[g]? = some (.cells (cellsOf xs).toArray 5 (0, 0))
theorem Try.infoByte : (Try.prog.info? 5).map (fun i => (i.zero, i.size, i.bytes)) = some (some (.int .u8 0), 1, 1) := by kernel_rfl
theorem Try.sizeByte : (Try.prog.info? 5).map (fun i => i.size) = some 1 := by kernel_rfl
theorem Blk.lt {w : World} {g : Nat} {xs : List UInt8} (h : Blk w g xs) : g < w.heap.size := by
  rcases Nat.lt_or_ge g w.heap.size with hlt | hge
  · exact hlt
  · unfold Blk at h; rw [Array.getElem?_eq_none hge] at h; cases h
theorem Blk.row {w : World} {g : Nat} {xs : List UInt8} (h : Blk w g xs) : Row w (some ⟨g, 0, none⟩) xs := by
  intro hp
  refine ⟨g, 0, rfl, h.lt, fun i hi => ?_⟩
  unfold Blk at h
  simp [World.cell?, h, cellsOf, hi]
theorem Blk.below {w w' : World} {g B : Nat} {xs : List UInt8} (h : Blk w g xs) (hb : Below B w w') (hg : g < B) : Blk w' g xs := (hb.block g hg).trans h
theorem Row.below {w w' : World} {p : Option Addr} {xs : List UInt8} (h : Row w p xs) (hb : Below w.heap.size w w') : Row w' p xs := by
  intro hp
  obtain ⟨b, off, rfl, hlt, hc⟩ := h hp
  exact ⟨b, off, rfl, Nat.lt_of_lt_of_le hlt hb.size, fun i hi => (hb.cell (p := ⟨b, off + i, none⟩) hlt).trans (hc i hi)⟩
theorem cellsOf_get {xs : List UInt8} {j : Nat} {v : Value} (h : (cellsOf xs)[j]? = some v) : ∃ hj : j < xs.length, v = .int .u8 (xs[j].toNat : Int) := by
  unfold cellsOf at h
  rw [List.getElem?_map] at h
  rcases Nat.lt_or_ge j xs.length with hj | hj
  · rw [List.getElem?_eq_getElem hj] at h
    simp at h
    exact ⟨hj, h.symm⟩
  · rw [List.getElem?_eq_none hj] at h; simp at h
theorem cellsOf_one {xs : List UInt8} : ∀ v ∈ cellsOf xs, v.oneCell' = true := by
  intro v hv
  simp [cellsOf] at hv
  obtain ⟨x, _, rfl⟩ := hv
  rfl
theorem blk_of_own {w : World} {B T n g : Nat} {xs : List Value} (h : w.ownsRow B T 1 (.slice (some ⟨g, 0, none⟩) n n) n xs) : w.heap[g]? = some (.cells xs.toArray T (0, 0)) := by
  rcases h.2 with ⟨hv, _⟩ | ⟨g', cap, cur, hv, _, hh, _, _, hs, ht⟩
  · cases hv
  · injection hv with e1 _ e3
    injection e1 with e1
    injection e1 with e1
    subst e1
    subst e3
    have e : cur = xs.toArray := by
      rw [← ht, List.take_of_length_le (by simp [hs])]
    rw [hh, e]
theorem add_plain (b off n : Nat) : (⟨b, off, none⟩ : Addr).add n = ⟨b, off + n, none⟩ := by unfold Addr.add; split <;> simp_all
theorem cellsOf_length (xs : List UInt8) : (cellsOf xs).length = xs.length := by simp [cellsOf]
theorem splice_all (L cs : List Value) (h : cs.length = L.length) : splice L 0 cs = cs := by simp [splice, h]
/-- the string of these bytes -/
def bs (xs : List UInt8) : ByteArray := ⟨xs.toArray⟩
theorem bs_size (xs : List UInt8) : (bs xs).size = xs.length := by simp [bs, ByteArray.size]
theorem bs_append (xs ys : List UInt8) : bs xs ++ bs ys = bs (xs ++ ys) := ByteArray.mk_append_mk xs ys
theorem bs_extract (xs : List UInt8) (a b : Nat) : (bs xs).extract a b = bs ((xs.drop a).take (b - a)) := ByteArray.extract_mk xs a b
theorem bs_of (s : ByteArray) : s = bs s.data.toList := by cases s; simp [bs]
theorem bs_get (xs : List UInt8) (k : Nat) (h : k < (bs xs).size) (h' : k < xs.length) : (bs xs)[k] = xs[k] := by
  simp [bs, ByteArray.getElem_eq_getElem_data]
theorem bs_toList (xs : List UInt8) : (bs xs).toList = xs := ByteArray.toList_mk xs
theorem one_at (xs : List UInt8) (k : Nat) (h : k < xs.length) : (xs.drop k).take (k + 1 - k) = [xs[k]] := by
  rw [show k + 1 - k = 1 by omega, List.drop_eq_getElem_cons h]; rfl
/-- what a law is told of a slice of integers that came in -/
def IsRow (k : IntKind) (w : World) (a : Option Addr) (len cap : Nat) (zs : List Int) : Prop :=
  (a = none ∧ len = 0 ∧ cap = 0 ∧ zs = []) ∨
  ∃ x, a = some x ∧ len ≤ cap ∧ cap ≤ maxLen ∧ zs.length = cap ∧ (∀ i, i < zs.length → w.cell? (x.add i) = some (.int k (zs.getD i 0))) ∧ ∀ n ∈ zs, (Lit.int k n).wf = true
theorem lt_of_cell {w : World} {p : Addr} {v : Value} (h : w.cell? p = some v) : p.block < w.heap.size := by
  rcases Nat.lt_or_ge p.block w.heap.size with hlt | hge
  · exact hlt
  · unfold World.cell? at h
    rw [Array.getElem?_eq_none hge] at h
    simp at h
theorem IsRow.row {w : World} {a : Option Addr} {len cap : Nat} {zs : List Int} (h : IsRow .u8 w a len cap zs) :
    ∃ xs : List UInt8, xs.length = len ∧ Row w a xs ∧ len ≤ cap ∧ cap ≤ maxLen ∧ (a = none → cap = 0) := by
  rcases h with ⟨rfl, rfl, rfl, rfl⟩ | ⟨x, rfl, hl, hm, hz, hc, hw⟩
  · exact ⟨[], rfl, fun h => absurd h (by simp), Nat.le_refl _, by simp [maxLen], fun _ => rfl⟩
  · refine ⟨(zs.take len).map fun n => UInt8.ofNat n.toNat, by simp; omega, fun hp => ?_, hl, hm, fun h => by cases h⟩
    have hp' : 0 < len := by simp at hp; omega
    obtain ⟨b, off, spot⟩ := x
    have h0 := hc 0 (by omega)
    have hs : spot = none := by simpa [Addr.add] using World.cell?_spot h0
    subst hs
    refine ⟨b, off, rfl, lt_of_cell h0, fun i hi => ?_⟩
    have hi' : i < zs.length := by simp at hi; omega
    have h1 := hc i hi'
    rw [add_plain] at h1
    rw [h1]
    have hg : zs.getD i 0 = zs[i] := by simp [List.getD, List.getElem?_eq_getElem hi']
    have hb := bounds_u8 (hw zs[i] (List.getElem_mem hi'))
    rw [hg]
    simp
    omega
theorem Blk.frozen {w : World} {g : Nat} {xs : List UInt8} (h : Blk w g xs) (i : Nat) : w.frozen? ⟨g, i, none⟩ = false := by
  unfold Blk at h
  simp [World.frozen?, h]
theorem Blk.cell {w : World} {g : Nat} {xs : List UInt8} (h : Blk w g xs) (i : Nat) (hi : i < xs.length) : w.cell? ⟨g, i, none⟩ = some (.int .u8 (xs[i].toNat : Int)) := by
  unfold Blk at h
  simp [World.cell?, h, cellsOf, hi]
theorem Blk.set_ {w : World} {g : Nat} {xs : List UInt8} (h : Blk w g xs) (i : Nat) (x : UInt8) : Blk (w.setCell ⟨g, i, none⟩ (.int .u8 (x.toNat : Int))) g (xs.set i x) := by
  unfold Blk at h ⊢
  simp [World.setCell, Array.getElem?_modify, h, cellsOf, List.map_set]
theorem own_form {w : World} {base n : Nat} {v : Value} {xs : List UInt8} (h : w.ownsRow base 5 1 v n (cellsOf xs)) (hv : v ≠ .slice none 0 0) :
    ∃ g cap, v = .slice (some ⟨g, 0, none⟩) n cap ∧ n ≤ cap ∧ cap ≤ maxLen ∧ base ≤ g ∧ g < w.heap.size ∧ Row w (some ⟨g, 0, none⟩) xs := by
  have hc := fun g hg => h.cells (g := g) hg
  have hl := fun k hk => h.lt k hk
  rcases h.2 with ⟨e, _⟩ | ⟨g, cap, cur, rfl, hb, hh, h1, h2, _, _⟩
  · exact absurd e hv
  · refine ⟨g, cap, rfl, h1, h2, hb, (hl g rfl).2, fun hp => ⟨g, 0, rfl, (hl g rfl).2, fun i hi => ?_⟩⟩
    have := hc g rfl i (.int .u8 (xs[i].toNat : Int)) (by simp [cellsOf, hi])
    rw [add_plain] at this
    exact this
theorem cellsOf_append (xs ys : List UInt8) : cellsOf (xs ++ ys) = cellsOf xs ++ cellsOf ys := by simp [cellsOf]
/-- the row while it is filled: the first k bytes stand -/
def fillL (ps : List UInt8) (k : Nat) : List UInt8 := ps.take k ++ List.replicate (ps.length - k) 0
theorem fillL_length (ps : List UInt8) (k : Nat) (h : k ≤ ps.length) : (fillL ps k).length = ps.length := by simp [fillL]; omega
theorem fillL_zero (ps : List UInt8) : fillL ps 0 = List.replicate ps.length 0 := by simp [fillL]
theorem fillL_all (ps : List UInt8) : fillL ps ps.length = ps := by simp [fillL]
theorem fillL_step (ps : List UInt8) (k : Nat) (h : k < ps.length) : (fillL ps k).set k ps[k] = fillL ps (k + 1) := by
  unfold fillL
  rw [List.set_append, if_neg (by simp; omega)]
  rw [take_succ' ps k h, List.append_assoc]
  congr 1
  rw [List.length_take, Nat.min_eq_left (by omega), Nat.sub_self, show ps.length - k = (ps.length - (k + 1)) + 1 by omega, List.replicate_succ]
  simp
theorem made_zero (n : Nat) : (madeCells #[Value.int IntKind.u8 0] n).toList = cellsOf (List.replicate n 0) := by
  simp [madeCells, cellsOf]
  apply List.ext_getElem <;> simp [Nat.mod_one]
theorem Row.below' {w w' : World} {g o B : Nat} {xs : List UInt8} (h : Row w (some ⟨g, o, none⟩) xs) (hb : Below B w w') (hg : g < B) : Row w' (some ⟨g, o, none⟩) xs := by
  intro hp
  obtain ⟨b, off, he, hlt, hc⟩ := h hp
  replace he := Option.some.inj he
  injection he with e1 e2
  subst e1
  subst e2
  exact ⟨g, o, rfl, Nat.lt_of_lt_of_le hlt hb.size, fun i hi => (hb.cell (p := ⟨g, o + i, none⟩) hg).trans (hc i hi)⟩
theorem wrap_u8_bd (z : Int) : 0 ≤ IntKind.u8.wrap z ∧ IntKind.u8.wrap z < 256 := by
  rw [IntKind.wrap_u8]; omega
end Go.Proofs.Ytjecakkdongcoaa.Oct

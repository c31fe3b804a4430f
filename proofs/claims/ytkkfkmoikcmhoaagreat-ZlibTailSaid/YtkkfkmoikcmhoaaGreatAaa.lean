/- OctM, Base, Tail: merged. -/
import Derived.Laws.BitsAllLaws
import Derived.Laws.Strings
import Derived.Laws.BytesArg
import Derived.Test.YtkkfkmoikcmhoaaGreatRows
import Derived.WalkKit
import Derived.ProofKit
import Derived.WalkLawsBesides
import Derived.Lib.Hide
import Derived.Deep.QuietTactic
import Derived.BigQuiet
import Derived.Outline
import Derived.Laws.NewBlocks
import Derived.Laws.CopyOwn
import Derived.Laws.Concat
import Derived.Laws.Strings2
import Derived.WalkSpells
import Derived.Laws.AppendOwnNone
import Derived.OpenShut
set_option linter.unusedVariables false
set_option linter.unusedSimpArgs false
namespace Go.Proofs.YtkkfkmoikcmhoaaGreat.Oct
def Y2n (l : List UInt8) : Nat := l.foldl (fun n x => n * 256 + x.toNat) 0
theorem Ylg (l : List UInt8) : ∀ n : Nat, l.foldl (fun n x => n * 256 + x.toNat) n = n * 256 ^ l.length + Y2n l := by
 unfold Y2n
 induction l with
 | nil => intro n; simp
 | cons x l ih =>
  intro n
  simp only [List.foldl_cons, List.length_cons]
  rw [ih (n * 256 + x.toNat), ih (0 * 256 + x.toNat)]
  rw [Nat.pow_succ, Nat.add_mul, Nat.add_mul]
  have : n * 256 * 256 ^ l.length = n * (256 ^ l.length * 256) := by rw [Nat.mul_assoc, Nat.mul_comm 256]
  omega
theorem Y5t (x : UInt8) (l : List UInt8) : Y2n (x :: l) = x.toNat * 256 ^ l.length + Y2n l := by
 have h := Ylg l (0 * 256 + x.toNat)
 unfold Y2n at h ⊢
 rw [List.foldl_cons, h]; simp
theorem Ypj (l : List UInt8) (x : UInt8) : Y2n (l ++ [x]) = Y2n l * 256 + x.toNat := by
 simp [Y2n]
theorem Yai (l : List UInt8) : Y2n l < 256 ^ l.length := by
 induction l with
 | nil => simp [Y2n]
 | cons x l ih =>
  rw [Y5t, List.length_cons, Nat.pow_succ]
  have hx : x.toNat < 256 := x.toNat_lt
  have : x.toNat * 256 ^ l.length + 256 ^ l.length ≤ 256 ^ l.length * 256 := by
   have h1 : (x.toNat + 1) * 256 ^ l.length ≤ 256 * 256 ^ l.length := Nat.mul_le_mul_right _ (by omega)
   rw [Nat.add_mul] at h1; rw [Nat.mul_comm (256 ^ l.length)]; omega
  omega
theorem pow8 (k : Nat) : 2 ^ (8 * k) = 256 ^ k := by rw [Nat.pow_mul]
def numOf (big : Bool) (l : List UInt8) : Nat := if big then Y2n l else Y2n l.reverse
def part (big : Bool) (sz : Nat) (ys : List UInt8) : Nat := if big then Y2n ys * 256 ^ (sz - ys.length) else Y2n ys.reverse
theorem Yjp (big : Bool) (sz : Nat) : part big sz [] = 0 := by cases big <;> simp [part, Y2n]
theorem Yas (big : Bool) (sz : Nat) (ys : List UInt8) (h : ys.length = sz) : part big sz ys = numOf big ys := by
 cases big <;> simp [part, numOf, h]
theorem Yi0 (big : Bool) (sz : Nat) (ys : List UInt8) (h : ys.length ≤ sz) (h8 : sz ≤ 8) : part big sz ys < 18446744073709551616 := by
 have e : (18446744073709551616 : Nat) = 256 ^ 8 := by decide
 have h2 : 256 ^ sz ≤ 256 ^ 8 := Nat.pow_le_pow_right (by omega) h8
 rw [e]
 refine Nat.lt_of_lt_of_le ?_ h2
 cases big
 ·have := Yai ys.reverse
  rw [List.length_reverse] at this
  exact Nat.lt_of_lt_of_le this (Nat.pow_le_pow_right (by omega) h)
 ·have := Yai ys
  have e2 : 256 ^ sz = 256 ^ ys.length * 256 ^ (sz - ys.length) := by rw [← Nat.pow_add]; congr 1; omega
  show Y2n ys * 256 ^ (sz - ys.length) < _
  rw [e2]
  exact Nat.mul_lt_mul_of_pos_right this (Nat.pow_pos (by omega))
def shiftN (i size : Nat) (big : Bool) : Nat := if big then 8 * (size - 1 - i) else 8 * i
theorem Yif (x : UInt8) (i sz : Nat) (big : Bool) (hi : i < sz) (h8 : sz ≤ 8) : x.toNat * 2 ^ shiftN i sz big < 18446744073709551616 := by
 have e : (18446744073709551616 : Nat) = 256 * 256 ^ 7 := by decide
 have hx : x.toNat < 256 := x.toNat_lt
 have h1 : 2 ^ shiftN i sz big ≤ 256 ^ 7 := by
  cases big <;> simp only [shiftN, pow8, if_true, Bool.false_eq_true, if_false]
  ·exact Nat.pow_le_pow_right (by omega) (by omega)
  ·exact Nat.pow_le_pow_right (by omega) (by omega)
 rw [e]
 exact Nat.mul_lt_mul_of_lt_of_le hx h1 (Nat.pow_pos (by omega))
theorem Yg1 (big : Bool) (sz : Nat) (ys : List UInt8) (x : UInt8) (h : ys.length < sz) (h8 : sz ≤ 8) :
  part big sz ys ||| x.toNat * 2 ^ shiftN ys.length sz big = part big sz (ys ++ [x]) := by
 have hx : x.toNat < 256 := x.toNat_lt
 cases big
 ·simp only [part, shiftN, pow8, Bool.false_eq_true, if_false, List.reverse_append, List.reverse_cons, List.reverse_nil, List.nil_append, List.singleton_append]
  rw [Y5t, List.length_reverse, Nat.or_comm]
  refine nat_join (8 * ys.length) _ _ ?_ ?_
  ·rw [pow8]; exact Nat.mul_mod_left _ _
  ·rw [pow8]; have := Yai ys.reverse; rwa [List.length_reverse] at this
 ·simp only [part, shiftN, pow8, if_true, List.length_append, List.length_cons, List.length_nil]
  rw [Ypj]
  have e1 : sz - ys.length = (sz - 1 - ys.length) + 1 := by omega
  have e2 : sz - (ys.length + (0 + 1)) = sz - 1 - ys.length := by omega
  rw [e2, e1, Nat.add_mul, Nat.pow_succ]
  have e3 : Y2n ys * (256 ^ (sz - 1 - ys.length) * 256) = Y2n ys * 256 * 256 ^ (sz - 1 - ys.length) := by
   rw [Nat.mul_assoc, Nat.mul_comm 256]
  rw [e3]
  refine nat_join (8 * (sz - 1 - ys.length) + 8) _ _ ?_ ?_
  ·rw [Nat.pow_add, pow8, Nat.mul_assoc, Nat.mul_comm 256]; exact Nat.mul_mod_left _ _
  ·rw [Nat.pow_add, pow8, Nat.mul_comm (256 ^ _)]; exact Nat.mul_lt_mul_of_pos_right (by omega) (Nat.pow_pos (by omega))
end Go.Proofs.YtkkfkmoikcmhoaaGreat.Oct
namespace Go.Proofs.YtkkfkmoikcmhoaaGreat.Oct
open Go.RowKit
set_option maxRecDepth 20000
def Drawn (w w' : World) : Prop := ∃ n, w' = w.drewN n
def Row (w : World) (p : Option Addr) (xs : List UInt8) : Prop :=
 0 < xs.length → ∃ b off, p = some ⟨b, off, none⟩ ∧ b < w.heap.size ∧ ∀ i (h : i < xs.length), w.cell? ⟨b, off + i, none⟩ = some (.int .u8 (xs[i].toNat : Int))
theorem Y3e (ys : List UInt8) (k : Nat) (h : k < ys.length) : ys.take (k + 1) = ys.take k ++ [ys[k]] := by
 rw [List.take_succ_eq_append_getElem h]
theorem Drawn.more {w w' : World} (h : Drawn w w') (n : Nat) : Drawn w (w'.drewN n) := by
 obtain ⟨m, rfl⟩ := h
 exact ⟨m + n, by rw [World.drewN_drewN]⟩
theorem quietly {P : Program} {f : FuncId} {args : Array Value} {w : World} {n : Nat} {v : Value}
  (h : Calls P f args (w.drewN n) fun e w' => e = .returned v ∧ w.drewN n = w') : Calls P f args (w.drewN n) fun e w'' => e = .returned v ∧ ∃ m, w'' = w.drewN m :=
 h.mono fun _ _ ⟨he, hm⟩ => ⟨he, n, hm.symm⟩
theorem Drawn.below {w w' : World} (h : Drawn w w') (B : Nat) : Below B w w' := by
 obtain ⟨n, rfl⟩ := h
 exact ⟨rfl, rfl, rfl, Nat.le_refl _, fun _ _ => rfl⟩
def cellsOf (xs : List UInt8) : List Value := xs.map fun x => .int .u8 (x.toNat : Int)
def Blk (w : World) (g : Nat) (xs : List UInt8) : Prop := w.heap[g]? = some (.cells (cellsOf xs).toArray 5 (0, 0))
theorem Tryz.infoByte : (Tryz.prog.info? 5).map (fun i => (i.zero, i.size, i.bytes)) = some (some (.int .u8 0), 1, 1) := by kernel_rfl
theorem Tryz.sizeByte : (Tryz.prog.info? 5).map (fun i => i.size) = some 1 := by kernel_rfl
theorem Blk.lt {w : World} {g : Nat} {xs : List UInt8} (h : Blk w g xs) : g < w.heap.size := by
 rcases Nat.lt_or_ge g w.heap.size with hlt | hge
 ·exact hlt
 ·unfold Blk at h; rw [Array.getElem?_eq_none hge] at h; cases h
theorem Blk.row {w : World} {g : Nat} {xs : List UInt8} (h : Blk w g xs) : Row w (some ⟨g, 0, none⟩) xs := by
 intro hp
 refine ⟨g, 0, rfl, h.lt, fun i hi => ?_⟩
 unfold Blk at h
 simp [World.cell?, h, cellsOf, hi]
theorem Row.below {w w' : World} {p : Option Addr} {xs : List UInt8} (h : Row w p xs) (hb : Below w.heap.size w w') : Row w' p xs := by
 intro hp
 obtain ⟨b, off, rfl, hlt, hc⟩ := h hp
 exact ⟨b, off, rfl, Nat.lt_of_lt_of_le hlt hb.size, fun i hi => (hb.cell (p := ⟨b, off + i, none⟩) hlt).trans (hc i hi)⟩
theorem Y6g {xs : List UInt8} {j : Nat} {v : Value} (h : (cellsOf xs)[j]? = some v) : ∃ hj : j < xs.length, v = .int .u8 (xs[j].toNat : Int) := by
 unfold cellsOf at h
 rw [List.getElem?_map] at h
 rcases Nat.lt_or_ge j xs.length with hj | hj
 ·rw [List.getElem?_eq_getElem hj] at h
  simp at h
  exact ⟨hj, h.symm⟩
 ·rw [List.getElem?_eq_none hj] at h; simp at h
theorem Y4r {xs : List UInt8} : ∀ v ∈ cellsOf xs, v.oneCell' = true := by
 intro v hv
 simp [cellsOf] at hv
 obtain ⟨x, _, rfl⟩ := hv
 rfl
theorem Y2j {w : World} {B T n g : Nat} {xs : List Value} (h : w.ownsRow B T 1 (.slice (some ⟨g, 0, none⟩) n n) n xs) : w.heap[g]? = some (.cells xs.toArray T (0, 0)) := by
 rcases h.2 with ⟨hv, _⟩ | ⟨g', cap, cur, hv, _, hh, _, _, hs, ht⟩
 ·cases hv
 ·injection hv with e1 _ e3
  injection e1 with e1
  injection e1 with e1
  subst e1
  subst e3
  have e : cur = xs.toArray := by
   rw [← ht, List.take_of_length_le (by simp [hs])]
  rw [hh, e]
theorem Y08 (b off n : Nat) : (⟨b, off, none⟩ : Addr).add n = ⟨b, off + n, none⟩ := by unfold Addr.add; split <;> simp_all
theorem Ybc (xs : List UInt8) : (cellsOf xs).length = xs.length := by simp [cellsOf]
def bs (xs : List UInt8) : ByteArray := ⟨xs.toArray⟩
theorem Yh0 (xs : List UInt8) : (bs xs).size = xs.length := by simp [bs, ByteArray.size]
theorem Ynq (xs : List UInt8) (k : Nat) (h : k < (bs xs).size) (h' : k < xs.length) : (bs xs)[k] = xs[k] := by
 simp [bs, ByteArray.getElem_eq_getElem_data]
theorem Yek (xs : List UInt8) : (bs xs).toList = xs := ByteArray.toList_mk xs
def Y9c (k : IntKind) (w : World) (a : Option Addr) (len cap : Nat) (zs : List Int) : Prop :=
 (a = none ∧ len = 0 ∧ cap = 0 ∧ zs = []) ∨
 ∃ x, a = some x ∧ len ≤ cap ∧ cap ≤ maxLen ∧ zs.length = cap ∧ (∀ i, i < zs.length → w.cell? (x.add i) = some (.int k (zs.getD i 0))) ∧ ∀ n ∈ zs, (Lit.int k n).wf = true
theorem Y25 {w : World} {p : Addr} {v : Value} (h : w.cell? p = some v) : p.block < w.heap.size := by
 rcases Nat.lt_or_ge p.block w.heap.size with hlt | hge
 ·exact hlt
 ·unfold World.cell? at h
  rw [Array.getElem?_eq_none hge] at h
  simp at h
theorem Y9c.row {w : World} {a : Option Addr} {len cap : Nat} {zs : List Int} (h : Y9c .u8 w a len cap zs) :
  ∃ xs : List UInt8, xs.length = len ∧ Row w a xs ∧ len ≤ cap ∧ cap ≤ maxLen ∧ (a = none → cap = 0) := by
 rcases h with ⟨rfl, rfl, rfl, rfl⟩ | ⟨x, rfl, hl, hm, hz, hc, hw⟩
 ·exact ⟨[], rfl, fun h => absurd h (by simp), Nat.le_refl _, by simp [maxLen], fun _ => rfl⟩
 ·refine ⟨(zs.take len).map fun n => UInt8.ofNat n.toNat, by simp; omega, fun hp => ?_, hl, hm, fun h => by cases h⟩
  have hp' : 0 < len := by simp at hp; omega
  obtain ⟨b, off, spot⟩ := x
  have h0 := hc 0 (by omega)
  have hs : spot = none := by simpa [Addr.add] using World.cell?_spot h0
  subst hs
  refine ⟨b, off, rfl, Y25 h0, fun i hi => ?_⟩
  have hi' : i < zs.length := by simp at hi; omega
  have h1 := hc i hi'
  rw [Y08] at h1
  rw [h1]
  have hg : zs.getD i 0 = zs[i] := by simp [List.getD, List.getElem?_eq_getElem hi']
  have hb := bounds_u8 (hw zs[i] (List.getElem_mem hi'))
  rw [hg]
  simp
  omega
theorem Y5y {w : World} {p : Option Addr} {xs : List UInt8} (len cap : Nat) (h : Row w p xs) (hx : xs.length = len) :
  (convert 22 9 (.slice p len cap)).run Tryz.prog w = .ok (.string (bs xs)) w := by
 rcases p with _ | ad
 ·have : xs = [] := by
   rcases xs with _ | ⟨x, xs⟩
   ·rfl
   ·obtain ⟨b, off, he, _⟩ := h (by simp)
    cases he
  subst this
  exact run_convert_bytes_nil w 22 5 Tryz.underlying22 Tryz.underlying5 len cap 9 Tryz.underlying9
 ·by_cases h0 : 0 < xs.length
  ·obtain ⟨b, off, he, _, hc⟩ := h h0
   replace he := Option.some.inj he
   subst he
   have := run_convert_bytes_arg (P := Tryz.prog) w 22 5 Tryz.underlying22 Tryz.underlying5 b off len cap (xs.map fun x => (x.toNat : Int)) (by simpa using hx) (fun i hi => by
    have hi' : i < xs.length := by omega
    rw [hc i hi']
    simp [hi']) 9 Tryz.underlying9
   rw [this]
   congr 2
   simp only [strOfNums, bs, List.map_map]
   have e : ((fun n : Int => UInt8.ofNat n.toNat) ∘ fun x : UInt8 => (x.toNat : Int)) = id := by funext x; simp
   rw [e, List.map_id]
  ·have : xs = [] := List.eq_nil_of_length_eq_zero (by omega)
   subst this
   simp at hx
   subst hx
   rw [run_convert_bytes_string w 22 9 5 _ 0 cap Tryz.underlying22 Tryz.underlying5 Tryz.underlying9]
   rw [run_bytesToString w ad 0 cap [] (by simpa using run_loadCells_list (P := Tryz.prog) w ad [] (fun j v h => by simp at h))]
   rfl
theorem Blk.frozen {w : World} {g : Nat} {xs : List UInt8} (h : Blk w g xs) (i : Nat) : w.frozen? ⟨g, i, none⟩ = false := by
 unfold Blk at h
 simp [World.frozen?, h]
theorem Blk.cell {w : World} {g : Nat} {xs : List UInt8} (h : Blk w g xs) (i : Nat) (hi : i < xs.length) : w.cell? ⟨g, i, none⟩ = some (.int .u8 (xs[i].toNat : Int)) := by
 unfold Blk at h
 simp [World.cell?, h, cellsOf, hi]
theorem Blk.set_ {w : World} {g : Nat} {xs : List UInt8} (h : Blk w g xs) (i : Nat) (x : UInt8) : Blk (w.setCell ⟨g, i, none⟩ (.int .u8 (x.toNat : Int))) g (xs.set i x) := by
 unfold Blk at h ⊢
 simp [World.setCell, Array.getElem?_modify, h, cellsOf, List.map_set]
theorem Ydl {w : World} {base n : Nat} {v : Value} {xs : List UInt8} (h : w.ownsRow base 5 1 v n (cellsOf xs)) (hv : v ≠ .slice none 0 0) :
  ∃ g cap, v = .slice (some ⟨g, 0, none⟩) n cap ∧ n ≤ cap ∧ cap ≤ maxLen ∧ base ≤ g ∧ g < w.heap.size ∧ Row w (some ⟨g, 0, none⟩) xs := by
 have hc := fun g hg => h.cells (g := g) hg
 have hl := fun k hk => h.lt k hk
 rcases h.2 with ⟨e, _⟩ | ⟨g, cap, cur, rfl, hb, hh, h1, h2, _, _⟩
 ·exact absurd e hv
 ·refine ⟨g, cap, rfl, h1, h2, hb, (hl g rfl).2, fun hp => ⟨g, 0, rfl, (hl g rfl).2, fun i hi => ?_⟩⟩
  have := hc g rfl i (.int .u8 (xs[i].toNat : Int)) (by simp [cellsOf, hi])
  rw [Y08] at this
  exact this
theorem Y46 (xs ys : List UInt8) : cellsOf (xs ++ ys) = cellsOf xs ++ cellsOf ys := by simp [cellsOf]
theorem Y0j {w : World} {ops : Array Oper} {rest : List Oper} {o : Oper} {a : Act} {Q : Exit → Act → World → Prop} (hgd : o.guard = none) (s x : Operand)
  (ho : o.op = .call { callee := .builtin .append, args := #[s, x], argTypes := #[22, 22] })
  (base : Nat) (v : Value) (n : Nat) (ys : List UInt8) (hs : a.eval s = v) (hown : w.ownsRow base 5 1 v n (cellsOf ys))
  (p : Option Addr) (m c : Nat) (xs : List UInt8) (hx : a.eval x = .slice p m c) (hr : Row w p xs) (hxm : xs.length = m) (hc0 : p = none → c = 0)
  (h47 : n + m ≤ 140737488355328) (hbase : base ≤ w.heap.size)
  (h : ∀ v' w', w'.ownsRow base 5 1 v' (n + m) (cellsOf (ys ++ xs)) → w.grownBy w' v.ownBlock → (v ≠ .slice none 0 0 → v' ≠ .slice none 0 0) → wpList Tryz.prog ops Q rest (a.put o.dst v') w') :
  wpList Tryz.prog ops Q (o :: rest) a w := by
 obtain ⟨i0, hi, hz0, hz1, hz2⟩ := info_parts Tryz.infoByte
 rcases p with _ | ad
 ·have hxs : xs = [] := by
   rcases xs with _ | ⟨x, xs⟩
   ·rfl
   ·obtain ⟨b, off, he, _⟩ := hr (by simp)
    cases he
  subst hxs
  simp at hxm
  subst hxm
  have := hc0 rfl
  subst this
  refine wpList_append_own_none hgd s x 22 ho base 5 i0 1 Tryz.underlying22 hi v n (cellsOf ys) hs hown hx ?_
  exact h v w (by simpa using hown) (World.grownBy.refl w _) (fun h => h)
 ·refine wpList_append_own w hgd s x 22 ho base 5 i0 (.int .u8 0) 1 1 Tryz.underlying22 hi hz0 hz1 hz2 rfl (by decide) v n (cellsOf ys) hs hown ad m c (cellsOf xs) hx (by simp [Ybc, hxm]) ?_ Y4r (by unfold maxLen; omega) (by omega) hbase ?_
  ·intro j u hj
   obtain ⟨hj', rfl⟩ := Y6g hj
   obtain ⟨b, off, he, _, hc⟩ := hr (by omega)
   replace he := Option.some.inj he
   subst he
   rw [Y08]
   exact hc j hj'
  ·intro v' w' h2 h3 h4
   exact h v' w' (by rw [Y46]; exact h2) h3 (fun hv hv' => hv (h4.1 hv').1)
def Y69 (ps : List UInt8) (k : Nat) : List UInt8 := ps.take k ++ List.replicate (ps.length - k) 0
theorem Y5i (ps : List UInt8) (k : Nat) (h : k ≤ ps.length) : (Y69 ps k).length = ps.length := by simp [Y69]; omega
theorem Ybr (ps : List UInt8) : Y69 ps 0 = List.replicate ps.length 0 := by simp [Y69]
theorem Yf0 (ps : List UInt8) : Y69 ps ps.length = ps := by simp [Y69]
theorem Ybq (ps : List UInt8) (k : Nat) (h : k < ps.length) : (Y69 ps k).set k ps[k] = Y69 ps (k + 1) := by
 unfold Y69
 rw [List.set_append, if_neg (by simp; omega)]
 rw [Y3e ps k h, List.append_assoc]
 congr 1
 rw [List.length_take, Nat.min_eq_left (by omega), Nat.sub_self, show ps.length - k = (ps.length - (k + 1)) + 1 by omega, List.replicate_succ]
 simp
theorem Yfo (n : Nat) : (madeCells #[Value.int IntKind.u8 0] n).toList = cellsOf (List.replicate n 0) := by
 simp [madeCells, cellsOf]
 apply List.ext_getElem <;> simp [Nat.mod_one]
end Go.Proofs.YtkkfkmoikcmhoaaGreat.Oct
namespace Go.Proofs.YtkkfkmoikcmhoaaGreat.Oct
open Go.RowKit
set_option maxRecDepth 20000
def Ygg (p : Option Addr) (cap a : Nat) : Option Addr := if cap = a then p else p.map (·.add a)
theorem Yun (W : World) (p : Option Addr) (len cap a : Nat) (h : a ≤ len) :
  (Instr.slice 22 (.slice p len cap) (some (.int .i64 (a : Int))) none none).run Tryz.prog W = .ok (.slice (Ygg p cap a) (len - a) (cap - a)) W := by
 have ht' : Tryz.prog.underlying 22 = some (.slice (Tryz.prog.elem 22)) := by kernel_rfl
 have he : Tryz.prog.elem 22 = 5 := by kernel_rfl
 have hz : (Go.sizeOf 5).run Tryz.prog W = .ok 1 W := by
  obtain ⟨i, hi, hs⟩ := Option.map_eq_some_iff.1 Tryz.sizeByte
  simp [Go.sizeOf, typeInfo, hi, hs]
 rw [run_slice_l W 22 p len cap ht' .i64 _ (by omega) (by omega), he, hz]
 unfold Ygg
 simp [Result.andThen, sliced]
theorem Yum {w : World} {p : Option Addr} {xs : List UInt8} (cap a : Nat) (h : Row w p xs) (hx : xs.length ≤ cap) : Row w (Ygg p cap a) (xs.drop a) := by
 intro hp
 rw [List.length_drop] at hp
 obtain ⟨b, off, rfl, hb, hc⟩ := h (by omega)
 have hne : ¬ cap = a := by omega
 refine ⟨b, off + a, by simp [Ygg, hne, Y08], hb, fun i hi => ?_⟩
 rw [List.length_drop] at hi
 rw [Nat.add_assoc, hc (a + i) (by omega)]
 simp
theorem Yqz {p : Option Addr} {cap a : Nat} (h : p = none → cap = 0) (ht : Ygg p cap a = none) : cap - a = 0 := by
 unfold Ygg at ht
 split at ht
 ·omega
 ·have := h (by simpa using ht)
  omega
theorem Y5v {w : World} {base n : Nat} {v : Value} {xs : List UInt8} (h : w.ownsRow base 5 1 v n (cellsOf xs)) (hn : xs.length = n) :
  ∃ q c, v = .slice q n c ∧ (q = none → c = 0) ∧ n ≤ c ∧ c ≤ maxLen ∧ Row w q xs := by
 by_cases hv : v = .slice none 0 0
 ·have h0 : n = 0 := by
   rcases h.2 with ⟨_, h0⟩ | ⟨g, cap, cur, he, _⟩
   ·exact h0
   ·rw [hv] at he; cases he
  subst h0
  have : xs = [] := List.eq_nil_of_length_eq_zero hn
  subst this
  exact ⟨none, 0, hv, fun _ => rfl, Nat.le_refl _, by simp [maxLen], fun h => absurd h (by simp)⟩
 ·obtain ⟨g, cap, rfl, h1, h2, _, _, h5⟩ := Ydl h hv
  exact ⟨_, cap, rfl, fun h => absurd h (by simp), h1, h2, h5⟩
theorem row_take {w : World} {p : Option Addr} {xs : List UInt8} (h : Row w p xs) (n : Nat) : Row w p (xs.take n) := by
 intro hp
 rw [List.length_take] at hp
 obtain ⟨b, off, rfl, hb, hc⟩ := h (by omega)
 exact ⟨b, off, rfl, hb, fun i hi => by
  rw [List.length_take] at hi
  rw [hc i (by omega)]
  simp⟩
def Yf9 (p : Option Addr) (cap : Nat) : Option Addr := if cap = 0 then p else p.map (·.add (0 * 1))
theorem Yj5 (W : World) (p : Option Addr) (len cap k : Nat) (h : k ≤ cap) :
  (Instr.slice 22 (.slice p len cap) none (some (.int .i64 (k : Int))) none).run Tryz.prog W = .ok (.slice (Yf9 p cap) k cap) W := by
 have ht' : Tryz.prog.underlying 22 = some (.slice (Tryz.prog.elem 22)) := by kernel_rfl
 have he : Tryz.prog.elem 22 = 5 := by kernel_rfl
 have hz : (Go.sizeOf 5).run Tryz.prog W = .ok 1 W := by
  obtain ⟨i, hi, hs⟩ := Option.map_eq_some_iff.1 Tryz.sizeByte
  simp [Go.sizeOf, typeInfo, hi, hs]
 rw [run_slice_h W 22 p len cap ht' .i64 _ (by omega) (by omega), he, hz]
 unfold Yf9
 simp [Result.andThen, sliced]
theorem Yj4 {w : World} {p : Option Addr} {xs : List UInt8} (cap k : Nat) (h : Row w p xs) : Row w (Yf9 p cap) (xs.take k) := by
 intro hp
 rw [List.length_take] at hp
 obtain ⟨b, off, rfl, hb, hc⟩ := h (by omega)
 refine ⟨b, off, ?_, hb, fun i hi => ?_⟩
 ·unfold Yf9
  split
  ·rfl
  ·simp [Y08]
 ·rw [List.length_take] at hi
  rw [hc i (by omega)]
  simp
theorem Y3k {w w' : World} {base e n : Nat} {v : Value} {cs : List Value} (h : w.ownsRow base e 1 v n cs) (hb : Below w.heap.size w w') : w'.ownsRow base e 1 v n cs := by
 refine ⟨h.1, ?_⟩
 rcases h.2 with hn | ⟨g, cap, cur, rfl, hbs, hh, r⟩
 ·exact .inl hn
 ·refine .inr ⟨g, cap, cur, rfl, hbs, ?_, r⟩
  have hlt : g < w.heap.size := by
   rcases Nat.lt_or_ge g w.heap.size with hlt | hge
   ·exact hlt
   ·rw [Array.getElem?_eq_none hge] at hh; cases hh
  rw [hb.block g hlt]
  exact hh
theorem Y1l {w w' : World} {base e n : Nat} {v : Value} {cs : List Value} (h : w.ownsRow base e 1 v n cs) (hg : w.grownBy w' v.ownBlock) (hb : base ≤ w.heap.size) : Below base w w' :=
 (Below.refl _ w).grown hg hb (fun k hk => (h.lt k hk).1)
def spot (z : Int) (n : Nat) : Nat := (z % 18446744073709551616).toNat % n
theorem Y8i (z : Int) (n : Nat) (h : 0 < n) : spot z n < n := Nat.mod_lt _ h
theorem Y4n (z : Int) (n : Nat) : (IntKind.u64.wrap z).tmod (n : Int) = ((spot z n : Nat) : Int) := by
 unfold spot
 have h : 0 ≤ z % 18446744073709551616 := Int.emod_nonneg _ (by decide)
 rw [IntKind.wrap_u64, Int.tmod_eq_emod_of_nonneg h, Int.natCast_emod, Int.toNat_of_nonneg h]
end Go.Proofs.YtkkfkmoikcmhoaaGreat.Oct

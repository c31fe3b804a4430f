/- DfH, DfI, DfK: merged. -/
import Derived.Laws.BitsAllLaws
import Derived.Laws.Strings
import Derived.Laws.BytesArg
import Derived.Test.YtjafcjnkefioeaaRows
import Derived.WalkKit
import Derived.ProofKit
import Derived.WalkLawsBesides
import Derived.Lib.Hide
import Derived.Deep.QuietTactic
import Derived.BigQuiet
import Derived.Outline
import Derived.Laws.NewBlocks
import Derived.Laws.CopyOwn
import Derived.Laws.Concat
import Derived.Laws.Strings2
import Derived.WalkSpells
import Derived.Laws.AppendOwnNone
import Derived.OpenShut
import Derived.Lib.SliceRun
import Derived.ChangeKeysEq
import Derived.Laws.Pointers
import Derived.Deep.AppendLies
import Derived.Deep.RegionHeld3
import Derived.Laws.Externs
import Derived.Laws.IdiomCopy
import Derived.Lib.EndianMore
import Derived.Deep.RegionLaw
import Derived.Shelf.Spec.SlicesGrow
import Derived.LoopTactic
import Derived.Deep.LoopGhost
import Derived.Deep.DeepCutAuto
import Derived.BigRegion
import Derived.Deep.MidRow
import Derived.Deep.WholeRow
import Derived.Laws.ResultCell
import Derived.Sort.LotA
import Derived.Shelf.SlSortCmp.PdqK
import Derived.ChangeSlices
import Derived.Lib.BufferMore
import Derived.RegionTactic
import Derived.OwnWalk
import Derived.Lib.MinMax
import Derived.Deep.Slices
import Derived.Deep.Fields
import Derived.ChangeSame
import Derived.Test.YtjafcjnkefioeaaRaa
import Derived.Test.YtjafcjnkefioeaaRab
import Derived.Test.YtjafcjnkefioeaaRag
import Derived.Test.YtjafcjnkefioeaaRak
import Derived.Test.YtjafcjnkefioeaaRav
set_option linter.unusedVariables false
set_option linter.unusedSimpArgs false
/- Rows of marks in memory; the contracts of packed, countMarks, inOrder. -/
namespace Go.Proofs.Ytjafcjnkefioeaa.Df
open Go.RowKit Go.Proofs.Ytjafcjnkefioeaa.Oct Go.Proofs.Ytjafcjnkefioeaa.Bit Go.Proofs.Ytjafcjnkefioeaa.Hf Go.Proofs.Ytjafcjnkefioeaa.Inf Go.ChangeShapes Go.WideShapes Go.Deep
set_option maxRecDepth 100000
theorem Try.infoMark : (Try.prog.info? 79).map (fun i => (i.zero, i.size, i.bytes)) = some (some (.agg #[.int .i64 0, .int .i64 0, .int .i64 0]), 3, 24) := by kernel_rfl
def MarkAt (w : World) (b off i : Nat) (t : Nat × Nat) : Prop :=
  w.cell? ⟨b, off + i * 3, none⟩ = some (.int .i64 (t.1 : Int)) ∧ w.cell? ⟨b, off + i * 3 + 1, none⟩ = some (.int .i64 (t.2 : Int)) ∧ w.cell? ⟨b, off + i * 3 + 2, none⟩ = some (.int .i64 (wideV t.1 : Int))
def Marks (w : World) (C : Nat) (a : Option Addr) (l : List (Nat × Nat)) : Prop :=
  True ∧ (0 < l.length → ∃ b off, a = some ⟨b, off, none⟩ ∧ b < C ∧ ∀ i (h : i < l.length), MarkAt w b off i l[i])
def encM (t : Nat × Nat) : List Value := [.int .i64 (t.1 : Int), .int .i64 (t.2 : Int), .int .i64 (wideV t.1 : Int)]
def mcells (l : List (Nat × Nat)) : List Value := l.flatMap encM
theorem mcells_length (l : List (Nat × Nat)) : (mcells l).length = l.length * 3 := by
  induction l with
  | nil => rfl
  | cons z l ih =>
    unfold mcells at ih ⊢
    rw [List.flatMap_cons, List.length_append, ih, List.length_cons]
    show 3 + _ = _
    omega
theorem mcells_append (a b : List (Nat × Nat)) : mcells (a ++ b) = mcells a ++ mcells b := by simp [mcells]
theorem mcells_get : ∀ (l : List (Nat × Nat)) (i : Nat) (h : i < l.length), (mcells l)[i * 3]? = some (.int .i64 (l[i].1 : Int)) ∧ (mcells l)[i * 3 + 1]? = some (.int .i64 (l[i].2 : Int)) ∧ (mcells l)[i * 3 + 2]? = some (.int .i64 (wideV l[i].1 : Int))
  | [], i, h => by simp at h
  | z :: l, 0, h => ⟨rfl, rfl, rfl⟩
  | z :: l, i + 1, h => by
    obtain ⟨q1, q2, q3⟩ := mcells_get l i (by simpa using h)
    have e : ∀ j, (mcells (z :: l))[j + 3]? = (mcells l)[j]? := fun j => rfl
    rw [show (i + 1) * 3 = i * 3 + 3 by omega, show i * 3 + 3 + 1 = i * 3 + 1 + 3 by omega, show i * 3 + 3 + 2 = i * 3 + 2 + 3 by omega, e, e, e]
    exact ⟨q1, q2, q3⟩
theorem mcells_one (l : List (Nat × Nat)) : ∀ u ∈ mcells l, u.oneCell' = true := fun u hu => by
  obtain ⟨z, _, hz⟩ := List.mem_flatMap.1 hu
  simp [encM] at hz
  rcases hz with rfl | rfl | rfl <;> rfl
theorem marks_cells {w : World} {b off : Nat} {l : List (Nat × Nat)} (h : ∀ i (h : i < l.length), MarkAt w b off i l[i]) (j : Nat) (u : Value) (hj : (mcells l)[j]? = some u) : w.cell? ⟨b, off + j, none⟩ = some u := by
  have hlt : j < l.length * 3 := by
    rw [← mcells_length]
    exact (List.getElem?_eq_some_iff.1 hj).1
  have hi : j / 3 < l.length := by omega
  obtain ⟨q1, q2, q3⟩ := mcells_get l (j / 3) hi
  obtain ⟨c1, c2, c3⟩ := h (j / 3) hi
  rcases (show j = j / 3 * 3 ∨ j = j / 3 * 3 + 1 ∨ j = j / 3 * 3 + 2 by omega) with e | e | e
  · rw [← e] at q1 c1
    rw [q1] at hj
    rw [c1, hj]
  · rw [← e] at q2
    rw [show off + j / 3 * 3 + 1 = off + j from by omega] at c2
    rw [q2] at hj
    rw [c2, hj]
  · rw [← e] at q3
    rw [show off + j / 3 * 3 + 2 = off + j from by omega] at c3
    rw [q3] at hj
    rw [c3, hj]
theorem marks_of {w : World} {b off : Nat} {l : List (Nat × Nat)} (h : ∀ j u, (mcells l)[j]? = some u → w.cell? ⟨b, off + j, none⟩ = some u) : ∀ i (h : i < l.length), MarkAt w b off i l[i] := fun i hi =>
  have ⟨q1, q2, q3⟩ := mcells_get l i hi
  ⟨h _ _ q1, h _ _ q2, h _ _ q3⟩
def MOwn (w : World) (base : Nat) (v : Value) (l : List (Nat × Nat)) : Prop := w.ownsRow base 79 3 v l.length (mcells l)
theorem MOwn.below {w w' : World} {base : Nat} {v : Value} {l : List (Nat × Nat)} (h : MOwn w base v l) (hb : Below w.heap.size w w') : MOwn w' base v l := by
  refine ⟨h.1, ?_⟩
  rcases h.2 with hn | ⟨g, cap, cur, rfl, hbs, hh, r⟩
  · exact .inl hn
  · refine .inr ⟨g, cap, cur, rfl, hbs, ?_, r⟩
    have hlt : g < w.heap.size := by
      rcases Nat.lt_or_ge g w.heap.size with hlt | hge
      · exact hlt
      · rw [Array.getElem?_eq_none hge] at hh; cases hh
    rw [hb.block g hlt]
    exact hh
theorem MOwn.shape {w : World} {base : Nat} {v : Value} {l : List (Nat × Nat)} (h : MOwn w base v l) :
    ∃ q c, v = .slice q l.length c ∧ (q = none → c = 0) ∧ l.length ≤ c ∧ c ≤ maxLen ∧ Marks w w.heap.size q l ∧ ∀ a, q = some a → base ≤ a.block := by
  have hl := fun k hk => h.lt k hk
  have hc := fun g hg => World.ownsRow.cells h (g := g) hg
  rcases h.2 with ⟨rfl, h0⟩ | ⟨g, cap, cur, rfl, hb, hh, h1, h2, _, _⟩
  · exact ⟨none, 0, by rw [h0], fun _ => rfl, by omega, by simp [maxLen], ⟨trivial, fun hp => by omega⟩, fun a h => by cases h⟩
  · refine ⟨some ⟨g, 0, none⟩, cap, rfl, fun h => (by cases h), h1, h2, ⟨trivial, fun hp => ⟨g, 0, rfl, (hl g rfl).2, marks_of fun j u hj => ?_⟩⟩, fun a h => by injection h with h; subst h; exact hb⟩
    have := hc g rfl j u hj
    rw [Oct.add_plain] at this
    exact this
theorem wpList_append_marks {w : World} {ops : Array Oper} {rest : List Oper} {o : Oper} {a : Act} {Q : Exit → Act → World → Prop}
    (hgd : o.guard = none) (s x : Operand) (ho : o.op = .call { callee := .builtin .append, args := #[s, x], argTypes := #[93, 93] })
    (base : Nat) (v : Value) (ys : List (Nat × Nat)) (hs : a.eval s = v) (hown : MOwn w base v ys)
    (p : Option Addr) (m c : Nat) (xs : List (Nat × Nat)) (hx : a.eval x = .slice p m c) (hr : Marks w w.heap.size p xs) (hxm : xs.length = m) (hc0 : p = none → c = 0)
    (h47 : ys.length + m ≤ 1000000) (hbase : base ≤ w.heap.size)
    (h : ∀ v' w', MOwn w' base v' (ys ++ xs) → w.grownBy w' v.ownBlock → Below base w w' → wpList Try.prog ops Q rest (a.put o.dst v') w') :
    wpList Try.prog ops Q (o :: rest) a w := by
  obtain ⟨i0, hi, hz0, hz1, hz2⟩ := info_parts Try.infoMark
  have hT := Try.underlying93
  rcases p with _ | ad
  · have hxs : xs = [] := by
      rcases xs with _ | ⟨x, xs⟩
      · rfl
      · obtain ⟨b, off, he, _⟩ := hr.2 (by simp)
        cases he
    subst hxs
    simp at hxm
    subst hxm
    have := hc0 rfl
    subst this
    refine wpList_append_own_none hgd s x 93 ho base 79 i0 3 hT hi v ys.length (mcells ys) hs hown hx ?_
    exact h v w (by simpa using hown) (World.grownBy.refl _ _) (Below.refl _ _)
  · refine wpList_append_own w hgd s x 93 ho base 79 i0 _ 3 24 hT hi hz0 hz1 hz2 (by decide) (by decide) v ys.length (mcells ys) hs hown ad m c (mcells xs) hx (by rw [mcells_length, hxm]) ?_ (mcells_one xs) (by unfold maxLen; omega) (by omega) hbase ?_
    · intro j u hj
      have hlt := (List.getElem?_eq_some_iff.1 hj).1
      rw [mcells_length] at hlt
      obtain ⟨b, off, he, _, hc⟩ := hr.2 (by omega)
      injection he with he
      subst he
      rw [Oct.add_plain]
      exact marks_cells hc j u hj
    · intro v' w' h2 h3 h4
      refine h v' w' ?_ h3 ((Below.refl _ w).grown h3 hbase (fun k hk => (World.ownsRow.lt hown k hk).1))
      unfold MOwn
      rw [List.length_append, hxm, mcells_append]
      exact h2
theorem one_mark (w : World) (t : Nat × Nat) : Marks (w.alloc (.cells #[.int .i64 (t.1 : Int), .int .i64 (t.2 : Int), .int .i64 (wideV t.1 : Int)] 79)) (w.alloc (.cells #[.int .i64 (t.1 : Int), .int .i64 (t.2 : Int), .int .i64 (wideV t.1 : Int)] 79)).heap.size (some ⟨w.heap.size, 0, none⟩) [t] := by
  refine ⟨trivial, fun _ => ⟨w.heap.size, 0, rfl, by simp, fun i hi => ?_⟩⟩
  have hi0 : i = 0 := by simpa using hi
  subst hi0
  have hb : (w.alloc (.cells #[.int .i64 (t.1 : Int), .int .i64 (t.2 : Int), .int .i64 (wideV t.1 : Int)] 79)).heap[w.heap.size]? = some (.cells #[.int .i64 (t.1 : Int), .int .i64 (t.2 : Int), .int .i64 (wideV t.1 : Int)] 79 (0, 0)) := Array.getElem?_push_size
  have hc : ∀ i u, (#[Value.int .i64 (t.1 : Int), .int .i64 (t.2 : Int), .int .i64 (wideV t.1 : Int)] : Array Value)[i]? = some u → (w.alloc (.cells #[.int .i64 (t.1 : Int), .int .i64 (t.2 : Int), .int .i64 (wideV t.1 : Int)] 79)).cell? ⟨w.heap.size, i, none⟩ = some u := fun i u hu => by
    rw [cell_of_row _ w.heap.size i _ _ _ hb]
    exact hu
  exact ⟨hc 0 _ rfl, hc 1 _ rfl, hc 2 _ rfl⟩
def PackP (w : World) (l : List Nat) (e : Ending) (w' : World) : Prop := Below w.heap.size w w' ∧ ∃ q c, e = .returned (.slice q (marksN l 0).length c) ∧ Foot (At q) (fun w' => Marks w' w'.heap.size q (marksN l 0)) w' ∧ ∀ k, At q k → w.heap.size ≤ k
theorem foot_marks {w : World} {q : Option Addr} {l : List (Nat × Nat)} (h : Marks w w.heap.size q l) (h0 : 0 < l.length) : Foot (At q) (fun w' => Marks w' w'.heap.size q l) w := by
  obtain ⟨b, off, rfl, hb, hc⟩ := h.2 h0
  refine ⟨fun k ⟨a, e, hk⟩ => by injection e with e; subst e; rw [← hk]; exact hb, fun w' hz hs => ⟨trivial, fun _ => ⟨b, off, rfl, Nat.lt_of_lt_of_le hb hz, fun i hi => ?_⟩⟩⟩
  have e := hs b ⟨_, rfl, rfl⟩
  exact ⟨(World.cell?_of_block e).trans (hc i hi).1, (World.cell?_of_block e).trans (hc i hi).2.1, (World.cell?_of_block e).trans (hc i hi).2.2⟩
theorem marks_few (l : List Nat) : ∀ k a, l.length - a ≤ k → (marksN l a).length ≤ k
  | 0, a, h => by rw [marksN_end (by omega)]; exact Nat.le_refl _
  | k + 1, a, h => by
    by_cases ha : a < l.length
    · rw [marksN_go ha, List.length_cons]
      have := markN_pos ha
      have := marks_few l k (a + (markN l a).2) (by omega)
      omega
    · rw [marksN_end ha]; exact Nat.zero_le _
structure Pst (w wr : World) (l : List Nat) (k : Nat) (v : Value) (ys : List (Nat × Nat)) : Prop where
  bel : Below w.heap.size w wr
  own : MOwn wr w.heap.size v ys
  eq : ys ++ marksN l k = marksN l 0
  le : k ≤ l.length
set_option maxHeartbeats 2000000 in
theorem packed_any (w : World) (b off n cap : Nat) (l : List Nat) (hr : VRow w w.heap.size (some ⟨b, off, none⟩) (ints (castZ l))) (hx : l.length = n) (hn : n ≤ 1000) (h0 : 0 < n) (hc : n ≤ cap) (hc2 : cap ≤ maxLen) (h15 : ∀ x ∈ l, x ≤ 15) :
    Calls Try.prog 47 #[.slice (some ⟨b, off, none⟩) n cap] w (PackP w l) := by
  have HN : Hid (∀ V a, Below w.heap.size w V → a < n → Calls Try.prog 70 #[.slice (some ⟨b, off, none⟩) n cap, .int .i64 (a : Int)] V (NextP V l a)) := Lib.hid fun V a hV ha =>
    next_any V b off n cap a l ((hr.below hV (Nat.le_refl _)).mono hV.size) hx hn hc hc2 ha h15
  have HFE := Lib.hid (marks_few l l.length 0 (by omega))
  have HST : Hid (Pst w w l 0 (.slice none 0 0) []) := Lib.hid ⟨Below.refl _ _, ⟨rfl, .inl ⟨rfl, rfl⟩⟩, rfl, by omega⟩
  have HX := Lib.hid hx
  clear hr hx hc2 h15
  go_enter Try.func47, Try.ntmps47
  go_wp2_with fail
  go_loopw [3, 4] (fun s i wr => ∃ (k : Nat) (v : Value) (ys : List (Nat × Nat)), s = v ∧ i = .int .i64 (k : Int) ∧ k ≤ n ∧ Hid (Pst w wr l k v ys)) (fun _ i _ => n - (intOf i).toNat)
  case atStart => exact ⟨0, _, [], rfl, rfl, by omega, HST⟩
  case round =>
    obtain ⟨k, s, ys, hsv, rfl, hk, HS⟩ := hrel
    have hsv2 := hsv.symm
    subst hsv2
    clear hsv HST
    by_cases hlt : k < n
    · have ql : decide ((k : Int) < (n : Int)) = true := decide_eq_true (by omega)
      have HNX := Lib.hid (HN.out wr k HS.out.bel hlt)
      have hkl : k < l.length := by rw [HX.out]; exact hlt
      have hpos := markN_pos hkl
      have hgo := marksN_go hkl
      go_wp2_with fail
      refine HNX.out.mono ?_
      rintro e w2 ⟨rfl, hb2⟩
      obtain ⟨m, c, hmc⟩ : ∃ m c, markN l k = (m, c) := ⟨_, _, rfl⟩
      rw [hmc] at hpos hgo
      rw [hmc]
      have hB2 := HS.out.bel.trans (hb2.mono HS.out.bel.size)
      have hb4 : Below w2.heap.size w2 ((w2.alloc (.cells #[.int .i64 (m.1 : Int), .int .i64 (m.2 : Int), .int .i64 (wideV m.1 : Int)] 79)).alloc (.cells #[.int .i64 (m.1 : Int), .int .i64 (m.2 : Int), .int .i64 (wideV m.1 : Int)] 79)) :=
        ((Below.refl _ w2).alloc (Nat.le_refl _) _).alloc (by simp) _
      have HO4 := Lib.hid ((HS.out.own.below hb2).below hb4)
      have HB4 := Lib.hid (hB2.trans (hb4.mono hB2.size))
      have HR4 := Lib.hid (one_mark (w2.alloc (.cells #[.int .i64 (m.1 : Int), .int .i64 (m.2 : Int), .int .i64 (wideV m.1 : Int)] 79)) m)
      rw [show (w2.alloc (.cells #[.int .i64 (m.1 : Int), .int .i64 (m.2 : Int), .int .i64 (wideV m.1 : Int)] 79)).heap.size = w2.heap.size + 1 from by simp] at HR4
      have hle : ys.length + 1 ≤ 1000000 := by
        have := congrArg List.length HS.out.eq
        rw [List.length_append, hgo, List.length_cons] at this
        have := HFE.out
        have := HX.out
        omega
      have HPOS := Lib.hid hpos
      have HGO := Lib.hid hgo
      have hwk : wrap64 ((k : Int) + (c : Int)) = ((k + c : Nat) : Int) := (wrap_same _ (by omega) (by have := HX.out; dsimp only at hpos; omega)).trans (by omega)
      clear hb2 hB2 hb4 hpos hgo hmc
      go_wp2_with (at_builtin; refine wpList_append_marks rfl _ _ rfl w.heap.size s ys rfl HO4.out (some ⟨w2.heap.size + 1, 0, none⟩) 1 1 [m] rfl HR4.out rfl (fun h => by cases h) hle HB4.out.size ?_; intro v5 w5 ho5 hg5 hb5; have HO5 := Lib.hid ho5; have HB5 := Lib.hid hb5; clear ho5 hg5 hb5)
      rw [hwk]
      have HP2 : Hid (Pst w w5 l (k + c) v5 (ys ++ [m])) := Lib.hid ⟨HB4.out.trans HB5.out, HO5.out, by
        have h1 := HS.out.eq
        have h2 := HGO.out
        rw [h2] at h1
        rw [List.append_assoc]
        exact h1, by have h3 := HPOS.out; omega⟩
      go_roundw
      case rel => exact ⟨k + c, v5, ys ++ [m], rfl, rfl, by have h3 := HPOS.out; have := HX.out; omega, HP2⟩
      case measure => have h3 := HPOS.out; simp [intOf]; omega
    · have hkn : k = n := by omega
      subst hkn
      have ql : decide ((k : Int) < (k : Int)) = false := by simp
      have hys : ys = marksN l 0 := by
        have h1 := HS.out.eq
        rw [marksN_end (by have := HX.out; omega), List.append_nil] at h1
        exact h1
      have hpos : 0 < (marksN l 0).length := by
        rw [marksN_go (by have := HX.out; omega), List.length_cons]
        omega
      obtain ⟨q, c, hs, hq, hc1, hc2, hm, hb⟩ := HS.out.own.shape
      rw [hys] at hs hm
      subst hs
      have HRES : Hid (PackP w l (.returned (.slice q (marksN l 0).length c)) wr) := Lib.hid ⟨HS.out.bel, q, c, rfl, foot_marks hm hpos, fun j ⟨a, e, hj⟩ => by rw [← hj]; exact hb a e⟩
      clear hm hb hys hpos
      go_wp2_with fail
      go_ret
      exact HRES.out
def NRow (w : World) (bl : Nat) (c : List Nat) : Prop := w.heap[bl]? = some (.cells (ints (castZ c)).toArray 3 (0, 0))
theorem NRow.cell {w : World} {bl : Nat} {c : List Nat} (h : NRow w bl c) (i : Nat) (hi : i < c.length) : w.cell? ⟨bl, i, none⟩ = some (.int .i64 ((c.getD i 0 : Nat) : Int)) := by
  unfold NRow at h
  simp [World.cell?, h, ints, castZ, hi]
theorem NRow.fz {w : World} {bl : Nat} {c : List Nat} (h : NRow w bl c) (i : Nat) : w.frozen? ⟨bl, i, none⟩ = false := by
  unfold NRow at h
  simp [World.frozen?, h]
theorem NRow.lt {w : World} {bl : Nat} {c : List Nat} (h : NRow w bl c) : bl < w.heap.size := by
  rcases Nat.lt_or_ge bl w.heap.size with hlt | hge
  · exact hlt
  · unfold NRow at h; rw [Array.getElem?_eq_none hge] at h; cases h
theorem NRow.below {w w' : World} {B bl : Nat} {c : List Nat} (h : NRow w bl c) (hb : Below B w w') (hB : bl < B) : NRow w' bl c := (hb.block bl hB).trans h
theorem NRow.set {w : World} {bl : Nat} {c : List Nat} (h : NRow w bl c) (i x : Nat) : NRow (w.setCell ⟨bl, i, none⟩ (.int .i64 (x : Int))) bl (c.set i x) := by
  unfold NRow at *
  rw [blk_set h i _]
  congr 2
  simp [ints, castZ, List.map_set]
theorem NRow.foot {w : World} {bl : Nat} {c : List Nat} (h : NRow w bl c) : Foot (· = bl) (fun w' => VRow w' w'.heap.size (some ⟨bl, 0, none⟩) (ints (castZ c))) w := by
  have hlt := h.lt
  exact ⟨fun k hk => by rw [hk]; exact hlt, fun w' hz hs => vrow_blk ((hs bl rfl).trans h) (by omega)⟩
theorem nrow_made (w : World) (n : Nat) : NRow (w.alloc (.cells (madeCells #[Value.int .i64 0] n) 3)) w.heap.size (List.replicate n 0) := by
  have e : (madeCells #[Value.int .i64 0] n) = (ints (castZ (List.replicate n 0))).toArray := by
    apply Array.ext'
    rw [made_vals8]
    simp [ints, castZ]
  unfold NRow
  rw [e]
  exact Array.getElem?_push_size
theorem nrow_made' (w : World) (n : Nat) : NRow (w.alloc (.cells (madeCells (Value.int .i64 0).cells (n * 1)) 3)) w.heap.size (List.replicate n 0) := by
  rw [Nat.mul_one]
  exact nrow_made w n
theorem Try.infoInt4 : (Try.prog.info? 3).map (fun i => (i.zero, i.size, i.bytes)) = some (some (.int .i64 0), 1, 8) := by kernel_rfl
def CntP (w : World) (ops : List (Nat × Nat)) (e : Ending) (w' : World) : Prop := ∃ bl, e = .returned (.slice (some ⟨bl, 0, none⟩) 19 19) ∧ Below w.heap.size w w' ∧ NRow w' bl (cntM ops) ∧ w.heap.size ≤ bl
set_option maxHeartbeats 2000000 in
theorem countMarks_any (w : World) (q : Option Addr) (n cap : Nat) (ops : List (Nat × Nat)) (hr : Foot (At q) (fun w' => Marks w' w'.heap.size q ops) w) (hx : ops.length = n) (hn : n ≤ 1000) (h19 : ∀ op ∈ ops, op.1 < 19) :
    Calls Try.prog 48 #[.slice q n cap] w (CntP w ops) := by
  obtain ⟨i0, hi, hz0, hz1, hz2⟩ := info_parts Try.infoInt
  have HR := Lib.hid hr
  have HX := Lib.hid hx
  have H19 := Lib.hid h19
  clear hr hx h19
  go_enter Try.func48, Try.ntmps48
  obtain ⟨w1, hw1⟩ : ∃ w1, w1 = w.alloc (.cells (madeCells (Value.int .i64 0).cells (19 * 1)) 3) := ⟨_, rfl⟩
  have hb1 : Below w.heap.size w w1 := by rw [hw1]; exact (Below.refl _ w).alloc (Nat.le_refl _) _
  have hr1 : NRow w1 w.heap.size (List.replicate 19 0) := by rw [hw1]; exact nrow_made' w 19
  obtain ⟨bl, hbl⟩ : ∃ bl, bl = w.heap.size := ⟨_, rfl⟩
  rw [← hbl] at hr1
  have HW1 := Lib.hid hw1
  have HBL := Lib.hid hbl
  have HS1 : Hid (Below w.heap.size w w1 ∧ NRow w1 bl (cntM (ops.take 0)) ∧ bl < w1.heap.size) := Lib.hid ⟨hb1, hr1, hr1.lt⟩
  clear hw1 hb1 hr1 hbl
  go_wp2_with (at_make; refine Lp.wpList_make_cells rfl _ _ rfl Try.underlying51 Try.infoInt4 19 rfl rfl (by omega) (by omega) ?_; rw [← HW1.out, ← HBL.out])
  go_loopw [9] (fun i wr => ∃ k : Nat, k ≤ n ∧ i = .int .i64 (k : Int) ∧ Hid (Below w.heap.size w wr ∧ NRow wr bl (cntM (ops.take k)) ∧ bl < wr.heap.size)) (fun i _ => n - (intOf i).toNat)
  case atStart => exact ⟨0, by omega, rfl, HS1⟩
  case round =>
    obtain ⟨k, hk, rfl, HS⟩ := hrel
    clear HS1
    by_cases hlt : k < n
    · have ql : decide ((k : Int) < (n : Int)) = true := decide_eq_true (by omega)
      have hkl : k < ops.length := by rw [HX.out]; exact hlt
      obtain ⟨b, off, rfl, hbw, hc⟩ := (HR.out.below HS.out.1).now.2 (by omega)
      obtain ⟨m0, m1, m2⟩ := hc k hkl
      have hst := cntM_take ops k hkl
      have hs19 := H19.out _ (List.getElem_mem hkl)
      obtain ⟨s, hs⟩ : ∃ s, s = ops[k].1 := ⟨_, rfl⟩
      rw [← hs] at m0 m2 hst hs19
      generalize ops[k].2 = y at m1
      have hlen := (cntM_le (ops.take k)).1
      have hle := (cntM_le (ops.take k)).2
      have hcell := HS.out.2.1.cell s (by rw [hlen]; exact hs19)
      have hx : (cntM (ops.take k)).getD s 0 ≤ 1000 := by
        rw [List.getD_eq_getElem?_getD, List.getElem?_eq_getElem (by rw [hlen]; exact hs19)]
        have := hle _ (List.getElem_mem (by rw [hlen]; exact hs19))
        rw [List.length_take] at this
        exact Nat.le_trans this (by have := HX.out; omega)
      have hws : wrap64 ((((cntM (ops.take k)).getD s 0 : Nat) : Int) + 1) = (((cntM (ops.take k)).getD s 0 + 1 : Nat) : Int) := (wrap_same _ (by omega) (by omega)).trans (by omega)
      have hfz := HS.out.2.1.fz s
      have hbl := HS.out.2.2
      have hblw : w.heap.size ≤ bl := by have := HBL.out; omega
      have hnew := (HS.out.2.1.set s ((cntM (ops.take k)).getD s 0 + 1))
      have hnb := HS.out.1.setCell (p := ⟨bl, s, none⟩) hblw (.int .i64 (((cntM (ops.take k)).getD s 0 + 1 : Nat) : Int))
      have HNEW : Hid (∀ o, Below w.heap.size w ((wr.setCell ⟨bl, s, none⟩ (.int .i64 (((cntM (ops.take k)).getD s 0 + 1 : Nat) : Int))).alloc o) ∧ NRow ((wr.setCell ⟨bl, s, none⟩ (.int .i64 (((cntM (ops.take k)).getD s 0 + 1 : Nat) : Int))).alloc o) bl (cntM (ops.take (k + 1))) ∧ bl < ((wr.setCell ⟨bl, s, none⟩ (.int .i64 (((cntM (ops.take k)).getD s 0 + 1 : Nat) : Int))).alloc o).heap.size) := Lib.hid fun o => by
        have h2 := hnew.below ((Below.refl _ _).alloc (Nat.le_refl _) o) hnew.lt
        refine ⟨hnb.alloc hnb.size o, ?_, h2.lt⟩
        rw [hst]
        exact h2
      have s0 : (0 : Int) ≤ (s : Int) := by omega
      have s1 : (s : Int) < 19 := by omega
      generalize (cntM (ops.take k)).getD s 0 = x at hcell hx hws HNEW hnew hnb
      clear hnew hnb hst hs hlen hle hc hkl HS
      go_wp2_with fail
      go_roundw
      case rel => exact ⟨k + 1, by omega, by first | rfl | (push_cast; rfl), Lib.hid (by have h := HNEW.out (.cells #[.int .i64 (s : Int), .int .i64 (y : Int), .int .i64 (wideV s : Int)] 79); push_cast at h; exact h)⟩
      case measure => simp [intOf]; omega
    · have hkn : k = n := by omega
      subst hkn
      have ql : decide ((k : Int) < (k : Int)) = false := by simp
      have h2 := HS.out
      rw [List.take_of_length_le (by rw [HX.out]; exact Nat.le_refl _)] at h2
      have HRES : Hid (CntP w ops (.returned (.slice (some ⟨bl, 0, none⟩) 19 19)) wr) := Lib.hid ⟨bl, rfl, h2.1, h2.2.1, by have := HBL.out; omega⟩
      clear h2 HS
      go_wp2_with fail
      go_ret
      exact HRES.out
end Go.Proofs.Ytjafcjnkefioeaa.Df
/- The contract of inOrder. -/
namespace Go.Proofs.Ytjafcjnkefioeaa.Df
open Go.RowKit Go.Proofs.Ytjafcjnkefioeaa.Oct Go.Proofs.Ytjafcjnkefioeaa.Bit Go.Proofs.Ytjafcjnkefioeaa.Hf Go.Proofs.Ytjafcjnkefioeaa.Inf
set_option maxRecDepth 100000
def OrdLP (w : World) (l : List Nat) (e : Ending) (w' : World) : Prop := ∃ b off c, e = .returned (.slice (some ⟨b, off, none⟩) 19 c) ∧ Below w.heap.size w w' ∧ VRow w' w'.heap.size (some ⟨b, off, none⟩) (ints (castZ (ordL l))) ∧ 19 ≤ c ∧ c ≤ maxLen ∧ w.heap.size ≤ b
structure Ost (w1 wr : World) (l : List Nat) (k : Nat) (v : Value) : Prop where
  bel : Below w1.heap.size w1 wr
  own : wr.ownsRow w1.heap.size 3 1 v k (ints (castZ ((ordL l).take k)))
theorem own_belowI {w w' : World} {base e n : Nat} {v : Value} {cs : List Value} (h : w.ownsRow base e 1 v n cs) (hb : Below w.heap.size w w') : w'.ownsRow base e 1 v n cs := own_below h hb
set_option maxHeartbeats 2000000 in
theorem inOrder_any (w : World) (b off cap : Nat) (l : List Nat) (hr : VRow w w.heap.size (some ⟨b, off, none⟩) (ints (castZ l))) (hx : l.length = 19) :
    Calls Try.prog 49 #[.slice (some ⟨b, off, none⟩) 19 cap] w (OrdLP w l) := by
  obtain ⟨i0, hi, hz0, hz1, hz2⟩ := info_parts Try.infoInt
  have HR := Lib.hid hr
  have HX := Lib.hid hx
  clear hr hx
  go_enter Try.func49, Try.ntmps49
  go_wp2_with fail
  refine (order_any w).mono ?_
  rintro e w1 ⟨rfl, hb1, hv1⟩
  have HB1 := Lib.hid hb1
  have HV1 := Lib.hid hv1
  have HO0 : Hid (Ost w1 w1 l 0 (.slice none 0 0)) := Lib.hid ⟨Below.refl _ _, ⟨rfl, .inl ⟨rfl, rfl⟩⟩⟩
  obtain ⟨ob, hob⟩ : ∃ ob, ob = w.heap.size := ⟨_, rfl⟩
  rw [← hob] at HV1 ⊢
  clear hb1 hv1 hob
  go_wp2_with fail
  go_loopw [3, 8] (fun s i wr => ∃ (k : Nat) (v : Value), s = v ∧ i = .int .i64 (k : Int) ∧ k ≤ 19 ∧ Hid (Ost w1 wr l k v)) (fun _ i _ => 19 - (intOf i).toNat)
  case atStart => exact ⟨0, _, rfl, rfl, by omega, HO0⟩
  case round =>
    obtain ⟨k, s, hsv, rfl, hk, HS⟩ := hrel
    have hsv2 := hsv.symm
    subst hsv2
    clear hsv HO0
    by_cases hlt : k < 19
    · have ql : decide ((k : Int) < 19) = true := decide_eq_true (by omega)
      have hoc := vrow_castZ ((HV1.out.below HS.out.bel (Nat.le_refl _)).mono HS.out.bel.size) k hlt
      have hlc := order_lt k hlt
      have HTK := Lib.hid (ordL_take l k hlt)
      generalize order.getD k 0 = o at hoc hlc HTK
      have hbw := HB1.out.trans (HS.out.bel.mono HB1.out.size)
      have hcc := vrow_castZ ((HR.out.below hbw (Nat.le_refl _)).mono hbw.size) o (by rw [HX.out]; exact hlc)
      generalize l.getD o 0 = x at hcc HTK
      rw [Nat.zero_add] at hoc
      have hba : Below wr.heap.size wr (wr.alloc (.cells #[.int .i64 (x : Int)] 3)) := (Below.refl _ wr).alloc (Nat.le_refl _) _
      have HOW := Lib.hid (own_belowI HS.out.own hba)
      have HV4 : Hid (VRow (wr.alloc (.cells #[.int .i64 (x : Int)] 3)) (wr.alloc (.cells #[.int .i64 (x : Int)] 3)).heap.size (some ⟨wr.heap.size, 0, none⟩) (ints (castZ [x]))) := Lib.hid (vrow_blk (vs := ints (castZ [x])) (T := 3) (fr := (0, 0)) (Array.getElem?_push_size) (by simp))
      have HBA := Lib.hid (HS.out.bel.trans (hba.mono HS.out.bel.size))
      have hk100 : k + 1 ≤ 100000000 := by omega
      have o0 : (0 : Int) ≤ (o : Int) := by omega
      have o1 : (o : Int) < 19 := by omega
      have k0 : (0 : Int) ≤ (k : Int) := by omega
      clear hba hbw
      go_wp2_with (at_builtin; refine wpList_append_vals Try.underlying51 hi hz0 hz1 hz2 rfl (by decide) rfl _ _ rfl w1.heap.size s k (ints (castZ ((ordL l).take k))) rfl HOW.out (some ⟨wr.heap.size, 0, none⟩) 1 1 (ints (castZ [x])) rfl HV4.out rfl (fun h => by cases h) ints_one hk100 HBA.out.size ?_; intro v5 w5 ho5 hg5 hb5; have HO5 := Lib.hid ho5; have HB5 := Lib.hid hb5; clear ho5 hg5 hb5)
      have HP2 : Hid (Ost w1 w5 l (k + 1) v5) := Lib.hid ⟨HBA.out.trans HB5.out, by
        rw [HTK.out]
        have e : ints (castZ ((ordL l).take k ++ [x])) = ints (castZ ((ordL l).take k)) ++ ints (castZ [x]) := by simp [ints, castZ]
        rw [e]
        exact HO5.out⟩
      go_roundw
      case rel => exact ⟨k + 1, v5, rfl, by first | rfl | (push_cast; rfl), by omega, HP2⟩
      case measure => simp [intOf]; omega
    · have hkn : k = 19 := by omega
      subst hkn
      have hown := HS.out.own
      rw [List.take_of_length_le (by rw [ordL_length]; exact Nat.le_refl _)] at hown
      obtain ⟨q, c, hs, hq, hc1, hc2, hm, hb⟩ := vrow_own hown (by rw [ints_length, castZ_length, ordL_length])
      subst hs
      obtain ⟨b', off', e, _, _⟩ := hm (by rw [ints_length, castZ_length, ordL_length]; decide)
      subst e
      have HRES : Hid (OrdLP w l (.returned (.slice (some ⟨b', off', none⟩) 19 c)) wr) := Lib.hid ⟨b', off', c, rfl, HB1.out.trans (HS.out.bel.mono HB1.out.size), hm, hc1, hc2, Nat.le_trans HB1.out.size (hb _ rfl)⟩
      clear hm hb hown
      go_wp2_with fail
      go_ret
      exact HRES.out
end Go.Proofs.Ytjafcjnkefioeaa.Df
/- The contract of split: rows of slices. -/
namespace Go.Proofs.Ytjafcjnkefioeaa.Df
open Go.RowKit Go.Proofs.Ytjafcjnkefioeaa.Oct Go.Proofs.Ytjafcjnkefioeaa.Bit Go.Proofs.Ytjafcjnkefioeaa.Hf Go.Proofs.Ytjafcjnkefioeaa.Inf
set_option maxRecDepth 100000
def shA (p : Option Addr) (k : Nat) : Option Addr := if k = 0 then p else p.map (·.add k)
theorem shA_zero (p : Option Addr) : shA p 0 = p := by unfold shA; rw [if_pos rfl]
theorem shA_some (b off k : Nat) : shA (some ⟨b, off, none⟩) k = some ⟨b, off + k, none⟩ := by
  unfold shA
  split
  · rename_i h; rw [h]; rfl
  · simp [add_plain]
theorem one_cell (w : World) (v : Value) (T : TypeId) : (w.alloc (.cells #[v] T)).cell? ⟨w.heap.size, 0, none⟩ = some v := by
  unfold World.cell?
  dsimp only
  rw [show (w.alloc (.cells #[v] T)).heap[w.heap.size]? = some (.cells #[v] T (0, 0)) from Array.getElem?_push_size]
  rfl
theorem wpList_append_sl {w : World} {ops : Array Oper} {rest : List Oper} {o : Oper} {a : Act} {Q : Exit → Act → World → Prop} {T e : TypeId} {i0 : TypeInfo} {z : Value}
    (hT : Try.prog.underlying T = some (.slice e)) (hi : Try.prog.info? e = some i0) (hz0 : i0.zero = some z) (hz1 : i0.size = 1) (hz2 : i0.bytes = 24) (hzc : z.cells = #[z])
    (hgd : o.guard = none) (s x : Operand)
    (ho : o.op = .call { callee := .builtin .append, args := #[s, x], argTypes := #[T, T] })
    (base : Nat) (v : Value) (n : Nat) (ys : List Value) (hs : a.eval s = v) (hown : w.ownsRow base e 1 v n ys)
    (ad : Addr) (xs : List Value) (hx : a.eval x = .slice (some ad) xs.length xs.length) (hr : ∀ j u, xs[j]? = some u → w.cell? (ad.add j) = some u) (h1 : ∀ u ∈ xs, u.oneCell' = true)
    (h47 : n + xs.length ≤ 1000000) (hbase : base ≤ w.heap.size)
    (h : ∀ v' w', w'.ownsRow base e 1 v' (n + xs.length) (ys ++ xs) → Below base w w' → wpList Try.prog ops Q rest (a.put o.dst v') w') :
    wpList Try.prog ops Q (o :: rest) a w := by
  refine wpList_append_own w hgd s x T ho base e i0 z 1 24 hT hi hz0 hz1 hz2 (by rw [hzc]; rfl) (by decide) v n ys hs hown ad xs.length xs.length xs hx (by omega) hr h1 (by unfold maxLen; omega) (by omega) hbase ?_
  intro v' w' h2 h3 h4
  exact h v' w' h2 (grown_below hown h3 hbase)
def lenS : Value → Nat
  | .slice _ n _ => n
  | _ => 0
theorem Try.infoB : (Try.prog.info? 22).map (fun i => (i.zero, i.size, i.bytes)) = some (some (.slice none 0 0), 1, 24) := by kernel_rfl
theorem Try.cellszB : (Try.prog.info? 5).map (·.size) = some 1 := by kernel_rfl
theorem headB (W : World) (b o len cap : Nat) (h : 65535 ≤ cap) :
    (Instr.slice 22 (.slice (some ⟨b, o, none⟩) len cap) none (some (.int .i64 65535)) none).run Try.prog W = .ok (.slice (some ⟨b, o, none⟩) 65535 cap) W := by
  have ht' : Try.prog.underlying 22 = some (.slice (Try.prog.elem 22)) := by kernel_rfl
  have he : Try.prog.elem 22 = 5 := by kernel_rfl
  have hz : (Go.sizeOf 5).run Try.prog W = .ok 1 W := by
    obtain ⟨i, hi, hs⟩ := Option.map_eq_some_iff.1 Try.cellszB
    simp [Go.sizeOf, typeInfo, hi, hs]
  rw [run_slice_h W 22 (some ⟨b, o, none⟩) len cap ht' .i64 _ (by omega) (by omega), he, hz]
  simp [Result.andThen, sliced, add_plain]
theorem tailB (W : World) (b o len cap : Nat) (h : 65535 < len) (hc : len ≤ cap) :
    (Instr.slice 22 (.slice (some ⟨b, o, none⟩) len cap) (some (.int .i64 65535)) none none).run Try.prog W = .ok (.slice (some ⟨b, o + 65535, none⟩) (len - 65535) (cap - 65535)) W := by
  have ht' : Try.prog.underlying 22 = some (.slice (Try.prog.elem 22)) := by kernel_rfl
  have he : Try.prog.elem 22 = 5 := by kernel_rfl
  have hz : (Go.sizeOf 5).run Try.prog W = .ok 1 W := by
    obtain ⟨i, hi, hs⟩ := Option.map_eq_some_iff.1 Try.cellszB
    simp [Go.sizeOf, typeInfo, hi, hs]
  rw [run_slice_l W 22 (some ⟨b, o, none⟩) len cap ht' .i64 _ (by omega) (by omega), he, hz]
  have hne : ¬ cap = 65535 := by omega
  simp [Result.andThen, sliced, add_plain, hne]
def prtB (p : Option Addr) (n cap j : Nat) : Value := .slice (shA p (j * 65535)) (min 65535 (n - j * 65535)) (cap - j * 65535)
def numB (n : Nat) : Nat := (n - 1) / 65535 + 1
structure SplB (w wr : World) (p : Option Addr) (n cap j r cc : Nat) (A : Option Addr) (v : Value) : Prop where
  ea : A = shA p (j * 65535)
  er : r + j * 65535 = n
  ec : cc + j * 65535 = cap
  lt : j = 0 ∨ 0 < r
  own : wr.ownsRow w.heap.size 22 1 v j ((List.range j).map (prtB p n cap))
  bel : Below w.heap.size w wr
def SplPB (w : World) (p : Option Addr) (n cap : Nat) (e : Ending) (w' : World) : Prop :=
  ∃ q c, e = .returned (.slice q (numB n) c) ∧ Below w.heap.size w w' ∧ Foot (At q) (fun w' => VRow w' w'.heap.size q ((List.range (numB n)).map (prtB p n cap))) w' ∧ ∀ a, q = some a → w.heap.size ≤ a.block
theorem SplB.step {w wr w5 : World} {p : Option Addr} {n cap j r cc : Nat} {A A1 : Option Addr} {v v5 : Value} (h : SplB w wr p n cap j r cc A v) (hr : 65535 < r) (hrc : r ≤ cc) (hA : A1 = shA p ((j + 1) * 65535))
    (ho : w5.ownsRow w.heap.size 22 1 v5 (j + 1) ((List.range j).map (prtB p n cap) ++ [.slice A 65535 cc])) (hb : Below w.heap.size w w5) : SplB w w5 p n cap (j + 1) (r - 65535) (cc - 65535) A1 v5 := by
  have e1 := h.er
  have e2 := h.ec
  refine ⟨hA, by omega, by omega, .inr (by omega), ?_, hb⟩
  rw [List.range_succ, List.map_append, List.map_cons, List.map_nil]
  have e : prtB p n cap j = .slice A 65535 cc := by
    unfold prtB
    rw [← h.ea, show min 65535 (n - j * 65535) = 65535 from by omega, show cap - j * 65535 = cc from by omega]
  rw [e]
  exact ho
theorem SplB.done {w wr w5 : World} {p : Option Addr} {n cap j r cc : Nat} {A : Option Addr} {v v5 : Value} (h : SplB w wr p n cap j r cc A v) (hr : r ≤ 65535)
    (ho : w5.ownsRow w.heap.size 22 1 v5 (j + 1) ((List.range j).map (prtB p n cap) ++ [.slice A r cc])) (hb : Below w.heap.size w w5) : SplPB w p n cap (.returned v5) w5 := by
  have e1 := h.er
  have e2 := h.ec
  have e3 := h.lt
  have e : prtB p n cap j = .slice A r cc := by
    unfold prtB
    rw [← h.ea, show min 65535 (n - j * 65535) = r from by omega, show cap - j * 65535 = cc from by omega]
  have hK : numB n = j + 1 := by unfold numB; omega
  rw [← e] at ho
  have e4 : (List.range j).map (prtB p n cap) ++ [prtB p n cap j] = (List.range (j + 1)).map (prtB p n cap) := by rw [List.range_succ, List.map_append]; rfl
  rw [e4] at ho
  obtain ⟨q, c, rfl, h1, h2, h3, h4, h5⟩ := vrow_own ho (by simp)
  unfold SplPB
  rw [hK]
  exact ⟨q, c, rfl, hb, foot_vrow h4 (by simp), h5⟩
set_option maxHeartbeats 2000000 in
theorem splitB_any (w : World) (p : Option Addr) (n cap : Nat) (hp : 65535 < n → ∃ b off, p = some ⟨b, off, none⟩) (hn : n ≤ 1000000) (hc : n ≤ cap) (hc2 : cap ≤ maxLen) :
    Calls Try.prog 16 #[.slice p n cap, .int .i64 65535] w (SplPB w p n cap) := by
  obtain ⟨i0, hi, hz0, hz1, hz2⟩ := info_parts Try.infoB
  have HP := Lib.hid hp
  have hcm : cap ≤ 9223372036854775807 := by unfold maxLen at hc2; omega
  have HS0 : Hid (SplB w w p n cap 0 n cap p (.slice none 0 0)) := Lib.hid ⟨by rw [Nat.zero_mul, shA_zero], by omega, by omega, .inl rfl, ⟨rfl, .inl ⟨rfl, rfl⟩⟩, Below.refl _ _⟩
  clear hp hc2
  go_enter Try.func16, Try.ntmps16
  go_wp2_with fail
  go_loopw [0, 5] (fun s0 s5 wr => ∃ (j r cc : Nat) (A : Option Addr) (v : Value), s0 = .slice A r cc ∧ s5 = v ∧ r ≤ n ∧ r ≤ cc ∧ cc ≤ cap ∧ j ≤ n ∧ Hid (SplB w wr p n cap j r cc A v)) (fun s0 _ _ => lenS s0)
  case atStart => exact ⟨0, n, cap, p, _, rfl, rfl, by omega, by omega, by omega, by omega, HS0⟩
  case round =>
    obtain ⟨j, r, cc, A, s5, rfl, hs5, hrn, hrc, hcc, hjn, HS⟩ := hrel
    have hs52 := hs5.symm
    subst hs52
    clear hs5 HS0
    by_cases hlt : 65535 < r
    · have ql : decide ((65535 : Int) < (r : Int)) = true := decide_eq_true (by omega)
      have her := HS.out.er
      have hj1 : j + 1 ≤ n := by omega
      obtain ⟨b, off, hpe⟩ := HP.out (by omega)
      obtain ⟨o, ho⟩ : ∃ o, o = off + j * 65535 := ⟨_, rfl⟩
      have hA : A = some ⟨b, o, none⟩ := by rw [HS.out.ea, hpe, shA_some, ho]
      have HA1 : Hid (some ⟨b, o + 65535, none⟩ = shA p ((j + 1) * 65535)) := Lib.hid (by rw [hpe, shA_some, ho]; congr 2; omega)
      have HPE := Lib.hid hpe
      subst hA
      have hh := fun W => headB W b o r cc (by omega)
      have ht := fun W => tailB W b o r cc hlt hrc
      have hba : Below wr.heap.size wr (wr.alloc (.cells #[.slice (some ⟨b, o, none⟩) 65535 cc] 22)) := (Below.refl _ wr).alloc (Nat.le_refl _) _
      have HOW := Lib.hid (own_below HS.out.own hba)
      have HBA := Lib.hid (HS.out.bel.trans (hba.mono HS.out.bel.size))
      have HJ := Lib.hid (show j + 1 ≤ 1000000 by omega)
      have HCE : Hid (∀ i u, [Value.slice (some ⟨b, o, none⟩) 65535 cc][i]? = some u → (wr.alloc (.cells #[.slice (some ⟨b, o, none⟩) 65535 cc] 22)).cell? ((⟨wr.heap.size, 0, none⟩ : Addr).add i) = some u) := Lib.hid fun i u hiu => by
        have hi0 : i = 0 := by have := (List.getElem?_eq_some_iff.1 hiu).1; simp at this; omega
        subst hi0
        rw [add_plain]
        have hu : Value.slice (some ⟨b, o, none⟩) 65535 cc = u := by simpa using hiu
        rw [← hu]
        exact one_cell wr _ _
      clear hba ho hpe her
      go_wp2_with (at_builtin; refine wpList_append_sl Try.underlying47 hi hz0 hz1 hz2 rfl rfl _ _ rfl w.heap.size s5 j ((List.range j).map (prtB p n cap)) rfl HOW.out ⟨wr.heap.size, 0, none⟩ [.slice (some ⟨b, o, none⟩) 65535 cc] rfl HCE.out (fun u hu => by rw [List.mem_singleton.1 hu]; rfl) HJ.out HBA.out.size ?_; intro v5 w5 ho5 hb5; have HO5 := Lib.hid ho5; have HB5 := Lib.hid (HBA.out.trans hb5); clear ho5 hb5)
      have HN := Lib.hid (HS.out.step hlt hrc HA1.out HO5.out HB5.out)
      clear hh HOW HCE
      go_roundw
      case rel => exact ⟨j + 1, r - 65535, cc - 65535, _, v5, rfl, rfl, by omega, by omega, by omega, by omega, HN⟩
      case measure => simp [lenS]; omega
    · have ql : decide ((65535 : Int) < (r : Int)) = false := decide_eq_false (by omega)
      have hba : Below wr.heap.size wr (wr.alloc (.cells #[.slice A r cc] 22)) := (Below.refl _ wr).alloc (Nat.le_refl _) _
      have HOW := Lib.hid (own_below HS.out.own hba)
      have HBA := Lib.hid (HS.out.bel.trans (hba.mono HS.out.bel.size))
      have her := HS.out.er
      have HJ := Lib.hid (show j + 1 ≤ 1000000 + 1 by omega)
      have HCE : Hid (∀ i u, [Value.slice A r cc][i]? = some u → (wr.alloc (.cells #[.slice A r cc] 22)).cell? ((⟨wr.heap.size, 0, none⟩ : Addr).add i) = some u) := Lib.hid fun i u hiu => by
        have hi0 : i = 0 := by have := (List.getElem?_eq_some_iff.1 hiu).1; simp at this; omega
        subst hi0
        rw [add_plain]
        have hu : Value.slice A r cc = u := by simpa using hiu
        rw [← hu]
        exact one_cell wr _ _
      have HJ2 := Lib.hid (show j + 1 ≤ 1000000 by have := HS.out.lt; omega)
      clear hba her
      go_wp2_with (at_builtin; refine wpList_append_sl Try.underlying47 hi hz0 hz1 hz2 rfl rfl _ _ rfl w.heap.size s5 j ((List.range j).map (prtB p n cap)) rfl HOW.out ⟨wr.heap.size, 0, none⟩ [.slice A r cc] rfl HCE.out (fun u hu => by rw [List.mem_singleton.1 hu]; rfl) HJ2.out HBA.out.size ?_; intro v5 w5 ho5 hb5; have HO5 := Lib.hid ho5; have HB5 := Lib.hid (HBA.out.trans hb5); clear ho5 hb5)
      have HN := Lib.hid (HS.out.done (by omega) HO5.out HB5.out)
      clear HOW HCE
      go_ret
      exact HN.out
theorem Try.infoT : (Try.prog.info? 38).map (fun i => (i.zero, i.size, i.bytes)) = some (some (.slice none 0 0), 1, 24) := by kernel_rfl
theorem Try.cellszT : (Try.prog.info? 62).map (·.size) = some 3 := by kernel_rfl
theorem headT (W : World) (b o len cap : Nat) (h : 16384 ≤ cap) :
    (Instr.slice 38 (.slice (some ⟨b, o, none⟩) len cap) none (some (.int .i64 16384)) none).run Try.prog W = .ok (.slice (some ⟨b, o, none⟩) 16384 cap) W := by
  have ht' : Try.prog.underlying 38 = some (.slice (Try.prog.elem 38)) := by kernel_rfl
  have he : Try.prog.elem 38 = 62 := by kernel_rfl
  have hz : (Go.sizeOf 62).run Try.prog W = .ok 3 W := by
    obtain ⟨i, hi, hs⟩ := Option.map_eq_some_iff.1 Try.cellszT
    simp [Go.sizeOf, typeInfo, hi, hs]
  rw [run_slice_h W 38 (some ⟨b, o, none⟩) len cap ht' .i64 _ (by omega) (by omega), he, hz]
  simp [Result.andThen, sliced, add_plain]
theorem tailT (W : World) (b o len cap : Nat) (h : 16384 < len) (hc : len ≤ cap) :
    (Instr.slice 38 (.slice (some ⟨b, o, none⟩) len cap) (some (.int .i64 16384)) none none).run Try.prog W = .ok (.slice (some ⟨b, o + 49152, none⟩) (len - 16384) (cap - 16384)) W := by
  have ht' : Try.prog.underlying 38 = some (.slice (Try.prog.elem 38)) := by kernel_rfl
  have he : Try.prog.elem 38 = 62 := by kernel_rfl
  have hz : (Go.sizeOf 62).run Try.prog W = .ok 3 W := by
    obtain ⟨i, hi, hs⟩ := Option.map_eq_some_iff.1 Try.cellszT
    simp [Go.sizeOf, typeInfo, hi, hs]
  rw [run_slice_l W 38 (some ⟨b, o, none⟩) len cap ht' .i64 _ (by omega) (by omega), he, hz]
  have hne : ¬ cap = 16384 := by omega
  simp [Result.andThen, sliced, add_plain, hne]
def prtT (p : Option Addr) (n cap j : Nat) : Value := .slice (shA p (j * 49152)) (min 16384 (n - j * 16384)) (cap - j * 16384)
def numT (n : Nat) : Nat := (n - 1) / 16384 + 1
structure SplT (w wr : World) (p : Option Addr) (n cap j r cc : Nat) (A : Option Addr) (v : Value) : Prop where
  ea : A = shA p (j * 49152)
  er : r + j * 16384 = n
  ec : cc + j * 16384 = cap
  lt : j = 0 ∨ 0 < r
  own : wr.ownsRow w.heap.size 38 1 v j ((List.range j).map (prtT p n cap))
  bel : Below w.heap.size w wr
def SplPT (w : World) (p : Option Addr) (n cap : Nat) (e : Ending) (w' : World) : Prop :=
  ∃ q c, e = .returned (.slice q (numT n) c) ∧ Below w.heap.size w w' ∧ Foot (At q) (fun w' => VRow w' w'.heap.size q ((List.range (numT n)).map (prtT p n cap))) w' ∧ ∀ a, q = some a → w.heap.size ≤ a.block
theorem SplT.step {w wr w5 : World} {p : Option Addr} {n cap j r cc : Nat} {A A1 : Option Addr} {v v5 : Value} (h : SplT w wr p n cap j r cc A v) (hr : 16384 < r) (hrc : r ≤ cc) (hA : A1 = shA p ((j + 1) * 49152))
    (ho : w5.ownsRow w.heap.size 38 1 v5 (j + 1) ((List.range j).map (prtT p n cap) ++ [.slice A 16384 cc])) (hb : Below w.heap.size w w5) : SplT w w5 p n cap (j + 1) (r - 16384) (cc - 16384) A1 v5 := by
  have e1 := h.er
  have e2 := h.ec
  refine ⟨hA, by omega, by omega, .inr (by omega), ?_, hb⟩
  rw [List.range_succ, List.map_append, List.map_cons, List.map_nil]
  have e : prtT p n cap j = .slice A 16384 cc := by
    unfold prtT
    rw [← h.ea, show min 16384 (n - j * 16384) = 16384 from by omega, show cap - j * 16384 = cc from by omega]
  rw [e]
  exact ho
theorem SplT.done {w wr w5 : World} {p : Option Addr} {n cap j r cc : Nat} {A : Option Addr} {v v5 : Value} (h : SplT w wr p n cap j r cc A v) (hr : r ≤ 16384)
    (ho : w5.ownsRow w.heap.size 38 1 v5 (j + 1) ((List.range j).map (prtT p n cap) ++ [.slice A r cc])) (hb : Below w.heap.size w w5) : SplPT w p n cap (.returned v5) w5 := by
  have e1 := h.er
  have e2 := h.ec
  have e3 := h.lt
  have e : prtT p n cap j = .slice A r cc := by
    unfold prtT
    rw [← h.ea, show min 16384 (n - j * 16384) = r from by omega, show cap - j * 16384 = cc from by omega]
  have hK : numT n = j + 1 := by unfold numT; omega
  rw [← e] at ho
  have e4 : (List.range j).map (prtT p n cap) ++ [prtT p n cap j] = (List.range (j + 1)).map (prtT p n cap) := by rw [List.range_succ, List.map_append]; rfl
  rw [e4] at ho
  obtain ⟨q, c, rfl, h1, h2, h3, h4, h5⟩ := vrow_own ho (by simp)
  unfold SplPT
  rw [hK]
  exact ⟨q, c, rfl, hb, foot_vrow h4 (by simp), h5⟩
set_option maxHeartbeats 2000000 in
theorem splitT_any (w : World) (p : Option Addr) (n cap : Nat) (hp : 16384 < n → ∃ b off, p = some ⟨b, off, none⟩) (hn : n ≤ 1000000) (hc : n ≤ cap) (hc2 : cap ≤ maxLen) :
    Calls Try.prog 27 #[.slice p n cap, .int .i64 16384] w (SplPT w p n cap) := by
  obtain ⟨i0, hi, hz0, hz1, hz2⟩ := info_parts Try.infoT
  have HP := Lib.hid hp
  have hcm : cap ≤ 9223372036854775807 := by unfold maxLen at hc2; omega
  have HS0 : Hid (SplT w w p n cap 0 n cap p (.slice none 0 0)) := Lib.hid ⟨by rw [Nat.zero_mul, shA_zero], by omega, by omega, .inl rfl, ⟨rfl, .inl ⟨rfl, rfl⟩⟩, Below.refl _ _⟩
  clear hp hc2
  go_enter Try.func27, Try.ntmps27
  go_wp2_with fail
  go_loopw [0, 5] (fun s0 s5 wr => ∃ (j r cc : Nat) (A : Option Addr) (v : Value), s0 = .slice A r cc ∧ s5 = v ∧ r ≤ n ∧ r ≤ cc ∧ cc ≤ cap ∧ j ≤ n ∧ Hid (SplT w wr p n cap j r cc A v)) (fun s0 _ _ => lenS s0)
  case atStart => exact ⟨0, n, cap, p, _, rfl, rfl, by omega, by omega, by omega, by omega, HS0⟩
  case round =>
    obtain ⟨j, r, cc, A, s5, rfl, hs5, hrn, hrc, hcc, hjn, HS⟩ := hrel
    have hs52 := hs5.symm
    subst hs52
    clear hs5 HS0
    by_cases hlt : 16384 < r
    · have ql : decide ((16384 : Int) < (r : Int)) = true := decide_eq_true (by omega)
      have her := HS.out.er
      have hj1 : j + 1 ≤ n := by omega
      obtain ⟨b, off, hpe⟩ := HP.out (by omega)
      obtain ⟨o, ho⟩ : ∃ o, o = off + j * 49152 := ⟨_, rfl⟩
      have hA : A = some ⟨b, o, none⟩ := by rw [HS.out.ea, hpe, shA_some, ho]
      have HA1 : Hid (some ⟨b, o + 49152, none⟩ = shA p ((j + 1) * 49152)) := Lib.hid (by rw [hpe, shA_some, ho]; congr 2; omega)
      have HPE := Lib.hid hpe
      subst hA
      have hh := fun W => headT W b o r cc (by omega)
      have ht := fun W => tailT W b o r cc hlt hrc
      have hba : Below wr.heap.size wr (wr.alloc (.cells #[.slice (some ⟨b, o, none⟩) 16384 cc] 38)) := (Below.refl _ wr).alloc (Nat.le_refl _) _
      have HOW := Lib.hid (own_below HS.out.own hba)
      have HBA := Lib.hid (HS.out.bel.trans (hba.mono HS.out.bel.size))
      have HJ := Lib.hid (show j + 1 ≤ 1000000 by omega)
      have HCE : Hid (∀ i u, [Value.slice (some ⟨b, o, none⟩) 16384 cc][i]? = some u → (wr.alloc (.cells #[.slice (some ⟨b, o, none⟩) 16384 cc] 38)).cell? ((⟨wr.heap.size, 0, none⟩ : Addr).add i) = some u) := Lib.hid fun i u hiu => by
        have hi0 : i = 0 := by have := (List.getElem?_eq_some_iff.1 hiu).1; simp at this; omega
        subst hi0
        rw [add_plain]
        have hu : Value.slice (some ⟨b, o, none⟩) 16384 cc = u := by simpa using hiu
        rw [← hu]
        exact one_cell wr _ _
      clear hba ho hpe her
      go_wp2_with (at_builtin; refine wpList_append_sl Try.underlying66 hi hz0 hz1 hz2 rfl rfl _ _ rfl w.heap.size s5 j ((List.range j).map (prtT p n cap)) rfl HOW.out ⟨wr.heap.size, 0, none⟩ [.slice (some ⟨b, o, none⟩) 16384 cc] rfl HCE.out (fun u hu => by rw [List.mem_singleton.1 hu]; rfl) HJ.out HBA.out.size ?_; intro v5 w5 ho5 hb5; have HO5 := Lib.hid ho5; have HB5 := Lib.hid (HBA.out.trans hb5); clear ho5 hb5)
      have HN := Lib.hid (HS.out.step hlt hrc HA1.out HO5.out HB5.out)
      clear hh HOW HCE
      go_roundw
      case rel => exact ⟨j + 1, r - 16384, cc - 16384, _, v5, rfl, rfl, by omega, by omega, by omega, by omega, HN⟩
      case measure => simp [lenS]; omega
    · have ql : decide ((16384 : Int) < (r : Int)) = false := decide_eq_false (by omega)
      have hba : Below wr.heap.size wr (wr.alloc (.cells #[.slice A r cc] 38)) := (Below.refl _ wr).alloc (Nat.le_refl _) _
      have HOW := Lib.hid (own_below HS.out.own hba)
      have HBA := Lib.hid (HS.out.bel.trans (hba.mono HS.out.bel.size))
      have her := HS.out.er
      have HJ := Lib.hid (show j + 1 ≤ 1000000 + 1 by omega)
      have HCE : Hid (∀ i u, [Value.slice A r cc][i]? = some u → (wr.alloc (.cells #[.slice A r cc] 38)).cell? ((⟨wr.heap.size, 0, none⟩ : Addr).add i) = some u) := Lib.hid fun i u hiu => by
        have hi0 : i = 0 := by have := (List.getElem?_eq_some_iff.1 hiu).1; simp at this; omega
        subst hi0
        rw [add_plain]
        have hu : Value.slice A r cc = u := by simpa using hiu
        rw [← hu]
        exact one_cell wr _ _
      have HJ2 := Lib.hid (show j + 1 ≤ 1000000 by have := HS.out.lt; omega)
      clear hba her
      go_wp2_with (at_builtin; refine wpList_append_sl Try.underlying66 hi hz0 hz1 hz2 rfl rfl _ _ rfl w.heap.size s5 j ((List.range j).map (prtT p n cap)) rfl HOW.out ⟨wr.heap.size, 0, none⟩ [.slice A r cc] rfl HCE.out (fun u hu => by rw [List.mem_singleton.1 hu]; rfl) HJ2.out HBA.out.size ?_; intro v5 w5 ho5 hb5; have HO5 := Lib.hid ho5; have HB5 := Lib.hid (HBA.out.trans hb5); clear ho5 hb5)
      have HN := Lib.hid (HS.out.done (by omega) HO5.out HB5.out)
      clear HOW HCE
      go_ret
      exact HN.out
end Go.Proofs.Ytjafcjnkefioeaa.Df

/- DfH, DfI, DfK: merged. -/
import Derived.Test.YtkkfkmoikcmhoaaGreatAaa
import Derived.Test.YtkkfkmoikcmhoaaGreatAab
import Derived.Test.YtkkfkmoikcmhoaaGreatAai
import Derived.Test.YtkkfkmoikcmhoaaGreatAaj
import Derived.Test.YtkkfkmoikcmhoaaGreatAan
import Derived.Test.YtkkfkmoikcmhoaaGreatAax
set_option linter.unusedVariables false
set_option linter.unusedSimpArgs false
namespace Go.Proofs.YtkkfkmoikcmhoaaGreat.Df
open Go.RowKit Oct Bit Hf Inf Go.ChangeShapes Go.WideShapes Go.Deep
set_option maxRecDepth 100000
theorem Tryz.infoMark : (Tryz.prog.info? 166).map (fun i => (i.zero, i.size, i.bytes)) = some (some (.agg #[.int .i64 0, .int .i64 0, .int .i64 0]), 3, 24) := by kernel_rfl
def Yn3 (w : World) (b off i : Nat) (t : Nat × Nat) : Prop :=
 w.cell? ⟨b, off + i * 3, none⟩ = some (.int .i64 (t.1 : Int)) ∧ w.cell? ⟨b, off + i * 3 + 1, none⟩ = some (.int .i64 (t.2 : Int)) ∧ w.cell? ⟨b, off + i * 3 + 2, none⟩ = some (.int .i64 (wideV t.1 : Int))
def Marks (w : World) (C : Nat) (a : Option Addr) (l : List (Nat × Nat)) : Prop :=
 True ∧ (0 < l.length → ∃ b off, a = some ⟨b, off, none⟩ ∧ b < C ∧ ∀ i (h : i < l.length), Yn3 w b off i l[i])
def encM (t : Nat × Nat) : List Value := [.int .i64 (t.1 : Int), .int .i64 (t.2 : Int), .int .i64 (wideV t.1 : Int)]
def mcells (l : List (Nat × Nat)) : List Value := l.flatMap encM
theorem Y4v (l : List (Nat × Nat)) : (mcells l).length = l.length * 3 := by
 induction l with
 | nil => rfl
 | cons z l ih =>
  unfold mcells at ih ⊢
  rw [List.flatMap_cons, List.length_append, ih, List.length_cons]
  show 3 + _ = _
  omega
theorem Yd7 (a b : List (Nat × Nat)) : mcells (a ++ b) = mcells a ++ mcells b := by simp [mcells]
theorem Y88 : ∀ (l : List (Nat × Nat)) (i : Nat) (h : i < l.length), (mcells l)[i * 3]? = some (.int .i64 (l[i].1 : Int)) ∧ (mcells l)[i * 3 + 1]? = some (.int .i64 (l[i].2 : Int)) ∧ (mcells l)[i * 3 + 2]? = some (.int .i64 (wideV l[i].1 : Int))
 | [], i, h => by simp at h
 | z :: l, 0, h => ⟨rfl, rfl, rfl⟩
 | z :: l, i + 1, h => by
  obtain ⟨q1, q2, q3⟩ := Y88 l i (by simpa using h)
  have e : ∀ j, (mcells (z :: l))[j + 3]? = (mcells l)[j]? := fun j => rfl
  rw [show (i + 1) * 3 = i * 3 + 3 by omega, show i * 3 + 3 + 1 = i * 3 + 1 + 3 by omega, show i * 3 + 3 + 2 = i * 3 + 2 + 3 by omega, e, e, e]
  exact ⟨q1, q2, q3⟩
theorem Ylv (l : List (Nat × Nat)) : ∀ u ∈ mcells l, u.oneCell' = true := fun u hu => by
 obtain ⟨z, _, hz⟩ := List.mem_flatMap.1 hu
 simp [encM] at hz
 rcases hz with rfl | rfl | rfl <;> rfl
theorem Yhq {w : World} {b off : Nat} {l : List (Nat × Nat)} (h : ∀ i (h : i < l.length), Yn3 w b off i l[i]) (j : Nat) (u : Value) (hj : (mcells l)[j]? = some u) : w.cell? ⟨b, off + j, none⟩ = some u := by
 have hlt : j < l.length * 3 := by
  rw [← Y4v]
  exact (List.getElem?_eq_some_iff.1 hj).1
 have hi : j / 3 < l.length := by omega
 obtain ⟨q1, q2, q3⟩ := Y88 l (j / 3) hi
 obtain ⟨c1, c2, c3⟩ := h (j / 3) hi
 rcases (show j = j / 3 * 3 ∨ j = j / 3 * 3 + 1 ∨ j = j / 3 * 3 + 2 by omega) with e | e | e
 ·rw [← e] at q1 c1
  rw [q1] at hj
  rw [c1, hj]
 ·rw [← e] at q2
  rw [show off + j / 3 * 3 + 1 = off + j from by omega] at c2
  rw [q2] at hj
  rw [c2, hj]
 ·rw [← e] at q3
  rw [show off + j / 3 * 3 + 2 = off + j from by omega] at c3
  rw [q3] at hj
  rw [c3, hj]
theorem Ytb {w : World} {b off : Nat} {l : List (Nat × Nat)} (h : ∀ j u, (mcells l)[j]? = some u → w.cell? ⟨b, off + j, none⟩ = some u) : ∀ i (h : i < l.length), Yn3 w b off i l[i] := fun i hi =>
 have ⟨q1, q2, q3⟩ := Y88 l i hi
 ⟨h _ _ q1, h _ _ q2, h _ _ q3⟩
def MOwn (w : World) (base : Nat) (v : Value) (l : List (Nat × Nat)) : Prop := w.ownsRow base 166 3 v l.length (mcells l)
theorem MOwn.below {w w' : World} {base : Nat} {v : Value} {l : List (Nat × Nat)} (h : MOwn w base v l) (hb : Below w.heap.size w w') : MOwn w' base v l := by
 refine ⟨h.1, ?_⟩
 rcases h.2 with hn | ⟨g, cap, cur, rfl, hbs, hh, r⟩
 ·exact .inl hn
 ·refine .inr ⟨g, cap, cur, rfl, hbs, ?_, r⟩
  have hlt : g < w.heap.size := by
   rcases Nat.lt_or_ge g w.heap.size with hlt | hge
   ·exact hlt
   ·rw [Array.getElem?_eq_none hge] at hh; cases hh
  rw [hb.block g hlt]
  exact hh
theorem MOwn.shape {w : World} {base : Nat} {v : Value} {l : List (Nat × Nat)} (h : MOwn w base v l) :
  ∃ q c, v = .slice q l.length c ∧ (q = none → c = 0) ∧ l.length ≤ c ∧ c ≤ maxLen ∧ Marks w w.heap.size q l ∧ ∀ a, q = some a → base ≤ a.block := by
 have hl := fun k hk => h.lt k hk
 have hc := fun g hg => World.ownsRow.cells h (g := g) hg
 rcases h.2 with ⟨rfl, h0⟩ | ⟨g, cap, cur, rfl, hb, hh, h1, h2, _, _⟩
 ·exact ⟨none, 0, by rw [h0], fun _ => rfl, by omega, by simp [maxLen], ⟨trivial, fun hp => by omega⟩, fun a h => by cases h⟩
 ·refine ⟨some ⟨g, 0, none⟩, cap, rfl, fun h => (by cases h), h1, h2, ⟨trivial, fun hp => ⟨g, 0, rfl, (hl g rfl).2, Ytb fun j u hj => ?_⟩⟩, fun a h => by injection h with h; subst h; exact hb⟩
  have := hc g rfl j u hj
  rw [Oct.Y08] at this
  exact this
theorem Y6u {w : World} {ops : Array Oper} {rest : List Oper} {o : Oper} {a : Act} {Q : Exit → Act → World → Prop}
  (hgd : o.guard = none) (s x : Operand) (ho : o.op = .call { callee := .builtin .append, args := #[s, x], argTypes := #[177, 177] })
  (base : Nat) (v : Value) (ys : List (Nat × Nat)) (hs : a.eval s = v) (hown : MOwn w base v ys)
  (p : Option Addr) (m c : Nat) (xs : List (Nat × Nat)) (hx : a.eval x = .slice p m c) (hr : Marks w w.heap.size p xs) (hxm : xs.length = m) (hc0 : p = none → c = 0)
  (h47 : ys.length + m ≤ 1000000) (hbase : base ≤ w.heap.size)
  (h : ∀ v' w', MOwn w' base v' (ys ++ xs) → w.grownBy w' v.ownBlock → Below base w w' → wpList Tryz.prog ops Q rest (a.put o.dst v') w') :
  wpList Tryz.prog ops Q (o :: rest) a w := by
 obtain ⟨i0, hi, hz0, hz1, hz2⟩ := info_parts Tryz.infoMark
 have hT := Tryz.underlying177
 rcases p with _ | ad
 ·have hxs : xs = [] := by
   rcases xs with _ | ⟨x, xs⟩
   ·rfl
   ·obtain ⟨b, off, he, _⟩ := hr.2 (by simp)
    cases he
  subst hxs
  simp at hxm
  subst hxm
  have := hc0 rfl
  subst this
  refine wpList_append_own_none hgd s x 177 ho base 166 i0 3 hT hi v ys.length (mcells ys) hs hown hx ?_
  exact h v w (by simpa using hown) (World.grownBy.refl _ _) (Below.refl _ _)
 ·refine wpList_append_own w hgd s x 177 ho base 166 i0 _ 3 24 hT hi hz0 hz1 hz2 (by decide) (by decide) v ys.length (mcells ys) hs hown ad m c (mcells xs) hx (by rw [Y4v, hxm]) ?_ (Ylv xs) (by unfold maxLen; omega) (by omega) hbase ?_
  ·intro j u hj
   have hlt := (List.getElem?_eq_some_iff.1 hj).1
   rw [Y4v] at hlt
   obtain ⟨b, off, he, _, hc⟩ := hr.2 (by omega)
   injection he with he
   subst he
   rw [Oct.Y08]
   exact Yhq hc j u hj
  ·intro v' w' h2 h3 h4
   refine h v' w' ?_ h3 ((Below.refl _ w).grown h3 hbase (fun k hk => (World.ownsRow.lt hown k hk).1))
   unfold MOwn
   rw [List.length_append, hxm, Yd7]
   exact h2
theorem Ytk (w : World) (t : Nat × Nat) : Marks (w.alloc (.cells #[.int .i64 (t.1 : Int), .int .i64 (t.2 : Int), .int .i64 (wideV t.1 : Int)] 166)) (w.alloc (.cells #[.int .i64 (t.1 : Int), .int .i64 (t.2 : Int), .int .i64 (wideV t.1 : Int)] 166)).heap.size (some ⟨w.heap.size, 0, none⟩) [t] := by
 refine ⟨trivial, fun _ => ⟨w.heap.size, 0, rfl, by simp, fun i hi => ?_⟩⟩
 have hi0 : i = 0 := by simpa using hi
 subst hi0
 have hb : (w.alloc (.cells #[.int .i64 (t.1 : Int), .int .i64 (t.2 : Int), .int .i64 (wideV t.1 : Int)] 166)).heap[w.heap.size]? = some (.cells #[.int .i64 (t.1 : Int), .int .i64 (t.2 : Int), .int .i64 (wideV t.1 : Int)] 166 (0, 0)) := Array.getElem?_push_size
 have hc : ∀ i u, (#[Value.int .i64 (t.1 : Int), .int .i64 (t.2 : Int), .int .i64 (wideV t.1 : Int)] : Array Value)[i]? = some u → (w.alloc (.cells #[.int .i64 (t.1 : Int), .int .i64 (t.2 : Int), .int .i64 (wideV t.1 : Int)] 166)).cell? ⟨w.heap.size, i, none⟩ = some u := fun i u hu => by
  rw [cell_of_row _ w.heap.size i _ _ _ hb]
  exact hu
 exact ⟨hc 0 _ rfl, hc 1 _ rfl, hc 2 _ rfl⟩
def Y8w (w : World) (l : List Nat) (e : Ending) (w' : World) : Prop := Below w.heap.size w w' ∧ ∃ q c, e = .returned (.slice q (Y17 l 0).length c) ∧ Foot (At q) (fun w' => Marks w' w'.heap.size q (Y17 l 0)) w' ∧ ∀ k, At q k → w.heap.size ≤ k
theorem Ylh {w : World} {q : Option Addr} {l : List (Nat × Nat)} (h : Marks w w.heap.size q l) (h0 : 0 < l.length) : Foot (At q) (fun w' => Marks w' w'.heap.size q l) w := by
 obtain ⟨b, off, rfl, hb, hc⟩ := h.2 h0
 refine ⟨fun k ⟨a, e, hk⟩ => by injection e with e; subst e; rw [← hk]; exact hb, fun w' hz hs => ⟨trivial, fun _ => ⟨b, off, rfl, Nat.lt_of_lt_of_le hb hz, fun i hi => ?_⟩⟩⟩
 have e := hs b ⟨_, rfl, rfl⟩
 exact ⟨(World.cell?_of_block e).trans (hc i hi).1, (World.cell?_of_block e).trans (hc i hi).2.1, (World.cell?_of_block e).trans (hc i hi).2.2⟩
theorem Yaf (l : List Nat) : ∀ k a, l.length - a ≤ k → (Y17 l a).length ≤ k
 | 0, a, h => by rw [Y26 (by omega)]; exact Nat.le_refl _
 | k + 1, a, h => by
  by_cases ha : a < l.length
  ·rw [Y31 ha, List.length_cons]
   have := Y5q ha
   have := Yaf l k (a + (Y0p l a).2) (by omega)
   omega
  ·rw [Y26 ha]; exact Nat.zero_le _
structure Pst (w wr : World) (l : List Nat) (k : Nat) (v : Value) (ys : List (Nat × Nat)) : Prop where
 bel : Below w.heap.size w wr
 own : MOwn wr w.heap.size v ys
 eq : ys ++ Y17 l k = Y17 l 0
 le : k ≤ l.length
set_option maxHeartbeats 2000000 in
theorem Ym6 (w : World) (b off n cap : Nat) (l : List Nat) (hr : VRow w w.heap.size (some ⟨b, off, none⟩) (ints (Y05 l))) (hx : l.length = n) (hn : n ≤ 1000) (h0 : 0 < n) (hc : n ≤ cap) (hc2 : cap ≤ maxLen) (h15 : ∀ x ∈ l, x ≤ 15) :
  Calls Tryz.prog 114 #[.slice (some ⟨b, off, none⟩) n cap] w (Y8w w l) := by
 have HN : Hid (∀ V a, Below w.heap.size w V → a < n → Calls Tryz.prog 148 #[.slice (some ⟨b, off, none⟩) n cap, .int .i64 (a : Int)] V (Y9d V l a)) := Lib.hid fun V a hV ha =>
  Ydb V b off n cap a l ((hr.below hV (Nat.le_refl _)).mono hV.size) hx hn hc hc2 ha h15
 have HFE := Lib.hid (Yaf l l.length 0 (by omega))
 have HST : Hid (Pst w w l 0 (.slice none 0 0) []) := Lib.hid ⟨Below.refl _ _, ⟨rfl, .inl ⟨rfl, rfl⟩⟩, rfl, by omega⟩
 have HX := Lib.hid hx
 clear hr hx hc2 h15
 go_enter Tryz.func114, Tryz.ntmps114
 go_wp2_with fail
 go_loopw [3, 4] (fun s i wr => ∃ (k : Nat) (v : Value) (ys : List (Nat × Nat)), s = v ∧ i = .int .i64 (k : Int) ∧ k ≤ n ∧ Hid (Pst w wr l k v ys)) (fun _ i _ => n - (intOf i).toNat)
 case atStart => exact ⟨0, _, [], rfl, rfl, by omega, HST⟩
 case round =>
  obtain ⟨k, s, ys, hsv, rfl, hk, HS⟩ := hrel
  have hsv2 := hsv.symm
  subst hsv2
  clear hsv HST
  by_cases hlt : k < n
  ·have ql : decide ((k : Int) < (n : Int)) = true := decide_eq_true (by omega)
   have HNX := Lib.hid (HN.out wr k HS.out.bel hlt)
   have hkl : k < l.length := by rw [HX.out]; exact hlt
   have hpos := Y5q hkl
   have hgo := Y31 hkl
   go_wp2_with fail
   refine HNX.out.mono ?_
   rintro e w2 ⟨rfl, hb2⟩
   obtain ⟨m, c, hmc⟩ : ∃ m c, Y0p l k = (m, c) := ⟨_, _, rfl⟩
   rw [hmc] at hpos hgo
   rw [hmc]
   have hB2 := HS.out.bel.trans (hb2.mono HS.out.bel.size)
   have hb4 : Below w2.heap.size w2 ((w2.alloc (.cells #[.int .i64 (m.1 : Int), .int .i64 (m.2 : Int), .int .i64 (wideV m.1 : Int)] 166)).alloc (.cells #[.int .i64 (m.1 : Int), .int .i64 (m.2 : Int), .int .i64 (wideV m.1 : Int)] 166)) :=
    ((Below.refl _ w2).alloc (Nat.le_refl _) _).alloc (by simp) _
   have HO4 := Lib.hid ((HS.out.own.below hb2).below hb4)
   have HB4 := Lib.hid (hB2.trans (hb4.mono hB2.size))
   have HR4 := Lib.hid (Ytk (w2.alloc (.cells #[.int .i64 (m.1 : Int), .int .i64 (m.2 : Int), .int .i64 (wideV m.1 : Int)] 166)) m)
   rw [show (w2.alloc (.cells #[.int .i64 (m.1 : Int), .int .i64 (m.2 : Int), .int .i64 (wideV m.1 : Int)] 166)).heap.size = w2.heap.size + 1 from by simp] at HR4
   have hle : ys.length + 1 ≤ 1000000 := by
    have := congrArg List.length HS.out.eq
    rw [List.length_append, hgo, List.length_cons] at this
    have := HFE.out
    have := HX.out
    omega
   have HPOS := Lib.hid hpos
   have HGO := Lib.hid hgo
   have hwk : wrap64 ((k : Int) + (c : Int)) = ((k + c : Nat) : Int) := (Y0q _ (by omega) (by have := HX.out; dsimp only at hpos; omega)).trans (by omega)
   clear hb2 hB2 hb4 hpos hgo hmc
   go_wp2_with (at_builtin; refine Y6u rfl _ _ rfl w.heap.size s ys rfl HO4.out (some ⟨w2.heap.size + 1, 0, none⟩) 1 1 [m] rfl HR4.out rfl (fun h => by cases h) hle HB4.out.size ?_; intro v5 w5 ho5 hg5 hb5; have HO5 := Lib.hid ho5; have HB5 := Lib.hid hb5; clear ho5 hg5 hb5)
   rw [hwk]
   have HP2 : Hid (Pst w w5 l (k + c) v5 (ys ++ [m])) := Lib.hid ⟨HB4.out.trans HB5.out, HO5.out, by
    have h1 := HS.out.eq
    have h2 := HGO.out
    rw [h2] at h1
    rw [List.append_assoc]
    exact h1, by have h3 := HPOS.out; omega⟩
   go_roundw
   case rel => exact ⟨k + c, v5, ys ++ [m], rfl, rfl, by have h3 := HPOS.out; have := HX.out; omega, HP2⟩
   case measure => have h3 := HPOS.out; simp [intOf]; omega
  ·have hkn : k = n := by omega
   subst hkn
   have ql : decide ((k : Int) < (k : Int)) = false := by simp
   have hys : ys = Y17 l 0 := by
    have h1 := HS.out.eq
    rw [Y26 (by have := HX.out; omega), List.append_nil] at h1
    exact h1
   have hpos : 0 < (Y17 l 0).length := by
    rw [Y31 (by have := HX.out; omega), List.length_cons]
    omega
   obtain ⟨q, c, hs, hq, hc1, hc2, hm, hb⟩ := HS.out.own.shape
   rw [hys] at hs hm
   subst hs
   have HRES : Hid (Y8w w l (.returned (.slice q (Y17 l 0).length c)) wr) := Lib.hid ⟨HS.out.bel, q, c, rfl, Ylh hm hpos, fun j ⟨a, e, hj⟩ => by rw [← hj]; exact hb a e⟩
   clear hm hb hys hpos
   go_wp2_with fail
   go_ret
   exact HRES.out
def NRow (w : World) (bl : Nat) (c : List Nat) : Prop := w.heap[bl]? = some (.cells (ints (Y05 c)).toArray 3 (0, 0))
theorem NRow.cell {w : World} {bl : Nat} {c : List Nat} (h : NRow w bl c) (i : Nat) (hi : i < c.length) : w.cell? ⟨bl, i, none⟩ = some (.int .i64 ((c.getD i 0 : Nat) : Int)) := by
 unfold NRow at h
 simp [World.cell?, h, ints, Y05, hi]
theorem NRow.fz {w : World} {bl : Nat} {c : List Nat} (h : NRow w bl c) (i : Nat) : w.frozen? ⟨bl, i, none⟩ = false := by
 unfold NRow at h
 simp [World.frozen?, h]
theorem NRow.lt {w : World} {bl : Nat} {c : List Nat} (h : NRow w bl c) : bl < w.heap.size := by
 rcases Nat.lt_or_ge bl w.heap.size with hlt | hge
 ·exact hlt
 ·unfold NRow at h; rw [Array.getElem?_eq_none hge] at h; cases h
theorem NRow.below {w w' : World} {B bl : Nat} {c : List Nat} (h : NRow w bl c) (hb : Below B w w') (hB : bl < B) : NRow w' bl c := (hb.block bl hB).trans h
theorem NRow.set {w : World} {bl : Nat} {c : List Nat} (h : NRow w bl c) (i x : Nat) : NRow (w.setCell ⟨bl, i, none⟩ (.int .i64 (x : Int))) bl (c.set i x) := by
 unfold NRow at *
 rw [Y2k h i _]
 congr 2
 simp [ints, Y05, List.map_set]
theorem NRow.foot {w : World} {bl : Nat} {c : List Nat} (h : NRow w bl c) : Foot (· = bl) (fun w' => VRow w' w'.heap.size (some ⟨bl, 0, none⟩) (ints (Y05 c))) w := by
 have hlt := h.lt
 exact ⟨fun k hk => by rw [hk]; exact hlt, fun w' hz hs => Y3a ((hs bl rfl).trans h) (by omega)⟩
theorem Y5s (w : World) (n : Nat) : NRow (w.alloc (.cells (madeCells #[Value.int .i64 0] n) 3)) w.heap.size (List.replicate n 0) := by
 have e : (madeCells #[Value.int .i64 0] n) = (ints (Y05 (List.replicate n 0))).toArray := by
  apply Array.ext'
  rw [Y4h]
  simp [ints, Y05]
 unfold NRow
 rw [e]
 exact Array.getElem?_push_size
theorem Ym3 (w : World) (n : Nat) : NRow (w.alloc (.cells (madeCells (Value.int .i64 0).cells (n * 1)) 3)) w.heap.size (List.replicate n 0) := by
 rw [Nat.mul_one]
 exact Y5s w n
theorem Tryz.infoInt4 : (Tryz.prog.info? 3).map (fun i => (i.zero, i.size, i.bytes)) = some (some (.int .i64 0), 1, 8) := by kernel_rfl
def CntP (w : World) (ops : List (Nat × Nat)) (e : Ending) (w' : World) : Prop := ∃ bl, e = .returned (.slice (some ⟨bl, 0, none⟩) 19 19) ∧ Below w.heap.size w w' ∧ NRow w' bl (Y8z ops) ∧ w.heap.size ≤ bl
set_option maxHeartbeats 2000000 in
theorem Ybf (w : World) (q : Option Addr) (n cap : Nat) (ops : List (Nat × Nat)) (hr : Foot (At q) (fun w' => Marks w' w'.heap.size q ops) w) (hx : ops.length = n) (hn : n ≤ 1000) (h19 : ∀ op ∈ ops, op.1 < 19) :
  Calls Tryz.prog 115 #[.slice q n cap] w (CntP w ops) := by
 obtain ⟨i0, hi, hz0, hz1, hz2⟩ := info_parts Tryz.infoInt
 have HR := Lib.hid hr
 have HX := Lib.hid hx
 have H19 := Lib.hid h19
 clear hr hx h19
 go_enter Tryz.func115, Tryz.ntmps115
 obtain ⟨w1, hw1⟩ : ∃ w1, w1 = w.alloc (.cells (madeCells (Value.int .i64 0).cells (19 * 1)) 3) := ⟨_, rfl⟩
 have hb1 : Below w.heap.size w w1 := by rw [hw1]; exact (Below.refl _ w).alloc (Nat.le_refl _) _
 have hr1 : NRow w1 w.heap.size (List.replicate 19 0) := by rw [hw1]; exact Ym3 w 19
 obtain ⟨bl, hbl⟩ : ∃ bl, bl = w.heap.size := ⟨_, rfl⟩
 rw [← hbl] at hr1
 have HW1 := Lib.hid hw1
 have HBL := Lib.hid hbl
 have HS1 : Hid (Below w.heap.size w w1 ∧ NRow w1 bl (Y8z (ops.take 0)) ∧ bl < w1.heap.size) := Lib.hid ⟨hb1, hr1, hr1.lt⟩
 clear hw1 hb1 hr1 hbl
 go_wp2_with (at_make; refine Lp.Y1q rfl _ _ rfl Tryz.underlying74 Tryz.infoInt4 19 rfl rfl (by omega) (by omega) ?_; rw [← HW1.out, ← HBL.out])
 go_loopw [9] (fun i wr => ∃ k : Nat, k ≤ n ∧ i = .int .i64 (k : Int) ∧ Hid (Below w.heap.size w wr ∧ NRow wr bl (Y8z (ops.take k)) ∧ bl < wr.heap.size)) (fun i _ => n - (intOf i).toNat)
 case atStart => exact ⟨0, by omega, rfl, HS1⟩
 case round =>
  obtain ⟨k, hk, rfl, HS⟩ := hrel
  clear HS1
  by_cases hlt : k < n
  ·have ql : decide ((k : Int) < (n : Int)) = true := decide_eq_true (by omega)
   have hkl : k < ops.length := by rw [HX.out]; exact hlt
   obtain ⟨b, off, rfl, hbw, hc⟩ := (HR.out.below HS.out.1).now.2 (by omega)
   obtain ⟨m0, m1, m2⟩ := hc k hkl
   have hst := Ynz ops k hkl
   have hs19 := H19.out _ (List.getElem_mem hkl)
   obtain ⟨s, hs⟩ : ∃ s, s = ops[k].1 := ⟨_, rfl⟩
   rw [← hs] at m0 m2 hst hs19
   generalize ops[k].2 = y at m1
   have hlen := (Y9s (ops.take k)).1
   have hle := (Y9s (ops.take k)).2
   have hcell := HS.out.2.1.cell s (by rw [hlen]; exact hs19)
   have hx : (Y8z (ops.take k)).getD s 0 ≤ 1000 := by
    rw [List.getD_eq_getElem?_getD, List.getElem?_eq_getElem (by rw [hlen]; exact hs19)]
    have := hle _ (List.getElem_mem (by rw [hlen]; exact hs19))
    rw [List.length_take] at this
    exact Nat.le_trans this (by have := HX.out; omega)
   have hws : wrap64 ((((Y8z (ops.take k)).getD s 0 : Nat) : Int) + 1) = (((Y8z (ops.take k)).getD s 0 + 1 : Nat) : Int) := (Y0q _ (by omega) (by omega)).trans (by omega)
   have hfz := HS.out.2.1.fz s
   have hbl := HS.out.2.2
   have hblw : w.heap.size ≤ bl := by have := HBL.out; omega
   have hnew := (HS.out.2.1.set s ((Y8z (ops.take k)).getD s 0 + 1))
   have hnb := HS.out.1.setCell (p := ⟨bl, s, none⟩) hblw (.int .i64 (((Y8z (ops.take k)).getD s 0 + 1 : Nat) : Int))
   have HNEW : Hid (∀ o, Below w.heap.size w ((wr.setCell ⟨bl, s, none⟩ (.int .i64 (((Y8z (ops.take k)).getD s 0 + 1 : Nat) : Int))).alloc o) ∧ NRow ((wr.setCell ⟨bl, s, none⟩ (.int .i64 (((Y8z (ops.take k)).getD s 0 + 1 : Nat) : Int))).alloc o) bl (Y8z (ops.take (k + 1))) ∧ bl < ((wr.setCell ⟨bl, s, none⟩ (.int .i64 (((Y8z (ops.take k)).getD s 0 + 1 : Nat) : Int))).alloc o).heap.size) := Lib.hid fun o => by
    have h2 := hnew.below ((Below.refl _ _).alloc (Nat.le_refl _) o) hnew.lt
    refine ⟨hnb.alloc hnb.size o, ?_, h2.lt⟩
    rw [hst]
    exact h2
   have s0 : (0 : Int) ≤ (s : Int) := by omega
   have s1 : (s : Int) < 19 := by omega
   generalize (Y8z (ops.take k)).getD s 0 = x at hcell hx hws HNEW hnew hnb
   clear hnew hnb hst hs hlen hle hc hkl HS
   go_wp2_with fail
   go_roundw
   case rel => exact ⟨k + 1, by omega, by first | rfl | (push_cast; rfl), Lib.hid (by have h := HNEW.out (.cells #[.int .i64 (s : Int), .int .i64 (y : Int), .int .i64 (wideV s : Int)] 166); push_cast at h; exact h)⟩
   case measure => simp [intOf]; omega
  ·have hkn : k = n := by omega
   subst hkn
   have ql : decide ((k : Int) < (k : Int)) = false := by simp
   have h2 := HS.out
   rw [List.take_of_length_le (by rw [HX.out]; exact Nat.le_refl _)] at h2
   have HRES : Hid (CntP w ops (.returned (.slice (some ⟨bl, 0, none⟩) 19 19)) wr) := Lib.hid ⟨bl, rfl, h2.1, h2.2.1, by have := HBL.out; omega⟩
   clear h2 HS
   go_wp2_with fail
   go_ret
   exact HRES.out
end Go.Proofs.YtkkfkmoikcmhoaaGreat.Df
namespace Go.Proofs.YtkkfkmoikcmhoaaGreat.Df
open Go.RowKit Oct Bit Hf Inf
set_option maxRecDepth 100000
def Yyv (w : World) (l : List Nat) (e : Ending) (w' : World) : Prop := ∃ b off c, e = .returned (.slice (some ⟨b, off, none⟩) 19 c) ∧ Below w.heap.size w w' ∧ VRow w' w'.heap.size (some ⟨b, off, none⟩) (ints (Y05 (Y56 l))) ∧ 19 ≤ c ∧ c ≤ maxLen ∧ w.heap.size ≤ b
structure Ost (w1 wr : World) (l : List Nat) (k : Nat) (v : Value) : Prop where
 bel : Below w1.heap.size w1 wr
 own : wr.ownsRow w1.heap.size 3 1 v k (ints (Y05 ((Y56 l).take k)))
theorem Ym5 {w w' : World} {base e n : Nat} {v : Value} {cs : List Value} (h : w.ownsRow base e 1 v n cs) (hb : Below w.heap.size w w') : w'.ownsRow base e 1 v n cs := Y3k h hb
set_option maxHeartbeats 2000000 in
theorem Yhf (w : World) (b off cap : Nat) (l : List Nat) (hr : VRow w w.heap.size (some ⟨b, off, none⟩) (ints (Y05 l))) (hx : l.length = 19) :
  Calls Tryz.prog 116 #[.slice (some ⟨b, off, none⟩) 19 cap] w (Yyv w l) := by
 obtain ⟨i0, hi, hz0, hz1, hz2⟩ := info_parts Tryz.infoInt
 have HR := Lib.hid hr
 have HX := Lib.hid hx
 clear hr hx
 go_enter Tryz.func116, Tryz.ntmps116
 go_wp2_with fail
 refine (Yft w).mono ?_
 rintro e w1 ⟨rfl, hb1, hv1⟩
 have HB1 := Lib.hid hb1
 have HV1 := Lib.hid hv1
 have HO0 : Hid (Ost w1 w1 l 0 (.slice none 0 0)) := Lib.hid ⟨Below.refl _ _, ⟨rfl, .inl ⟨rfl, rfl⟩⟩⟩
 obtain ⟨ob, hob⟩ : ∃ ob, ob = w.heap.size := ⟨_, rfl⟩
 rw [← hob] at HV1 ⊢
 clear hb1 hv1 hob
 go_wp2_with fail
 go_loopw [3, 8] (fun s i wr => ∃ (k : Nat) (v : Value), s = v ∧ i = .int .i64 (k : Int) ∧ k ≤ 19 ∧ Hid (Ost w1 wr l k v)) (fun _ i _ => 19 - (intOf i).toNat)
 case atStart => exact ⟨0, _, rfl, rfl, by omega, HO0⟩
 case round =>
  obtain ⟨k, s, hsv, rfl, hk, HS⟩ := hrel
  have hsv2 := hsv.symm
  subst hsv2
  clear hsv HO0
  by_cases hlt : k < 19
  ·have ql : decide ((k : Int) < 19) = true := decide_eq_true (by omega)
   have hoc := Y4o ((HV1.out.below HS.out.bel (Nat.le_refl _)).mono HS.out.bel.size) k hlt
   have hlc := Ydk k hlt
   have HTK := Lib.hid (Ypt l k hlt)
   generalize order.getD k 0 = o at hoc hlc HTK
   have hbw := HB1.out.trans (HS.out.bel.mono HB1.out.size)
   have hcc := Y4o ((HR.out.below hbw (Nat.le_refl _)).mono hbw.size) o (by rw [HX.out]; exact hlc)
   generalize l.getD o 0 = x at hcc HTK
   rw [Nat.zero_add] at hoc
   have hba : Below wr.heap.size wr (wr.alloc (.cells #[.int .i64 (x : Int)] 3)) := (Below.refl _ wr).alloc (Nat.le_refl _) _
   have HOW := Lib.hid (Ym5 HS.out.own hba)
   have HV4 : Hid (VRow (wr.alloc (.cells #[.int .i64 (x : Int)] 3)) (wr.alloc (.cells #[.int .i64 (x : Int)] 3)).heap.size (some ⟨wr.heap.size, 0, none⟩) (ints (Y05 [x]))) := Lib.hid (Y3a (vs := ints (Y05 [x])) (T := 3) (fr := (0, 0)) (Array.getElem?_push_size) (by simp))
   have HBA := Lib.hid (HS.out.bel.trans (hba.mono HS.out.bel.size))
   have hk100 : k + 1 ≤ 100000000 := by omega
   have o0 : (0 : Int) ≤ (o : Int) := by omega
   have o1 : (o : Int) < 19 := by omega
   have k0 : (0 : Int) ≤ (k : Int) := by omega
   clear hba hbw
   go_wp2_with (at_builtin; refine Y10 Tryz.underlying74 hi hz0 hz1 hz2 rfl (by decide) rfl _ _ rfl w1.heap.size s k (ints (Y05 ((Y56 l).take k))) rfl HOW.out (some ⟨wr.heap.size, 0, none⟩) 1 1 (ints (Y05 [x])) rfl HV4.out rfl (fun h => by cases h) Y96 hk100 HBA.out.size ?_; intro v5 w5 ho5 hg5 hb5; have HO5 := Lib.hid ho5; have HB5 := Lib.hid hb5; clear ho5 hg5 hb5)
   have HP2 : Hid (Ost w1 w5 l (k + 1) v5) := Lib.hid ⟨HBA.out.trans HB5.out, by
    rw [HTK.out]
    have e : ints (Y05 ((Y56 l).take k ++ [x])) = ints (Y05 ((Y56 l).take k)) ++ ints (Y05 [x]) := by simp [ints, Y05]
    rw [e]
    exact HO5.out⟩
   go_roundw
   case rel => exact ⟨k + 1, v5, rfl, by first | rfl | (push_cast; rfl), by omega, HP2⟩
   case measure => simp [intOf]; omega
  ·have hkn : k = 19 := by omega
   subst hkn
   have hown := HS.out.own
   rw [List.take_of_length_le (by rw [Y13]; exact Nat.le_refl _)] at hown
   obtain ⟨q, c, hs, hq, hc1, hc2, hm, hb⟩ := Y2v hown (by rw [Y06, Y02, Y13])
   subst hs
   obtain ⟨b', off', e, _, _⟩ := hm (by rw [Y06, Y02, Y13]; decide)
   subst e
   have HRES : Hid (Yyv w l (.returned (.slice (some ⟨b', off', none⟩) 19 c)) wr) := Lib.hid ⟨b', off', c, rfl, HB1.out.trans (HS.out.bel.mono HB1.out.size), hm, hc1, hc2, Nat.le_trans HB1.out.size (hb _ rfl)⟩
   clear hm hb hown
   go_wp2_with fail
   go_ret
   exact HRES.out
end Go.Proofs.YtkkfkmoikcmhoaaGreat.Df
namespace Go.Proofs.YtkkfkmoikcmhoaaGreat.Df
open Go.RowKit Oct Bit Hf Inf
set_option maxRecDepth 100000
def shA (p : Option Addr) (k : Nat) : Option Addr := if k = 0 then p else p.map (·.add k)
theorem Yjw (p : Option Addr) : shA p 0 = p := by unfold shA; rw [if_pos rfl]
theorem Y65 (b off k : Nat) : shA (some ⟨b, off, none⟩) k = some ⟨b, off + k, none⟩ := by
 unfold shA
 split
 ·rename_i h; rw [h]; rfl
 ·simp [Y08]
theorem Y3z (w : World) (v : Value) (T : TypeId) : (w.alloc (.cells #[v] T)).cell? ⟨w.heap.size, 0, none⟩ = some v := by
 unfold World.cell?
 dsimp only
 rw [show (w.alloc (.cells #[v] T)).heap[w.heap.size]? = some (.cells #[v] T (0, 0)) from Array.getElem?_push_size]
 rfl
theorem Y1v {w : World} {ops : Array Oper} {rest : List Oper} {o : Oper} {a : Act} {Q : Exit → Act → World → Prop} {T e : TypeId} {i0 : TypeInfo} {z : Value}
  (hT : Tryz.prog.underlying T = some (.slice e)) (hi : Tryz.prog.info? e = some i0) (hz0 : i0.zero = some z) (hz1 : i0.size = 1) (hz2 : i0.bytes = 24) (hzc : z.cells = #[z])
  (hgd : o.guard = none) (s x : Operand)
  (ho : o.op = .call { callee := .builtin .append, args := #[s, x], argTypes := #[T, T] })
  (base : Nat) (v : Value) (n : Nat) (ys : List Value) (hs : a.eval s = v) (hown : w.ownsRow base e 1 v n ys)
  (ad : Addr) (xs : List Value) (hx : a.eval x = .slice (some ad) xs.length xs.length) (hr : ∀ j u, xs[j]? = some u → w.cell? (ad.add j) = some u) (h1 : ∀ u ∈ xs, u.oneCell' = true)
  (h47 : n + xs.length ≤ 1000000) (hbase : base ≤ w.heap.size)
  (h : ∀ v' w', w'.ownsRow base e 1 v' (n + xs.length) (ys ++ xs) → Below base w w' → wpList Tryz.prog ops Q rest (a.put o.dst v') w') :
  wpList Tryz.prog ops Q (o :: rest) a w := by
 refine wpList_append_own w hgd s x T ho base e i0 z 1 24 hT hi hz0 hz1 hz2 (by rw [hzc]; rfl) (by decide) v n ys hs hown ad xs.length xs.length xs hx (by omega) hr h1 (by unfold maxLen; omega) (by omega) hbase ?_
 intro v' w' h2 h3 h4
 exact h v' w' h2 (Y1l hown h3 hbase)
def lenS : Value → Nat
 | .slice _ n _ => n
 | _ => 0
theorem Tryz.infoB : (Tryz.prog.info? 22).map (fun i => (i.zero, i.size, i.bytes)) = some (some (.slice none 0 0), 1, 24) := by kernel_rfl
theorem Tryz.cellszB : (Tryz.prog.info? 5).map (·.size) = some 1 := by kernel_rfl
theorem Y4s (W : World) (b o len cap : Nat) (h : 65535 ≤ cap) :
  (Instr.slice 22 (.slice (some ⟨b, o, none⟩) len cap) none (some (.int .i64 65535)) none).run Tryz.prog W = .ok (.slice (some ⟨b, o, none⟩) 65535 cap) W := by
 have ht' : Tryz.prog.underlying 22 = some (.slice (Tryz.prog.elem 22)) := by kernel_rfl
 have he : Tryz.prog.elem 22 = 5 := by kernel_rfl
 have hz : (Go.sizeOf 5).run Tryz.prog W = .ok 1 W := by
  obtain ⟨i, hi, hs⟩ := Option.map_eq_some_iff.1 Tryz.cellszB
  simp [Go.sizeOf, typeInfo, hi, hs]
 rw [run_slice_h W 22 (some ⟨b, o, none⟩) len cap ht' .i64 _ (by omega) (by omega), he, hz]
 simp [Result.andThen, sliced, Y08]
theorem tailB (W : World) (b o len cap : Nat) (h : 65535 < len) (hc : len ≤ cap) :
  (Instr.slice 22 (.slice (some ⟨b, o, none⟩) len cap) (some (.int .i64 65535)) none none).run Tryz.prog W = .ok (.slice (some ⟨b, o + 65535, none⟩) (len - 65535) (cap - 65535)) W := by
 have ht' : Tryz.prog.underlying 22 = some (.slice (Tryz.prog.elem 22)) := by kernel_rfl
 have he : Tryz.prog.elem 22 = 5 := by kernel_rfl
 have hz : (Go.sizeOf 5).run Tryz.prog W = .ok 1 W := by
  obtain ⟨i, hi, hs⟩ := Option.map_eq_some_iff.1 Tryz.cellszB
  simp [Go.sizeOf, typeInfo, hi, hs]
 rw [run_slice_l W 22 (some ⟨b, o, none⟩) len cap ht' .i64 _ (by omega) (by omega), he, hz]
 have hne : ¬ cap = 65535 := by omega
 simp [Result.andThen, sliced, Y08, hne]
def Yjq (p : Option Addr) (n cap j : Nat) : Value := .slice (shA p (j * 65535)) (min 65535 (n - j * 65535)) (cap - j * 65535)
def Y2n (n : Nat) : Nat := (n - 1) / 65535 + 1
structure SplB (w wr : World) (p : Option Addr) (n cap j r cc : Nat) (A : Option Addr) (v : Value) : Prop where
 ea : A = shA p (j * 65535)
 er : r + j * 65535 = n
 ec : cc + j * 65535 = cap
 lt : j = 0 ∨ 0 < r
 own : wr.ownsRow w.heap.size 22 1 v j ((List.range j).map (Yjq p n cap))
 bel : Below w.heap.size w wr
def Yvt (w : World) (p : Option Addr) (n cap : Nat) (e : Ending) (w' : World) : Prop :=
 ∃ q c, e = .returned (.slice q (Y2n n) c) ∧ Below w.heap.size w w' ∧ Foot (At q) (fun w' => VRow w' w'.heap.size q ((List.range (Y2n n)).map (Yjq p n cap))) w' ∧ ∀ a, q = some a → w.heap.size ≤ a.block
theorem SplB.step {w wr w5 : World} {p : Option Addr} {n cap j r cc : Nat} {A A1 : Option Addr} {v v5 : Value} (h : SplB w wr p n cap j r cc A v) (hr : 65535 < r) (hrc : r ≤ cc) (hA : A1 = shA p ((j + 1) * 65535))
  (ho : w5.ownsRow w.heap.size 22 1 v5 (j + 1) ((List.range j).map (Yjq p n cap) ++ [.slice A 65535 cc])) (hb : Below w.heap.size w w5) : SplB w w5 p n cap (j + 1) (r - 65535) (cc - 65535) A1 v5 := by
 have e1 := h.er
 have e2 := h.ec
 refine ⟨hA, by omega, by omega, .inr (by omega), ?_, hb⟩
 rw [List.range_succ, List.map_append, List.map_cons, List.map_nil]
 have e : Yjq p n cap j = .slice A 65535 cc := by
  unfold Yjq
  rw [← h.ea, show min 65535 (n - j * 65535) = 65535 from by omega, show cap - j * 65535 = cc from by omega]
 rw [e]
 exact ho
theorem SplB.done {w wr w5 : World} {p : Option Addr} {n cap j r cc : Nat} {A : Option Addr} {v v5 : Value} (h : SplB w wr p n cap j r cc A v) (hr : r ≤ 65535)
  (ho : w5.ownsRow w.heap.size 22 1 v5 (j + 1) ((List.range j).map (Yjq p n cap) ++ [.slice A r cc])) (hb : Below w.heap.size w w5) : Yvt w p n cap (.returned v5) w5 := by
 have e1 := h.er
 have e2 := h.ec
 have e3 := h.lt
 have e : Yjq p n cap j = .slice A r cc := by
  unfold Yjq
  rw [← h.ea, show min 65535 (n - j * 65535) = r from by omega, show cap - j * 65535 = cc from by omega]
 have hK : Y2n n = j + 1 := by unfold Y2n; omega
 rw [← e] at ho
 have e4 : (List.range j).map (Yjq p n cap) ++ [Yjq p n cap j] = (List.range (j + 1)).map (Yjq p n cap) := by rw [List.range_succ, List.map_append]; rfl
 rw [e4] at ho
 obtain ⟨q, c, rfl, h1, h2, h3, h4, h5⟩ := Y2v ho (by simp)
 unfold Yvt
 rw [hK]
 exact ⟨q, c, rfl, hb, Y5l h4 (by simp), h5⟩
set_option maxHeartbeats 2000000 in
theorem Ymf (w : World) (p : Option Addr) (n cap : Nat) (hp : 65535 < n → ∃ b off, p = some ⟨b, off, none⟩) (hn : n ≤ 1000000) (hc : n ≤ cap) (hc2 : cap ≤ maxLen) :
  Calls Tryz.prog 69 #[.slice p n cap, .int .i64 65535] w (Yvt w p n cap) := by
 obtain ⟨i0, hi, hz0, hz1, hz2⟩ := info_parts Tryz.infoB
 have HP := Lib.hid hp
 have hcm : cap ≤ 9223372036854775807 := by unfold maxLen at hc2; omega
 have HS0 : Hid (SplB w w p n cap 0 n cap p (.slice none 0 0)) := Lib.hid ⟨by rw [Nat.zero_mul, Yjw], by omega, by omega, .inl rfl, ⟨rfl, .inl ⟨rfl, rfl⟩⟩, Below.refl _ _⟩
 clear hp hc2
 go_enter Tryz.func69, Tryz.ntmps69
 go_wp2_with fail
 go_loopw [0, 5] (fun s0 s5 wr => ∃ (j r cc : Nat) (A : Option Addr) (v : Value), s0 = .slice A r cc ∧ s5 = v ∧ r ≤ n ∧ r ≤ cc ∧ cc ≤ cap ∧ j ≤ n ∧ Hid (SplB w wr p n cap j r cc A v)) (fun s0 _ _ => lenS s0)
 case atStart => exact ⟨0, n, cap, p, _, rfl, rfl, by omega, by omega, by omega, by omega, HS0⟩
 case round =>
  obtain ⟨j, r, cc, A, s5, rfl, hs5, hrn, hrc, hcc, hjn, HS⟩ := hrel
  have hs52 := hs5.symm
  subst hs52
  clear hs5 HS0
  by_cases hlt : 65535 < r
  ·have ql : decide ((65535 : Int) < (r : Int)) = true := decide_eq_true (by omega)
   have her := HS.out.er
   have hj1 : j + 1 ≤ n := by omega
   obtain ⟨b, off, hpe⟩ := HP.out (by omega)
   obtain ⟨o, ho⟩ : ∃ o, o = off + j * 65535 := ⟨_, rfl⟩
   have hA : A = some ⟨b, o, none⟩ := by rw [HS.out.ea, hpe, Y65, ho]
   have HA1 : Hid (some ⟨b, o + 65535, none⟩ = shA p ((j + 1) * 65535)) := Lib.hid (by rw [hpe, Y65, ho]; congr 2; omega)
   have HPE := Lib.hid hpe
   subst hA
   have hh := fun W => Y4s W b o r cc (by omega)
   have ht := fun W => tailB W b o r cc hlt hrc
   have hba : Below wr.heap.size wr (wr.alloc (.cells #[.slice (some ⟨b, o, none⟩) 65535 cc] 22)) := (Below.refl _ wr).alloc (Nat.le_refl _) _
   have HOW := Lib.hid (Y3k HS.out.own hba)
   have HBA := Lib.hid (HS.out.bel.trans (hba.mono HS.out.bel.size))
   have HJ := Lib.hid (show j + 1 ≤ 1000000 by omega)
   have HCE : Hid (∀ i u, [Value.slice (some ⟨b, o, none⟩) 65535 cc][i]? = some u → (wr.alloc (.cells #[.slice (some ⟨b, o, none⟩) 65535 cc] 22)).cell? ((⟨wr.heap.size, 0, none⟩ : Addr).add i) = some u) := Lib.hid fun i u hiu => by
    have hi0 : i = 0 := by have := (List.getElem?_eq_some_iff.1 hiu).1; simp at this; omega
    subst hi0
    rw [Y08]
    have hu : Value.slice (some ⟨b, o, none⟩) 65535 cc = u := by simpa using hiu
    rw [← hu]
    exact Y3z wr _ _
   clear hba ho hpe her
   go_wp2_with (at_builtin; refine Y1v Tryz.underlying93 hi hz0 hz1 hz2 rfl rfl _ _ rfl w.heap.size s5 j ((List.range j).map (Yjq p n cap)) rfl HOW.out ⟨wr.heap.size, 0, none⟩ [.slice (some ⟨b, o, none⟩) 65535 cc] rfl HCE.out (fun u hu => by rw [List.mem_singleton.1 hu]; rfl) HJ.out HBA.out.size ?_; intro v5 w5 ho5 hb5; have HO5 := Lib.hid ho5; have HB5 := Lib.hid (HBA.out.trans hb5); clear ho5 hb5)
   have HN := Lib.hid (HS.out.step hlt hrc HA1.out HO5.out HB5.out)
   clear hh HOW HCE
   go_roundw
   case rel => exact ⟨j + 1, r - 65535, cc - 65535, _, v5, rfl, rfl, by omega, by omega, by omega, by omega, HN⟩
   case measure => simp [lenS]; omega
  ·have ql : decide ((65535 : Int) < (r : Int)) = false := decide_eq_false (by omega)
   have hba : Below wr.heap.size wr (wr.alloc (.cells #[.slice A r cc] 22)) := (Below.refl _ wr).alloc (Nat.le_refl _) _
   have HOW := Lib.hid (Y3k HS.out.own hba)
   have HBA := Lib.hid (HS.out.bel.trans (hba.mono HS.out.bel.size))
   have her := HS.out.er
   have HJ := Lib.hid (show j + 1 ≤ 1000000 + 1 by omega)
   have HCE : Hid (∀ i u, [Value.slice A r cc][i]? = some u → (wr.alloc (.cells #[.slice A r cc] 22)).cell? ((⟨wr.heap.size, 0, none⟩ : Addr).add i) = some u) := Lib.hid fun i u hiu => by
    have hi0 : i = 0 := by have := (List.getElem?_eq_some_iff.1 hiu).1; simp at this; omega
    subst hi0
    rw [Y08]
    have hu : Value.slice A r cc = u := by simpa using hiu
    rw [← hu]
    exact Y3z wr _ _
   have HJ2 := Lib.hid (show j + 1 ≤ 1000000 by have := HS.out.lt; omega)
   clear hba her
   go_wp2_with (at_builtin; refine Y1v Tryz.underlying93 hi hz0 hz1 hz2 rfl rfl _ _ rfl w.heap.size s5 j ((List.range j).map (Yjq p n cap)) rfl HOW.out ⟨wr.heap.size, 0, none⟩ [.slice A r cc] rfl HCE.out (fun u hu => by rw [List.mem_singleton.1 hu]; rfl) HJ2.out HBA.out.size ?_; intro v5 w5 ho5 hb5; have HO5 := Lib.hid ho5; have HB5 := Lib.hid (HBA.out.trans hb5); clear ho5 hb5)
   have HN := Lib.hid (HS.out.done (by omega) HO5.out HB5.out)
   clear HOW HCE
   go_ret
   exact HN.out
theorem Tryz.infoT : (Tryz.prog.info? 89).map (fun i => (i.zero, i.size, i.bytes)) = some (some (.slice none 0 0), 1, 24) := by kernel_rfl
theorem Tryz.cellszT : (Tryz.prog.info? 134).map (·.size) = some 3 := by kernel_rfl
theorem headT (W : World) (b o len cap : Nat) (h : 16384 ≤ cap) :
  (Instr.slice 89 (.slice (some ⟨b, o, none⟩) len cap) none (some (.int .i64 16384)) none).run Tryz.prog W = .ok (.slice (some ⟨b, o, none⟩) 16384 cap) W := by
 have ht' : Tryz.prog.underlying 89 = some (.slice (Tryz.prog.elem 89)) := by kernel_rfl
 have he : Tryz.prog.elem 89 = 134 := by kernel_rfl
 have hz : (Go.sizeOf 134).run Tryz.prog W = .ok 3 W := by
  obtain ⟨i, hi, hs⟩ := Option.map_eq_some_iff.1 Tryz.cellszT
  simp [Go.sizeOf, typeInfo, hi, hs]
 rw [run_slice_h W 89 (some ⟨b, o, none⟩) len cap ht' .i64 _ (by omega) (by omega), he, hz]
 simp [Result.andThen, sliced, Y08]
theorem tailT (W : World) (b o len cap : Nat) (h : 16384 < len) (hc : len ≤ cap) :
  (Instr.slice 89 (.slice (some ⟨b, o, none⟩) len cap) (some (.int .i64 16384)) none none).run Tryz.prog W = .ok (.slice (some ⟨b, o + 49152, none⟩) (len - 16384) (cap - 16384)) W := by
 have ht' : Tryz.prog.underlying 89 = some (.slice (Tryz.prog.elem 89)) := by kernel_rfl
 have he : Tryz.prog.elem 89 = 134 := by kernel_rfl
 have hz : (Go.sizeOf 134).run Tryz.prog W = .ok 3 W := by
  obtain ⟨i, hi, hs⟩ := Option.map_eq_some_iff.1 Tryz.cellszT
  simp [Go.sizeOf, typeInfo, hi, hs]
 rw [run_slice_l W 89 (some ⟨b, o, none⟩) len cap ht' .i64 _ (by omega) (by omega), he, hz]
 have hne : ¬ cap = 16384 := by omega
 simp [Result.andThen, sliced, Y08, hne]
def Yjr (p : Option Addr) (n cap j : Nat) : Value := .slice (shA p (j * 49152)) (min 16384 (n - j * 16384)) (cap - j * 16384)
def Yde (n : Nat) : Nat := (n - 1) / 16384 + 1
structure SplT (w wr : World) (p : Option Addr) (n cap j r cc : Nat) (A : Option Addr) (v : Value) : Prop where
 ea : A = shA p (j * 49152)
 er : r + j * 16384 = n
 ec : cc + j * 16384 = cap
 lt : j = 0 ∨ 0 < r
 own : wr.ownsRow w.heap.size 89 1 v j ((List.range j).map (Yjr p n cap))
 bel : Below w.heap.size w wr
def Yvu (w : World) (p : Option Addr) (n cap : Nat) (e : Ending) (w' : World) : Prop :=
 ∃ q c, e = .returned (.slice q (Yde n) c) ∧ Below w.heap.size w w' ∧ Foot (At q) (fun w' => VRow w' w'.heap.size q ((List.range (Yde n)).map (Yjr p n cap))) w' ∧ ∀ a, q = some a → w.heap.size ≤ a.block
theorem SplT.step {w wr w5 : World} {p : Option Addr} {n cap j r cc : Nat} {A A1 : Option Addr} {v v5 : Value} (h : SplT w wr p n cap j r cc A v) (hr : 16384 < r) (hrc : r ≤ cc) (hA : A1 = shA p ((j + 1) * 49152))
  (ho : w5.ownsRow w.heap.size 89 1 v5 (j + 1) ((List.range j).map (Yjr p n cap) ++ [.slice A 16384 cc])) (hb : Below w.heap.size w w5) : SplT w w5 p n cap (j + 1) (r - 16384) (cc - 16384) A1 v5 := by
 have e1 := h.er
 have e2 := h.ec
 refine ⟨hA, by omega, by omega, .inr (by omega), ?_, hb⟩
 rw [List.range_succ, List.map_append, List.map_cons, List.map_nil]
 have e : Yjr p n cap j = .slice A 16384 cc := by
  unfold Yjr
  rw [← h.ea, show min 16384 (n - j * 16384) = 16384 from by omega, show cap - j * 16384 = cc from by omega]
 rw [e]
 exact ho
theorem SplT.done {w wr w5 : World} {p : Option Addr} {n cap j r cc : Nat} {A : Option Addr} {v v5 : Value} (h : SplT w wr p n cap j r cc A v) (hr : r ≤ 16384)
  (ho : w5.ownsRow w.heap.size 89 1 v5 (j + 1) ((List.range j).map (Yjr p n cap) ++ [.slice A r cc])) (hb : Below w.heap.size w w5) : Yvu w p n cap (.returned v5) w5 := by
 have e1 := h.er
 have e2 := h.ec
 have e3 := h.lt
 have e : Yjr p n cap j = .slice A r cc := by
  unfold Yjr
  rw [← h.ea, show min 16384 (n - j * 16384) = r from by omega, show cap - j * 16384 = cc from by omega]
 have hK : Yde n = j + 1 := by unfold Yde; omega
 rw [← e] at ho
 have e4 : (List.range j).map (Yjr p n cap) ++ [Yjr p n cap j] = (List.range (j + 1)).map (Yjr p n cap) := by rw [List.range_succ, List.map_append]; rfl
 rw [e4] at ho
 obtain ⟨q, c, rfl, h1, h2, h3, h4, h5⟩ := Y2v ho (by simp)
 unfold Yvu
 rw [hK]
 exact ⟨q, c, rfl, hb, Y5l h4 (by simp), h5⟩
set_option maxHeartbeats 2000000 in
theorem Ymg (w : World) (p : Option Addr) (n cap : Nat) (hp : 16384 < n → ∃ b off, p = some ⟨b, off, none⟩) (hn : n ≤ 1000000) (hc : n ≤ cap) (hc2 : cap ≤ maxLen) :
  Calls Tryz.prog 80 #[.slice p n cap, .int .i64 16384] w (Yvu w p n cap) := by
 obtain ⟨i0, hi, hz0, hz1, hz2⟩ := info_parts Tryz.infoT
 have HP := Lib.hid hp
 have hcm : cap ≤ 9223372036854775807 := by unfold maxLen at hc2; omega
 have HS0 : Hid (SplT w w p n cap 0 n cap p (.slice none 0 0)) := Lib.hid ⟨by rw [Nat.zero_mul, Yjw], by omega, by omega, .inl rfl, ⟨rfl, .inl ⟨rfl, rfl⟩⟩, Below.refl _ _⟩
 clear hp hc2
 go_enter Tryz.func80, Tryz.ntmps80
 go_wp2_with fail
 go_loopw [0, 5] (fun s0 s5 wr => ∃ (j r cc : Nat) (A : Option Addr) (v : Value), s0 = .slice A r cc ∧ s5 = v ∧ r ≤ n ∧ r ≤ cc ∧ cc ≤ cap ∧ j ≤ n ∧ Hid (SplT w wr p n cap j r cc A v)) (fun s0 _ _ => lenS s0)
 case atStart => exact ⟨0, n, cap, p, _, rfl, rfl, by omega, by omega, by omega, by omega, HS0⟩
 case round =>
  obtain ⟨j, r, cc, A, s5, rfl, hs5, hrn, hrc, hcc, hjn, HS⟩ := hrel
  have hs52 := hs5.symm
  subst hs52
  clear hs5 HS0
  by_cases hlt : 16384 < r
  ·have ql : decide ((16384 : Int) < (r : Int)) = true := decide_eq_true (by omega)
   have her := HS.out.er
   have hj1 : j + 1 ≤ n := by omega
   obtain ⟨b, off, hpe⟩ := HP.out (by omega)
   obtain ⟨o, ho⟩ : ∃ o, o = off + j * 49152 := ⟨_, rfl⟩
   have hA : A = some ⟨b, o, none⟩ := by rw [HS.out.ea, hpe, Y65, ho]
   have HA1 : Hid (some ⟨b, o + 49152, none⟩ = shA p ((j + 1) * 49152)) := Lib.hid (by rw [hpe, Y65, ho]; congr 2; omega)
   have HPE := Lib.hid hpe
   subst hA
   have hh := fun W => headT W b o r cc (by omega)
   have ht := fun W => tailT W b o r cc hlt hrc
   have hba : Below wr.heap.size wr (wr.alloc (.cells #[.slice (some ⟨b, o, none⟩) 16384 cc] 89)) := (Below.refl _ wr).alloc (Nat.le_refl _) _
   have HOW := Lib.hid (Y3k HS.out.own hba)
   have HBA := Lib.hid (HS.out.bel.trans (hba.mono HS.out.bel.size))
   have HJ := Lib.hid (show j + 1 ≤ 1000000 by omega)
   have HCE : Hid (∀ i u, [Value.slice (some ⟨b, o, none⟩) 16384 cc][i]? = some u → (wr.alloc (.cells #[.slice (some ⟨b, o, none⟩) 16384 cc] 89)).cell? ((⟨wr.heap.size, 0, none⟩ : Addr).add i) = some u) := Lib.hid fun i u hiu => by
    have hi0 : i = 0 := by have := (List.getElem?_eq_some_iff.1 hiu).1; simp at this; omega
    subst hi0
    rw [Y08]
    have hu : Value.slice (some ⟨b, o, none⟩) 16384 cc = u := by simpa using hiu
    rw [← hu]
    exact Y3z wr _ _
   clear hba ho hpe her
   go_wp2_with (at_builtin; refine Y1v Tryz.underlying138 hi hz0 hz1 hz2 rfl rfl _ _ rfl w.heap.size s5 j ((List.range j).map (Yjr p n cap)) rfl HOW.out ⟨wr.heap.size, 0, none⟩ [.slice (some ⟨b, o, none⟩) 16384 cc] rfl HCE.out (fun u hu => by rw [List.mem_singleton.1 hu]; rfl) HJ.out HBA.out.size ?_; intro v5 w5 ho5 hb5; have HO5 := Lib.hid ho5; have HB5 := Lib.hid (HBA.out.trans hb5); clear ho5 hb5)
   have HN := Lib.hid (HS.out.step hlt hrc HA1.out HO5.out HB5.out)
   clear hh HOW HCE
   go_roundw
   case rel => exact ⟨j + 1, r - 16384, cc - 16384, _, v5, rfl, rfl, by omega, by omega, by omega, by omega, HN⟩
   case measure => simp [lenS]; omega
  ·have ql : decide ((16384 : Int) < (r : Int)) = false := decide_eq_false (by omega)
   have hba : Below wr.heap.size wr (wr.alloc (.cells #[.slice A r cc] 89)) := (Below.refl _ wr).alloc (Nat.le_refl _) _
   have HOW := Lib.hid (Y3k HS.out.own hba)
   have HBA := Lib.hid (HS.out.bel.trans (hba.mono HS.out.bel.size))
   have her := HS.out.er
   have HJ := Lib.hid (show j + 1 ≤ 1000000 + 1 by omega)
   have HCE : Hid (∀ i u, [Value.slice A r cc][i]? = some u → (wr.alloc (.cells #[.slice A r cc] 89)).cell? ((⟨wr.heap.size, 0, none⟩ : Addr).add i) = some u) := Lib.hid fun i u hiu => by
    have hi0 : i = 0 := by have := (List.getElem?_eq_some_iff.1 hiu).1; simp at this; omega
    subst hi0
    rw [Y08]
    have hu : Value.slice A r cc = u := by simpa using hiu
    rw [← hu]
    exact Y3z wr _ _
   have HJ2 := Lib.hid (show j + 1 ≤ 1000000 by have := HS.out.lt; omega)
   clear hba her
   go_wp2_with (at_builtin; refine Y1v Tryz.underlying138 hi hz0 hz1 hz2 rfl rfl _ _ rfl w.heap.size s5 j ((List.range j).map (Yjr p n cap)) rfl HOW.out ⟨wr.heap.size, 0, none⟩ [.slice A r cc] rfl HCE.out (fun u hu => by rw [List.mem_singleton.1 hu]; rfl) HJ2.out HBA.out.size ?_; intro v5 w5 ho5 hb5; have HO5 := Lib.hid ho5; have HB5 := Lib.hid (HBA.out.trans hb5); clear ho5 hb5)
   have HN := Lib.hid (HS.out.done (by omega) HO5.out HB5.out)
   clear HOW HCE
   go_ret
   exact HN.out
end Go.Proofs.YtkkfkmoikcmhoaaGreat.Df

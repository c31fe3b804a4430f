/- BitS, HfB, HfN, HfO: merged. -/
import Derived.ChangeKeysEq
import Derived.Laws.Pointers
import Derived.Test.YtkkfkmoikcmhoaaGreatAaa
import Derived.Test.YtkkfkmoikcmhoaaGreatAaf
import Derived.Test.YtkkfkmoikcmhoaaGreatAai
set_option linter.unusedVariables false
set_option linter.unusedSimpArgs false
namespace Go.Proofs.YtkkfkmoikcmhoaaGreat.Bit
open Go.RowKit Oct
set_option maxRecDepth 20000
def Y6s (xs : List UInt8) : Bool := xs.all fun c => c == 48 || c == 49
theorem Ymw (xs : List UInt8) (k : Nat) (h : k < xs.length) : Y6s (xs.take (k + 1)) = (Y6s (xs.take k) && (xs[k] == 48 || xs[k] == 49)) := by
 unfold Y6s
 rw [Y3e xs k h, List.all_append]
 simp
theorem Ygq (xs : List UInt8) (k : Nat) (h : k < xs.length) (h0 : xs[k] ≠ 48) (h1 : xs[k] ≠ 49) : Y6s xs = false := by
 unfold Y6s
 rw [List.all_eq_false]
 exact ⟨xs[k], List.getElem_mem h, by simp [h0, h1]⟩
theorem Ygs {xs : List UInt8} (h : Y6s xs = true) : ∃ l : List Bool, xs = l.map dig := by
 refine ⟨xs.map fun c => c == 49, ?_⟩
 rw [List.map_map]
 have h' := List.all_eq_true.1 h
 conv => lhs; rw [← List.map_id xs]
 refine List.map_congr_left fun c hc => ?_
 have := h' c hc
 simp at this
 rcases this with rfl | rfl <;> rfl
theorem Ygr (l : List Bool) : Y6s (l.map dig) = true := by
 unfold Y6s
 rw [List.all_eq_true]
 intro c hc
 simp at hc
 rcases hc with ⟨_, rfl⟩ | ⟨_, rfl⟩ <;> rfl
theorem Yuv (x : UInt8) (n : Nat) (hn : n < 256) (h : x ≠ UInt8.ofNat n) : ((x.toNat : Int) != (n : Int)) = true := by
 simp
 intro e
 apply h
 apply UInt8.toNat_inj.1
 rw [UInt8.toNat_ofNat', Nat.mod_eq_of_lt hn]
 omega
set_option maxHeartbeats 400000 in
theorem Ylo (xs : List UInt8) (w : World) (hs : xs.length ≤ 2000000) : Calls Tryz.prog 167 #[.string (bs xs)] w fun e w' => e = .returned (.bool (Y6s xs)) ∧ w = w' := by
 have hsz := Yh0 xs
 go_enter Tryz.func167, Tryz.ntmps167
 go_wp2_with fail
 go_loop [3, 6] (fun u i => ∃ k : Nat, k ≤ xs.length ∧ i = .int .i64 (k : Int) ∧ Hid (Y6s (xs.take k) = true)) (fun _ i => xs.length - (intOf i).toNat)
 case atStart => exact ⟨0, Nat.zero_le _, rfl, rfl⟩
 case round =>
  obtain ⟨k, hk, rfl, hH⟩ := hrel
  by_cases hlt : k < xs.length
  ·obtain ⟨x, hx⟩ : ∃ x, x = xs[k] := ⟨_, rfl⟩
   have hg : ∀ h, (bs xs)[k]'h = x := fun h => (Ynq xs k h hlt).trans hx.symm
   have HT := Lib.hid (Ymw xs k hlt)
   have HB := Lib.hid (Ygq xs k hlt)
   rw [← hx] at HT HB
   clear hx
   by_cases h48 : x = 48
   ·subst h48
    have hb1 : (((48 : UInt8).toNat : Int) != 48) = false := by decide
    go_wp2_with fail
    go_round
    case rel => exact ⟨k + 1, by omega, by go_num, by show Y6s (xs.take (k + 1)) = true; rw [HT.out, hH.out]; rfl⟩
    case measure => simp [intOf]; omega
   ·by_cases h49 : x = 49
    ·subst h49
     have hb1 : (((49 : UInt8).toNat : Int) != 48) = true := by decide
     have hb2 : (((49 : UInt8).toNat : Int) != 49) = false := by decide
     go_wp2_with fail
     go_round
     case rel => exact ⟨k + 1, by omega, by go_num, by show Y6s (xs.take (k + 1)) = true; rw [HT.out, hH.out]; rfl⟩
     case measure => simp [intOf]; omega
    ·have hb1 := Yuv x 48 (by omega) h48
     have hb2 := Yuv x 49 (by omega) h49
     have hbad := HB.out h48 h49
     have HBAD := Lib.hid hbad
     simp only [Int.cast_ofNat_Int] at hb1 hb2
     clear h48 h49 hbad
     go_wp2_with fail
     go_ret
     exact ⟨by rw [HBAD.out]; rfl, rfl⟩
  ·have hkl : k = xs.length := by omega
   subst hkl
   have hH' := hH.out
   rw [List.take_length] at hH'
   have HW := Lib.hid hH'
   clear hH'
   go_wp2_with fail
   go_ret
   exact ⟨by rw [HW.out]; rfl, rfl⟩
end Go.Proofs.YtkkfkmoikcmhoaaGreat.Bit
namespace Go.Proofs.YtkkfkmoikcmhoaaGreat.Hf
open Go.RowKit Oct Bit
set_option maxRecDepth 20000
def VRow (w : World) (C : Nat) (p : Option Addr) (vs : List Value) : Prop :=
 0 < vs.length → ∃ b off, p = some ⟨b, off, none⟩ ∧ b < C ∧ ∀ i (h : i < vs.length), w.cell? ⟨b, off + i, none⟩ = some vs[i]
theorem VRow.below {w w' : World} {C B : Nat} {p : Option Addr} {vs : List Value} (h : VRow w C p vs) (hb : Below B w w') (hC : C ≤ B) : VRow w' C p vs := by
 intro hp
 obtain ⟨b, off, rfl, hlt, hc⟩ := h hp
 exact ⟨b, off, rfl, hlt, fun i hi => (hb.cell (p := ⟨b, off + i, none⟩) (by show b < B; omega)).trans (hc i hi)⟩
theorem VRow.mono {w : World} {C D : Nat} {p : Option Addr} {vs : List Value} (h : VRow w C p vs) (hC : C ≤ D) : VRow w D p vs := by
 intro hp
 obtain ⟨b, off, rfl, hlt, hc⟩ := h hp
 exact ⟨b, off, rfl, by omega, hc⟩
def ints (zs : List Int) : List Value := zs.map fun z => .int .i64 z
def strs (L : List (List UInt8)) : List Value := L.map fun s => .string (bs s)
theorem Y06 (zs : List Int) : (ints zs).length = zs.length := by simp [ints]
theorem Y14 (L : List (List UInt8)) : (strs L).length = L.length := by simp [strs]
theorem Ya9 (L M : List Int) : ints (L ++ M) = ints L ++ ints M := by simp [ints]
theorem Y96 {zs : List Int} : ∀ v ∈ ints zs, v.oneCell' = true := by
 intro v hv
 simp [ints] at hv
 obtain ⟨x, _, rfl⟩ := hv
 rfl
theorem Ydz {L : List (List UInt8)} : ∀ v ∈ strs L, v.oneCell' = true := by
 intro v hv
 simp [strs] at hv
 obtain ⟨x, _, rfl⟩ := hv
 rfl
theorem VRow.int {w : World} {C : Nat} {b off : Nat} {zs : List Int} (h : VRow w C (some ⟨b, off, none⟩) (ints zs)) (i : Nat) (hi : i < zs.length) : w.cell? ⟨b, off + i, none⟩ = some (.int .i64 zs[i]) := by
 obtain ⟨b', off', e, hlt, hc⟩ := h (by rw [Y06]; omega)
 injection e with e
 injection e with e1 e2
 subst e1; subst e2
 have := hc i (by rw [Y06]; exact hi)
 rw [this]
 simp [ints]
theorem VRow.str {w : World} {C : Nat} {b off : Nat} {L : List (List UInt8)} (h : VRow w C (some ⟨b, off, none⟩) (strs L)) (i : Nat) (hi : i < L.length) : w.cell? ⟨b, off + i, none⟩ = some (.string (bs L[i])) := by
 obtain ⟨b', off', e, hlt, hc⟩ := h (by rw [Y14]; omega)
 injection e with e
 injection e with e1 e2
 subst e1; subst e2
 have := hc i (by rw [Y14]; exact hi)
 rw [this]
 simp [strs]
theorem VRow.addr {w : World} {C : Nat} {p : Option Addr} {vs : List Value} (h : VRow w C p vs) (hp : 0 < vs.length) : ∃ b off, p = some ⟨b, off, none⟩ ∧ b < C := by
 obtain ⟨b, off, e, hlt, _⟩ := h hp
 exact ⟨b, off, e, hlt⟩
theorem Y3a {w : World} {g C : Nat} {vs : List Value} {T : TypeId} {fr : Nat × Nat} (h : w.heap[g]? = some (.cells vs.toArray T fr)) (hC : g < C) : VRow w C (some ⟨g, 0, none⟩) vs := by
 intro hp
 refine ⟨g, 0, rfl, hC, fun i hi => ?_⟩
 simp [World.cell?, h, hi]
theorem Y2v {w : World} {base n e : Nat} {v : Value} {vs : List Value} (h : w.ownsRow base e 1 v n vs) (hn : vs.length = n) :
  ∃ q c, v = .slice q n c ∧ (q = none → c = 0) ∧ n ≤ c ∧ c ≤ maxLen ∧ VRow w w.heap.size q vs ∧ ∀ a, q = some a → base ≤ a.block := by
 have hl := fun k hk => h.lt k hk
 have hc := fun g hg => h.cells (g := g) hg
 rcases h.2 with ⟨rfl, h0⟩ | ⟨g, cap, cur, rfl, hb, hh, h1, h2, _, _⟩
 ·subst h0
  have : vs = [] := List.eq_nil_of_length_eq_zero hn
  subst this
  exact ⟨none, 0, rfl, fun _ => rfl, Nat.le_refl _, by simp [maxLen], fun h => absurd h (by simp), fun a h => by cases h⟩
 ·refine ⟨some ⟨g, 0, none⟩, cap, rfl, fun h => (by cases h), h1, h2, fun hp => ⟨g, 0, rfl, (hl g rfl).2, fun i hi => ?_⟩, fun a h => by injection h with h; subst h; exact hb⟩
  have := hc g rfl i vs[i] (by simp [hi])
  rw [Y08] at this
  exact this
theorem Tryz.infoStr : (Tryz.prog.info? 9).map (fun i => (i.zero, i.size, i.bytes)) = some (some (.string ByteArray.empty), 1, 16) := by kernel_rfl
theorem Tryz.infoInt : (Tryz.prog.info? 3).map (fun i => (i.zero, i.size, i.bytes)) = some (some (.int .i64 0), 1, 8) := by kernel_rfl
theorem Y10 {w : World} {ops : Array Oper} {rest : List Oper} {o : Oper} {a : Act} {Q : Exit → Act → World → Prop} {T e : TypeId} {i0 : TypeInfo} {z : Value} {by_ : Nat}
  (hT : Tryz.prog.underlying T = some (.slice e)) (hi : Tryz.prog.info? e = some i0) (hz0 : i0.zero = some z) (hz1 : i0.size = 1) (hz2 : i0.bytes = by_) (hzc : z.cells = #[z]) (hby2 : by_ ≤ 16)
  (hgd : o.guard = none) (s x : Operand)
  (ho : o.op = .call { callee := .builtin .append, args := #[s, x], argTypes := #[T, T] })
  (base : Nat) (v : Value) (n : Nat) (ys : List Value) (hs : a.eval s = v) (hown : w.ownsRow base e 1 v n ys)
  (p : Option Addr) (m c : Nat) (xs : List Value) (hx : a.eval x = .slice p m c) (hr : VRow w w.heap.size p xs) (hxm : xs.length = m) (hc0 : p = none → c = 0) (h1 : ∀ u ∈ xs, u.oneCell' = true)
  (h47 : n + m ≤ 100000000) (hbase : base ≤ w.heap.size)
  (h : ∀ v' w', w'.ownsRow base e 1 v' (n + m) (ys ++ xs) → w.grownBy w' v.ownBlock → Below base w w' → wpList Tryz.prog ops Q rest (a.put o.dst v') w') :
  wpList Tryz.prog ops Q (o :: rest) a w := by
 rcases p with _ | ad
 ·have hxs : xs = [] := by
   rcases xs with _ | ⟨x, xs⟩
   ·rfl
   ·obtain ⟨b, off, he, _⟩ := hr (by simp)
    cases he
  subst hxs
  simp at hxm
  subst hxm
  have := hc0 rfl
  subst this
  refine wpList_append_own_none hgd s x T ho base e i0 1 hT hi v n ys hs hown hx ?_
  exact h v w (by simpa using hown) (World.grownBy.refl w _) (Below.refl _ _)
 ·refine wpList_append_own w hgd s x T ho base e i0 z 1 by_ hT hi hz0 hz1 hz2 (by rw [hzc]; rfl) (by decide) v n ys hs hown ad m c xs hx (by rw [hxm]; omega) ?_ h1 (by unfold maxLen; omega) ?_ hbase ?_
  ·intro j u hj
   obtain ⟨hj', hju⟩ := List.getElem?_eq_some_iff.1 hj
   obtain ⟨b, off, he, _, hc⟩ := hr (by omega)
   injection he with he
   subst he
   rw [Y08, ← hju]
   exact hc j hj'
  ·have := Nat.mul_le_mul_left (n + m) hby2
   first | omega | (have := Nat.mul_le_mul_left ((n + m) * 1) hby2; omega)
  ·intro v' w' h2 h3 h4
   exact h v' w' h2 h3 (Y1l hown h3 hbase)
def Yv7 (w : World) (vs : List Value) (e : Ending) (w' : World) : Prop :=
 Below w.heap.size w w' ∧ ∃ q cap, e = .returned (.slice q vs.length cap) ∧ VRow w' w'.heap.size q vs ∧ vs.length ≤ cap ∧ cap ≤ maxLen ∧ (q = none → cap = 0) ∧ ∀ a, q = some a → w.heap.size ≤ a.block
set_option maxHeartbeats 400000 in
theorem Y81 (p : Option Addr) (len cap : Nat) (vs : List Value) (w : World) (hr : VRow w w.heap.size p vs) (hx : vs.length = len) (hnil : p = none → cap = 0) (h47 : len ≤ 100000) (h1 : ∀ u ∈ vs, u.oneCell' = true) :
  Calls Tryz.prog 140 #[.slice p len cap] w (Yv7 w vs) := by
 obtain ⟨i0, hi, hz0, hz1, hz2⟩ := info_parts Tryz.infoStr
 rcases p with _ | ad
 ·have hxs : vs = [] := by
   rcases vs with _ | ⟨x, xs⟩
   ·rfl
   ·obtain ⟨b, off, he, _⟩ := hr (by simp)
    cases he
  subst hxs
  simp at hx
  subst hx
  have hcap := hnil rfl
  subst hcap
  clear hnil
  have heq : ∀ w' : World, (binOp .eql 77 (.slice none 0 0) (.slice none 0 0)).run Tryz.prog w' = .ok (.bool true) w' := fun w' => Lib.run_eql_slice_nil (P := Tryz.prog) w' 77 9 none 0 0 0 0 Tryz.underlying77
  go_enter Tryz.func140, Tryz.ntmps140
  go_wp2_with fail
  go_ret
  exact ⟨Below.refl _ _, none, 0, rfl, fun h => absurd h (by simp), by simp, by simp [maxLen], fun _ => rfl, (fun a h => by cases h)⟩
 ·have hown := World.ownsRow_made (base := w.heap.size) (e := 9) (size := 1) w #[] 0 (Nat.le_refl _) (by simp [maxLen]) rfl
  have hba : Below w.heap.size w (w.alloc (.cells #[] 9)) := (Below.refl _ w).alloc (Nat.le_refl _) _
  have hr2 : VRow (w.alloc (.cells #[] 9)) (w.alloc (.cells #[] 9)).heap.size (some ad) vs := (hr.below hba (Nat.le_refl _)).mono (by simp)
  have HX := Lib.hid hx
  have HR2 := Lib.hid hr2
  have HBA := Lib.hid hba
  have H1 := Lib.hid h1
  clear hx hnil hr2 hba hr h1
  have heq : ∀ w' : World, (binOp .eql 77 (.slice (some ad) len cap) (.slice none 0 0)).run Tryz.prog w' = .ok (.bool false) w' := fun w' => Lib.run_eql_slice_nil (P := Tryz.prog) w' 77 9 (some ad) len cap 0 0 Tryz.underlying77
  go_enter Tryz.func140, Tryz.ntmps140
  go_wp2_with (at_builtin; refine Y10 Tryz.underlying77 hi hz0 hz1 hz2 rfl (by decide) rfl _ _ rfl w.heap.size _ 0 [] rfl hown (some ad) len cap vs rfl HR2.out HX.out (fun h => by cases h) H1.out (by omega) (by simp) ?_)
  intro v' w2 hown' hgrow hbel
  obtain ⟨q, cap2, hv', hq0, hgc, hgm, hrow2, hqb⟩ := Y2v hown' HX.out
  rw [hv']
  have HB12 := Lib.hid (HBA.out.trans hbel)
  have HROW := Lib.hid hrow2
  have HGC := Lib.hid hgc
  have HGM := Lib.hid hgm
  have HQB := Lib.hid hqb
  have HQ0 := Lib.hid hq0
  clear hown hown' hgrow hbel hv' hrow2 hgc hgm hqb hq0
  go_wp2_with fail
  go_ret
  refine ⟨HB12.out, q, cap2, by rw [HX.out]; simp, HROW.out, by have := HGC.out; rw [HX.out]; omega, HGM.out, HQ0.out, HQB.out⟩
set_option maxHeartbeats 400000 in
theorem Yky (p : Option Addr) (len cap : Nat) (vs : List Value) (w : World) (hr : VRow w w.heap.size p vs) (hx : vs.length = len) (hnil : p = none → cap = 0) (h47 : len ≤ 100000) (h1 : ∀ u ∈ vs, u.oneCell' = true) :
  Calls Tryz.prog 165 #[.slice p len cap] w (Yv7 w vs) := by
 obtain ⟨i0, hi, hz0, hz1, hz2⟩ := info_parts Tryz.infoInt
 rcases p with _ | ad
 ·have hxs : vs = [] := by
   rcases vs with _ | ⟨x, xs⟩
   ·rfl
   ·obtain ⟨b, off, he, _⟩ := hr (by simp)
    cases he
  subst hxs
  simp at hx
  subst hx
  have hcap := hnil rfl
  subst hcap
  clear hnil
  have heq : ∀ w' : World, (binOp .eql 74 (.slice none 0 0) (.slice none 0 0)).run Tryz.prog w' = .ok (.bool true) w' := fun w' => Lib.run_eql_slice_nil (P := Tryz.prog) w' 74 3 none 0 0 0 0 Tryz.underlying74
  go_enter Tryz.func165, Tryz.ntmps165
  go_wp2_with fail
  go_ret
  exact ⟨Below.refl _ _, none, 0, rfl, fun h => absurd h (by simp), by simp, by simp [maxLen], fun _ => rfl, (fun a h => by cases h)⟩
 ·have hown := World.ownsRow_made (base := w.heap.size) (e := 3) (size := 1) w #[] 0 (Nat.le_refl _) (by simp [maxLen]) rfl
  have hba : Below w.heap.size w (w.alloc (.cells #[] 3)) := (Below.refl _ w).alloc (Nat.le_refl _) _
  have hr2 : VRow (w.alloc (.cells #[] 3)) (w.alloc (.cells #[] 3)).heap.size (some ad) vs := (hr.below hba (Nat.le_refl _)).mono (by simp)
  have HX := Lib.hid hx
  have HR2 := Lib.hid hr2
  have HBA := Lib.hid hba
  have H1 := Lib.hid h1
  clear hx hnil hr2 hba hr h1
  have heq : ∀ w' : World, (binOp .eql 74 (.slice (some ad) len cap) (.slice none 0 0)).run Tryz.prog w' = .ok (.bool false) w' := fun w' => Lib.run_eql_slice_nil (P := Tryz.prog) w' 74 3 (some ad) len cap 0 0 Tryz.underlying74
  go_enter Tryz.func165, Tryz.ntmps165
  go_wp2_with (at_builtin; refine Y10 Tryz.underlying74 hi hz0 hz1 hz2 rfl (by decide) rfl _ _ rfl w.heap.size _ 0 [] rfl hown (some ad) len cap vs rfl HR2.out HX.out (fun h => by cases h) H1.out (by omega) (by simp) ?_)
  intro v' w2 hown' hgrow hbel
  obtain ⟨q, cap2, hv', hq0, hgc, hgm, hrow2, hqb⟩ := Y2v hown' HX.out
  rw [hv']
  have HB12 := Lib.hid (HBA.out.trans hbel)
  have HROW := Lib.hid hrow2
  have HGC := Lib.hid hgc
  have HGM := Lib.hid hgm
  have HQB := Lib.hid hqb
  have HQ0 := Lib.hid hq0
  clear hown hown' hgrow hbel hv' hrow2 hgc hgm hqb hq0
  go_wp2_with fail
  go_ret
  refine ⟨HB12.out, q, cap2, by rw [HX.out]; simp, HROW.out, by have := HGC.out; rw [HX.out]; omega, HGM.out, HQ0.out, HQB.out⟩
end Go.Proofs.YtkkfkmoikcmhoaaGreat.Hf
namespace Go.Proofs.YtkkfkmoikcmhoaaGreat.Hf
open Go.RowKit Oct Bit
set_option maxRecDepth 100000
theorem Ydx {p q : List Bool} {x y : Bool} (h : p ++ [x] = q ++ [y]) : p = q ∧ x = y := by
 obtain ⟨h1, h2⟩ := List.append_inj' h rfl
 injection h2 with h2
 exact ⟨h1, h2⟩
theorem Yy1 (p : List Bool) (x y : Bool) : p ++ [x] ++ [y] ≠ p ++ [x] := fun h => by
 have := congrArg List.length h
 simp at this
def Yjs : Option (Nat × Nat) → Value
 | none => .pointer none
 | some (b, o) => .pointer (some ⟨b, o, none⟩)
structure Tr (w : World) (C g : Nat) (v0 v1 : Value) (A : List Bool → Option (Nat × Nat)) (E : List Bool → Option Nat) : Prop where
 root : A [] = some (g, 2)
 lo : ∀ p b o, A p = some (b, o) → g ≤ b ∧ b < C
 n0 : ∀ p b o, A p = some (b, o) → w.cell? ⟨b, o, none⟩ = some (Yjs (A (p ++ [false])))
 n1 : ∀ p b o, A p = some (b, o) → w.cell? ⟨b, o + 1, none⟩ = some (Yjs (A (p ++ [true])))
 ne : ∀ p b o, A p = some (b, o) → w.cell? ⟨b, o + 2, none⟩ = some (.bool (E p).isSome)
 ni : ∀ p b o, A p = some (b, o) → w.cell? ⟨b, o + 3, none⟩ = some (.int .i64 (((E p).getD 0 : Nat) : Int))
 fz : ∀ p b o, A p = some (b, o) → ∀ i, w.frozen? ⟨b, i, none⟩ = false
 o2 : ∀ p o, A p = some (g, o) → o = 2
 inj : ∀ p q b o o', A p = some (b, o) → A q = some (b, o') → p = q
 up : ∀ p x, A (p ++ [x]) ≠ none → A p ≠ none
 en : ∀ p, E p ≠ none → A p ≠ none
 h0 : w.cell? ⟨g, 0, none⟩ = some v0
 h1 : w.cell? ⟨g, 1, none⟩ = some v1
section
variable {w w' : World} {C g : Nat} {v0 v1 : Value} {A : List Bool → Option (Nat × Nat)} {E : List Bool → Option Nat}
theorem Tr.mono {D : Nat} (h : Tr w C g v0 v1 A E) (hD : C ≤ D) : Tr w D g v0 v1 A E :=
 ⟨h.root, fun p b o e => ⟨(h.lo p b o e).1, by have := (h.lo p b o e).2; omega⟩, h.n0, h.n1, h.ne, h.ni, h.fz, h.o2, h.inj, h.up, h.en, h.h0, h.h1⟩
def Yed (A : List Bool → Option (Nat × Nat)) (p : List Bool) (v : Nat × Nat) : List Bool → Option (Nat × Nat) := fun q => if q = p then some v else A q
def Yrb (E : List Bool → Option Nat) (p : List Bool) (i : Nat) : List Bool → Option Nat := fun q => if q = p then some i else E q
def Ybj : Array Value := #[.pointer none, .pointer none, .bool false, .int .i64 0]
theorem Tr.grow (h : Tr w w.heap.size g v0 v1 A E) {p : List Bool} {b o : Nat} (hp : A p = some (b, o)) (x : Bool) (hx : A (p ++ [x]) = none) :
  Tr ((w.alloc (.cells Ybj 211)).setCell ⟨b, o + x.toNat, none⟩ (.pointer (some ⟨w.heap.size, 0, none⟩))) (w.heap.size + 1) g v0 v1 (Yed A (p ++ [x]) (w.heap.size, 0)) E := by
 have hbl := h.lo p b o hp
 have hg : g < w.heap.size := (h.lo _ _ _ h.root).2
 -- a cell of an elder block that is not the one that is set
 have far : ∀ c i, c < w.heap.size → (c = b → i ≠ o + x.toNat) → ((w.alloc (.cells Ybj 211)).setCell ⟨b, o + x.toNat, none⟩ (.pointer (some ⟨w.heap.size, 0, none⟩))).cell? ⟨c, i, none⟩ = w.cell? ⟨c, i, none⟩ := by
  intro c i hc hne
  rw [World.cell?_setCell_other _ _ _ _ (by
   intro e
   injection e with e1 e2
   exact hne e1.symm e2.symm)]
  exact World.cell?_alloc_lt _ _ _ hc
 have new : ∀ i, ((w.alloc (.cells Ybj 211)).setCell ⟨b, o + x.toNat, none⟩ (.pointer (some ⟨w.heap.size, 0, none⟩))).cell? ⟨w.heap.size, i, none⟩ = Ybj[i]? := by
  intro i
  rw [World.cell?_setCell_other _ _ _ _ (by
   intro e
   injection e with e1 e2
   omega)]
  simp
 have same : ((w.alloc (.cells Ybj 211)).setCell ⟨b, o + x.toNat, none⟩ (.pointer (some ⟨w.heap.size, 0, none⟩))).cell? ⟨b, o + x.toNat, none⟩ = some (.pointer (some ⟨w.heap.size, 0, none⟩)) := by
  have hold : ∃ u, (w.alloc (.cells Ybj 211)).cell? ⟨b, o + x.toNat, none⟩ = some u := by
   cases x
   ·exact ⟨_, (World.cell?_alloc_lt _ _ _ hbl.2).trans (h.n0 p b o hp)⟩
   ·exact ⟨_, (World.cell?_alloc_lt _ _ _ hbl.2).trans (h.n1 p b o hp)⟩
  obtain ⟨u, hu⟩ := hold
  exact World.cell?_setCell_same _ _ _ hu
 have kid : ∀ y, Yed A (p ++ [x]) (w.heap.size, 0) (p ++ [x] ++ [y]) = none := by
  intro y
  unfold Yed
  rw [if_neg (Yy1 p x y)]
  rcases hc : A (p ++ [x] ++ [y]) with _ | v
  ·rfl
  ·exact absurd hx (h.up _ y (by rw [hc]; simp))
 have hE : E (p ++ [x]) = none := by
  rcases hc : E (p ++ [x]) with _ | v
  ·rfl
  ·exact absurd hx (h.en _ (by rw [hc]; simp))
 have other : ∀ q y, q ≠ p → Yed A (p ++ [x]) (w.heap.size, 0) (q ++ [y]) = A (q ++ [y]) := by
  intro q y hq
  unfold Yed
  rw [if_neg (fun e => hq (Ydx e).1)]
 have sib : ∀ y, y ≠ x → Yed A (p ++ [x]) (w.heap.size, 0) (p ++ [y]) = A (p ++ [y]) := by
  intro y hy
  unfold Yed
  rw [if_neg (fun e => hy (Ydx e).2)]
 have mine : Yed A (p ++ [x]) (w.heap.size, 0) (p ++ [x]) = some (w.heap.size, 0) := by unfold Yed; rw [if_pos rfl]
 have cases_ : ∀ q c d, Yed A (p ++ [x]) (w.heap.size, 0) q = some (c, d) → (q = p ++ [x] ∧ c = w.heap.size ∧ d = 0) ∨ (q ≠ p ++ [x] ∧ A q = some (c, d)) := by
  intro q c d e
  unfold Yed at e
  by_cases hq : q = p ++ [x]
  ·rw [if_pos hq] at e
   injection e with e
   injection e with e1 e2
   exact .inl ⟨hq, e1.symm, e2.symm⟩
  ·rw [if_neg hq] at e
   exact .inr ⟨hq, e⟩
 refine ⟨?_, ?_, ?_, ?_, ?_, ?_, ?_, ?_, ?_, ?_, ?_, ?_, ?_⟩
 ·unfold Yed
  rw [if_neg (by intro e; have := congrArg List.length e; simp at this)]
  exact h.root
 ·intro q c d e
  rcases cases_ q c d e with ⟨_, rfl, rfl⟩ | ⟨_, e⟩
  ·exact ⟨by omega, by omega⟩
  ·have := h.lo q c d e; exact ⟨this.1, by omega⟩
 ·intro q c d e
  rcases cases_ q c d e with ⟨rfl, rfl, rfl⟩ | ⟨hq, e'⟩
  ·rw [new, kid]; rfl
  ·clear e
   have e := e'
   clear e'
   have hl := (h.lo q c d e).2
   by_cases hqp : q = p
   ·subst hqp
    rw [hp] at e
    injection e with e
    injection e with e1 e2
    subst e1; subst e2
    cases x
    ·rw [mine]; exact same
    ·rw [sib _ (by simp), far b o hl (by intro _; simp)]; exact h.n0 q b o hp
   ·rw [other q _ hqp, far c d hl (by intro hcb; subst hcb; exact absurd (h.inj q p c d o e hp) hqp)]
    exact h.n0 q c d e
 ·intro q c d e
  rcases cases_ q c d e with ⟨rfl, rfl, rfl⟩ | ⟨hq, e'⟩
  ·rw [new, kid]; rfl
  ·clear e
   have e := e'
   clear e'
   have hl := (h.lo q c d e).2
   by_cases hqp : q = p
   ·subst hqp
    rw [hp] at e
    injection e with e
    injection e with e1 e2
    subst e1; subst e2
    cases x
    ·rw [sib _ (by simp), far b (o + 1) hl (by intro _; simp)]; exact h.n1 q b o hp
    ·rw [mine]; exact same
   ·rw [other q _ hqp, far c (d + 1) hl (by intro hcb; subst hcb; exact absurd (h.inj q p c d o e hp) hqp)]
    exact h.n1 q c d e
 ·intro q c d e
  rcases cases_ q c d e with ⟨rfl, rfl, rfl⟩ | ⟨hq, e'⟩
  ·rw [new, hE]; rfl
  ·clear e
   have e := e'
   clear e'
   have hl := (h.lo q c d e).2
   rw [far c (d + 2) hl (by
    intro hcb; subst hcb
    have hqp := h.inj q p c d o e hp
    subst hqp
    rw [hp] at e
    injection e with e
    injection e with _ e2
    cases x <;> simp <;> omega)]
   exact h.ne q c d e
 ·intro q c d e
  rcases cases_ q c d e with ⟨rfl, rfl, rfl⟩ | ⟨hq, e'⟩
  ·rw [new, hE]; rfl
  ·clear e
   have e := e'
   clear e'
   have hl := (h.lo q c d e).2
   rw [far c (d + 3) hl (by
    intro hcb; subst hcb
    have hqp := h.inj q p c d o e hp
    subst hqp
    rw [hp] at e
    injection e with e
    injection e with _ e2
    cases x <;> simp <;> omega)]
   exact h.ni q c d e
 ·intro q c d e i
  rw [World.frozen?_setCell]
  rcases cases_ q c d e with ⟨rfl, rfl, rfl⟩ | ⟨hq, e'⟩
  ·simp
  ·clear e
   have e := e'
   clear e'
   have hl := (h.lo q c d e).2
   rw [World.frozen?_alloc_past _ _ _ hl]
   exact h.fz q c d e i
 ·intro q d e
  rcases cases_ q _ d e with ⟨_, hgs, _⟩ | ⟨_, e⟩
  ·omega
  ·exact h.o2 q d e
 ·intro q r c d d' e1 e2
  rcases cases_ q c d e1 with ⟨rfl, rfl, rfl⟩ | ⟨hq, e1⟩
  ·rcases cases_ r _ d' e2 with ⟨rfl, _, _⟩ | ⟨hr, e2⟩
   ·rfl
   ·have := (h.lo r _ d' e2).2; omega
  ·rcases cases_ r _ d' e2 with ⟨rfl, rfl, _⟩ | ⟨hr, e2⟩
   ·have := (h.lo q _ d e1).2; omega
   ·exact h.inj q r c d d' e1 e2
 ·intro q y hqy
  by_cases hq : q = p
  ·subst hq
   unfold Yed
   split
   ·simp
   ·rw [hp]; simp
  ·by_cases hq2 : q = p ++ [x]
   ·subst hq2; exact absurd (kid y) hqy
   ·rw [other q y hq] at hqy
    unfold Yed
    rw [if_neg hq2]
    exact h.up q y hqy
 ·intro q hq
  unfold Yed
  split
  ·simp
  ·exact h.en q hq
 ·rw [far g 0 hg (by
   intro e; subst e
   have := h.o2 p o hp
   omega)]
  exact h.h0
 ·rw [far g 1 hg (by
   intro e; subst e
   have := h.o2 p o hp
   omega)]
  exact h.h1
theorem Tr.ends (h : Tr w C g v0 v1 A E) {p : List Bool} {b o : Nat} (hp : A p = some (b, o)) (i : Nat) :
  Tr ((w.setCell ⟨b, o + 2, none⟩ (.bool true)).setCell ⟨b, o + 3, none⟩ (.int .i64 (i : Int))) C g v0 v1 A (Yrb E p i) := by
 have hg : g < C := (h.lo _ _ _ h.root).2
 have far : ∀ c j, (c = b → j ≠ o + 2 ∧ j ≠ o + 3) → ((w.setCell ⟨b, o + 2, none⟩ (.bool true)).setCell ⟨b, o + 3, none⟩ (.int .i64 (i : Int))).cell? ⟨c, j, none⟩ = w.cell? ⟨c, j, none⟩ := by
  intro c j hne
  rw [World.cell?_setCell_other _ _ _ _ (by
   intro e
   injection e with e1 e2
   exact (hne e1.symm).2 e2.symm), World.cell?_setCell_other _ _ _ _ (by
   intro e
   injection e with e1 e2
   exact (hne e1.symm).1 e2.symm)]
 have s2 : ((w.setCell ⟨b, o + 2, none⟩ (.bool true)).setCell ⟨b, o + 3, none⟩ (.int .i64 (i : Int))).cell? ⟨b, o + 2, none⟩ = some (.bool true) := by
  rw [World.cell?_setCell_other _ _ _ _ (by
   intro e
   injection e with e1 e2
   omega)]
  exact World.cell?_setCell_same _ _ _ (h.ne p b o hp)
 have s3 : ((w.setCell ⟨b, o + 2, none⟩ (.bool true)).setCell ⟨b, o + 3, none⟩ (.int .i64 (i : Int))).cell? ⟨b, o + 3, none⟩ = some (.int .i64 (i : Int)) := by
  have : (w.setCell ⟨b, o + 2, none⟩ (.bool true)).cell? ⟨b, o + 3, none⟩ = some (.int .i64 (((E p).getD 0 : Nat) : Int)) := by
   rw [World.cell?_setCell_other _ _ _ _ (by
    intro e
    injection e with e1 e2
    omega)]
   exact h.ni p b o hp
  exact World.cell?_setCell_same _ _ _ this
 have off : ∀ q c d, A q = some (c, d) → ∀ k, k < 4 → k ≠ 2 → k ≠ 3 → c = b → d + k ≠ o + 2 ∧ d + k ≠ o + 3 := by
  intro q c d e k h1 h2 h3 hcb
  subst hcb
  have hqp := h.inj q p c d o e hp
  subst hqp
  rw [hp] at e
  injection e with e
  injection e with _ e2
  omega
 have off2 : ∀ q c d, A q = some (c, d) → q ≠ p → c ≠ b := by
  intro q c d e hq hcb
  subst hcb
  exact hq (h.inj q p c d o e hp)
 refine ⟨h.root, h.lo, fun q c d e => ?_, fun q c d e => ?_, fun q c d e => ?_, fun q c d e => ?_, fun q c d e j => ?_, h.o2, h.inj, h.up, fun q hq => ?_, ?_, ?_⟩
 ·rw [far c d (off q c d e 0 (by omega) (by omega) (by omega))]; exact h.n0 q c d e
 ·rw [far c (d + 1) (off q c d e 1 (by omega) (by omega) (by omega))]; exact h.n1 q c d e
 ·unfold Yrb
  by_cases hq : q = p
  ·subst hq
   rw [hp] at e
   injection e with e
   injection e with e1 e2
   subst e1; subst e2
   rw [if_pos rfl]
   exact s2
  ·rw [if_neg hq, far c (d + 2) (fun hcb => absurd hcb (off2 q c d e hq))]; exact h.ne q c d e
 ·unfold Yrb
  by_cases hq : q = p
  ·subst hq
   rw [hp] at e
   injection e with e
   injection e with e1 e2
   subst e1; subst e2
   rw [if_pos rfl]
   exact s3
  ·rw [if_neg hq, far c (d + 3) (fun hcb => absurd hcb (off2 q c d e hq))]; exact h.ni q c d e
 ·rw [World.frozen?_setCell, World.frozen?_setCell]; exact h.fz q c d e j
 ·unfold Yrb at hq
  by_cases hqp : q = p
  ·subst hqp; rw [hp]; simp
  ·rw [if_neg hqp] at hq; exact h.en q hq
 ·rw [far g 0 (by intro e; subst e; have := h.o2 p o hp; omega)]; exact h.h0
 ·rw [far g 1 (by intro e; subst e; have := h.o2 p o hp; omega)]; exact h.h1
end
end Go.Proofs.YtkkfkmoikcmhoaaGreat.Hf
namespace Go.Proofs.YtkkfkmoikcmhoaaGreat.Hf
open Go.RowKit Oct Bit
set_option maxRecDepth 100000
theorem Tryz.infoPNode : (Tryz.prog.info? 208).map (fun i => i.size) = some 1 := by kernel_rfl
theorem Tryz.cellsPNode : Tryz.prog.cellsOf 208 = 1 := by kernel_rfl
theorem Yvz (W : World) (c0 c1 : Option (Nat × Nat)) : (Op.equalIn 10000 209 (.agg #[Yjs c0, Yjs c1]) (.agg #[.pointer none, .pointer none])).run Tryz.prog W = .ok (c0.isNone && c1.isNone) W := by
 obtain ⟨i, hi, hs⟩ := Option.map_eq_some_iff.1 Tryz.infoPNode
 have hp : ∀ c : Option (Nat × Nat), ∃ p : Option Addr, Yjs c = .pointer p ∧ p.isNone = c.isNone := by
  intro c
  rcases c with _ | ⟨b, o⟩
  ·exact ⟨none, rfl, rfl⟩
  ·exact ⟨_, rfl, rfl⟩
 obtain ⟨p0, e0, f0⟩ := hp c0
 obtain ⟨p1, e1, f1⟩ := hp c1
 rw [e0, e1, ← f0, ← f1, run_equalIn_array W 9999 (t := 209) (e := 208) (n := 2) _ _ Tryz.underlying209 hi, Tryz.cellsPNode]
 have hpt : ∀ v u : Value, ∀ k, k < 2 → (part 208 #[v, u] (k * 1)).run Tryz.prog W = .ok (if k = 0 then v else u) W := by
  intro v u k hk
  have hag : (isAgg 208).run Tryz.prog W = .ok false W := by
   unfold isAgg
   rw [Sem.run_bind, run_underlying Tryz.underlying208 W]
   rfl
  rcases k with _ | _ | k
  ·simp [part, Sem.run_bind, hag]
  ·simp [part, Sem.run_bind, hag]
  ·omega
 have hq : ∀ p : Option Addr, (Op.equalIn 9999 208 (.pointer p) (.pointer none)).run Tryz.prog W = .ok p.isNone W := fun p => run_equalIn_pointer_nil W 9998 208 p Tryz.underlying208
 show (Op.eqItems 9999 208 1 _ _ [0, 1]).run Tryz.prog W = _
 simp only [Op.eqItems, Sem.run_bind, hpt _ _ 0 (by omega), hpt _ _ 1 (by omega), if_pos, Result.andThen_ok, hq]
 have h0 : ∀ v u : Value, (part 208 #[v, u] 0).run Tryz.prog W = .ok v W := fun v u => by simpa using hpt v u 0 (by omega)
 have h1 : ∀ v u : Value, (part 208 #[v, u] 1).run Tryz.prog W = .ok u W := fun v u => by simpa using hpt v u 1 (by omega)
 cases p0 <;> cases p1 <;> simp [h0, h1, hq, Result.andThen]
def Yvw (w : World) (g : Nat) (v0 v1 : Value) (A : List Bool → Option (Nat × Nat)) (E : List Bool → Option Nat) (p : List Bool) (x : Bool) (e : Ending) (w' : World) : Prop :=
 ∃ A' b' o', e = .returned (.pointer (some ⟨b', o', none⟩)) ∧ A' (p ++ [x]) = some (b', o') ∧ Tr w' w'.heap.size g v0 v1 A' E ∧ (∀ q, A' q ≠ none ↔ A q ≠ none ∨ q = p ++ [x]) ∧ Below g w w'
set_option maxHeartbeats 1000000 in
theorem Yud (w : World) (g : Nat) (v0 v1 : Value) (A : List Bool → Option (Nat × Nat)) (E : List Bool → Option Nat) (p : List Bool) (b o : Nat) (x : Bool) (h : Tr w w.heap.size g v0 v1 A E) (hp : A p = some (b, o)) :
  Calls Tryz.prog 156 #[.pointer (some ⟨b, o, none⟩), .int .u8 (x.toNat : Int)] w (Yvw w g v0 v1 A E p x) := by
 have hlo := h.lo p b o hp
 have hc : w.cell? ⟨b, o + x.toNat, none⟩ = some (Yjs (A (p ++ [x]))) := by
  cases x
  ·exact h.n0 p b o hp
  ·exact h.n1 p b o hp
 have hf := h.fz p b o hp (o + x.toNat)
 have H := Lib.hid h
 have HP := Lib.hid hp
 have hgb : g ≤ b := hlo.1
 have hbw : b < w.heap.size := hlo.2
 clear h hp hlo
 rcases hx : A (p ++ [x]) with _ | ⟨b', o'⟩
 ·rw [hx] at hc
  have hc : w.cell? ⟨b, o + x.toNat, none⟩ = some (.pointer none) := hc
  have HX := Lib.hid hx
  have hT := H.out.grow HP.out x hx
  have hcell2 : ((w.alloc (.cells Ybj 211)).setCell ⟨b, o + x.toNat, none⟩ (.pointer (some ⟨w.heap.size, 0, none⟩))).cell? ⟨b, o + x.toNat, none⟩ = some (.pointer (some ⟨w.heap.size, 0, none⟩)) := by
   refine World.cell?_setCell_same _ _ _ (u := Yjs none) ?_
   rw [World.cell?_alloc_lt _ _ _ hbw]
   exact hc
  have hB : Below g w ((w.alloc (.cells Ybj 211)).setCell ⟨b, o + x.toNat, none⟩ (.pointer (some ⟨w.heap.size, 0, none⟩))) := ((Below.refl _ w).alloc (by omega) _).setCell (p := ⟨b, o + x.toNat, none⟩) hgb _
  have HT := Lib.hid hT
  have HB := Lib.hid hB
  clear hx hT hB
  unfold Ybj at HT HB hcell2
  have fin : ∀ W', W' = ((w.alloc (.cells Ybj 211)).setCell ⟨b, o + x.toNat, none⟩ (.pointer (some ⟨w.heap.size, 0, none⟩))) → Yvw w g v0 v1 A E p x (.returned (.pointer (some ⟨w.heap.size, 0, none⟩))) W' := by
   intro W' hW
   subst hW
   refine ⟨Yed A (p ++ [x]) (w.heap.size, 0), w.heap.size, 0, rfl, by unfold Yed; rw [if_pos rfl], ?_, fun q => ?_, HB.out⟩
   ·refine HT.out.mono ?_
    simp [World.setCell]
   ·unfold Yed
    by_cases hq : q = p ++ [x]
    ·rw [if_pos hq]; simp [hq]
    ·rw [if_neg hq]; simp [hq]
  have FIN := Lib.hid fin
  clear fin
  cases x
  ·simp only [Bool.toNat_false, Nat.add_zero] at hc hf hcell2 HT HB FIN
   go_enter Tryz.func156, Tryz.ntmps156
   go_wp2_with fail
   go_ret
   exact FIN.out _ (World.setCell_alloc_past _ _ _ _ hbw).symm
  ·simp only [Bool.toNat_true] at hc hf hcell2 HT HB FIN
   go_enter Tryz.func156, Tryz.ntmps156
   go_wp2_with fail
   go_ret
   exact FIN.out _ (World.setCell_alloc_past _ _ _ _ hbw).symm
 ·rw [hx] at hc
  have fin : Yvw w g v0 v1 A E p x (.returned (.pointer (some ⟨b', o', none⟩))) w := ⟨A, b', o', rfl, hx, H.out, fun q => ⟨fun hq => .inl hq, fun hq => by
   rcases hq with hq | rfl
   ·exact hq
   ·rw [hx]; simp⟩, Below.refl _ _⟩
  have FIN := Lib.hid fin
  unfold Yjs at hc
  clear fin hx
  cases x
  ·simp only [Bool.toNat_false, Nat.add_zero] at hc hf FIN
   go_enter Tryz.func156, Tryz.ntmps156
   go_wp2_with fail
   go_ret
   exact FIN.out
  ·simp only [Bool.toNat_true] at hc hf FIN
   go_enter Tryz.func156, Tryz.ntmps156
   go_wp2_with fail
   go_ret
   exact FIN.out
def Bad (A : List Bool → Option (Nat × Nat)) (E : List Bool → Option Nat) (xs : List UInt8) : Prop :=
 Y6s xs = false ∨ ∃ m, xs = m.map dig ∧ ((∃ q, q <+: m ∧ E q ≠ none) ∨ ∃ x, A (m ++ [x]) ≠ none)
def AddP (w : World) (g : Nat) (v0 v1 : Value) (A : List Bool → Option (Nat × Nat)) (E : List Bool → Option Nat) (xs : List UInt8) (i : Nat) (e : Ending) (w' : World) : Prop :=
 Below g w w' ∧ ((∃ m, xs = m.map dig ∧ e = .returned (.int .i64 0) ∧ (∀ q, q <+: m → E q = none) ∧ (∀ x, A (m ++ [x]) = none) ∧ ∃ A', Tr w' w'.heap.size g v0 v1 A' (Yrb E m i) ∧ ∀ q, A' q ≠ none ↔ A q ≠ none ∨ q <+: m) ∨
  (∃ c : Int, c ≠ 0 ∧ e = .returned (.int .i64 c) ∧ Bad A E xs))
structure Add (w : World) (g : Nat) (v0 v1 : Value) (A : List Bool → Option (Nat × Nat)) (E : List Bool → Option Nat) (xs : List UInt8) (k : Nat) (m : List Bool) (A' : List Bool → Option (Nat × Nat)) (b o : Nat) (W : World) : Prop where
 tk : xs.take k = m.map dig
 at_ : A' m = some (b, o)
 tr : Tr W W.heap.size g v0 v1 A' E
 dom : ∀ q, A' q ≠ none ↔ A q ≠ none ∨ q <+: m
 none_ : ∀ q, q <+: m → q ≠ m → E q = none
 bel : Below g w W
theorem Yav {q m : List Bool} {x : Bool} : q <+: m ++ [x] ↔ q <+: m ∨ q = m ++ [x] := by
 constructor
 ·intro h
  obtain ⟨t, ht⟩ := h
  rcases List.eq_nil_or_concat t with rfl | ⟨t', y, rfl⟩
  ·right; simpa using ht
  ·left
   rw [List.concat_eq_append, ← List.append_assoc] at ht
   obtain ⟨h1, _⟩ := Ydx ht
   exact ⟨t', h1⟩
 ·rintro (⟨t, ht⟩ | rfl)
  ·exact ⟨t ++ [x], by rw [← List.append_assoc, ht]⟩
  ·exact List.prefix_refl _
theorem Add.bad {w W : World} {g : Nat} {v0 v1 : Value} {A A' : List Bool → Option (Nat × Nat)} {E : List Bool → Option Nat} {xs : List UInt8} {k b o : Nat} {m : List Bool} (h : Add w g v0 v1 A E xs k m A' b o W) (hE : E m ≠ none) : Bad A E xs := by
 by_cases hw : Y6s xs = true
 ·obtain ⟨l, hl⟩ := Ygs hw
  refine .inr ⟨l, hl, .inl ⟨m, ?_, hE⟩⟩
  have ht := h.tk
  rw [hl, ← List.map_take] at ht
  have hinj : ∀ a b : Bool, dig a = dig b → a = b := by intro a b; cases a <;> cases b <;> simp [dig]
  have : l.take k = m := (List.map_inj_right (f := dig) (fun a b => hinj a b)).1 ht
  rw [← this]
  exact List.take_prefix _ _
 ·exact .inl (by simpa using hw)
theorem Add.step {w W W2 : World} {g : Nat} {v0 v1 : Value} {A A' A2 : List Bool → Option (Nat × Nat)} {E : List Bool → Option Nat} {xs : List UInt8} {k b o b2 o2 : Nat} {m : List Bool} {y : Bool} (h : Add w g v0 v1 A E xs k m A' b o W)
  (hk : k < xs.length) (ht : xs.take (k + 1) = xs.take k ++ [dig y]) (hE : E m = none) (hat : A2 (m ++ [y]) = some (b2, o2)) (htr : Tr W2 W2.heap.size g v0 v1 A2 E) (hdom : ∀ q, A2 q ≠ none ↔ A' q ≠ none ∨ q = m ++ [y]) (hb : Below g W W2) :
  Add w g v0 v1 A E xs (k + 1) (m ++ [y]) A2 b2 o2 W2 := by
 refine ⟨by rw [ht, h.tk]; simp, hat, htr, fun q => ?_, fun q hq hne => ?_, h.bel.trans hb⟩
 ·rw [hdom, h.dom, Yav, or_assoc]
 ·rcases Yav.1 hq with hq | hq
  ·by_cases hqm : q = m
   ·rw [hqm]; exact hE
   ·exact h.none_ q hq hqm
  ·exact absurd hq hne
theorem Yw7 (b : Bool) : (((dig b).toNat : Int) - 48) % 256 = (b.toNat : Int) := by cases b <;> rfl
set_option maxHeartbeats 2000000 in
theorem Yik (w : World) (g : Nat) (v0 v1 : Value) (A : List Bool → Option (Nat × Nat)) (E : List Bool → Option Nat) (xs : List UInt8) (i : Nat) (h : Tr w w.heap.size g v0 v1 A E) (hl : xs.length ≤ 1000000) (hE0 : True) :
  Calls Tryz.prog 141 #[.pointer (some ⟨g, 2, none⟩), .string (bs xs), .int .i64 (i : Int)] w (AddP w g v0 v1 A E xs i) := by
 have hsz := Yh0 xs
 have HS0 := Lib.hid (show Add w g v0 v1 A E xs 0 [] A g 2 w from ⟨by simp, h.root, h, fun q => ⟨fun hq => .inl hq, fun hq => by
  rcases hq with hq | hq
  ·exact hq
  ·have : q = [] := by simpa using hq
   rw [this, h.root]; simp⟩, fun q hq hne => absurd (by simpa using hq) hne, Below.refl _ _⟩)
 clear h
 go_enter Tryz.func141, Tryz.ntmps141
 go_wp2_with fail
 go_loopw [0, 7, 8, 11] (fun n u c i wr => ∃ (k : Nat) (m : List Bool) (A' : List Bool → Option (Nat × Nat)) (b o : Nat), k ≤ xs.length ∧ i = .int .i64 (k : Int) ∧ n = .pointer (some ⟨b, o, none⟩) ∧ Hid (Add w g v0 v1 A E xs k m A' b o wr)) (fun _ _ _ i _ => xs.length - (intOf i).toNat)
 case atStart => exact ⟨0, [], A, g, 2, by omega, rfl, rfl, HS0⟩
 case round =>
  obtain ⟨k, m, A', b, o, hk, rfl, rfl, HA⟩ := hrel
  have hne := HA.out.tr.ne m b o HA.out.at_
  by_cases hlt : k < xs.length
  ·obtain ⟨x, hx⟩ : ∃ x, x = xs[k] := ⟨_, rfl⟩
   have hg : ∀ h, (bs xs)[k]'h = x := fun h => (Ynq xs k h hlt).trans hx.symm
   have HB := Lib.hid (Ygq xs k hlt)
   have HTK := Lib.hid (Y3e xs k hlt)
   rw [← hx] at HB HTK
   have hd : decide ((k : Int) < (xs.length : Int)) = true := by simp; omega
   clear hx
   by_cases hbit : x = 48 ∨ x = 49
   ·obtain ⟨y, rfl⟩ : ∃ y, x = dig y := by
     rcases hbit with rfl | rfl
     ·exact ⟨false, rfl⟩
     ·exact ⟨true, rfl⟩
    clear HB hbit
    have hval := Yw7 y
    rcases hEm : E m with _ | j
    ·rw [hEm] at hne
     have hne : wr.cell? ⟨b, o + 2, none⟩ = some (.bool false) := hne
     have HSU := Lib.hid (Yud wr g v0 v1 A' E m b o y HA.out.tr HA.out.at_)
     have HEM := Lib.hid hEm
     have HV := Lib.hid hval
     clear hEm hval
     cases y
     ·have ht1 : (((dig false).toNat : Int) != 48) = false := rfl
      go_wp2_with fail
      rw [HV.out]
      refine HSU.out.mono ?_
      rintro e w' ⟨A2, b2, o2, rfl, hat, htr, hdom, hbel⟩
      have HN := Lib.hid (HA.out.step hlt HTK.out HEM.out hat htr hdom hbel)
      clear hat htr hdom hbel hne
      go_wp2_with fail
      go_roundw
      case rel => exact ⟨k + 1, m ++ [false], A2, b2, o2, by omega, by go_num, rfl, HN⟩
      case measure => simp [intOf]; omega
     ·have ht1 : (((dig true).toNat : Int) != 48) = true := rfl
      have ht2 : (((dig true).toNat : Int) != 49) = false := rfl
      go_wp2_with fail
      rw [HV.out]
      refine HSU.out.mono ?_
      rintro e w' ⟨A2, b2, o2, rfl, hat, htr, hdom, hbel⟩
      have HN := Lib.hid (HA.out.step hlt HTK.out HEM.out hat htr hdom hbel)
      clear hat htr hdom hbel hne
      go_wp2_with fail
      go_roundw
      case rel => exact ⟨k + 1, m ++ [true], A2, b2, o2, by omega, by go_num, rfl, HN⟩
      case measure => simp [intOf]; omega
    ·rw [hEm] at hne
     have hne : wr.cell? ⟨b, o + 2, none⟩ = some (.bool true) := hne
     have HBAD := Lib.hid (HA.out.bad (by rw [hEm]; simp))
     clear hEm hval
     cases y
     ·have ht1 : (((dig false).toNat : Int) != 48) = false := rfl
      go_wp2_with fail
      go_ret
      exact ⟨HA.out.bel, .inr ⟨14, by decide, rfl, HBAD.out⟩⟩
     ·have ht1 : (((dig true).toNat : Int) != 48) = true := rfl
      have ht2 : (((dig true).toNat : Int) != 49) = false := rfl
      go_wp2_with fail
      go_ret
      exact ⟨HA.out.bel, .inr ⟨14, by decide, rfl, HBAD.out⟩⟩
   ·have h48 : x ≠ 48 := fun e => hbit (.inl e)
    have h49 : x ≠ 49 := fun e => hbit (.inr e)
    have hb1 := Yuv x 48 (by omega) h48
    have hb2 := Yuv x 49 (by omega) h49
    simp only [Int.cast_ofNat_Int] at hb1 hb2
    have HBAD := Lib.hid (show Bad A E xs from .inl (HB.out h48 h49))
    clear hbit h48 h49 HB
    go_wp2_with fail
    go_ret
    exact ⟨HA.out.bel, .inr ⟨3, by decide, rfl, HBAD.out⟩⟩
  ·have hke : k = xs.length := by omega
   subst hke
   have hd : decide ((xs.length : Int) < (xs.length : Int)) = false := by simp
   have htk := HA.out.tk
   rw [List.take_length] at htk
   have HTK := Lib.hid htk
   clear htk
   rcases hEm : E m with _ | j
   ·rw [hEm] at hne
    have hne : wr.cell? ⟨b, o + 2, none⟩ = some (.bool false) := hne
    have hn0 := HA.out.tr.n0 m b o HA.out.at_
    have hn1 := HA.out.tr.n1 m b o HA.out.at_
    have HEM := Lib.hid hEm
    clear hEm
    have heq : ∀ W, (Op.equalIn 10000 209 (.agg #[Yjs (A' (m ++ [false])), Yjs (A' (m ++ [true]))]) (.agg #[.pointer none, .pointer none])).run Tryz.prog W = .ok ((A' (m ++ [false])).isNone && (A' (m ++ [true])).isNone) W := fun W => Yvz W _ _
    by_cases hno : A' (m ++ [false]) = none ∧ A' (m ++ [true]) = none
    ·rw [show ((A' (m ++ [false])).isNone && (A' (m ++ [true])).isNone) = true by rw [hno.1, hno.2]; rfl] at heq
     have HNO := Lib.hid hno
     have HT := Lib.hid (HA.out.tr.ends HA.out.at_ i)
     have HB := Lib.hid (((HA.out.bel).setCell (p := ⟨b, o + 2, none⟩) (HA.out.tr.lo m b o HA.out.at_).1 (.bool true)).setCell (p := ⟨b, o + 3, none⟩) (HA.out.tr.lo m b o HA.out.at_).1 (.int .i64 (i : Int)))
     have hni := HA.out.tr.ni m b o HA.out.at_
     have hf2 := HA.out.tr.fz m b o HA.out.at_ (o + 2)
     have hf3 := HA.out.tr.fz m b o HA.out.at_ (o + 3)
     generalize (((E m).getD 0 : Nat) : Int) = old at hni
     generalize Yjs (A' (m ++ [false])) = p0 at hn0 heq
     generalize Yjs (A' (m ++ [true])) = p1 at hn1 heq
     clear hno
     go_wp2_with fail
     go_ret
     refine ⟨HB.out, .inl ⟨m, HTK.out, rfl, fun q hq => ?_, fun x => ?_, A', ?_, HA.out.dom⟩⟩
     ·by_cases hqm : q = m
      ·rw [hqm]; exact HEM.out
      ·exact HA.out.none_ q hq hqm
     ·rcases hax : A (m ++ [x]) with _ | v
      ·rfl
      ·have : A' (m ++ [x]) ≠ none := (HA.out.dom _).2 (.inl (by rw [hax]; simp))
       cases x
       ·exact absurd HNO.out.1 this
       ·exact absurd HNO.out.2 this
     ·refine HT.out.mono ?_
      simp [World.setCell]
    ·have hbad : Bad A E xs := by
      refine .inr ⟨m, HTK.out, .inr ?_⟩
      have : ∃ x, A' (m ++ [x]) ≠ none := by
       by_cases h0 : A' (m ++ [false]) = none
       ·exact ⟨true, fun h1 => hno ⟨h0, h1⟩⟩
       ·exact ⟨false, h0⟩
      obtain ⟨x, hx⟩ := this
      refine ⟨x, ?_⟩
      rcases (HA.out.dom _).1 hx with h | h
      ·exact h
      ·have := h.length_le
       simp at this
       omega
     have HBAD := Lib.hid hbad
     rw [show ((A' (m ++ [false])).isNone && (A' (m ++ [true])).isNone) = false by
      rcases h0 : A' (m ++ [false]) with _ | v
      ·rcases h1 : A' (m ++ [true]) with _ | u
       ·exact absurd ⟨h0, h1⟩ hno
       ·rfl
      ·rfl] at heq
     generalize Yjs (A' (m ++ [false])) = p0 at hn0 heq
     generalize Yjs (A' (m ++ [true])) = p1 at hn1 heq
     clear hno hbad
     go_wp2_with fail
     go_ret
     exact ⟨HA.out.bel, .inr ⟨14, by decide, rfl, HBAD.out⟩⟩
   ·rw [hEm] at hne
    have hne : wr.cell? ⟨b, o + 2, none⟩ = some (.bool true) := hne
    have HBAD := Lib.hid (HA.out.bad (by rw [hEm]; simp))
    clear hEm
    go_wp2_with fail
    go_ret
    exact ⟨HA.out.bel, .inr ⟨14, by decide, rfl, HBAD.out⟩⟩
end Go.Proofs.YtkkfkmoikcmhoaaGreat.Hf

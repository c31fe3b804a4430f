/- HfO, HfP, HfQ: merged. -/
import Derived.ChangeKeysEq
import Derived.Laws.Pointers
import Derived.Test.YtkkfkmoikcmhoaaGreatPaj
set_option linter.unusedVariables false
set_option linter.unusedSimpArgs false
namespace Go.Proofs.YtkkfkmoikcmhoaaGreat.Hf
open Go.RowKit Oct Bit
set_option maxRecDepth 100000
theorem Tryz.infoPNode : (Tryz.prog.info? 208).map (fun i => i.size) = some 1 := by kernel_rfl
theorem Tryz.cellsPNode : Tryz.prog.cellsOf 208 = 1 := by kernel_rfl
theorem Yxd (W : World) (c0 c1 : Option (Nat × Nat)) : (Op.equalIn 10000 209 (.agg #[Yk8 c0, Yk8 c1]) (.agg #[.pointer none, .pointer none])).run Tryz.prog W = .ok (c0.isNone && c1.isNone) W := by
 obtain ⟨i, hi, hs⟩ := Option.map_eq_some_iff.1 Tryz.infoPNode
 have hp : ∀ c : Option (Nat × Nat), ∃ p : Option Addr, Yk8 c = .pointer p ∧ p.isNone = c.isNone := by
  intro c
  rcases c with _ | ⟨b, o⟩
  ·exact ⟨none, rfl, rfl⟩
  ·exact ⟨_, rfl, rfl⟩
 obtain ⟨p0, e0, f0⟩ := hp c0
 obtain ⟨p1, e1, f1⟩ := hp c1
 rw [e0, e1, ← f0, ← f1, run_equalIn_array W 9999 (t := 209) (e := 208) (n := 2) _ _ Tryz.underlying209 hi, Tryz.cellsPNode]
 have hpt : ∀ v u : Value, ∀ k, k < 2 → (part 208 #[v, u] (k * 1)).run Tryz.prog W = .ok (if k = 0 then v else u) W := by
  intro v u k hk
  have hag : (isAgg 208).run Tryz.prog W = .ok false W := by
   unfold isAgg
   rw [Sem.run_bind, run_underlying Tryz.underlying208 W]
   rfl
  rcases k with _ | _ | k
  ·simp [part, Sem.run_bind, hag]
  ·simp [part, Sem.run_bind, hag]
  ·omega
 have hq : ∀ p : Option Addr, (Op.equalIn 9999 208 (.pointer p) (.pointer none)).run Tryz.prog W = .ok p.isNone W := fun p => run_equalIn_pointer_nil W 9998 208 p Tryz.underlying208
 show (Op.eqItems 9999 208 1 _ _ [0, 1]).run Tryz.prog W = _
 simp only [Op.eqItems, Sem.run_bind, hpt _ _ 0 (by omega), hpt _ _ 1 (by omega), if_pos, Result.andThen_ok, hq]
 have h0 : ∀ v u : Value, (part 208 #[v, u] 0).run Tryz.prog W = .ok v W := fun v u => by simpa using hpt v u 0 (by omega)
 have h1 : ∀ v u : Value, (part 208 #[v, u] 1).run Tryz.prog W = .ok u W := fun v u => by simpa using hpt v u 1 (by omega)
 cases p0 <;> cases p1 <;> simp [h0, h1, hq, Result.andThen]
def Yxa (w : World) (g : Nat) (v0 v1 : Value) (A : List Bool → Option (Nat × Nat)) (E : List Bool → Option Nat) (p : List Bool) (x : Bool) (e : Ending) (w' : World) : Prop :=
 ∃ A' b' o', e = .returned (.pointer (some ⟨b', o', none⟩)) ∧ A' (p ++ [x]) = some (b', o') ∧ Tr w' w'.heap.size g v0 v1 A' E ∧ (∀ q, A' q ≠ none ↔ A q ≠ none ∨ q = p ++ [x]) ∧ Below g w w'
set_option maxHeartbeats 1000000 in
theorem Yvw (w : World) (g : Nat) (v0 v1 : Value) (A : List Bool → Option (Nat × Nat)) (E : List Bool → Option Nat) (p : List Bool) (b o : Nat) (x : Bool) (h : Tr w w.heap.size g v0 v1 A E) (hp : A p = some (b, o)) :
  Calls Tryz.prog 156 #[.pointer (some ⟨b, o, none⟩), .int .u8 (x.toNat : Int)] w (Yxa w g v0 v1 A E p x) := by
 have hlo := h.lo p b o hp
 have hc : w.cell? ⟨b, o + x.toNat, none⟩ = some (Yk8 (A (p ++ [x]))) := by
  cases x
  ·exact h.n0 p b o hp
  ·exact h.n1 p b o hp
 have hf := h.fz p b o hp (o + x.toNat)
 have H := Lib.hid h
 have HP := Lib.hid hp
 have hgb : g ≤ b := hlo.1
 have hbw : b < w.heap.size := hlo.2
 clear h hp hlo
 rcases hx : A (p ++ [x]) with _ | ⟨b', o'⟩
 ·rw [hx] at hc
  have hc : w.cell? ⟨b, o + x.toNat, none⟩ = some (.pointer none) := hc
  have HX := Lib.hid hx
  have hT := H.out.grow HP.out x hx
  have hcell2 : ((w.alloc (.cells Ybv 211)).setCell ⟨b, o + x.toNat, none⟩ (.pointer (some ⟨w.heap.size, 0, none⟩))).cell? ⟨b, o + x.toNat, none⟩ = some (.pointer (some ⟨w.heap.size, 0, none⟩)) := by
   refine World.cell?_setCell_same _ _ _ (u := Yk8 none) ?_
   rw [World.cell?_alloc_lt _ _ _ hbw]
   exact hc
  have hB : Below g w ((w.alloc (.cells Ybv 211)).setCell ⟨b, o + x.toNat, none⟩ (.pointer (some ⟨w.heap.size, 0, none⟩))) := ((Below.refl _ w).alloc (by omega) _).setCell (p := ⟨b, o + x.toNat, none⟩) hgb _
  have HT := Lib.hid hT
  have HB := Lib.hid hB
  clear hx hT hB
  unfold Ybv at HT HB hcell2
  have fin : ∀ W', W' = ((w.alloc (.cells Ybv 211)).setCell ⟨b, o + x.toNat, none⟩ (.pointer (some ⟨w.heap.size, 0, none⟩))) → Yxa w g v0 v1 A E p x (.returned (.pointer (some ⟨w.heap.size, 0, none⟩))) W' := by
   intro W' hW
   subst hW
   refine ⟨Yek A (p ++ [x]) (w.heap.size, 0), w.heap.size, 0, rfl, by unfold Yek; rw [if_pos rfl], ?_, fun q => ?_, HB.out⟩
   ·refine HT.out.mono ?_
    simp [World.setCell]
   ·unfold Yek
    by_cases hq : q = p ++ [x]
    ·rw [if_pos hq]; simp [hq]
    ·rw [if_neg hq]; simp [hq]
  have FIN := Lib.hid fin
  clear fin
  cases x
  ·simp only [Bool.toNat_false, Nat.add_zero] at hc hf hcell2 HT HB FIN
   go_enter Tryz.func156, Tryz.ntmps156
   go_wp2_with fail
   go_ret
   exact FIN.out _ (World.setCell_alloc_past _ _ _ _ hbw).symm
  ·simp only [Bool.toNat_true] at hc hf hcell2 HT HB FIN
   go_enter Tryz.func156, Tryz.ntmps156
   go_wp2_with fail
   go_ret
   exact FIN.out _ (World.setCell_alloc_past _ _ _ _ hbw).symm
 ·rw [hx] at hc
  have fin : Yxa w g v0 v1 A E p x (.returned (.pointer (some ⟨b', o', none⟩))) w := ⟨A, b', o', rfl, hx, H.out, fun q => ⟨fun hq => .inl hq, fun hq => by
   rcases hq with hq | rfl
   ·exact hq
   ·rw [hx]; simp⟩, Below.refl _ _⟩
  have FIN := Lib.hid fin
  unfold Yk8 at hc
  clear fin hx
  cases x
  ·simp only [Bool.toNat_false, Nat.add_zero] at hc hf FIN
   go_enter Tryz.func156, Tryz.ntmps156
   go_wp2_with fail
   go_ret
   exact FIN.out
  ·simp only [Bool.toNat_true] at hc hf FIN
   go_enter Tryz.func156, Tryz.ntmps156
   go_wp2_with fail
   go_ret
   exact FIN.out
def Bad (A : List Bool → Option (Nat × Nat)) (E : List Bool → Option Nat) (xs : List UInt8) : Prop :=
 Y79 xs = false ∨ ∃ m, xs = m.map dig ∧ ((∃ q, q <+: m ∧ E q ≠ none) ∨ ∃ x, A (m ++ [x]) ≠ none)
def AddP (w : World) (g : Nat) (v0 v1 : Value) (A : List Bool → Option (Nat × Nat)) (E : List Bool → Option Nat) (xs : List UInt8) (i : Nat) (e : Ending) (w' : World) : Prop :=
 Below g w w' ∧ ((∃ m, xs = m.map dig ∧ e = .returned (.int .i64 0) ∧ (∀ q, q <+: m → E q = none) ∧ (∀ x, A (m ++ [x]) = none) ∧ ∃ A', Tr w' w'.heap.size g v0 v1 A' (Yse E m i) ∧ ∀ q, A' q ≠ none ↔ A q ≠ none ∨ q <+: m) ∨
  (∃ c : Int, c ≠ 0 ∧ e = .returned (.int .i64 c) ∧ Bad A E xs))
structure Add (w : World) (g : Nat) (v0 v1 : Value) (A : List Bool → Option (Nat × Nat)) (E : List Bool → Option Nat) (xs : List UInt8) (k : Nat) (m : List Bool) (A' : List Bool → Option (Nat × Nat)) (b o : Nat) (W : World) : Prop where
 tk : xs.take k = m.map dig
 at_ : A' m = some (b, o)
 tr : Tr W W.heap.size g v0 v1 A' E
 dom : ∀ q, A' q ≠ none ↔ A q ≠ none ∨ q <+: m
 none_ : ∀ q, q <+: m → q ≠ m → E q = none
 bel : Below g w W
theorem Yb4 {q m : List Bool} {x : Bool} : q <+: m ++ [x] ↔ q <+: m ∨ q = m ++ [x] := by
 constructor
 ·intro h
  obtain ⟨t, ht⟩ := h
  rcases List.eq_nil_or_concat t with rfl | ⟨t', y, rfl⟩
  ·right; simpa using ht
  ·left
   rw [List.concat_eq_append, ← List.append_assoc] at ht
   obtain ⟨h1, _⟩ := Ye6 ht
   exact ⟨t', h1⟩
 ·rintro (⟨t, ht⟩ | rfl)
  ·exact ⟨t ++ [x], by rw [← List.append_assoc, ht]⟩
  ·exact List.prefix_refl _
theorem Add.bad {w W : World} {g : Nat} {v0 v1 : Value} {A A' : List Bool → Option (Nat × Nat)} {E : List Bool → Option Nat} {xs : List UInt8} {k b o : Nat} {m : List Bool} (h : Add w g v0 v1 A E xs k m A' b o W) (hE : E m ≠ none) : Bad A E xs := by
 by_cases hw : Y79 xs = true
 ·obtain ⟨l, hl⟩ := Ygz hw
  refine .inr ⟨l, hl, .inl ⟨m, ?_, hE⟩⟩
  have ht := h.tk
  rw [hl, ← List.map_take] at ht
  have hinj : ∀ a b : Bool, dig a = dig b → a = b := by intro a b; cases a <;> cases b <;> simp [dig]
  have : l.take k = m := (List.map_inj_right (f := dig) (fun a b => hinj a b)).1 ht
  rw [← this]
  exact List.take_prefix _ _
 ·exact .inl (by simpa using hw)
theorem Add.step {w W W2 : World} {g : Nat} {v0 v1 : Value} {A A' A2 : List Bool → Option (Nat × Nat)} {E : List Bool → Option Nat} {xs : List UInt8} {k b o b2 o2 : Nat} {m : List Bool} {y : Bool} (h : Add w g v0 v1 A E xs k m A' b o W)
  (hk : k < xs.length) (ht : xs.take (k + 1) = xs.take k ++ [dig y]) (hE : E m = none) (hat : A2 (m ++ [y]) = some (b2, o2)) (htr : Tr W2 W2.heap.size g v0 v1 A2 E) (hdom : ∀ q, A2 q ≠ none ↔ A' q ≠ none ∨ q = m ++ [y]) (hb : Below g W W2) :
  Add w g v0 v1 A E xs (k + 1) (m ++ [y]) A2 b2 o2 W2 := by
 refine ⟨by rw [ht, h.tk]; simp, hat, htr, fun q => ?_, fun q hq hne => ?_, h.bel.trans hb⟩
 ·rw [hdom, h.dom, Yb4, or_assoc]
 ·rcases Yb4.1 hq with hq | hq
  ·by_cases hqm : q = m
   ·rw [hqm]; exact hE
   ·exact h.none_ q hq hqm
  ·exact absurd hq hne
theorem Yxn (b : Bool) : (((dig b).toNat : Int) - 48) % 256 = (b.toNat : Int) := by cases b <;> rfl
set_option maxHeartbeats 2000000 in
theorem Yj3 (w : World) (g : Nat) (v0 v1 : Value) (A : List Bool → Option (Nat × Nat)) (E : List Bool → Option Nat) (xs : List UInt8) (i : Nat) (h : Tr w w.heap.size g v0 v1 A E) (hl : xs.length ≤ 1000000) (hE0 : True) :
  Calls Tryz.prog 141 #[.pointer (some ⟨g, 2, none⟩), .string (bs xs), .int .i64 (i : Int)] w (AddP w g v0 v1 A E xs i) := by
 have hsz := Y13 xs
 have HS0 := Lib.hid (show Add w g v0 v1 A E xs 0 [] A g 2 w from ⟨by simp, h.root, h, fun q => ⟨fun hq => .inl hq, fun hq => by
  rcases hq with hq | hq
  ·exact hq
  ·have : q = [] := by simpa using hq
   rw [this, h.root]; simp⟩, fun q hq hne => absurd (by simpa using hq) hne, Below.refl _ _⟩)
 clear h
 go_enter Tryz.func141, Tryz.ntmps141
 go_wp2_with fail
 go_loopw [0, 7, 8, 11] (fun n u c i wr => ∃ (k : Nat) (m : List Bool) (A' : List Bool → Option (Nat × Nat)) (b o : Nat), k ≤ xs.length ∧ i = .int .i64 (k : Int) ∧ n = .pointer (some ⟨b, o, none⟩) ∧ Hid (Add w g v0 v1 A E xs k m A' b o wr)) (fun _ _ _ i _ => xs.length - (intOf i).toNat)
 case atStart => exact ⟨0, [], A, g, 2, by omega, rfl, rfl, HS0⟩
 case round =>
  obtain ⟨k, m, A', b, o, hk, rfl, rfl, HA⟩ := hrel
  have hne := HA.out.tr.ne m b o HA.out.at_
  by_cases hlt : k < xs.length
  ·obtain ⟨x, hx⟩ : ∃ x, x = xs[k] := ⟨_, rfl⟩
   have hg : ∀ h, (bs xs)[k]'h = x := fun h => (Yby xs k h hlt).trans hx.symm
   have HB := Lib.hid (Ygx xs k hlt)
   have HTK := Lib.hid (Y1x xs k hlt)
   rw [← hx] at HB HTK
   have hd : decide ((k : Int) < (xs.length : Int)) = true := by simp; omega
   clear hx
   by_cases hbit : x = 48 ∨ x = 49
   ·obtain ⟨y, rfl⟩ : ∃ y, x = dig y := by
     rcases hbit with rfl | rfl
     ·exact ⟨false, rfl⟩
     ·exact ⟨true, rfl⟩
    clear HB hbit
    have hval := Yxn y
    rcases hEm : E m with _ | j
    ·rw [hEm] at hne
     have hne : wr.cell? ⟨b, o + 2, none⟩ = some (.bool false) := hne
     have HSU := Lib.hid (Yvw wr g v0 v1 A' E m b o y HA.out.tr HA.out.at_)
     have HEM := Lib.hid hEm
     have HV := Lib.hid hval
     clear hEm hval
     cases y
     ·have ht1 : (((dig false).toNat : Int) != 48) = false := rfl
      go_wp2_with fail
      rw [HV.out]
      refine HSU.out.mono ?_
      rintro e w' ⟨A2, b2, o2, rfl, hat, htr, hdom, hbel⟩
      have HN := Lib.hid (HA.out.step hlt HTK.out HEM.out hat htr hdom hbel)
      clear hat htr hdom hbel hne
      go_wp2_with fail
      go_roundw
      case rel => exact ⟨k + 1, m ++ [false], A2, b2, o2, by omega, by go_num, rfl, HN⟩
      case measure => simp [intOf]; omega
     ·have ht1 : (((dig true).toNat : Int) != 48) = true := rfl
      have ht2 : (((dig true).toNat : Int) != 49) = false := rfl
      go_wp2_with fail
      rw [HV.out]
      refine HSU.out.mono ?_
      rintro e w' ⟨A2, b2, o2, rfl, hat, htr, hdom, hbel⟩
      have HN := Lib.hid (HA.out.step hlt HTK.out HEM.out hat htr hdom hbel)
      clear hat htr hdom hbel hne
      go_wp2_with fail
      go_roundw
      case rel => exact ⟨k + 1, m ++ [true], A2, b2, o2, by omega, by go_num, rfl, HN⟩
      case measure => simp [intOf]; omega
    ·rw [hEm] at hne
     have hne : wr.cell? ⟨b, o + 2, none⟩ = some (.bool true) := hne
     have HBAD := Lib.hid (HA.out.bad (by rw [hEm]; simp))
     clear hEm hval
     cases y
     ·have ht1 : (((dig false).toNat : Int) != 48) = false := rfl
      go_wp2_with fail
      go_ret
      exact ⟨HA.out.bel, .inr ⟨14, by decide, rfl, HBAD.out⟩⟩
     ·have ht1 : (((dig true).toNat : Int) != 48) = true := rfl
      have ht2 : (((dig true).toNat : Int) != 49) = false := rfl
      go_wp2_with fail
      go_ret
      exact ⟨HA.out.bel, .inr ⟨14, by decide, rfl, HBAD.out⟩⟩
   ·have h48 : x ≠ 48 := fun e => hbit (.inl e)
    have h49 : x ≠ 49 := fun e => hbit (.inr e)
    have hb1 := Ywb x 48 (by omega) h48
    have hb2 := Ywb x 49 (by omega) h49
    simp only [Int.cast_ofNat_Int] at hb1 hb2
    have HBAD := Lib.hid (show Bad A E xs from .inl (HB.out h48 h49))
    clear hbit h48 h49 HB
    go_wp2_with fail
    go_ret
    exact ⟨HA.out.bel, .inr ⟨3, by decide, rfl, HBAD.out⟩⟩
  ·have hke : k = xs.length := by omega
   subst hke
   have hd : decide ((xs.length : Int) < (xs.length : Int)) = false := by simp
   have htk := HA.out.tk
   rw [List.take_length] at htk
   have HTK := Lib.hid htk
   clear htk
   rcases hEm : E m with _ | j
   ·rw [hEm] at hne
    have hne : wr.cell? ⟨b, o + 2, none⟩ = some (.bool false) := hne
    have hn0 := HA.out.tr.n0 m b o HA.out.at_
    have hn1 := HA.out.tr.n1 m b o HA.out.at_
    have HEM := Lib.hid hEm
    clear hEm
    have heq : ∀ W, (Op.equalIn 10000 209 (.agg #[Yk8 (A' (m ++ [false])), Yk8 (A' (m ++ [true]))]) (.agg #[.pointer none, .pointer none])).run Tryz.prog W = .ok ((A' (m ++ [false])).isNone && (A' (m ++ [true])).isNone) W := fun W => Yxd W _ _
    by_cases hno : A' (m ++ [false]) = none ∧ A' (m ++ [true]) = none
    ·rw [show ((A' (m ++ [false])).isNone && (A' (m ++ [true])).isNone) = true by rw [hno.1, hno.2]; rfl] at heq
     have HNO := Lib.hid hno
     have HT := Lib.hid (HA.out.tr.ends HA.out.at_ i)
     have HB := Lib.hid (((HA.out.bel).setCell (p := ⟨b, o + 2, none⟩) (HA.out.tr.lo m b o HA.out.at_).1 (.bool true)).setCell (p := ⟨b, o + 3, none⟩) (HA.out.tr.lo m b o HA.out.at_).1 (.int .i64 (i : Int)))
     have hni := HA.out.tr.ni m b o HA.out.at_
     have hf2 := HA.out.tr.fz m b o HA.out.at_ (o + 2)
     have hf3 := HA.out.tr.fz m b o HA.out.at_ (o + 3)
     generalize (((E m).getD 0 : Nat) : Int) = old at hni
     generalize Yk8 (A' (m ++ [false])) = p0 at hn0 heq
     generalize Yk8 (A' (m ++ [true])) = p1 at hn1 heq
     clear hno
     go_wp2_with fail
     go_ret
     refine ⟨HB.out, .inl ⟨m, HTK.out, rfl, fun q hq => ?_, fun x => ?_, A', ?_, HA.out.dom⟩⟩
     ·by_cases hqm : q = m
      ·rw [hqm]; exact HEM.out
      ·exact HA.out.none_ q hq hqm
     ·rcases hax : A (m ++ [x]) with _ | v
      ·rfl
      ·have : A' (m ++ [x]) ≠ none := (HA.out.dom _).2 (.inl (by rw [hax]; simp))
       cases x
       ·exact absurd HNO.out.1 this
       ·exact absurd HNO.out.2 this
     ·refine HT.out.mono ?_
      simp [World.setCell]
    ·have hbad : Bad A E xs := by
      refine .inr ⟨m, HTK.out, .inr ?_⟩
      have : ∃ x, A' (m ++ [x]) ≠ none := by
       by_cases h0 : A' (m ++ [false]) = none
       ·exact ⟨true, fun h1 => hno ⟨h0, h1⟩⟩
       ·exact ⟨false, h0⟩
      obtain ⟨x, hx⟩ := this
      refine ⟨x, ?_⟩
      rcases (HA.out.dom _).1 hx with h | h
      ·exact h
      ·have := h.length_le
       simp at this
       omega
     have HBAD := Lib.hid hbad
     rw [show ((A' (m ++ [false])).isNone && (A' (m ++ [true])).isNone) = false by
      rcases h0 : A' (m ++ [false]) with _ | v
      ·rcases h1 : A' (m ++ [true]) with _ | u
       ·exact absurd ⟨h0, h1⟩ hno
       ·rfl
      ·rfl] at heq
     generalize Yk8 (A' (m ++ [false])) = p0 at hn0 heq
     generalize Yk8 (A' (m ++ [true])) = p1 at hn1 heq
     clear hno hbad
     go_wp2_with fail
     go_ret
     exact ⟨HA.out.bel, .inr ⟨14, by decide, rfl, HBAD.out⟩⟩
   ·rw [hEm] at hne
    have hne : wr.cell? ⟨b, o + 2, none⟩ = some (.bool true) := hne
    have HBAD := Lib.hid (HA.out.bad (by rw [hEm]; simp))
    clear hEm
    go_wp2_with fail
    go_ret
    exact ⟨HA.out.bel, .inr ⟨14, by decide, rfl, HBAD.out⟩⟩
end Go.Proofs.YtkkfkmoikcmhoaaGreat.Hf
namespace Go.Proofs.YtkkfkmoikcmhoaaGreat.Hf
open Go.RowKit Oct Bit
set_option maxRecDepth 100000
structure St (ws : List (List UInt8)) (k : Nat) (A : List Bool → Option (Nat × Nat)) (E : List Bool → Option Nat) : Prop where
 e1 : ∀ q i, E q = some i → i < k ∧ q ≠ [] ∧ ws[i]? = some (q.map dig)
 e2 : ∀ i s, i < k → ws[i]? = some s → s = [] ∨ ∃ q, s = q.map dig ∧ q ≠ [] ∧ E q = some i
 a1 : ∀ q, A q ≠ none → q = [] ∨ ∃ r, E r ≠ none ∧ q <+: r
 a2 : ∀ q r, E r ≠ none → q <+: r → A q ≠ none
 lf : ∀ q r, E q ≠ none → E r ≠ none → q <+: r → q = r
def Good (ws : List (List UInt8)) : Prop :=
 (∀ s ∈ ws, Y79 s = true) ∧ ∀ (i j : Nat) (s t : List UInt8), ws[i]? = some s → ws[j]? = some t → i ≠ j → s ≠ [] → t ≠ [] → ¬ s <+: t
section
variable {ws : List (List UInt8)} {k : Nat} {A A' : List Bool → Option (Nat × Nat)} {E : List Bool → Option Nat}
theorem St.zero (ws : List (List UInt8)) (g : Nat) : St ws 0 (fun q => if q = [] then some (g, 2) else none) (fun _ => none) := by
 refine ⟨fun q i h => by simp at h, fun i s h => by omega, fun q h => ?_, fun q r h => by simp at h, fun q r h => by simp at h⟩
 by_cases hq : q = []
 ·exact .inl hq
 ·simp [hq] at h
theorem St.skip (h : St ws k A E) (hk : ws[k]? = some []) : St ws (k + 1) A E := by
 refine ⟨fun q i e => ?_, fun i s hi e => ?_, h.a1, h.a2, h.lf⟩
 ·obtain ⟨h1, h2⟩ := h.e1 q i e
  exact ⟨by omega, h2⟩
 ·by_cases hik : i = k
  ·subst hik
   rw [hk] at e
   injection e with e
   exact .inl e.symm
  ·exact h.e2 i s (by omega) e
theorem St.add {m : List Bool} (h : St ws k A E) (hk : ws[k]? = some (m.map dig)) (hm : m ≠ []) (hn : ∀ q, q <+: m → E q = none) (hx : ∀ x, A (m ++ [x]) = none) (hd : ∀ q, A' q ≠ none ↔ A q ≠ none ∨ q <+: m) :
  St ws (k + 1) A' (Yse E m k) := by
 have hne : ∀ q, Yse E m k q ≠ none ↔ E q ≠ none ∨ q = m := by
  intro q
  unfold Yse
  by_cases hq : q = m
  ·rw [if_pos hq]; simp [hq]
  ·rw [if_neg hq]; simp [hq]
 refine ⟨fun q i e => ?_, fun i s hi e => ?_, fun q hq => ?_, fun q r hr hq => ?_, fun q r hq hr hqr => ?_⟩
 ·unfold Yse at e
  by_cases hq : q = m
  ·rw [if_pos hq] at e
   injection e with e
   subst e
   subst hq
   exact ⟨by omega, hm, hk⟩
  ·rw [if_neg hq] at e
   obtain ⟨h1, h2⟩ := h.e1 q i e
   exact ⟨by omega, h2⟩
 ·by_cases hik : i = k
  ·subst hik
   rw [hk] at e
   injection e with e
   exact .inr ⟨m, e.symm, hm, by unfold Yse; rw [if_pos rfl]⟩
  ·rcases h.e2 i s (by omega) e with e0 | ⟨q, h1, h2, h3⟩
   ·exact .inl e0
   ·refine .inr ⟨q, h1, h2, ?_⟩
    unfold Yse
    rw [if_neg, h3]
    intro hqm
    subst hqm
    rw [hn q (List.prefix_refl _)] at h3
    cases h3
 ·rcases (hd q).1 hq with hq | hq
  ·rcases h.a1 q hq with e | ⟨r, hr, hqr⟩
   ·exact .inl e
   ·exact .inr ⟨r, (hne r).2 (.inl hr), hqr⟩
  ·exact .inr ⟨m, (hne m).2 (.inr rfl), hq⟩
 ·rcases (hne r).1 hr with hr | rfl
  ·exact (hd q).2 (.inl (h.a2 q r hr hq))
  ·exact (hd q).2 (.inr hq)
 ·rcases (hne q).1 hq with hq' | rfl
  ·rcases (hne r).1 hr with hr' | rfl
   ·exact h.lf q r hq' hr' hqr
   ·exact absurd (hn q hqr) hq'
  ·rcases (hne r).1 hr with hr | rfl
   ·obtain ⟨t, rfl⟩ := hqr
    rcases t with _ | ⟨x, t⟩
    ·simp
    ·exact absurd (hx x) (h.a2 (q ++ [x]) _ hr ⟨t, by simp⟩)
   ·rfl
theorem Yc8 {a b : List Bool} (h : a <+: b) : a.map dig <+: b.map dig := by
 obtain ⟨t, rfl⟩ := h
 exact ⟨t.map dig, by simp⟩
theorem St.bad {s : List UInt8} (h : St ws k A E) (hk : ws[k]? = some s) (hs : s ≠ []) (hb : Bad A E s) : ¬ Good ws := by
 rintro ⟨hg1, hg2⟩
 have key : ∀ q, E q ≠ none → ∃ i, i < k ∧ q ≠ [] ∧ ws[i]? = some (q.map dig) := by
  intro q hq
  rcases he : E q with _ | i
  ·exact absurd he hq
  ·exact ⟨i, h.e1 q i he⟩
 rcases hb with hb | ⟨m, rfl, ⟨q, hqm, hq⟩ | ⟨x, hx⟩⟩
 ·rw [hg1 s (List.mem_of_getElem? hk)] at hb
  cases hb
 ·obtain ⟨i, hi, hq0, he⟩ := key q hq
  exact hg2 i k _ _ he hk (by omega) (by simpa using hq0) hs (Yc8 hqm)
 ·rcases h.a1 _ hx with e | ⟨r, hr, hmr⟩
  ·simp at e
  ·obtain ⟨i, hi, hr0, he⟩ := key r hr
   exact hg2 k i _ _ hk he (by omega) hs (by simpa using hr0) (Yc8 (List.IsPrefix.trans ⟨[x], rfl⟩ hmr))
end
def Bk (w : World) (C g : Nat) (ws : List (List UInt8)) (ms : List Value) : Prop :=
 ∃ pw cw pm cm A E, Tr w C g (.slice pw ws.length cw) (.slice pm ms.length cm) A E ∧ St ws ws.length A E ∧ VRow w C pw (strs ws) ∧ VRow w C pm ms ∧ ws.length ≤ cw ∧ ms.length ≤ cm
theorem Tr.keep {w w' : World} {C g : Nat} {v0 v1 : Value} {A : List Bool → Option (Nat × Nat)} {E : List Bool → Option Nat} (h : Tr w C g v0 v1 A E) (hk : ∀ k, g ≤ k → k < C → w'.heap[k]? = w.heap[k]?) : Tr w' C g v0 v1 A E := by
 have hg : g < C := (h.lo _ _ _ h.root).2
 have key : ∀ b i, g ≤ b → b < C → w'.cell? ⟨b, i, none⟩ = w.cell? ⟨b, i, none⟩ := fun b i h1 h2 => World.cell?_of_block (hk b h1 h2)
 refine ⟨h.root, h.lo, fun p b o e => ?_, fun p b o e => ?_, fun p b o e => ?_, fun p b o e => ?_, fun p b o e i => ?_, h.o2, h.inj, h.up, h.en, ?_, ?_⟩
 ·rw [key _ _ (h.lo p b o e).1 (h.lo p b o e).2]; exact h.n0 p b o e
 ·rw [key _ _ (h.lo p b o e).1 (h.lo p b o e).2]; exact h.n1 p b o e
 ·rw [key _ _ (h.lo p b o e).1 (h.lo p b o e).2]; exact h.ne p b o e
 ·rw [key _ _ (h.lo p b o e).1 (h.lo p b o e).2]; exact h.ni p b o e
 ·have := hk b (h.lo p b o e).1 (h.lo p b o e).2
  rw [← h.fz p b o e i]
  simp [World.frozen?, this]
 ·rw [key _ _ (Nat.le_refl _) hg]; exact h.h0
 ·rw [key _ _ (Nat.le_refl _) hg]; exact h.h1
theorem VRow.keep {w w' : World} {B C : Nat} {p : Option Addr} {vs : List Value} (h : VRow w C p vs) (hlo : ∀ a, p = some a → B ≤ a.block) (hk : ∀ k, B ≤ k → k < C → w'.heap[k]? = w.heap[k]?) : VRow w' C p vs := by
 intro hp
 obtain ⟨b, off, rfl, hlt, hc⟩ := h hp
 have hb : B ≤ b := hlo _ rfl
 exact ⟨b, off, rfl, hlt, fun i hi => (World.cell?_of_block (hk b hb hlt)).trans (hc i hi)⟩
def BkK (w : World) (B g : Nat) (ws : List (List UInt8)) (ms : List Value) : Prop :=
 ∃ pw cw pm cm A E, St ws ws.length A E ∧ ws.length ≤ cw ∧ ms.length ≤ cm ∧ ∀ w' : World, (∀ k, B ≤ k → k < w.heap.size → w'.heap[k]? = w.heap[k]?) →
  Tr w' w.heap.size g (.slice pw ws.length cw) (.slice pm ms.length cm) A E ∧ VRow w' w.heap.size pw (strs ws) ∧ VRow w' w.heap.size pm ms
theorem BkK.at {w : World} {B g : Nat} {ws : List (List UInt8)} {ms : List Value} (h : BkK w B g ws ms) (w' : World) (hk : ∀ k, B ≤ k → k < w.heap.size → w'.heap[k]? = w.heap[k]?) : Bk w' w.heap.size g ws ms := by
 obtain ⟨pw, cw, pm, cm, A, E, h1, h2, h3, h4⟩ := h
 obtain ⟨h5, h6, h7⟩ := h4 w' hk
 exact ⟨pw, cw, pm, cm, A, E, h5, h1, h6, h7, h2, h3⟩
def NewP (w : World) (ws : List (List UInt8)) (ms : List Value) (e : Ending) (w' : World) : Prop :=
 Below w.heap.size w w' ∧ ((∃ c : Int, c ≠ 0 ∧ e = .returned (.tuple #[.pointer none, .int .i64 c]) ∧ ¬ Good ws) ∨
  ∃ g, e = .returned (.tuple #[.pointer (some ⟨g, 0, none⟩), .int .i64 0]) ∧ w.heap.size ≤ g ∧ g < w'.heap.size ∧ BkK w' w.heap.size g ws ms)
def Ya1 (u v : Value) : Array Value := #[u, v, .pointer none, .pointer none, .bool false, .int .i64 0]
theorem Ywy (w : World) (u v : Value) (T : TypeId) : Tr (w.alloc (.cells (Ya1 u v) T)) (w.heap.size + 1) w.heap.size u v (fun q => if q = [] then some (w.heap.size, 2) else none) (fun _ => none) := by
 have hc : ∀ i, (w.alloc (.cells (Ya1 u v) T)).cell? ⟨w.heap.size, i, none⟩ = (Ya1 u v)[i]? := by intro i; simp
 have key : ∀ (q : List Bool) (b o : Nat), (if q = [] then some (w.heap.size, 2) else none) = some (b, o) → q = [] ∧ b = w.heap.size ∧ o = 2 := by
  intro q b o h
  split at h
  ·rename_i hq
   injection h with h
   injection h with h1 h2
   exact ⟨hq, h1.symm, h2.symm⟩
  ·cases h
 refine ⟨rfl, fun q b o h => ?_, fun q b o h => ?_, fun q b o h => ?_, fun q b o h => ?_, fun q b o h => ?_, fun q b o h i => ?_, fun q o h => (key q _ o h).2.2, fun p q b o o' h h' => ?_, fun p x h => ?_, fun p h => by simp at h, ?_, ?_⟩
 ·obtain ⟨_, rfl, _⟩ := key q b o h; omega
 ·obtain ⟨rfl, rfl, rfl⟩ := key q b o h; rw [hc]; rfl
 ·obtain ⟨rfl, rfl, rfl⟩ := key q b o h; rw [hc]; rfl
 ·obtain ⟨rfl, rfl, rfl⟩ := key q b o h; rw [hc]; rfl
 ·obtain ⟨rfl, rfl, rfl⟩ := key q b o h; rw [hc]; rfl
 ·obtain ⟨rfl, rfl, rfl⟩ := key q b o h; simp
 ·obtain ⟨rfl, _, _⟩ := key p b o h
  obtain ⟨rfl, _, _⟩ := key q b o' h'
  rfl
 ·simp at h
 ·rw [hc]; rfl
 ·rw [hc]; rfl
theorem Yj6 (s : List UInt8) : (bs s).toList.isEmpty = s.isEmpty := by rw [Y7g]
set_option maxHeartbeats 2000000 in
theorem newI_any (p q : Option Addr) (len cap cap2 : Nat) (ws : List (List UInt8)) (ms : List Value) (w : World) (hr : VRow w w.heap.size p (strs ws)) (hx : ws.length = len) (hnil : p = none → cap = 0)
  (hr2 : VRow w w.heap.size q ms) (hx2 : ms.length = len) (hnil2 : q = none → cap2 = 0) (hl : len ≤ 100000) (h1 : ∀ u ∈ ms, u.oneCell' = true) (hw : ∀ s ∈ ws, s.length ≤ 1000000) :
  Calls Tryz.prog 149 #[.slice p len cap, .slice q len cap2] w (NewP w ws ms) := by
 have HC1 := Lib.hid (Y8i p len cap (strs ws) w hr (by rw [Y0z]; exact hx) hnil hl (by exact Ye8))
 have HX := Lib.hid hx
 have HX2 := Lib.hid hx2
 have HR := Lib.hid hr
 have HR2 := Lib.hid hr2
 have HN2 := Lib.hid hnil2
 have H1 := Lib.hid h1
 have HW := Lib.hid hw
 clear hr hx hnil hr2 hx2 hnil2 h1 hw
 go_enter Tryz.func149, Tryz.ntmps149
 go_wp2_with fail
 refine HC1.out.mono ?_
 rintro e w1 ⟨hb1, q1, c1, rfl, hv1, hc1, hm1, hq1, hg1⟩
 rw [Y0z, HX.out] at hc1 ⊢
 have HV1 := Lib.hid hv1
 have HB1 := Lib.hid hb1
 have HC1' := Lib.hid hc1
 have HG1 := Lib.hid hg1
 have HZ01 := Lib.hid hb1.size
 clear hv1 hc1 hm1 hq1 hg1
 have HC2 := Lib.hid (Ylc q len cap2 ms w1 ((HR2.out.below hb1 (Nat.le_refl _)).mono hb1.size) HX2.out HN2.out hl H1.out)
 clear hb1
 go_wp2_with fail
 refine HC2.out.mono ?_
 rintro e w2 ⟨hb2, q2, c2, rfl, hv2, hc2, hm2, hq2, hg2⟩
 rw [HX2.out] at hc2 ⊢
 have HV2 := Lib.hid hv2
 have HC2' := Lib.hid hc2
 have hT := Ywy w2 (.slice q1 len c1) (.slice q2 len c2) 228
 have hb3 : Below w.heap.size w (w2.alloc (.cells (Ya1 (.slice q1 len c1) (.slice q2 len c2)) 228)) := (HB1.out.trans (hb2.mono HB1.out.size)).alloc (Nat.le_trans HB1.out.size hb2.size) _
 have hvw : VRow (w2.alloc (.cells (Ya1 (.slice q1 len c1) (.slice q2 len c2)) 228)) w2.heap.size q1 (strs ws) := ((HV1.out.below hb2 (Nat.le_refl _)).mono hb2.size).below ((Below.refl _ w2).alloc (Nat.le_refl _) _) (Nat.le_refl _)
 have hvm : VRow (w2.alloc (.cells (Ya1 (.slice q1 len c1) (.slice q2 len c2)) 228)) w2.heap.size q2 ms := HV2.out.below ((Below.refl _ w2).alloc (Nat.le_refl _) _) (Nat.le_refl _)
 unfold Ya1 at hT hb3 hvw hvm
 have HG := Lib.hid (Nat.le_trans HB1.out.size hb2.size)
 have HG2 := Lib.hid (show ∀ a, q2 = some a → w.heap.size ≤ a.block from fun a h => Nat.le_trans HZ01.out (hg2 a h))
 have HT := Lib.hid hT
 have HB3 := Lib.hid hb3
 have HVW := Lib.hid hvw
 have HVM := Lib.hid hvm
 clear hT hb3 hvw hvm hv2 hc2 hm2 hq2 hg2 hb2 HV1 HV2 HB1 HC1 HC2
 go_wp2_with fail
 obtain ⟨w3, hw3⟩ : ∃ w3, w3 = w2.alloc (.cells #[.slice q1 len c1, .slice q2 len c2, .pointer none, .pointer none, .bool false, .int .i64 0] 228) := ⟨_, rfl⟩
 have hz3 : w3.heap.size = w2.heap.size + 1 := by rw [hw3]; simp
 rw [← hw3] at HT HB3 HVW HVM ⊢
 rw [← hz3] at HT
 generalize hge : w2.heap.size = g at *
 have hgl : g < w3.heap.size := by omega
 clear hw3 hz3
 go_loopw [7, 8, 9, 23] (fun u s e i wr => ∃ (k : Nat) (A : List Bool → Option (Nat × Nat)) (E : List Bool → Option Nat), k ≤ len ∧ i = .int .i64 (k : Int) ∧ Hid (Tr wr wr.heap.size g (.slice q1 len c1) (.slice q2 len c2) A E) ∧ Hid (St ws k A E) ∧ Hid (Below g w3 wr)) (fun _ _ _ i _ => len - (intOf i).toNat)
 case atStart => exact ⟨0, _, _, by omega, rfl, HT, Lib.hid (St.zero ws g), Lib.hid (Below.refl _ _)⟩
 case round =>
  obtain ⟨k, A, E, hk, rfl, HTr, HSt, HB⟩ := hrel
  by_cases hlt : k < len
  ·have hkz : k < ws.length := by rw [HX.out]; exact hlt
   obtain ⟨b, off, hp, hbl⟩ := HR.out.addr (by rw [Y0z]; omega)
   subst hp
   have hgw := HG.out
   have hc := (HB.out.cell (p := ⟨b, off + k, none⟩) (by show b < g; omega)).trans ((HB3.out.cell (p := ⟨b, off + k, none⟩) hbl).trans (HR.out.str k hkz))
   have hget : ws[k]? = some ws[k] := List.getElem?_eq_getElem hkz
   have hsl := HW.out ws[k] (List.getElem_mem hkz)
   have hem := Yj6 ws[k]
   generalize ws[k] = s at hc hget hsl hem
   have HGET := Lib.hid hget
   have hd : decide ((k : Int) < (len : Int)) = true := by simp; omega
   have i1 : (0 : Int) ≤ (k : Int) := by omega
   have i2 : (k : Int) < (len : Int) := by omega
   clear hget hgw
   by_cases hs : s = []
   ·subst hs
    have HS2 := Lib.hid (HSt.out.skip HGET.out)
    have hem : (bs []).toList.isEmpty = true := hem
    generalize bs [] = sb at hc hem
    go_wp2_with fail
    go_roundw
    case rel => exact ⟨k + 1, A, E, by omega, by go_num, HTr, HS2, HB⟩
    case measure => simp [intOf]; omega
   ·have hem : (bs s).toList.isEmpty = false := by
     rw [hem]
     cases s
     ·exact absurd rfl hs
     ·rfl
    have HADD := Lib.hid (Yj3 wr g (.slice q1 len c1) (.slice q2 len c2) A E s k HTr.out hsl trivial)
    have HS := Lib.hid hs
    clear hs
    generalize hsb : bs s = sb at hc hem HADD
    clear hsb
    go_wp2_with fail
    refine HADD.out.mono ?_
    rintro e w4 ⟨hb4, hres⟩
    have HB4 := Lib.hid (HB.out.trans hb4)
    clear hb4
    rcases hres with ⟨m, hm, rfl, hq1, hq2, A', hT', hdom⟩ | ⟨c, hc0, rfl, hbad⟩
    ·have HT' := Lib.hid hT'
     have HS' := Lib.hid (HSt.out.add (by rw [← hm]; exact HGET.out) (by intro e; exact HS.out (by rw [hm, e]; rfl)) hq1 hq2 hdom)
     clear hm hq1 hq2 hT' hdom
     go_wp2_with fail
     go_roundw
     case rel => exact ⟨k + 1, A', _, by omega, by go_num, HT', HS', HB4⟩
     case measure => simp [intOf]; omega
    ·have HBAD := Lib.hid (HSt.out.bad HGET.out HS.out hbad)
     have hcb : (c != 0) = true := by simpa using hc0
     have HC0 := Lib.hid hc0
     clear hbad hc0
     go_wp2_with fail
     go_ret2
     exact ⟨HB3.out.trans (HB4.out.mono HG.out), .inl ⟨c, HC0.out, rfl, HBAD.out⟩⟩
  ·have hke : k = len := by omega
   subst hke
   have hd : decide ((k : Int) < (k : Int)) = false := by simp
   have hzr := HB.out.size
   have hBk : BkK wr w.heap.size g ws ms := ⟨q1, c1, q2, c2, A, E, by rw [HX.out]; exact HSt.out, by rw [HX.out]; exact HC1'.out, by rw [HX2.out]; exact HC2'.out, fun wq hkq => ⟨by rw [HX.out, HX2.out]; exact HTr.out.keep (fun k h1 h2 => hkq k (Nat.le_trans HG.out h1) h2), ((HVW.out.below HB.out (Nat.le_refl _)).mono (by omega)).keep HG1.out hkq, ((HVM.out.below HB.out (Nat.le_refl _)).mono (by omega)).keep HG2.out hkq⟩⟩
   have HBK := Lib.hid hBk
   clear hBk
   go_wp2_with fail
   go_ret2
   exact ⟨HB3.out.trans (HB.out.mono HG.out), .inr ⟨g, rfl, HG.out, by omega, HBK.out⟩⟩
set_option maxHeartbeats 2000000 in
theorem Yur (p q : Option Addr) (len cap cap2 : Nat) (ws : List (List UInt8)) (ms : List Value) (w : World) (hr : VRow w w.heap.size p (strs ws)) (hx : ws.length = len) (hnil : p = none → cap = 0)
  (hr2 : VRow w w.heap.size q ms) (hx2 : ms.length = len) (hnil2 : q = none → cap2 = 0) (hl : len ≤ 100000) (h1 : ∀ u ∈ ms, u.oneCell' = true) (hw : ∀ s ∈ ws, s.length ≤ 1000000) :
  Calls Tryz.prog 107 #[.slice p len cap, .slice q len cap2] w (NewP w ws ms) := by
 have HC1 := Lib.hid (Y8i p len cap (strs ws) w hr (by rw [Y0z]; exact hx) hnil hl (by exact Ye8))
 have HX := Lib.hid hx
 have HX2 := Lib.hid hx2
 have HR := Lib.hid hr
 have HR2 := Lib.hid hr2
 have HN2 := Lib.hid hnil2
 have H1 := Lib.hid h1
 have HW := Lib.hid hw
 clear hr hx hnil hr2 hx2 hnil2 h1 hw
 go_enter Tryz.func107, Tryz.ntmps107
 go_wp2_with fail
 refine HC1.out.mono ?_
 rintro e w1 ⟨hb1, q1, c1, rfl, hv1, hc1, hm1, hq1, hg1⟩
 rw [Y0z, HX.out] at hc1 ⊢
 have HV1 := Lib.hid hv1
 have HB1 := Lib.hid hb1
 have HC1' := Lib.hid hc1
 have HG1 := Lib.hid hg1
 have HZ01 := Lib.hid hb1.size
 clear hv1 hc1 hm1 hq1 hg1
 have HC2 := Lib.hid (Y8i q len cap2 ms w1 ((HR2.out.below hb1 (Nat.le_refl _)).mono hb1.size) HX2.out HN2.out hl H1.out)
 clear hb1
 go_wp2_with fail
 refine HC2.out.mono ?_
 rintro e w2 ⟨hb2, q2, c2, rfl, hv2, hc2, hm2, hq2, hg2⟩
 rw [HX2.out] at hc2 ⊢
 have HV2 := Lib.hid hv2
 have HC2' := Lib.hid hc2
 have hT := Ywy w2 (.slice q1 len c1) (.slice q2 len c2) 213
 have hb3 : Below w.heap.size w (w2.alloc (.cells (Ya1 (.slice q1 len c1) (.slice q2 len c2)) 213)) := (HB1.out.trans (hb2.mono HB1.out.size)).alloc (Nat.le_trans HB1.out.size hb2.size) _
 have hvw : VRow (w2.alloc (.cells (Ya1 (.slice q1 len c1) (.slice q2 len c2)) 213)) w2.heap.size q1 (strs ws) := ((HV1.out.below hb2 (Nat.le_refl _)).mono hb2.size).below ((Below.refl _ w2).alloc (Nat.le_refl _) _) (Nat.le_refl _)
 have hvm : VRow (w2.alloc (.cells (Ya1 (.slice q1 len c1) (.slice q2 len c2)) 213)) w2.heap.size q2 ms := HV2.out.below ((Below.refl _ w2).alloc (Nat.le_refl _) _) (Nat.le_refl _)
 unfold Ya1 at hT hb3 hvw hvm
 have HG := Lib.hid (Nat.le_trans HB1.out.size hb2.size)
 have HG2 := Lib.hid (show ∀ a, q2 = some a → w.heap.size ≤ a.block from fun a h => Nat.le_trans HZ01.out (hg2 a h))
 have HT := Lib.hid hT
 have HB3 := Lib.hid hb3
 have HVW := Lib.hid hvw
 have HVM := Lib.hid hvm
 clear hT hb3 hvw hvm hv2 hc2 hm2 hq2 hg2 hb2 HV1 HV2 HB1 HC1 HC2
 go_wp2_with fail
 obtain ⟨w3, hw3⟩ : ∃ w3, w3 = w2.alloc (.cells #[.slice q1 len c1, .slice q2 len c2, .pointer none, .pointer none, .bool false, .int .i64 0] 213) := ⟨_, rfl⟩
 have hz3 : w3.heap.size = w2.heap.size + 1 := by rw [hw3]; simp
 rw [← hw3] at HT HB3 HVW HVM ⊢
 rw [← hz3] at HT
 generalize hge : w2.heap.size = g at *
 have hgl : g < w3.heap.size := by omega
 clear hw3 hz3
 go_loopw [7, 8, 9, 23] (fun u s e i wr => ∃ (k : Nat) (A : List Bool → Option (Nat × Nat)) (E : List Bool → Option Nat), k ≤ len ∧ i = .int .i64 (k : Int) ∧ Hid (Tr wr wr.heap.size g (.slice q1 len c1) (.slice q2 len c2) A E) ∧ Hid (St ws k A E) ∧ Hid (Below g w3 wr)) (fun _ _ _ i _ => len - (intOf i).toNat)
 case atStart => exact ⟨0, _, _, by omega, rfl, HT, Lib.hid (St.zero ws g), Lib.hid (Below.refl _ _)⟩
 case round =>
  obtain ⟨k, A, E, hk, rfl, HTr, HSt, HB⟩ := hrel
  by_cases hlt : k < len
  ·have hkz : k < ws.length := by rw [HX.out]; exact hlt
   obtain ⟨b, off, hp, hbl⟩ := HR.out.addr (by rw [Y0z]; omega)
   subst hp
   have hgw := HG.out
   have hc := (HB.out.cell (p := ⟨b, off + k, none⟩) (by show b < g; omega)).trans ((HB3.out.cell (p := ⟨b, off + k, none⟩) hbl).trans (HR.out.str k hkz))
   have hget : ws[k]? = some ws[k] := List.getElem?_eq_getElem hkz
   have hsl := HW.out ws[k] (List.getElem_mem hkz)
   have hem := Yj6 ws[k]
   generalize ws[k] = s at hc hget hsl hem
   have HGET := Lib.hid hget
   have hd : decide ((k : Int) < (len : Int)) = true := by simp; omega
   have i1 : (0 : Int) ≤ (k : Int) := by omega
   have i2 : (k : Int) < (len : Int) := by omega
   clear hget hgw
   by_cases hs : s = []
   ·subst hs
    have HS2 := Lib.hid (HSt.out.skip HGET.out)
    have hem : (bs []).toList.isEmpty = true := hem
    generalize bs [] = sb at hc hem
    go_wp2_with fail
    go_roundw
    case rel => exact ⟨k + 1, A, E, by omega, by go_num, HTr, HS2, HB⟩
    case measure => simp [intOf]; omega
   ·have hem : (bs s).toList.isEmpty = false := by
     rw [hem]
     cases s
     ·exact absurd rfl hs
     ·rfl
    have HADD := Lib.hid (Yj3 wr g (.slice q1 len c1) (.slice q2 len c2) A E s k HTr.out hsl trivial)
    have HS := Lib.hid hs
    clear hs
    generalize hsb : bs s = sb at hc hem HADD
    clear hsb
    go_wp2_with fail
    refine HADD.out.mono ?_
    rintro e w4 ⟨hb4, hres⟩
    have HB4 := Lib.hid (HB.out.trans hb4)
    clear hb4
    rcases hres with ⟨m, hm, rfl, hq1, hq2, A', hT', hdom⟩ | ⟨c, hc0, rfl, hbad⟩
    ·have HT' := Lib.hid hT'
     have HS' := Lib.hid (HSt.out.add (by rw [← hm]; exact HGET.out) (by intro e; exact HS.out (by rw [hm, e]; rfl)) hq1 hq2 hdom)
     clear hm hq1 hq2 hT' hdom
     go_wp2_with fail
     go_roundw
     case rel => exact ⟨k + 1, A', _, by omega, by go_num, HT', HS', HB4⟩
     case measure => simp [intOf]; omega
    ·have HBAD := Lib.hid (HSt.out.bad HGET.out HS.out hbad)
     have hcb : (c != 0) = true := by simpa using hc0
     have HC0 := Lib.hid hc0
     clear hbad hc0
     go_wp2_with fail
     go_ret2
     exact ⟨HB3.out.trans (HB4.out.mono HG.out), .inl ⟨c, HC0.out, rfl, HBAD.out⟩⟩
  ·have hke : k = len := by omega
   subst hke
   have hd : decide ((k : Int) < (k : Int)) = false := by simp
   have hzr := HB.out.size
   have hBk : BkK wr w.heap.size g ws ms := ⟨q1, c1, q2, c2, A, E, by rw [HX.out]; exact HSt.out, by rw [HX.out]; exact HC1'.out, by rw [HX2.out]; exact HC2'.out, fun wq hkq => ⟨by rw [HX.out, HX2.out]; exact HTr.out.keep (fun k h1 h2 => hkq k (Nat.le_trans HG.out h1) h2), ((HVW.out.below HB.out (Nat.le_refl _)).mono (by omega)).keep HG1.out hkq, ((HVM.out.below HB.out (Nat.le_refl _)).mono (by omega)).keep HG2.out hkq⟩⟩
   have HBK := Lib.hid hBk
   clear hBk
   go_wp2_with fail
   go_ret2
   exact ⟨HB3.out.trans (HB.out.mono HG.out), .inr ⟨g, rfl, HG.out, by omega, HBK.out⟩⟩
end Go.Proofs.YtkkfkmoikcmhoaaGreat.Hf
namespace Go.Proofs.YtkkfkmoikcmhoaaGreat.Hf
open Go.RowKit Oct Bit
set_option maxRecDepth 100000
theorem Ywe {w : World} {C : Nat} {p : Option Addr} {vs : List Value} {i : Nat} {v : Value} (h : VRow w C p vs) (hv : vs[i]? = some v) : ∃ b off, p = some ⟨b, off, none⟩ ∧ b < C ∧ w.cell? ⟨b, off + i, none⟩ = some v := by
 obtain ⟨hi, he⟩ := List.getElem?_eq_some_iff.1 hv
 obtain ⟨b, off, hp, hb, hc⟩ := h (by omega)
 exact ⟨b, off, hp, hb, by rw [hc i hi, he]⟩
end Go.Proofs.YtkkfkmoikcmhoaaGreat.Hf

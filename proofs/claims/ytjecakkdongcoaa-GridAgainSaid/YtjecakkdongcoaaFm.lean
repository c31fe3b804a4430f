
/- Frames: facts of a world that stay over calls, carried along at once; small facts of loops. Of no program. -/
import Derived.Test.YtjecakkdongcoaaLpR
namespace Go.Proofs.Ytjecakkdongcoaa.Fm
open Go.RowKit Go.Proofs.Ytjecakkdongcoaa.Oct
open Go.Proofs.Ytjecakkdongcoaa.Lp (VRow)
set_option linter.unusedVariables false
set_option linter.unusedSimpArgs false

/-- a fact that stays when nothing of what is there turns -/
class Sta (A : World → Prop) : Prop where
  go : ∀ {w w' : World}, A w → Below w.heap.size w w' → A w'
instance {p : Option Addr} {vs : List Value} : Sta (fun w => VRow w w.heap.size p vs) := ⟨fun h hb => (h.below hb (Nat.le_refl _)).mono hb.size⟩
instance {p : Option Addr} {xs : List UInt8} : Sta (fun w => Row w p xs) := ⟨fun h hb => h.below hb⟩
instance {c : Prop} : Sta (fun _ => c) := ⟨fun h _ => h⟩
instance {A B : World → Prop} [a : Sta A] [b : Sta B] : Sta (fun w => A w ∧ B w) := ⟨fun h hb => ⟨a.go h.1 hb, b.go h.2 hb⟩⟩
/-- what a call has come to: its world, and what stands in it -/
structure Fr (w0 : World) (A : World → Prop) (w : World) : Prop where
  bel : Below w0.heap.size w0 w
  is : A w
theorem Fr.start (w : World) : Hid (Fr w (fun _ => True) w) := Lib.hid ⟨Below.refl _ _, trivial⟩
theorem Fr.go {w0 w w' : World} {A : World → Prop} [a : Sta A] (h : Fr w0 A w) (hb : Below w.heap.size w w') : Hid (Fr w0 A w') :=
  Lib.hid ⟨h.bel.trans (hb.mono h.bel.size), a.go h.is hb⟩
theorem Fr.drawn {w0 w w' : World} {A : World → Prop} [a : Sta A] (h : Fr w0 A w) (hd : Drawn w w') : Hid (Fr w0 A w') := h.go (hd.below _)
theorem Fr.v {w0 w : World} {A : World → Prop} (h : Fr w0 A w) {p : Option Addr} {vs : List Value} (hv : VRow w w.heap.size p vs) : Hid (Fr w0 (fun w => VRow w w.heap.size p vs ∧ A w) w) := Lib.hid ⟨h.bel, hv, h.is⟩
theorem Fr.r {w0 w : World} {A : World → Prop} (h : Fr w0 A w) {p : Option Addr} {xs : List UInt8} (hv : Row w p xs) : Hid (Fr w0 (fun w => Row w p xs ∧ A w) w) := Lib.hid ⟨h.bel, hv, h.is⟩
theorem Fr.goV {w0 w w' : World} {A : World → Prop} [a : Sta A] (h : Fr w0 A w) (hb : Below w.heap.size w w') {p : Option Addr} {vs : List Value} (hv : VRow w' w'.heap.size p vs) : Hid (Fr w0 (fun w => VRow w w.heap.size p vs ∧ A w) w') := (h.go hb).out.v hv
theorem Fr.goR {w0 w w' : World} {A : World → Prop} [a : Sta A] (h : Fr w0 A w) (hb : Below w.heap.size w w') {p : Option Addr} {xs : List UInt8} (hv : Row w' p xs) : Hid (Fr w0 (fun w => Row w p xs ∧ A w) w') := (h.go hb).out.r hv
theorem Fr.new {w0 w : World} {A : World → Prop} [a : Sta A] (h : Fr w0 A w) (vs : List Value) (T : TypeId) : Hid (Fr w0 (fun W => VRow W W.heap.size (some ⟨w.heap.size, 0, none⟩) vs ∧ A W) (w.alloc (.cells vs.toArray T))) := by
  have hb1 : Below w.heap.size w (w.alloc (.cells vs.toArray T)) := (Below.refl _ w).alloc (Nat.le_refl _) _
  refine h.goV hb1 ?_
  exact Lp.vrow_blk (T := T) (fr := (0, 0)) (by
    show (w.heap.push _)[w.heap.size]? = _
    simp) (by simp)
/-- done up to a place, behind it as it was -/
def mixA {α : Type} (a b : List α) (k : Nat) : List α := a.take k ++ b.drop k
theorem mixA_length {α : Type} {a b : List α} {k : Nat} (h : a.length = b.length) : (mixA a b k).length = b.length := by simp [mixA]; omega
theorem mixA_zero {α : Type} (a b : List α) : mixA a b 0 = b := by simp [mixA]
theorem mixA_all {α : Type} {a b : List α} {k : Nat} (h : a.length = b.length) (hk : b.length ≤ k) : mixA a b k = a := by
  unfold mixA
  rw [List.take_of_length_le (by omega), List.drop_of_length_le hk, List.append_nil]
theorem mixA_step {α : Type} {a b : List α} {k : Nat} (ha : k < a.length) (hb : k < b.length) : (mixA a b k).set k a[k] = mixA a b (k + 1) := by
  unfold mixA
  have e : (List.drop k b).set 0 a[k] = a[k] :: List.drop (k + 1) b := by rw [List.drop_eq_getElem_cons hb]; rfl
  rw [List.set_append_right _ _ (by simp; omega), List.length_take, Nat.min_eq_left (by omega), Nat.sub_self, e, List.take_succ_eq_append_getElem ha, List.append_assoc]
  rfl
theorem mixA_at {α : Type} {a b : List α} {k : Nat} (ha : k ≤ a.length) : (mixA a b k)[k]? = b[k]? := by
  unfold mixA
  rw [List.getElem?_append_right (by simp; omega), List.length_take, Nat.min_eq_left ha]
  simp
theorem mixA_lt {α : Type} {a b : List α} {j k : Nat} (h : j < k) (ha : k ≤ a.length) : (mixA a b k)[j]? = a[j]? := by
  unfold mixA
  rw [List.getElem?_append_left (by simp; omega), List.getElem?_take_of_lt h]
/-- a block of the call's own: just these cells -/
def Ow (w0 : World) (G : Nat) (T : TypeId) (vs : List Value) (w : World) : Prop :=
  Below w0.heap.size w0 w ∧ w0.heap.size ≤ G ∧ G < w.heap.size ∧ w.heap[G]? = some (.cells vs.toArray T (0, 0))
theorem Ow.cell {w0 w : World} {G : Nat} {T : TypeId} {vs : List Value} (h : Ow w0 G T vs w) (k : Nat) (hk : k < vs.length) (h1 : vs[k].oneCell' = true) : w.cell? ⟨G, k, none⟩ = some vs[k] := by
  simp [World.cell?, h.2.2.2, hk]
theorem Ow.fz {w0 w : World} {G : Nat} {T : TypeId} {vs : List Value} (h : Ow w0 G T vs w) (i : Nat) : w.frozen? ⟨G, i, none⟩ = false := Lp.blk_frozen h.2.2.2 i
theorem Ow.go {w0 w w' : World} {G : Nat} {T : TypeId} {vs : List Value} (h : Ow w0 G T vs w) (hb : Below w.heap.size w w') : Ow w0 G T vs w' :=
  ⟨h.1.trans (hb.mono h.1.size), h.2.1, Nat.lt_of_lt_of_le h.2.2.1 hb.size, (hb.block G h.2.2.1).trans h.2.2.2⟩
theorem Ow.drawn {w0 w w' : World} {G : Nat} {T : TypeId} {vs : List Value} (h : Ow w0 G T vs w) (hd : Drawn w w') : Ow w0 G T vs w' := h.go (hd.below _)
theorem Ow.set {w0 w : World} {G : Nat} {T : TypeId} {vs : List Value} (h : Ow w0 G T vs w) (k : Nat) (v : Value) : Ow w0 G T (vs.set k v) (w.setCell ⟨G, k, none⟩ v) := by
  refine ⟨h.1.setCell h.2.1 _, h.2.1, by simpa [World.setCell] using h.2.2.1, ?_⟩
  have := Lp.blk_set h.2.2.2 k v
  rwa [List.setIfInBounds_toArray] at this
theorem Ow.row {w0 w : World} {G : Nat} {T : TypeId} {vs : List Value} (h : Ow w0 G T vs w) : VRow w w.heap.size (some ⟨G, 0, none⟩) vs := Lp.vrow_blk h.2.2.2 h.2.2.1
theorem made_one (z : Value) (n : Nat) : (madeCells #[z] n).toList = List.replicate n z := by
  simp [madeCells]
  apply List.ext_getElem <;> simp [Nat.mod_one]
theorem Ow.make {w0 w w1 : World} {B T n : Nat} {z : Value} (hb : Below w0.heap.size w0 w) (ho : w1.ownsRow B T 1 (.slice (some ⟨w.heap.size, 0, none⟩) n n) n (madeCells #[z] (n * 1)).toList) (hg : w.grownBy w1 none) : Ow w0 w.heap.size T (List.replicate n z) w1 := by
  have hb1 : Below w.heap.size w w1 := (Below.refl _ _).grown hg (Nat.le_refl _) (fun k hk => by cases hk)
  have hk := blk_of_own ho
  rw [Nat.mul_one, made_one] at hk
  refine ⟨hb.trans (hb1.mono hb.size), hb.size, ?_, hk⟩
  rcases Nat.lt_or_ge w.heap.size w1.heap.size with h | h
  · exact h
  · rw [Array.getElem?_eq_none h] at hk; cases hk
/-- a row of the call's own that grows -/
def Gw (w0 : World) (T : TypeId) (vs : List Value) (v : Value) (w : World) : Prop := w.ownsRow w0.heap.size T 1 v vs.length vs ∧ Below w0.heap.size w0 w
theorem Gw.nil {w0 w : World} (T : TypeId) (h : Below w0.heap.size w0 w) : Gw w0 T [] (.slice none 0 0) w := ⟨World.ownsRow_nil w w0.heap.size T 1, h⟩
theorem Gw.go {w0 w w' : World} {T : TypeId} {vs : List Value} {v : Value} (h : Gw w0 T vs v w) (hb : Below w.heap.size w w') : Gw w0 T vs v w' := ⟨own_below h.1 hb, h.2.trans (hb.mono h.2.size)⟩
/-- what the append of some cells that were just laid asks -/
theorem Gw.one {w0 w W : World} {T : TypeId} {vs : List Value} {v : Value} (h : Gw w0 T vs v w) (hb : Below w.heap.size w W) (xs : List Value) :
    VRow (W.alloc (.cells xs.toArray T)) (W.alloc (.cells xs.toArray T)).heap.size (some ⟨W.heap.size, 0, none⟩) xs ∧ (W.alloc (.cells xs.toArray T)).ownsRow w0.heap.size T 1 v vs.length vs ∧ Below w0.heap.size w0 (W.alloc (.cells xs.toArray T)) ∧ w0.heap.size ≤ (W.alloc (.cells xs.toArray T)).heap.size := by
  have hb1 : Below W.heap.size W (W.alloc (.cells xs.toArray T)) := (Below.refl _ W).alloc (Nat.le_refl _) _
  have h2 := (h.go hb).go hb1
  exact ⟨Lp.vrow_blk (T := T) (fr := (0, 0)) (by
    show (W.heap.push _)[W.heap.size]? = _
    simp) (by simp), h2.1, h2.2, h2.2.size⟩
theorem Gw.done {w0 w : World} {T : TypeId} {vs : List Value} {v : Value} {n : Nat} (h : Gw w0 T vs v w) (hn : vs.length = n) :
    Below w0.heap.size w0 w ∧ ∃ q c, v = .slice q n c ∧ VRow w w.heap.size q vs ∧ n ≤ c ∧ c ≤ maxLen ∧ (q = none → c = 0) ∧ ∀ a, q = some a → w0.heap.size ≤ a.block := by
  subst hn
  obtain ⟨q, c2, hv, hnq, hq1, hq2, hrow, hqb⟩ := Lp.vrow_own h.1 rfl
  exact ⟨h.2, q, c2, hv, hrow, hq1, hq2, hnq, hqb⟩
instance {w0 : World} {G : Nat} {T : TypeId} {vs : List Value} : Sta (fun w => Ow w0 G T vs w) := ⟨fun h hb => h.go hb⟩
instance {w0 : World} {T : TypeId} {vs : List Value} {v : Value} : Sta (fun w => Gw w0 T vs v w) := ⟨fun h hb => h.go hb⟩
instance {p : Addr} {v : Value} : Sta (fun w => p.block < w.heap.size ∧ w.cell? p = some v) := ⟨fun h hb => ⟨Nat.lt_of_lt_of_le h.1 hb.size, (hb.cell h.1).trans h.2⟩⟩
/-- a round of a loop from nought up, and its end -/
theorem rnd {k n : Nat} (h : k < n) : decide ((k : Int) < (n : Int)) = true ∧ (0 : Int) ≤ (k : Int) ∧ (k : Int) < (n : Int) := by
  refine ⟨by simpa using h, ?_, ?_⟩ <;> omega
theorem fin {k n : Nat} (h : ¬k < n) (hk : k ≤ n) : k = n ∧ decide ((n : Int) < (n : Int)) = false := ⟨by omega, by simp⟩
end Go.Proofs.Ytjecakkdongcoaa.Fm

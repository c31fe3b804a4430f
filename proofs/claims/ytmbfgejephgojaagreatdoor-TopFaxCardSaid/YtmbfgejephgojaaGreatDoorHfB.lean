
/- Rows of values in memory: numbers and strings; the contract of slices.Clone over them. -/
import Derived.Test.YtmbfgejephgojaaGreatDoorIfO
import Derived.Test.YtmbfgejephgojaaGreatDoorBitS
import Derived.Test.YtmbfgejephgojaaGreatDoorTail
import Derived.Test.YtmbfgejephgojaaGreatDoorBitD
import Derived.Lib.SliceRun
namespace Go.Proofs.YtmbfgejephgojaaGreatDoor.Hf
open Go.RowKit Go.Proofs.YtmbfgejephgojaaGreatDoor.Oct Go.Proofs.YtmbfgejephgojaaGreatDoor.Bit
set_option linter.unusedVariables false
set_option maxRecDepth 20000

/-- a slice's value reads as these, which lie below C -/
def VRow (w : World) (C : Nat) (p : Option Addr) (vs : List Value) : Prop :=
  0 < vs.length → ∃ b off, p = some ⟨b, off, none⟩ ∧ b < C ∧ ∀ i (h : i < vs.length), w.cell? ⟨b, off + i, none⟩ = some vs[i]
theorem VRow.below {w w' : World} {C B : Nat} {p : Option Addr} {vs : List Value} (h : VRow w C p vs) (hb : Below B w w') (hC : C ≤ B) : VRow w' C p vs := by
  intro hp
  obtain ⟨b, off, rfl, hlt, hc⟩ := h hp
  exact ⟨b, off, rfl, hlt, fun i hi => (hb.cell (p := ⟨b, off + i, none⟩) (by show b < B; omega)).trans (hc i hi)⟩
theorem VRow.mono {w : World} {C D : Nat} {p : Option Addr} {vs : List Value} (h : VRow w C p vs) (hC : C ≤ D) : VRow w D p vs := by
  intro hp
  obtain ⟨b, off, rfl, hlt, hc⟩ := h hp
  exact ⟨b, off, rfl, by omega, hc⟩
def ints (zs : List Int) : List Value := zs.map fun z => .int .i64 z
def strs (L : List (List UInt8)) : List Value := L.map fun s => .string (bs s)
theorem ints_length (zs : List Int) : (ints zs).length = zs.length := by simp [ints]
theorem strs_length (L : List (List UInt8)) : (strs L).length = L.length := by simp [strs]
theorem strs_append (L M : List (List UInt8)) : strs (L ++ M) = strs L ++ strs M := by simp [strs]
theorem ints_append (L M : List Int) : ints (L ++ M) = ints L ++ ints M := by simp [ints]
theorem ints_one {zs : List Int} : ∀ v ∈ ints zs, v.oneCell' = true := by
  intro v hv
  simp [ints] at hv
  obtain ⟨x, _, rfl⟩ := hv
  rfl
theorem strs_one {L : List (List UInt8)} : ∀ v ∈ strs L, v.oneCell' = true := by
  intro v hv
  simp [strs] at hv
  obtain ⟨x, _, rfl⟩ := hv
  rfl
theorem VRow.int {w : World} {C : Nat} {b off : Nat} {zs : List Int} (h : VRow w C (some ⟨b, off, none⟩) (ints zs)) (i : Nat) (hi : i < zs.length) : w.cell? ⟨b, off + i, none⟩ = some (.int .i64 zs[i]) := by
  obtain ⟨b', off', e, hlt, hc⟩ := h (by rw [ints_length]; omega)
  injection e with e
  injection e with e1 e2
  subst e1; subst e2
  have := hc i (by rw [ints_length]; exact hi)
  rw [this]
  simp [ints]
theorem VRow.str {w : World} {C : Nat} {b off : Nat} {L : List (List UInt8)} (h : VRow w C (some ⟨b, off, none⟩) (strs L)) (i : Nat) (hi : i < L.length) : w.cell? ⟨b, off + i, none⟩ = some (.string (bs L[i])) := by
  obtain ⟨b', off', e, hlt, hc⟩ := h (by rw [strs_length]; omega)
  injection e with e
  injection e with e1 e2
  subst e1; subst e2
  have := hc i (by rw [strs_length]; exact hi)
  rw [this]
  simp [strs]
theorem VRow.addr {w : World} {C : Nat} {p : Option Addr} {vs : List Value} (h : VRow w C p vs) (hp : 0 < vs.length) : ∃ b off, p = some ⟨b, off, none⟩ ∧ b < C := by
  obtain ⟨b, off, e, hlt, _⟩ := h hp
  exact ⟨b, off, e, hlt⟩
theorem vrow_blk {w : World} {g C : Nat} {vs : List Value} {T : TypeId} {fr : Nat × Nat} (h : w.heap[g]? = some (.cells vs.toArray T fr)) (hC : g < C) : VRow w C (some ⟨g, 0, none⟩) vs := by
  intro hp
  refine ⟨g, 0, rfl, hC, fun i hi => ?_⟩
  simp [World.cell?, h, hi]
theorem vrow_own {w : World} {base n e : Nat} {v : Value} {vs : List Value} (h : w.ownsRow base e 1 v n vs) (hn : vs.length = n) :
    ∃ q c, v = .slice q n c ∧ (q = none → c = 0) ∧ n ≤ c ∧ c ≤ maxLen ∧ VRow w w.heap.size q vs ∧ ∀ a, q = some a → base ≤ a.block := by
  have hl := fun k hk => h.lt k hk
  have hc := fun g hg => h.cells (g := g) hg
  rcases h.2 with ⟨rfl, h0⟩ | ⟨g, cap, cur, rfl, hb, hh, h1, h2, _, _⟩
  · subst h0
    have : vs = [] := List.eq_nil_of_length_eq_zero hn
    subst this
    exact ⟨none, 0, rfl, fun _ => rfl, Nat.le_refl _, by simp [maxLen], fun h => absurd h (by simp), fun a h => by cases h⟩
  · refine ⟨some ⟨g, 0, none⟩, cap, rfl, fun h => (by cases h), h1, h2, fun hp => ⟨g, 0, rfl, (hl g rfl).2, fun i hi => ?_⟩, fun a h => by injection h with h; subst h; exact hb⟩
    have := hc g rfl i vs[i] (by simp [hi])
    rw [add_plain] at this
    exact this
theorem Tryz.infoStr : (Tryz.prog.info? 9).map (fun i => (i.zero, i.size, i.bytes)) = some (some (.string ByteArray.empty), 1, 16) := by kernel_rfl
theorem Tryz.infoInt : (Tryz.prog.info? 3).map (fun i => (i.zero, i.size, i.bytes)) = some (some (.int .i64 0), 1, 8) := by kernel_rfl
theorem wpList_append_vals {w : World} {ops : Array Oper} {rest : List Oper} {o : Oper} {a : Act} {Q : Exit → Act → World → Prop} {T e : TypeId} {i0 : TypeInfo} {z : Value} {by_ : Nat}
    (hT : Tryz.prog.underlying T = some (.slice e)) (hi : Tryz.prog.info? e = some i0) (hz0 : i0.zero = some z) (hz1 : i0.size = 1) (hz2 : i0.bytes = by_) (hzc : z.cells = #[z]) (hby2 : by_ ≤ 16)
    (hgd : o.guard = none) (s x : Operand)
    (ho : o.op = .call { callee := .builtin .append, args := #[s, x], argTypes := #[T, T] })
    (base : Nat) (v : Value) (n : Nat) (ys : List Value) (hs : a.eval s = v) (hown : w.ownsRow base e 1 v n ys)
    (p : Option Addr) (m c : Nat) (xs : List Value) (hx : a.eval x = .slice p m c) (hr : VRow w w.heap.size p xs) (hxm : xs.length = m) (hc0 : p = none → c = 0) (h1 : ∀ u ∈ xs, u.oneCell' = true)
    (h47 : n + m ≤ 100000000) (hbase : base ≤ w.heap.size)
    (h : ∀ v' w', w'.ownsRow base e 1 v' (n + m) (ys ++ xs) → w.grownBy w' v.ownBlock → Below base w w' → wpList Tryz.prog ops Q rest (a.put o.dst v') w') :
    wpList Tryz.prog ops Q (o :: rest) a w := by
  rcases p with _ | ad
  · have hxs : xs = [] := by
      rcases xs with _ | ⟨x, xs⟩
      · rfl
      · obtain ⟨b, off, he, _⟩ := hr (by simp)
        cases he
    subst hxs
    simp at hxm
    subst hxm
    have := hc0 rfl
    subst this
    refine wpList_append_own_none hgd s x T ho base e i0 1 hT hi v n ys hs hown hx ?_
    exact h v w (by simpa using hown) (World.grownBy.refl w _) (Below.refl _ _)
  · refine wpList_append_own w hgd s x T ho base e i0 z 1 by_ hT hi hz0 hz1 hz2 (by rw [hzc]; rfl) (by decide) v n ys hs hown ad m c xs hx (by rw [hxm]; omega) ?_ h1 (by unfold maxLen; omega) ?_ hbase ?_
    · intro j u hj
      obtain ⟨hj', hju⟩ := List.getElem?_eq_some_iff.1 hj
      obtain ⟨b, off, he, _, hc⟩ := hr (by omega)
      injection he with he
      subst he
      rw [add_plain, ← hju]
      exact hc j hj'
    · have := Nat.mul_le_mul_left (n + m) hby2
      first | omega | (have := Nat.mul_le_mul_left ((n + m) * 1) hby2; omega)
    · intro v' w' h2 h3 h4
      exact h v' w' h2 h3 (grown_below hown h3 hbase)
def CloneV (w : World) (vs : List Value) (e : Ending) (w' : World) : Prop :=
  Below w.heap.size w w' ∧ ∃ q cap, e = .returned (.slice q vs.length cap) ∧ VRow w' w'.heap.size q vs ∧ vs.length ≤ cap ∧ cap ≤ maxLen ∧ (q = none → cap = 0) ∧ ∀ a, q = some a → w.heap.size ≤ a.block
set_option maxHeartbeats 400000 in
theorem cloneS_any (p : Option Addr) (len cap : Nat) (vs : List Value) (w : World) (hr : VRow w w.heap.size p vs) (hx : vs.length = len) (hnil : p = none → cap = 0) (h47 : len ≤ 100000) (h1 : ∀ u ∈ vs, u.oneCell' = true) :
    Calls Tryz.prog 55 #[.slice p len cap] w (CloneV w vs) := by
  obtain ⟨i0, hi, hz0, hz1, hz2⟩ := info_parts Tryz.infoStr
  rcases p with _ | ad
  · have hxs : vs = [] := by
      rcases vs with _ | ⟨x, xs⟩
      · rfl
      · obtain ⟨b, off, he, _⟩ := hr (by simp)
        cases he
    subst hxs
    simp at hx
    subst hx
    have hcap := hnil rfl
    subst hcap
    clear hnil
    have heq : ∀ w' : World, (binOp .eql 66 (.slice none 0 0) (.slice none 0 0)).run Tryz.prog w' = .ok (.bool true) w' := fun w' => Lib.run_eql_slice_nil (P := Tryz.prog) w' 66 9 none 0 0 0 0 Tryz.underlying66
    go_enter Tryz.func55, Tryz.ntmps55
    go_wp2_with fail
    go_ret
    exact ⟨Below.refl _ _, none, 0, rfl, fun h => absurd h (by simp), by simp, by simp [maxLen], fun _ => rfl, (fun a h => by cases h)⟩
  · have hown := World.ownsRow_made (base := w.heap.size) (e := 9) (size := 1) w #[] 0 (Nat.le_refl _) (by simp [maxLen]) rfl
    have hba : Below w.heap.size w (w.alloc (.cells #[] 9)) := (Below.refl _ w).alloc (Nat.le_refl _) _
    have hr2 : VRow (w.alloc (.cells #[] 9)) (w.alloc (.cells #[] 9)).heap.size (some ad) vs := (hr.below hba (Nat.le_refl _)).mono (by simp)
    have HX := Lib.hid hx
    have HR2 := Lib.hid hr2
    have HBA := Lib.hid hba
    have H1 := Lib.hid h1
    clear hx hnil hr2 hba hr h1
    have heq : ∀ w' : World, (binOp .eql 66 (.slice (some ad) len cap) (.slice none 0 0)).run Tryz.prog w' = .ok (.bool false) w' := fun w' => Lib.run_eql_slice_nil (P := Tryz.prog) w' 66 9 (some ad) len cap 0 0 Tryz.underlying66
    go_enter Tryz.func55, Tryz.ntmps55
    go_wp2_with (at_builtin; refine wpList_append_vals Tryz.underlying66 hi hz0 hz1 hz2 rfl (by decide) rfl _ _ rfl w.heap.size _ 0 [] rfl hown (some ad) len cap vs rfl HR2.out HX.out (fun h => by cases h) H1.out (by omega) (by simp) ?_)
    intro v' w2 hown' hgrow hbel
    obtain ⟨q, cap2, hv', hq0, hgc, hgm, hrow2, hqb⟩ := vrow_own hown' HX.out
    rw [hv']
    have HB12 := Lib.hid (HBA.out.trans hbel)
    have HROW := Lib.hid hrow2
    have HGC := Lib.hid hgc
    have HGM := Lib.hid hgm
    have HQB := Lib.hid hqb
    have HQ0 := Lib.hid hq0
    clear hown hown' hgrow hbel hv' hrow2 hgc hgm hqb hq0
    go_wp2_with fail
    go_ret
    refine ⟨HB12.out, q, cap2, by rw [HX.out]; simp, HROW.out, by have := HGC.out; rw [HX.out]; omega, HGM.out, HQ0.out, HQB.out⟩
set_option maxHeartbeats 400000 in
theorem cloneI_any (p : Option Addr) (len cap : Nat) (vs : List Value) (w : World) (hr : VRow w w.heap.size p vs) (hx : vs.length = len) (hnil : p = none → cap = 0) (h47 : len ≤ 100000) (h1 : ∀ u ∈ vs, u.oneCell' = true) :
    Calls Tryz.prog 56 #[.slice p len cap] w (CloneV w vs) := by
  obtain ⟨i0, hi, hz0, hz1, hz2⟩ := info_parts Tryz.infoInt
  rcases p with _ | ad
  · have hxs : vs = [] := by
      rcases vs with _ | ⟨x, xs⟩
      · rfl
      · obtain ⟨b, off, he, _⟩ := hr (by simp)
        cases he
    subst hxs
    simp at hx
    subst hx
    have hcap := hnil rfl
    subst hcap
    clear hnil
    have heq : ∀ w' : World, (binOp .eql 38 (.slice none 0 0) (.slice none 0 0)).run Tryz.prog w' = .ok (.bool true) w' := fun w' => Lib.run_eql_slice_nil (P := Tryz.prog) w' 38 3 none 0 0 0 0 Tryz.underlying38
    go_enter Tryz.func56, Tryz.ntmps56
    go_wp2_with fail
    go_ret
    exact ⟨Below.refl _ _, none, 0, rfl, fun h => absurd h (by simp), by simp, by simp [maxLen], fun _ => rfl, (fun a h => by cases h)⟩
  · have hown := World.ownsRow_made (base := w.heap.size) (e := 3) (size := 1) w #[] 0 (Nat.le_refl _) (by simp [maxLen]) rfl
    have hba : Below w.heap.size w (w.alloc (.cells #[] 3)) := (Below.refl _ w).alloc (Nat.le_refl _) _
    have hr2 : VRow (w.alloc (.cells #[] 3)) (w.alloc (.cells #[] 3)).heap.size (some ad) vs := (hr.below hba (Nat.le_refl _)).mono (by simp)
    have HX := Lib.hid hx
    have HR2 := Lib.hid hr2
    have HBA := Lib.hid hba
    have H1 := Lib.hid h1
    clear hx hnil hr2 hba hr h1
    have heq : ∀ w' : World, (binOp .eql 38 (.slice (some ad) len cap) (.slice none 0 0)).run Tryz.prog w' = .ok (.bool false) w' := fun w' => Lib.run_eql_slice_nil (P := Tryz.prog) w' 38 3 (some ad) len cap 0 0 Tryz.underlying38
    go_enter Tryz.func56, Tryz.ntmps56
    go_wp2_with (at_builtin; refine wpList_append_vals Tryz.underlying38 hi hz0 hz1 hz2 rfl (by decide) rfl _ _ rfl w.heap.size _ 0 [] rfl hown (some ad) len cap vs rfl HR2.out HX.out (fun h => by cases h) H1.out (by omega) (by simp) ?_)
    intro v' w2 hown' hgrow hbel
    obtain ⟨q, cap2, hv', hq0, hgc, hgm, hrow2, hqb⟩ := vrow_own hown' HX.out
    rw [hv']
    have HB12 := Lib.hid (HBA.out.trans hbel)
    have HROW := Lib.hid hrow2
    have HGC := Lib.hid hgc
    have HGM := Lib.hid hgm
    have HQB := Lib.hid hqb
    have HQ0 := Lib.hid hq0
    clear hown hown' hgrow hbel hv' hrow2 hgc hgm hqb hq0
    go_wp2_with fail
    go_ret
    refine ⟨HB12.out, q, cap2, by rw [HX.out]; simp, HROW.out, by have := HGC.out; rw [HX.out]; omega, HGM.out, HQ0.out, HQB.out⟩
end Go.Proofs.YtmbfgejephgojaaGreatDoor.Hf

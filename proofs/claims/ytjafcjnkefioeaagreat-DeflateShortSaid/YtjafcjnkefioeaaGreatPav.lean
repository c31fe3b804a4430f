/- LpD, LpE, LpF, LpG: merged. -/
import Derived.Sort.LotA
import Derived.Test.YtjafcjnkefioeaaGreatRows
import Derived.Laws.BitsAllLaws
import Derived.Laws.Strings
import Derived.Laws.BytesArg
import Derived.WalkKit
import Derived.ProofKit
import Derived.WalkLawsBesides
import Derived.Lib.Hide
import Derived.Deep.QuietTactic
import Derived.BigQuiet
import Derived.Outline
import Derived.Laws.NewBlocks
import Derived.Laws.CopyOwn
import Derived.Laws.Concat
import Derived.Laws.Strings2
import Derived.WalkSpells
import Derived.Laws.AppendOwnNone
import Derived.OpenShut
import Derived.Shelf.SlSortCmp.PdqK
import Derived.Deep.DeepCutAuto
import Derived.Lib.SliceRun
import Derived.ChangeSlices
import Derived.Lib.BufferMore
import Derived.RegionTactic
import Derived.BigRegion
import Derived.OwnWalk
import Derived.Deep.WholeRow
import Derived.Shelf.Spec.SlicesGrow
import Derived.Test.YtjafcjnkefioeaaGreatPau
set_option linter.unusedVariables false
set_option linter.unusedSimpArgs false
/- slices.Grow and slices.Concat over rows of packs. -/
namespace Go.Proofs.YtjafcjnkefioeaaGreat.Lp
open Go.RowKit Go.Shelf Go.Proofs.YtjafcjnkefioeaaGreat.Oct Go.Proofs.YtjafcjnkefioeaaGreat.Lm
set_option maxRecDepth 100000
def pcells (zs : List Pk) : List Value := zs.flatMap encP
theorem pcells_length (zs : List Pk) : (pcells zs).length = zs.length * 3 := by
  induction zs with
  | nil => rfl
  | cons z zs ih =>
    unfold pcells at ih ⊢
    rw [List.flatMap_cons, List.length_append, ih, encP_len, List.length_cons]
    omega
theorem pcells_append (a b : List Pk) : pcells (a ++ b) = pcells a ++ pcells b := by simp [pcells]
theorem pcells_get : ∀ (zs : List Pk) (i : Nat) (h : i < zs.length), (pcells zs)[i * 3]? = some (.int .i64 zs[i].wt) ∧ (pcells zs)[i * 3 + 1]? = some (.int .i64 zs[i].sym) ∧ (pcells zs)[i * 3 + 2]? = some (.slice zs[i].ptr zs[i].len zs[i].cap)
  | [], i, h => by simp at h
  | z :: zs, 0, h => ⟨rfl, rfl, rfl⟩
  | z :: zs, i + 1, h => by
    obtain ⟨q1, q2, q3⟩ := pcells_get zs i (by simpa using h)
    have e : ∀ j, (pcells (z :: zs))[j + 3]? = (pcells zs)[j]? := fun j => rfl
    rw [show (i + 1) * 3 = i * 3 + 3 by omega, show i * 3 + 3 + 1 = i * 3 + 1 + 3 by omega, show i * 3 + 3 + 2 = i * 3 + 2 + 3 by omega, e, e, e]
    exact ⟨q1, q2, q3⟩
theorem PRow.cells {w : World} {b : Nat} {zs : List Pk} (h : PRow w b zs) (j : Nat) (u : Value) (hj : (pcells zs)[j]? = some u) : w.cell? ⟨b, j, none⟩ = some u := by
  have hlt : j < zs.length * 3 := by
    rw [← pcells_length]
    exact (List.getElem?_eq_some_iff.1 hj).1
  have hi : j / 3 < zs.length := by omega
  obtain ⟨q1, q2, q3⟩ := pcells_get zs (j / 3) hi
  obtain ⟨c1, c2, c3⟩ := h (j / 3) hi
  rcases (show j = j / 3 * 3 ∨ j = j / 3 * 3 + 1 ∨ j = j / 3 * 3 + 2 by omega) with e | e | e
  · rw [← e] at q1 c1
    rw [q1] at hj
    rw [c1, hj]
  · rw [← e] at q2 c2
    rw [q2] at hj
    rw [c2, hj]
  · rw [← e] at q3 c3
    rw [q3] at hj
    rw [c3, hj]
theorem prow_of {w : World} {b : Nat} {zs : List Pk} (h : ∀ j u, (pcells zs)[j]? = some u → w.cell? ⟨b, j, none⟩ = some u) : PRow w b zs := fun i hi =>
  have ⟨q1, q2, q3⟩ := pcells_get zs i hi
  ⟨h _ _ q1, h _ _ q2, h _ _ q3⟩
theorem pcells_one (zs : List Pk) : ∀ u ∈ pcells zs, u.oneCell' = true := fun u hu => by
  obtain ⟨z, _, hz⟩ := List.mem_flatMap.1 hu
  exact encP_one z u hz
def PV (w : World) (C : Nat) (p : Option Addr) (zs : List Pk) : Prop := 0 < zs.length → ∃ b, p = some ⟨b, 0, none⟩ ∧ b < C ∧ PRow w b zs
theorem PV.below {w w' : World} {C B : Nat} {p : Option Addr} {zs : List Pk} (h : PV w C p zs) (hb : Below B w w') (hC : C ≤ B) : PV w' C p zs := by
  intro hp
  obtain ⟨b, rfl, hlt, hr⟩ := h hp
  exact ⟨b, rfl, hlt, hr.keep (hb.block b (by omega))⟩
theorem PV.mono {w : World} {C D : Nat} {p : Option Addr} {zs : List Pk} (h : PV w C p zs) (hC : C ≤ D) : PV w D p zs := by
  intro hp
  obtain ⟨b, rfl, hlt, hr⟩ := h hp
  exact ⟨b, rfl, by omega, hr⟩
def POwn (w : World) (base : Nat) (v : Value) (zs : List Pk) : Prop := w.ownsRow base 184 3 v zs.length (pcells zs)
theorem POwn.below {w w' : World} {base : Nat} {v : Value} {zs : List Pk} (h : POwn w base v zs) (hb : Below w.heap.size w w') : POwn w' base v zs := by
  refine ⟨h.1, ?_⟩
  rcases h.2 with hn | ⟨g, cap, cur, rfl, hbs, hh, r⟩
  · exact .inl hn
  · refine .inr ⟨g, cap, cur, rfl, hbs, ?_, r⟩
    have hlt : g < w.heap.size := by
      rcases Nat.lt_or_ge g w.heap.size with hlt | hge
      · exact hlt
      · rw [Array.getElem?_eq_none hge] at hh; cases hh
    rw [hb.block g hlt]
    exact hh
theorem POwn.shape {w : World} {base : Nat} {v : Value} {zs : List Pk} (h : POwn w base v zs) :
    ∃ q c, v = .slice q zs.length c ∧ (q = none → c = 0) ∧ zs.length ≤ c ∧ c ≤ maxLen ∧ PV w w.heap.size q zs ∧ ∀ a, q = some a → base ≤ a.block := by
  have hl := fun k hk => h.lt k hk
  have hc := fun g hg => World.ownsRow.cells h (g := g) hg
  rcases h.2 with ⟨rfl, h0⟩ | ⟨g, cap, cur, rfl, hb, hh, h1, h2, _, _⟩
  · exact ⟨none, 0, by rw [h0], fun _ => rfl, by omega, by simp [maxLen], fun hp => by omega, fun a h => by cases h⟩
  · refine ⟨some ⟨g, 0, none⟩, cap, rfl, fun h => (by cases h), h1, h2, fun hp => ⟨g, rfl, (hl g rfl).2, prow_of fun j u hj => ?_⟩, fun a h => by injection h with h; subst h; exact hb⟩
    have := hc g rfl j u hj
    rw [add_plain, Nat.zero_add] at this
    exact this
theorem wpList_append_packs {w : World} {ops : Array Oper} {rest : List Oper} {o : Oper} {a : Act} {Q : Exit → Act → World → Prop}
    (hgd : o.guard = none) (s x : Operand) (ho : o.op = .call { callee := .builtin .append, args := #[s, x], argTypes := #[181, 181] })
    (base : Nat) (v : Value) (ys : List Pk) (hs : a.eval s = v) (hown : POwn w base v ys)
    (p : Option Addr) (m c : Nat) (xs : List Pk) (hx : a.eval x = .slice p m c) (hr : PV w w.heap.size p xs) (hxm : xs.length = m) (hc0 : p = none → c = 0)
    (h47 : ys.length + m ≤ 1000000) (hbase : base ≤ w.heap.size)
    (h : ∀ v' w', POwn w' base v' (ys ++ xs) → Below base w w' → wpList Tryz.prog ops Q rest (a.put o.dst v') w') :
    wpList Tryz.prog ops Q (o :: rest) a w := by
  obtain ⟨i0, hi, hz0, hz1, hz2⟩ := info_parts Tryz.infoPack
  have hT := Tryz.underlying181
  rcases p with _ | ad
  · have hxs : xs = [] := by
      rcases xs with _ | ⟨x, xs⟩
      · rfl
      · obtain ⟨b, he, _⟩ := hr (by simp)
        cases he
    subst hxs
    simp at hxm
    subst hxm
    have := hc0 rfl
    subst this
    refine wpList_append_own_none hgd s x 181 ho base 184 i0 3 hT hi v ys.length (pcells ys) hs hown hx ?_
    exact h v w (by simpa using hown) (Below.refl _ _)
  · refine wpList_append_own w hgd s x 181 ho base 184 i0 _ 3 40 hT hi hz0 hz1 hz2 (by decide) (by decide) v ys.length (pcells ys) hs hown ad m c (pcells xs) hx (by rw [pcells_length, hxm]) ?_ (pcells_one xs) (by unfold maxLen; omega) (by omega) hbase ?_
    · intro j u hj
      have hlt := (List.getElem?_eq_some_iff.1 hj).1
      rw [pcells_length] at hlt
      obtain ⟨b, he, _, hc⟩ := hr (by omega)
      injection he with he
      subst he
      rw [add_plain, Nat.zero_add]
      exact hc.cells j u hj
    · intro v' w' h2 h3 h4
      refine h v' w' ?_ ((Below.refl _ w).grown h3 hbase (fun k hk => (World.ownsRow.lt hown k hk).1))
      unfold POwn
      rw [List.length_append, hxm, pcells_append]
      exact h2
def renG : Ren := ⟨fun n => if n = 4 then 145 else n, fun n => if n = 22 then 181 else if n = 25 then 184 else if n = 3 then 3 else if n = 4 then 4 else if n = 9 then 9 else if n = 20 then 20 else n, fun n => n⟩
theorem laysG : Lays8.n4 Tryz.prog renG where
  mixed := by kernel_rfl
  f4 := ⟨ "slices.Grow[[]mezzotint/limit.pack,mezzotint/limit.pack]", by kernel_rfl, by kernel_rfl⟩
  t0 := by kernel_rfl
  a0 _ := by kernel_rfl
  z0 _ := by kernel_rfl
  v0 _ := by kernel_rfl
  t3 := by kernel_rfl
  a3 _ := by kernel_rfl
  z3 _ := by kernel_rfl
  v3 _ := by kernel_rfl
  t4 := by kernel_rfl
  a4 _ := by kernel_rfl
  z4 _ := by kernel_rfl
  v4 _ := by kernel_rfl
  t9 := by kernel_rfl
  a9 _ := by kernel_rfl
  z9 _ := by kernel_rfl
  v9 _ := by kernel_rfl
  t20 := by kernel_rfl
  a20 _ := by kernel_rfl
  z20 _ := by kernel_rfl
  v20 _ := by kernel_rfl
  t22 := by kernel_rfl
  a22 _ := by kernel_rfl
  z22 _ := by kernel_rfl
  v22 _ := by kernel_rfl
def GrowP (w : World) (e : Ending) (w' : World) : Prop := ∃ v, e = .returned v ∧ POwn w' w.heap.size v [] ∧ Below w.heap.size w w'
theorem grow_any (n : Nat) (w : World) (hn : n ≤ 1000000) : Calls Tryz.prog 145 #[.slice none 0 0, .int .i64 (n : Int)] w (GrowP w) := by
  obtain ⟨i0, hi, hz0, hz1, hz2⟩ := info_parts Tryz.infoPack
  have e : renG.f 4 = 145 := rfl
  rcases Nat.eq_zero_or_pos n with h0 | h0
  · have h := Any8.slices_Grow_room laysG none 0 0 n w (by omega) (by omega) (by omega) (by omega)
    rw [e] at h
    refine h.mono ?_
    rintro e w' ⟨rfl, rfl⟩
    exact ⟨_, rfl, ⟨rfl, .inl ⟨rfl, rfl⟩⟩, Below.refl _ _⟩
  · have h := Any8.slices_Grow_grow laysG i0 _ hi hz0 (by omega) none 0 0 n [] w (by omega) (by omega) (by rw [hz2]; omega) (by omega) (by simp) (fun _ => rfl) (fun a h => by cases h)
    rw [e] at h
    refine h.mono ?_
    rintro e w' ⟨rfl, rfl⟩
    refine ⟨_, rfl, ?_, ((Below.refl _ w).drew).alloc (Nat.le_refl _) _⟩
    have hm := World.ownsRow_made (size := 3) (w := w.drew) (base := w.heap.size) (e := 184) (([] : List Value).toArray ++ Builtin.zeroCells (Value.agg #[.int .i64 0, .int .i64 0, .slice none 0 0]).cells (0 + n - 0) ++ Builtin.zeroCells (Value.agg #[.int .i64 0, .int .i64 0, .slice none 0 0]).cells (grownCap w (0 + n) 0 184 - (0 + n))) (grownCap w (0 + n) 0 184) (Nat.le_refl _) (grownCap_le_maxLen _ _ _ _ (by unfold maxLen; omega)) ?_
    · exact hm
    · have hge := grownCap_ge w (0 + n) 0 184
      rw [Nat.zero_add] at hge
      simp [Builtin.zeroCells, Value.cells]
      omega
def CatP (w : World) (zs : List Pk) (e : Ending) (w' : World) : Prop := ∃ v, e = .returned v ∧ POwn w' w.heap.size v zs ∧ Below w.heap.size w w'
def SzS (n1 n2 k s : Nat) : Prop := (k = 0 ∧ s = 0) ∨ (k = 1 ∧ s = n1) ∨ (k = 2 ∧ s = n1 + n2)
def RwS (z1 z2 : List Pk) (k : Nat) (zs : List Pk) : Prop := (k = 0 ∧ zs = []) ∨ (k = 1 ∧ zs = z1) ∨ (k = 2 ∧ zs = z1 ++ z2)
set_option maxHeartbeats 4000000 in
theorem concat_any (sb c : Nat) (p1 p2 : Option Addr) (c1 c2 : Nat) (z1 z2 : List Pk) (w : World) (hsb : sb < w.heap.size) (h1 : w.cell? ⟨sb, 0, none⟩ = some (.slice p1 z1.length c1)) (h2 : w.cell? ⟨sb, 1, none⟩ = some (.slice p2 z2.length c2))
    (r1 : PV w w.heap.size p1 z1) (r2 : PV w w.heap.size p2 z2) (n1 : p1 = none → c1 = 0) (n2 : p2 = none → c2 = 0) (hl : z1.length ≤ 100000 ∧ z2.length ≤ 100000) :
    Calls Tryz.prog 133 #[.slice (some ⟨sb, 0, none⟩) 2 c] w (CatP w (z1 ++ z2)) := by
  have H0 : Hid (w.cell? ⟨sb, 0, none⟩ = some (.slice p1 z1.length c1) ∧ w.cell? ⟨sb, 1, none⟩ = some (.slice p2 z2.length c2) ∧ PV w w.heap.size p1 z1 ∧ PV w w.heap.size p2 z2 ∧ (p1 = none → c1 = 0) ∧ (p2 = none → c2 = 0)) := ⟨h1, h2, r1, r2, n1, n2⟩
  have hl1 := hl.1
  have hl2 := hl.2
  clear h1 h2 r1 r2 n1 n2 hl
  go_enter Tryz.func133, Tryz.ntmps133
  go_wp2
  go_loopg [3, 11] 2 (fun kx s3 s11 wr => ∃ (k s : Nat), s11 = .int .i64 (k : Int) ∧ s3 = .int .i64 (s : Int) ∧ k ≤ 2 ∧ 2 - k ≤ kx ∧ Hid (SzS z1.length z2.length k s) ∧ s ≤ 200000 ∧ w = wr)
  case atStart => exact ⟨0, 0, rfl, rfl, by omega, by omega, .inl ⟨rfl, rfl⟩, by omega, rfl⟩
  case round =>
    obtain ⟨k, s, rfl, rfl, hk, hkx, HS, hs, rfl⟩ := hrel
    by_cases hlt : k < 2
    · have hkz : (k : Int) < 2 := by omega
      have hk0 : (0 : Int) ≤ (k : Int) := by omega
      have hcell : ∃ p n cc, w.cell? ⟨sb, k, none⟩ = some (.slice p n cc) ∧ n ≤ 100000 ∧ SzS z1.length z2.length (k + 1) (s + n) := by
        rcases HS.out with ⟨rfl, rfl⟩ | ⟨rfl, rfl⟩ | ⟨rfl, rfl⟩
        · exact ⟨_, _, _, H0.out.1, hl1, .inr (.inl ⟨rfl, by omega⟩)⟩
        · exact ⟨_, _, _, H0.out.2.1, hl2, .inr (.inr ⟨rfl, rfl⟩)⟩
        · omega
      obtain ⟨p, n, cc, hc, hn, hss⟩ := hcell
      have HSS : Hid (SzS z1.length z2.length (k + 1) (s + n)) := hss
      have hs2 : s + n ≤ 200000 := by
        rcases hss with ⟨h, _⟩ | ⟨_, h⟩ | ⟨_, h⟩ <;> omega
      have ws : IntKind.i64.wrap ((s : Int) + (n : Int)) = ((s + n : Nat) : Int) := by rw [IntKind.wrap_i64]; omega
      obtain ⟨sn, hsn⟩ : ∃ sn, sn = s + n := ⟨_, rfl⟩
      rw [← hsn] at ws HSS hs2
      have hneg : ¬ (sn : Int) < 0 := by omega
      clear hss hsn
      go_wp2
      go_roundg (2 - (k + 1))
      case measure => omega
      case rel => exact ⟨k + 1, sn, by go_num, rfl, by omega, Nat.le_refl _, HSS, hs2, rfl⟩
    · have hkz : ¬ (k : Int) < 2 := by omega
      have hk2 : k = 2 := by omega
      have hg := grow_any s w (by omega)
      go_wp2_with (go_at_call 145; refine hg.mono ?_; rintro e w' ⟨v, rfl, ho, hb⟩)
      go_loopg [6, 27] 2 (fun kx s6 s27 wr => ∃ (k : Nat) (zs : List Pk), s27 = .int .i64 (k : Int) ∧ k ≤ 2 ∧ 2 - k ≤ kx ∧ Hid (RwS z1 z2 k zs ∧ POwn wr w.heap.size s6 zs ∧ Below w.heap.size w wr))
      case atStart => exact ⟨0, [], rfl, by omega, by omega, ⟨.inl ⟨rfl, rfl⟩, ho, hb⟩⟩
      case round =>
        clear ho hb
        obtain ⟨k', zs, rfl, hk', hkx', HR⟩ := hrel
        by_cases hlt' : k' < 2
        · have hkz' : (k' : Int) < 2 := by omega
          have hk0' : (0 : Int) ≤ (k' : Int) := by omega
          have hcell : ∃ p z cc, w.cell? ⟨sb, k', none⟩ = some (.slice p z.length cc) ∧ z.length ≤ 100000 ∧ PV w w.heap.size p z ∧ (p = none → cc = 0) ∧ RwS z1 z2 (k' + 1) (zs ++ z) ∧ zs.length ≤ 100000 := by
            rcases HR.out.1 with ⟨rfl, rfl⟩ | ⟨rfl, rfl⟩ | ⟨rfl, rfl⟩
            · exact ⟨_, z1, _, H0.out.1, hl1, H0.out.2.2.1, H0.out.2.2.2.2.1, .inr (.inl ⟨rfl, rfl⟩), by simp⟩
            · exact ⟨_, z2, _, H0.out.2.1, hl2, H0.out.2.2.2.1, H0.out.2.2.2.2.2, .inr (.inr ⟨rfl, rfl⟩), hl1⟩
            · omega
          obtain ⟨p, z, cc, hc, hn, hpv, hpn, hss, hzl⟩ := hcell
          have hcw : _ = some (Value.slice p z.length cc) := (HR.out.2.2.cell (p := ⟨sb, k', none⟩) hsb).trans hc
          have HSS : Hid (RwS z1 z2 (k' + 1) (zs ++ z) ∧ PV w w.heap.size p z ∧ (p = none → cc = 0)) := ⟨hss, hpv, hpn⟩
          clear hc hss hpv hpn
          go_wp2_with (at_builtin; refine wpList_append_packs rfl _ _ rfl w.heap.size _ zs rfl HR.out.2.1 p z.length cc z rfl ((HSS.out.2.1.below HR.out.2.2 (Nat.le_refl _)).mono HR.out.2.2.size) rfl HSS.out.2.2 (by omega) HR.out.2.2.size ?_; intro v2 w2 ho2 hb2)
          have HN : Hid (RwS z1 z2 (k' + 1) (zs ++ z) ∧ POwn w2 w.heap.size v2 (zs ++ z) ∧ Below w.heap.size w w2) := ⟨HSS.out.1, ho2, HR.out.2.2.trans hb2⟩
          clear ho2 hb2
          go_roundg (2 - (k' + 1))
          case measure => omega
          case rel => exact ⟨k' + 1, zs ++ z, by go_num, by omega, Nat.le_refl _, HN⟩
        · have hkz' : ¬ (k' : Int) < 2 := by omega
          have hk2' : k' = 2 := by omega
          go_wp2
          go_ret
          rcases HR.out.1 with ⟨h, _⟩ | ⟨h, _⟩ | ⟨_, rfl⟩
          · omega
          · omega
          · exact ⟨_, rfl, HR.out.2⟩
end Go.Proofs.YtjafcjnkefioeaaGreat.Lp
/- symbols: a pack of each thing that comes. -/
namespace Go.Proofs.YtjafcjnkefioeaaGreat.Lp
open Go.RowKit Go.Proofs.YtjafcjnkefioeaaGreat.Oct Go.Proofs.YtjafcjnkefioeaaGreat.Lm
set_option maxRecDepth 100000
def syms (zs : List Int) : Nat → List Pk
  | 0 => []
  | k + 1 => syms zs k ++ if 0 < zs.getD k 0 then [⟨zs.getD k 0, (k : Int), none, 0, 0⟩] else []
theorem syms_le (zs : List Int) (k : Nat) : (syms zs k).length ≤ k := by
  induction k with
  | zero => simp [syms]
  | succ k ih => simp only [syms, List.length_append]; split <;> simp <;> omega
def SymP (w : World) (zs : List Int) (e : Ending) (w' : World) : Prop := ∃ v, e = .returned v ∧ POwn w' w.heap.size v (syms zs zs.length) ∧ Below w.heap.size w w'
theorem pv_new (w : World) (x : Pk) : PV (w.alloc (.cells #[.int .i64 x.wt, .int .i64 x.sym, .slice x.ptr x.len x.cap] 184)) (w.alloc (.cells #[.int .i64 x.wt, .int .i64 x.sym, .slice x.ptr x.len x.cap] 184)).heap.size (some ⟨w.heap.size, 0, none⟩) [x] := by
  intro _
  refine ⟨w.heap.size, rfl, by simp, ?_⟩
  intro i hi
  have hi0 : i = 0 := by simp at hi; omega
  subst hi0
  have h := heap_alloc_last w (.cells #[.int .i64 x.wt, .int .i64 x.sym, .slice x.ptr x.len x.cap] 184)
  exact ⟨by unfold World.cell?; dsimp only; rw [h]; rfl, by unfold World.cell?; dsimp only; rw [h]; rfl, by unfold World.cell?; dsimp only; rw [h]; rfl⟩
set_option maxHeartbeats 4000000 in
theorem symbols_any (p : Option Addr) (len cap : Nat) (zs : List Int) (w : World) (hr : VRow w w.heap.size p (ints zs)) (hx : zs.length = len) (hl : len ≤ 100000) : Calls Tryz.prog 106 #[.slice p len cap] w (SymP w zs) := by
  have HR := Lib.hid hr
  have HX := Lib.hid hx
  have H00 : Hid (POwn w w.heap.size (.slice none 0 0) [] ∧ Below w.heap.size w w) := ⟨⟨rfl, .inl ⟨rfl, rfl⟩⟩, Below.refl _ _⟩
  clear hr hx
  go_enter Tryz.func106, Tryz.ntmps106
  go_wp2
  go_loopg [3, 8] len (fun kx s3 s8 wr => ∃ (k : Nat), s8 = .int .i64 (k : Int) ∧ k ≤ len ∧ len - k ≤ kx ∧ Hid (POwn wr w.heap.size s3 (syms zs k) ∧ Below w.heap.size w wr))
  case atStart => exact ⟨0, rfl, by omega, by omega, H00⟩
  case round =>
    obtain ⟨k, rfl, hk, hkx, H⟩ := hrel
    by_cases hlt : k < len
    · have hkz : (k : Int) < (len : Int) := by omega
      have hk0 : (0 : Int) ≤ (k : Int) := by omega
      have hkl : k < zs.length := by rw [HX.out]; exact hlt
      obtain ⟨b, off, hp, hbl⟩ := HR.out.addr (by rw [ints_length]; omega)
      subst hp
      have hc := (H.out.2.cell (p := ⟨b, off + k, none⟩) hbl).trans (HR.out.int k hkl)
      have hg : zs.getD k 0 = zs[k] := by rw [List.getD_eq_getElem?_getD, List.getElem?_eq_getElem hkl]; rfl
      have hS : syms zs (k + 1) = syms zs k ++ if 0 < zs[k] then [⟨zs[k], (k : Int), none, 0, 0⟩] else [] := by simp only [syms]; rw [hg]
      have HS := Lib.hid hS
      generalize zs[k] = z at hc HS
      clear hg hS
      by_cases hz : 0 < z
      · have HS2 : Hid (syms zs (k + 1) = syms zs k ++ [⟨z, (k : Int), none, 0, 0⟩]) := by have := HS.out; rw [if_pos hz] at this; exact this
        have hle := syms_le zs k
        go_wp2_with (at_builtin; refine wpList_append_packs rfl _ _ rfl w.heap.size _ (syms zs k) rfl (H.out.1.below ((Below.refl _ _).alloc (Nat.le_refl _) _)) _ 1 1 [⟨z, (k : Int), none, 0, 0⟩] rfl (pv_new _ ⟨z, (k : Int), none, 0, 0⟩) rfl (fun h => by cases h) (by omega) (by have := H.out.2.size; simp; omega) ?_; intro v2 w2 ho2 hb2)
        have HN : Hid (POwn w2 w.heap.size v2 (syms zs (k + 1)) ∧ Below w.heap.size w w2) := by rw [HS2.out]; exact ⟨ho2, (H.out.2.alloc (Nat.le_trans (Nat.le_refl _) H.out.2.size) _).trans hb2⟩
        clear ho2 hb2
        go_roundg (len - (k + 1))
        case measure => omega
        case rel => exact ⟨k + 1, by go_num, by omega, Nat.le_refl _, HN⟩
      · have HS2 : Hid (syms zs (k + 1) = syms zs k) := by have := HS.out; rw [if_neg hz, List.append_nil] at this; exact this
        go_wp2
        have HN : Hid (POwn wr w.heap.size u3 (syms zs (k + 1)) ∧ Below w.heap.size w wr) := by rw [HS2.out]; exact H
        go_roundg (len - (k + 1))
        case measure => omega
        case rel => exact ⟨k + 1, by go_num, by omega, Nat.le_refl _, HN⟩
    · have hkz : ¬ (k : Int) < (len : Int) := by omega
      have hk : k = len := by omega
      subst hk
      go_wp2
      go_ret
      have h2 := HX.out
      have h3 := H.out
      rw [← h2] at h3
      exact ⟨_, rfl, h3⟩
end Go.Proofs.YtjafcjnkefioeaaGreat.Lp
/- Levels of packs: how many, how heavy; a row of packs sorted in memory. -/
namespace Go.Proofs.YtjafcjnkefioeaaGreat.Lp
open Go.RowKit Go.Sort Go.Proofs.YtjafcjnkefioeaaGreat.Oct Go.Proofs.YtjafcjnkefioeaaGreat.Lm
set_option maxRecDepth 100000
theorem level_length {f : List Nat} : ∀ {l : Nat} {T : List Tree}, LevelR f l T → T.length ≤ 2 * f.length
  | 0, T, h => by
    have h : T = [] := h
    subst h; simp
  | l + 1, T, ⟨_, T', h, hp⟩ => by
    have h1 := hp.length_eq
    rw [List.length_append, pairT_length] at h1
    have h2 : (leavesT f).length = f.length := by simp [leavesT]
    have := level_length h
    omega
theorem pairT_all {Q : Tree → Prop} {R : Tree → Prop} (hQ : ∀ a b, R a → R b → Q (.node a b)) : ∀ (P : List Tree), (∀ t ∈ P, R t) → ∀ t ∈ pairT P, Q t
  | [], _, t, ht => by simp [pairT] at ht
  | [_], _, t, ht => by simp [pairT] at ht
  | a :: b :: P, h, t, ht => by
    simp only [pairT, List.mem_cons] at ht
    rcases ht with rfl | ht
    · exact hQ a b (h a (by simp)) (h b (by simp))
    · exact pairT_all hQ P (fun t ht => h t (by simp [ht])) t ht
theorem level_bound {f : List Nat} (hf : ∀ x ∈ f, x ≤ 1073741824) : ∀ {l : Nat} {T : List Tree}, LevelR f l T → ∀ t ∈ T, t.wt * 2 ≤ 1073741824 * 2 ^ l ∧ sizeT t * 2 ≤ 2 ^ l
  | 0, T, h, t, ht => by
    have h : T = [] := h
    subst h; cases ht
  | l + 1, T, ⟨_, T', h, hp⟩, t, ht => by
    have hpos : 1 ≤ 2 ^ l := Nat.one_le_two_pow
    rw [Nat.pow_succ]
    rcases List.mem_append.1 (hp.mem_iff.1 ht) with h1 | h1
    · unfold leavesT at h1
      obtain ⟨r, hr, rfl⟩ := List.mem_map.1 h1
      have hr' : r < f.length := by simpa using hr
      have hx : f.getD r 0 ≤ 1073741824 := by
        rw [List.getD_eq_getElem?_getD, List.getElem?_eq_getElem hr']
        exact hf _ (List.getElem_mem hr')
      simp only [Tree.wt, sizeT]
      generalize 2 ^ l = x at hpos
      omega
    · refine pairT_all (Q := fun t => t.wt * 2 ≤ 1073741824 * (2 ^ l * 2) ∧ sizeT t * 2 ≤ 2 ^ l * 2) (R := fun t => t.wt * 2 ≤ 1073741824 * 2 ^ l ∧ sizeT t * 2 ≤ 2 ^ l) (fun a b ha hb => ?_) T' (level_bound hf h) t h1
      simp only [Tree.wt, sizeT]
      omega
theorem level_in {f : List Nat} {ix : Nat → Nat} {n : Nat} (hix : ∀ r, r < f.length → ix r < n) : ∀ {l : Nat} {T : List Tree}, LevelR f l T → ∀ t ∈ T, InT ix n t
  | 0, T, h, t, ht => by
    have h : T = [] := h
    subst h; cases ht
  | l + 1, T, ⟨_, T', h, hp⟩, t, ht => by
    rcases List.mem_append.1 (hp.mem_iff.1 ht) with h1 | h1
    · unfold leavesT at h1
      obtain ⟨r, hr, rfl⟩ := List.mem_map.1 h1
      exact hix r (by simpa using hr)
    · exact pairT_all (Q := InT ix n) (R := InT ix n) (fun a b ha hb => ⟨ha, hb⟩) T' (level_in hix h) t h1
theorem parcels_many {f : List Nat} {L : Nat} (hL1 : 1 ≤ L) (hL : L ≤ 30) (h2 : 2 ≤ f.length) (hf : ∀ x ∈ f, 1 ≤ x) (hn : f.length ≤ 2 ^ L) : 2 * (f.length - 1) ≤ (parcels f L).length := by
  obtain ⟨l', g1, g2, g3⟩ := to_full hL h2 hf _ _ (Nat.le_refl _) (ok_exists f L hL1 hL hn)
  have ht := full_tot g3 g1.hi hL L 0 1 hL1 (by omega) (by rw [taken_zero l' g1.lo, g3]; rfl)
  rw [cntG_zero l' g1.lo, g1.len] at ht
  obtain ⟨h4, _⟩ := parcels_least f _ _ ht (fun a ha => by rw [← g1.len]; exact levels_bd l' L 0 a ha)
  rw [levels_length] at h4
  exact h4
theorem zip_perm {α β : Type} {d e : List β} (h : e.Perm d) : ∀ z : List (α × β), z.map Prod.snd = d → ∃ z' : List (α × β), z'.Perm z ∧ z'.map Prod.snd = e := by
  induction h with
  | nil => intro z hz; exact ⟨z, List.Perm.refl _, hz⟩
  | cons x _ ih =>
    intro z hz
    rcases z with _ | ⟨y, z⟩
    · cases hz
    · rw [List.map_cons, List.cons.injEq] at hz
      obtain ⟨z', hp, he⟩ := ih z hz.2
      exact ⟨y :: z', hp.cons y, by rw [List.map_cons, he, hz.1]⟩
  | swap x y l =>
    intro z hz
    rcases z with _ | ⟨a, _ | ⟨b, z⟩⟩
    · cases hz
    · simp at hz
    · simp only [List.map_cons, List.cons.injEq] at hz
      exact ⟨b :: a :: z, List.Perm.swap a b z, by simp [hz.1, hz.2.1, hz.2.2]⟩
  | trans _ _ h1 h2 =>
    intro z hz
    obtain ⟨z1, p1, e1⟩ := h2 z hz
    obtain ⟨z2, p2, e2⟩ := h1 z1 e1
    exact ⟨z2, p2.trans p1, e2⟩
theorem holds_of {w : World} {b : Nat} {zs : List Pk} (h : PRow w b zs) (hf : ∀ i, w.frozen? ⟨b, i, none⟩ = false) : HoldsK encP 3 w b 0 zs.toArray := by
  intro j hj
  rw [size_flatK] at hj
  simp only [List.size_toArray] at hj
  refine ⟨?_, hf _⟩
  rw [get_flatK _ _ _ _ (by simpa using hj), Nat.zero_add]
  have hi : j / 3 < zs.length := by omega
  have hg : zs.toArray[j / 3]! = zs[j / 3] := by rw [getElem!_pos zs.toArray (j / 3) (by simpa using hi)]; simp
  rw [hg]
  obtain ⟨c1, c2, c3⟩ := h (j / 3) hi
  rcases (show j = j / 3 * 3 ∨ j = j / 3 * 3 + 1 ∨ j = j / 3 * 3 + 2 by omega) with e | e | e
  · have hm : j % 3 = 0 := by omega
    rw [← e] at c1
    rw [c1, hm]; rfl
  · have hm : j % 3 = 1 := by omega
    rw [← e] at c2
    rw [c2, hm]; rfl
  · have hm : j % 3 = 2 := by omega
    rw [← e] at c3
    rw [c3, hm]; rfl
theorem prow_holds {w : World} {b : Nat} {d : Array Pk} (h : HoldsK encP 3 w b 0 d) : PRow w b d.toList := by
  intro i hi
  have hi' : i < d.size := by simpa using hi
  have hg : d[i]! = d.toList[i] := by rw [getElem!_pos d i hi']; simp
  have hc := fun t (ht : t < 3) => (h (i * 3 + t) (by rw [size_flatK]; omega)).1
  have e := fun t (ht : t < 3) => get_flatK encP 3 d (i * 3 + t) (by omega)
  have d1 : ∀ t, t < 3 → (i * 3 + t) / 3 = i := fun t ht => by omega
  have d2 : ∀ t, t < 3 → (i * 3 + t) % 3 = t := fun t ht => by omega
  have k := fun t (ht : t < 3) => by
    have h1 := hc t ht
    rw [e t ht, d1 t ht, d2 t ht, hg, Nat.zero_add] at h1
    exact h1
  exact ⟨k 0 (by omega), k 1 (by omega), k 2 (by omega)⟩
theorem swk_keep {w w' : World} {b : Nat} {d : Array Pk} (h : SWK encP 3 w b 0 d w') : w.heap.size ≤ w'.heap.size ∧ (∀ k, k < w.heap.size → k ≠ b → w'.heap[k]? = w.heap[k]?) ∧ w'.os = w.os ∧ w'.tape = w.tape ∧ w'.output = w.output := by
  refine ⟨h.le, ?_, ?_⟩
  · obtain ⟨n, os, rfl⟩ := h
    intro k hk hne
    unfold sortWorldK putRowK putRow
    rw [heap_grow_old _ _ (by simpa [mapBlock, ahead] using hk)]
    simp [mapBlock, ahead, Array.getElem?_modify, hne, Ne.symm hne]
  · obtain ⟨n, os, rfl⟩ := h
    exact ⟨rfl, rfl, rfl⟩
set_option maxHeartbeats 1000000 in
theorem insert_none (p : Option Addr) (c : Nat) (fv : Value) (w : World) : Calls Tryz.prog 149 #[.slice p 0 c, .int .i64 0, .int .i64 0, fv] w fun e w' => e = .returned (.tuple #[]) ∧ w' = w := by
  go_enter Tryz.func149, Tryz.ntmps149
  go_wp2
  go_loopg [8] 0 (fun kx s8 wr => s8 = .int .i64 1 ∧ wr = w)
  case atStart => exact ⟨by first | rfl | go_num, rfl⟩
  case round =>
    obtain ⟨rfl, rfl⟩ := hrel
    go_wp2
    go_end0
    exact ⟨rfl, rfl⟩
set_option maxHeartbeats 1000000 in
theorem stable_none (p : Option Addr) (c : Nat) (fv : Value) (w : World) : Calls Tryz.prog 146 #[.slice p 0 c, .int .i64 0, fv] w fun e w' => e = .returned (.tuple #[]) ∧ w' = w := by
  have hi := insert_none p c fv
  go_enter Tryz.func146, Tryz.ntmps146
  go_wp2
  go_loopg [7, 8] 0 (fun kx s7 s8 wr => s7 = .int .i64 0 ∧ s8 = .int .i64 20 ∧ wr = w)
  case atStart => exact ⟨rfl, rfl, rfl⟩
  case round =>
    obtain ⟨rfl, rfl, rfl⟩ := hrel
    go_wp2_with (go_at_call 149; refine (hi _).mono ?_; rintro e w' ⟨rfl, rfl⟩)
    go_loopg [6] 0 (fun kx s6 wr => s6 = .int .i64 20 ∧ wr = w')
    case atStart => exact ⟨rfl, rfl⟩
    case round =>
      obtain ⟨rfl, rfl⟩ := hrel
      go_wp2
      go_end0
      exact ⟨rfl, rfl⟩
theorem sort_none (p : Option Addr) (c : Nat) (fv : Value) (w : World) : Calls Tryz.prog 135 #[.slice p 0 c, fv] w fun e w' => e = .returned (.tuple #[]) ∧ w' = w := by
  have hi := stable_none p c fv
  go_enter Tryz.func135, Tryz.ntmps135
  go_wp2_with (go_at_call 146; refine (hi _).mono ?_; rintro e w' ⟨rfl, rfl⟩)
  go_end0
  exact ⟨rfl, rfl⟩
end Go.Proofs.YtjafcjnkefioeaaGreat.Lp
/- lightest: one level's packs off the level's ahead. -/
namespace Go.Proofs.YtjafcjnkefioeaaGreat.Lp
open Go.RowKit Go.Sort Go.Proofs.YtjafcjnkefioeaaGreat.Oct Go.Proofs.YtjafcjnkefioeaaGreat.Lm
set_option maxRecDepth 100000
def Lst (w : World) (lo : Nat) (ix : Nat → Nat) (f : List Nat) (l : Nat) (v : Value) (z : List (Tree × Pk)) : Prop :=
  ∃ p lb cap, v = .slice p z.length cap ∧ (z.length ≠ 0 → p = some ⟨lb, 0, none⟩ ∧ lo ≤ lb ∧ lb < w.heap.size) ∧ (p = none → cap = 0) ∧ z.length ≤ cap ∧ PRow w lb (z.map Prod.snd) ∧ (∀ x ∈ z, Mn w lo lb ix x.1 x.2) ∧ LevelR f l (z.map Prod.fst)
structure Sgl (S : List Pk) (f : List Nat) (ix : Nat → Nat) : Prop where
  len : S.length = f.length
  leaf : ∀ r, r < f.length → Mn default 0 0 ix (.leaf (f.getD r 0) r) (S.getD r default)
def zL (f : List Nat) (S : List Pk) : List (Tree × Pk) := (List.range f.length).map fun r => (.leaf (f.getD r 0) r, S.getD r default)
theorem zL_fst (f : List Nat) (S : List Pk) : (zL f S).map Prod.fst = leavesT f := by unfold zL leavesT; rw [List.map_map]; rfl
theorem zL_snd {f : List Nat} {S : List Pk} {ix : Nat → Nat} (h : Sgl S f ix) : (zL f S).map Prod.snd = S := by
  unfold zL
  rw [List.map_map]
  refine List.ext_getElem (by simp [h.len]) (fun i h1 h2 => ?_)
  simp only [List.getElem_map, List.getElem_range, Function.comp]
  rw [List.getD_eq_getElem?_getD, List.getElem?_eq_getElem h2]
  rfl
def zP (lb cap : Nat) (z : List (Tree × Pk)) : List (Tree × Pk) :=
  (List.range (z.length / 2)).map fun i => (.node ((z.map Prod.fst).getD (2 * i) (.leaf 0 0)) ((z.map Prod.fst).getD (2 * i + 1) (.leaf 0 0)), pairPk lb cap (z.map Prod.snd) i)
theorem zP_snd (lb cap : Nat) (z : List (Tree × Pk)) : (zP lb cap z).map Prod.snd = (List.range ((z.map Prod.snd).length / 2)).map (pairPk lb cap (z.map Prod.snd)) := by
  unfold zP; rw [List.map_map, List.length_map]; rfl
theorem zP_fst (lb cap : Nat) (z : List (Tree × Pk)) : (zP lb cap z).map Prod.fst = pairT (z.map Prod.fst) := by
  have key : (zP lb cap z).map Prod.fst = (List.range (z.length / 2)).map fun i => .node ((z.map Prod.fst).getD (2 * i) (.leaf 0 0)) ((z.map Prod.fst).getD (2 * i + 1) (.leaf 0 0)) := by unfold zP; rw [List.map_map]; rfl
  rw [key]
  refine List.ext_getElem (by simp [pairT_length]) (fun i h1 h2 => ?_)
  rw [pairT_length, List.length_map] at h2
  have h3 : 2 * i + 1 < (z.map Prod.fst).length := by rw [List.length_map]; omega
  have h4 := pairT_get (z.map Prod.fst) i h3
  obtain ⟨_, h5⟩ := List.getElem?_eq_some_iff.1 h4
  rw [h5]
  simp only [List.getElem_map, List.getElem_range]
  rw [List.getD_eq_getElem?_getD, List.getElem?_eq_getElem (show 2 * i < (z.map Prod.fst).length by omega), List.getD_eq_getElem?_getD, List.getElem?_eq_getElem h3]
  simp
theorem leaf_any {w : World} {lo hi : Nat} {ix : Nat → Nat} {a b : Nat} {p : Pk} (h : Mn default 0 0 ix (.leaf a b) p) : Mn w lo hi ix (.leaf a b) p := h
theorem zP_mean {w : World} {lo lb cap hi : Nat} {ix : Nat → Nat} {z : List (Tree × Pk)} (hr : PRow w lb (z.map Prod.snd)) (hm : ∀ x ∈ z, Mn w lo lb ix x.1 x.2) (hlo : z.length ≠ 0 → lo ≤ lb ∧ lb < hi) (hcap : z.length ≤ cap) : ∀ x ∈ zP lb cap z, Mn w lo hi ix x.1 x.2 := by
  intro x hx
  unfold zP at hx
  obtain ⟨i, hi', rfl⟩ := List.mem_map.1 hx
  have hi' : i < z.length / 2 := by simpa using hi'
  have h0 : 2 * i < z.length := by omega
  have h1 : 2 * i + 1 < z.length := by omega
  obtain ⟨l1, l2⟩ := hlo (by omega)
  have g0 : (z.map Prod.fst).getD (2 * i) (.leaf 0 0) = z[2 * i].1 := by rw [List.getD_eq_getElem?_getD, List.getElem?_map, List.getElem?_eq_getElem h0]; rfl
  have g1 : (z.map Prod.fst).getD (2 * i + 1) (.leaf 0 0) = z[2 * i + 1].1 := by rw [List.getD_eq_getElem?_getD, List.getElem?_map, List.getElem?_eq_getElem h1]; rfl
  have k0 : (z.map Prod.snd).getD (2 * i) default = z[2 * i].2 := by rw [List.getD_eq_getElem?_getD, List.getElem?_map, List.getElem?_eq_getElem h0]; rfl
  have k1 : (z.map Prod.snd).getD (2 * i + 1) default = z[2 * i + 1].2 := by rw [List.getD_eq_getElem?_getD, List.getElem?_map, List.getElem?_eq_getElem h1]; rfl
  have m0 := hm _ (List.getElem_mem h0)
  have m1 := hm _ (List.getElem_mem h1)
  have q0 := hr (2 * i) (by rw [List.length_map]; exact h0)
  have q1 := hr (2 * i + 1) (by rw [List.length_map]; exact h1)
  rw [List.getElem_map] at q0 q1
  rw [show (2 * i + 1) * 3 = 2 * i * 3 + 3 by omega] at q1
  show Mn w lo hi ix (.node _ _) (pairPk lb cap (z.map Prod.snd) i)
  rw [g0, g1]
  refine ⟨?_, rfl, by show 2 ≤ cap - 2 * i; omega, lb, 2 * i * 3, z[2 * i].2, z[2 * i + 1].2, rfl, l1, l2, q0, q1, m0.keep (Nat.le_of_lt l2) (fun k _ _ => rfl), m1.keep (Nat.le_of_lt l2) (fun k _ _ => rfl)⟩
  show ((z.map Prod.snd).getD (2 * i) default).wt + ((z.map Prod.snd).getD (2 * i + 1) default).wt = _
  rw [k0, k1, m0.wt, m1.wt]
  omega
theorem rising_of : ∀ (M : List Nat), (∀ i j (hj : j < M.length) (hij : i < j), M[i]'(Nat.lt_trans hij hj) ≤ M[j]) → Rising M
  | [], _ => trivial
  | x :: M, h => by
    refine Rising.cons (rising_of M (fun i j hj hij => ?_)) (fun y hy => ?_)
    · have := h (i + 1) (j + 1) (by simp; omega) (by omega)
      simpa using this
    · obtain ⟨j, hj, rfl⟩ := List.getElem_of_mem hy
      have := h 0 (j + 1) (by simp; omega) (by omega)
      simpa using this
theorem POwn.fz {w : World} {base g n c : Nat} {zs : List Pk} (h : POwn w base (.slice (some ⟨g, 0, none⟩) n c) zs) (i : Nat) : w.frozen? ⟨g, i, none⟩ = false := by
  rcases h.2 with ⟨h0, _⟩ | ⟨g', cap, cur, he, _, hh, _⟩
  · cases h0
  · injection he with e1 e2 e3
    injection e1 with e1
    injection e1 with e1
    subst e1
    simp [World.frozen?, hh]
theorem next_level {w w' : World} {lo g l : Nat} {ix : Nat → Nat} {f : List Nat} {z zc : List (Tree × Pk)} {d : Array Pk} (hz : LevelR f l (z.map Prod.fst)) (hc : zc.map Prod.fst = leavesT f ++ pairT (z.map Prod.fst)) (hd : zc.map Prod.snd = d.toList) (hm : ∀ x ∈ zc, Mn w lo g ix x.1 x.2)
    {d' : Array Pk} (hS : SWK encP 3 w g 0 d' w') (hH : HoldsK encP 3 w g 0 d) (hg : g < w.heap.size) (hp : PermIn 0 d.size d d') (hs : SortedIn (ltOf cmpP) 0 d.size d') :
    ∃ z' : List (Tree × Pk), z'.length = zc.length ∧ PRow w' g (z'.map Prod.snd) ∧ (∀ x ∈ z', Mn w' lo g ix x.1 x.2) ∧ LevelR f (l + 1) (z'.map Prod.fst) := by
  have hsz : d'.size = d.size := hp.1
  have hpl : d'.toList.Perm d.toList := by
    have h := hp.2.2
    have e1 : d.extract 0 d.size = d := by simp
    have e2 : d'.extract 0 d.size = d' := by rw [← hsz]; simp
    rw [e1, e2] at h
    exact h
  obtain ⟨z', pz, ez⟩ := zip_perm hpl zc hd
  have hold := hS.holds hg hH hsz
  obtain ⟨_, hkeep, _⟩ := swk_keep hS
  have hmz : ∀ x ∈ z', Mn w' lo g ix x.1 x.2 := fun x hx => (hm x (pz.mem_iff.1 hx)).keep (Nat.le_refl _) (fun k _ hk => hkeep k (by omega) (by omega))
  refine ⟨z', pz.length_eq, by rw [ez]; exact prow_holds hold, hmz, ?_, z.map Prod.fst, hz, by rw [← hc]; exact pz.map _⟩
  refine rising_of _ (fun i j hj hij => ?_)
  have hzl : z'.length = d'.size := by rw [← Array.length_toList, ← ez, List.length_map]
  have hjz : j < z'.length := by simpa using hj
  have hiz : i < z'.length := by omega
  simp only [List.getElem_map]
  have w1 := (hmz _ (List.getElem_mem hiz)).wt
  have w2 := (hmz _ (List.getElem_mem hjz)).wt
  have e1 : d'[i]! = z'[i].2 := by
    rw [getElem!_pos d' i (by omega), ← Array.getElem_toList]
    simp only [← ez, List.getElem_map]
  have e2 : d'[j]! = z'[j].2 := by
    rw [getElem!_pos d' j (by omega), ← Array.getElem_toList]
    simp only [← ez, List.getElem_map]
  have hlt := hs i j (by omega) hij (by omega)
  rw [ltP, e1, e2, w1, w2] at hlt
  have := of_decide_eq_false hlt
  omega
end Go.Proofs.YtjafcjnkefioeaaGreat.Lp

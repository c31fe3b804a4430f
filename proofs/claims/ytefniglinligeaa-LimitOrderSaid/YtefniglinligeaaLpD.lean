
/- slices.Grow and slices.Concat over rows of packs. -/
import Derived.Test.YtefniglinligeaaLpC
import Derived.Shelf.Spec.SlicesGrow
namespace Go.Proofs.Ytefniglinligeaa.Lp
open Go.RowKit Go.Shelf Go.Proofs.Ytefniglinligeaa.Oct Go.Proofs.Ytefniglinligeaa.Lm
set_option linter.unusedVariables false
set_option linter.unusedSimpArgs false
set_option maxRecDepth 100000

/-- packs' cells, one behind the other -/
def pcells (zs : List Pk) : List Value := zs.flatMap encP
theorem pcells_length (zs : List Pk) : (pcells zs).length = zs.length * 3 := by
  induction zs with
  | nil => rfl
  | cons z zs ih =>
    unfold pcells at ih ⊢
    rw [List.flatMap_cons, List.length_append, ih, encP_len, List.length_cons]
    omega
theorem pcells_append (a b : List Pk) : pcells (a ++ b) = pcells a ++ pcells b := by simp [pcells]
theorem pcells_get : ∀ (zs : List Pk) (i : Nat) (h : i < zs.length), (pcells zs)[i * 3]? = some (.int .i64 zs[i].wt) ∧ (pcells zs)[i * 3 + 1]? = some (.int .i64 zs[i].sym) ∧ (pcells zs)[i * 3 + 2]? = some (.slice zs[i].ptr zs[i].len zs[i].cap)
  | [], i, h => by simp at h
  | z :: zs, 0, h => ⟨rfl, rfl, rfl⟩
  | z :: zs, i + 1, h => by
    obtain ⟨q1, q2, q3⟩ := pcells_get zs i (by simpa using h)
    have e : ∀ j, (pcells (z :: zs))[j + 3]? = (pcells zs)[j]? := fun j => rfl
    rw [show (i + 1) * 3 = i * 3 + 3 by omega, show i * 3 + 3 + 1 = i * 3 + 1 + 3 by omega, show i * 3 + 3 + 2 = i * 3 + 2 + 3 by omega, e, e, e]
    exact ⟨q1, q2, q3⟩
theorem PRow.cells {w : World} {b : Nat} {zs : List Pk} (h : PRow w b zs) (j : Nat) (u : Value) (hj : (pcells zs)[j]? = some u) : w.cell? ⟨b, j, none⟩ = some u := by
  have hlt : j < zs.length * 3 := by
    rw [← pcells_length]
    exact (List.getElem?_eq_some_iff.1 hj).1
  have hi : j / 3 < zs.length := by omega
  obtain ⟨q1, q2, q3⟩ := pcells_get zs (j / 3) hi
  obtain ⟨c1, c2, c3⟩ := h (j / 3) hi
  rcases (show j = j / 3 * 3 ∨ j = j / 3 * 3 + 1 ∨ j = j / 3 * 3 + 2 by omega) with e | e | e
  · rw [← e] at q1 c1
    rw [q1] at hj
    rw [c1, hj]
  · rw [← e] at q2 c2
    rw [q2] at hj
    rw [c2, hj]
  · rw [← e] at q3 c3
    rw [q3] at hj
    rw [c3, hj]
theorem prow_of {w : World} {b : Nat} {zs : List Pk} (h : ∀ j u, (pcells zs)[j]? = some u → w.cell? ⟨b, j, none⟩ = some u) : PRow w b zs := fun i hi =>
  have ⟨q1, q2, q3⟩ := pcells_get zs i hi
  ⟨h _ _ q1, h _ _ q2, h _ _ q3⟩
theorem pcells_one (zs : List Pk) : ∀ u ∈ pcells zs, u.oneCell' = true := fun u hu => by
  obtain ⟨z, _, hz⟩ := List.mem_flatMap.1 hu
  exact encP_one z u hz
/-- a slice of packs that lie below a block -/
def PV (w : World) (C : Nat) (p : Option Addr) (zs : List Pk) : Prop := 0 < zs.length → ∃ b, p = some ⟨b, 0, none⟩ ∧ b < C ∧ PRow w b zs
theorem PV.below {w w' : World} {C B : Nat} {p : Option Addr} {zs : List Pk} (h : PV w C p zs) (hb : Below B w w') (hC : C ≤ B) : PV w' C p zs := by
  intro hp
  obtain ⟨b, rfl, hlt, hr⟩ := h hp
  exact ⟨b, rfl, hlt, hr.keep (hb.block b (by omega))⟩
theorem PV.mono {w : World} {C D : Nat} {p : Option Addr} {zs : List Pk} (h : PV w C p zs) (hC : C ≤ D) : PV w D p zs := by
  intro hp
  obtain ⟨b, rfl, hlt, hr⟩ := h hp
  exact ⟨b, rfl, by omega, hr⟩
/-- an own row of packs -/
def POwn (w : World) (base : Nat) (v : Value) (zs : List Pk) : Prop := w.ownsRow base 39 3 v zs.length (pcells zs)
theorem POwn.below {w w' : World} {base : Nat} {v : Value} {zs : List Pk} (h : POwn w base v zs) (hb : Below w.heap.size w w') : POwn w' base v zs := by
  refine ⟨h.1, ?_⟩
  rcases h.2 with hn | ⟨g, cap, cur, rfl, hbs, hh, r⟩
  · exact .inl hn
  · refine .inr ⟨g, cap, cur, rfl, hbs, ?_, r⟩
    have hlt : g < w.heap.size := by
      rcases Nat.lt_or_ge g w.heap.size with hlt | hge
      · exact hlt
      · rw [Array.getElem?_eq_none hge] at hh; cases hh
    rw [hb.block g hlt]
    exact hh
theorem POwn.shape {w : World} {base : Nat} {v : Value} {zs : List Pk} (h : POwn w base v zs) :
    ∃ q c, v = .slice q zs.length c ∧ (q = none → c = 0) ∧ zs.length ≤ c ∧ c ≤ maxLen ∧ PV w w.heap.size q zs ∧ ∀ a, q = some a → base ≤ a.block := by
  have hl := fun k hk => h.lt k hk
  have hc := fun g hg => World.ownsRow.cells h (g := g) hg
  rcases h.2 with ⟨rfl, h0⟩ | ⟨g, cap, cur, rfl, hb, hh, h1, h2, _, _⟩
  · exact ⟨none, 0, by rw [h0], fun _ => rfl, by omega, by simp [maxLen], fun hp => by omega, fun a h => by cases h⟩
  · refine ⟨some ⟨g, 0, none⟩, cap, rfl, fun h => (by cases h), h1, h2, fun hp => ⟨g, rfl, (hl g rfl).2, prow_of fun j u hj => ?_⟩, fun a h => by injection h with h; subst h; exact hb⟩
    have := hc g rfl j u hj
    rw [add_plain, Nat.zero_add] at this
    exact this
theorem wpList_append_packs {w : World} {ops : Array Oper} {rest : List Oper} {o : Oper} {a : Act} {Q : Exit → Act → World → Prop}
    (hgd : o.guard = none) (s x : Operand) (ho : o.op = .call { callee := .builtin .append, args := #[s, x], argTypes := #[36, 36] })
    (base : Nat) (v : Value) (ys : List Pk) (hs : a.eval s = v) (hown : POwn w base v ys)
    (p : Option Addr) (m c : Nat) (xs : List Pk) (hx : a.eval x = .slice p m c) (hr : PV w w.heap.size p xs) (hxm : xs.length = m) (hc0 : p = none → c = 0)
    (h47 : ys.length + m ≤ 1000000) (hbase : base ≤ w.heap.size)
    (h : ∀ v' w', POwn w' base v' (ys ++ xs) → Below base w w' → wpList Try.prog ops Q rest (a.put o.dst v') w') :
    wpList Try.prog ops Q (o :: rest) a w := by
  obtain ⟨i0, hi, hz0, hz1, hz2⟩ := info_parts Try.infoPack
  have hT := Try.underlying36
  rcases p with _ | ad
  · have hxs : xs = [] := by
      rcases xs with _ | ⟨x, xs⟩
      · rfl
      · obtain ⟨b, he, _⟩ := hr (by simp)
        cases he
    subst hxs
    simp at hxm
    subst hxm
    have := hc0 rfl
    subst this
    refine wpList_append_own_none hgd s x 36 ho base 39 i0 3 hT hi v ys.length (pcells ys) hs hown hx ?_
    exact h v w (by simpa using hown) (Below.refl _ _)
  · refine wpList_append_own w hgd s x 36 ho base 39 i0 _ 3 40 hT hi hz0 hz1 hz2 (by decide) (by decide) v ys.length (pcells ys) hs hown ad m c (pcells xs) hx (by rw [pcells_length, hxm]) ?_ (pcells_one xs) (by unfold maxLen; omega) (by omega) hbase ?_
    · intro j u hj
      have hlt := (List.getElem?_eq_some_iff.1 hj).1
      rw [pcells_length] at hlt
      obtain ⟨b, he, _, hc⟩ := hr (by omega)
      injection he with he
      subst he
      rw [add_plain, Nat.zero_add]
      exact hc.cells j u hj
    · intro v' w' h2 h3 h4
      refine h v' w' ?_ ((Below.refl _ w).grown h3 hbase (fun k hk => (World.ownsRow.lt hown k hk).1))
      unfold POwn
      rw [List.length_append, hxm, pcells_append]
      exact h2

/-- the numbers of the library's Grow, here -/
def renG : Ren := ⟨fun n => if n = 4 then 27 else n, fun n => if n = 22 then 36 else if n = 25 then 39 else if n = 3 then 3 else if n = 4 then 4 else if n = 9 then 9 else if n = 20 then 20 else n, fun n => n⟩
theorem laysG : Lays8.n4 Try.prog renG where
  mixed := by kernel_rfl
  f4 := ⟨ "slices.Grow[[]mezzotint/limit.pack,mezzotint/limit.pack]", by kernel_rfl, by kernel_rfl⟩
  t0 := by kernel_rfl
  a0 _ := by kernel_rfl
  z0 _ := by kernel_rfl
  v0 _ := by kernel_rfl
  t3 := by kernel_rfl
  a3 _ := by kernel_rfl
  z3 _ := by kernel_rfl
  v3 _ := by kernel_rfl
  t4 := by kernel_rfl
  a4 _ := by kernel_rfl
  z4 _ := by kernel_rfl
  v4 _ := by kernel_rfl
  t9 := by kernel_rfl
  a9 _ := by kernel_rfl
  z9 _ := by kernel_rfl
  v9 _ := by kernel_rfl
  t20 := by kernel_rfl
  a20 _ := by kernel_rfl
  z20 _ := by kernel_rfl
  v20 _ := by kernel_rfl
  t22 := by kernel_rfl
  a22 _ := by kernel_rfl
  z22 _ := by kernel_rfl
  v22 _ := by kernel_rfl
/-- a row to be filled -/
def GrowP (w : World) (e : Ending) (w' : World) : Prop := ∃ v, e = .returned v ∧ POwn w' w.heap.size v [] ∧ Below w.heap.size w w'
theorem grow_any (n : Nat) (w : World) (hn : n ≤ 1000000) : Calls Try.prog 27 #[.slice none 0 0, .int .i64 (n : Int)] w (GrowP w) := by
  obtain ⟨i0, hi, hz0, hz1, hz2⟩ := info_parts Try.infoPack
  have e : renG.f 4 = 27 := rfl
  rcases Nat.eq_zero_or_pos n with h0 | h0
  · have h := Any8.slices_Grow_room laysG none 0 0 n w (by omega) (by omega) (by omega) (by omega)
    rw [e] at h
    refine h.mono ?_
    rintro e w' ⟨rfl, rfl⟩
    exact ⟨_, rfl, ⟨rfl, .inl ⟨rfl, rfl⟩⟩, Below.refl _ _⟩
  · have h := Any8.slices_Grow_grow laysG i0 _ hi hz0 (by omega) none 0 0 n [] w (by omega) (by omega) (by rw [hz2]; omega) (by omega) (by simp) (fun _ => rfl) (fun a h => by cases h)
    rw [e] at h
    refine h.mono ?_
    rintro e w' ⟨rfl, rfl⟩
    refine ⟨_, rfl, ?_, ((Below.refl _ w).drew).alloc (Nat.le_refl _) _⟩
    have hm := World.ownsRow_made (size := 3) (w := w.drew) (base := w.heap.size) (e := 39) (([] : List Value).toArray ++ Builtin.zeroCells (Value.agg #[.int .i64 0, .int .i64 0, .slice none 0 0]).cells (0 + n - 0) ++ Builtin.zeroCells (Value.agg #[.int .i64 0, .int .i64 0, .slice none 0 0]).cells (grownCap w (0 + n) 0 39 - (0 + n))) (grownCap w (0 + n) 0 39) (Nat.le_refl _) (grownCap_le_maxLen _ _ _ _ (by unfold maxLen; omega)) ?_
    · exact hm
    · have hge := grownCap_ge w (0 + n) 0 39
      rw [Nat.zero_add] at hge
      simp [Builtin.zeroCells, Value.cells]
      omega
/-- the memory of Concat's arguments -/
def CatP (w : World) (zs : List Pk) (e : Ending) (w' : World) : Prop := ∃ v, e = .returned v ∧ POwn w' w.heap.size v zs ∧ Below w.heap.size w w'
def SzS (n1 n2 k s : Nat) : Prop := (k = 0 ∧ s = 0) ∨ (k = 1 ∧ s = n1) ∨ (k = 2 ∧ s = n1 + n2)
def RwS (z1 z2 : List Pk) (k : Nat) (zs : List Pk) : Prop := (k = 0 ∧ zs = []) ∨ (k = 1 ∧ zs = z1) ∨ (k = 2 ∧ zs = z1 ++ z2)
set_option maxHeartbeats 4000000 in
theorem concat_any (sb c : Nat) (p1 p2 : Option Addr) (c1 c2 : Nat) (z1 z2 : List Pk) (w : World) (hsb : sb < w.heap.size) (h1 : w.cell? ⟨sb, 0, none⟩ = some (.slice p1 z1.length c1)) (h2 : w.cell? ⟨sb, 1, none⟩ = some (.slice p2 z2.length c2))
    (r1 : PV w w.heap.size p1 z1) (r2 : PV w w.heap.size p2 z2) (n1 : p1 = none → c1 = 0) (n2 : p2 = none → c2 = 0) (hl : z1.length ≤ 100000 ∧ z2.length ≤ 100000) :
    Calls Try.prog 21 #[.slice (some ⟨sb, 0, none⟩) 2 c] w (CatP w (z1 ++ z2)) := by
  have H0 : Hid (w.cell? ⟨sb, 0, none⟩ = some (.slice p1 z1.length c1) ∧ w.cell? ⟨sb, 1, none⟩ = some (.slice p2 z2.length c2) ∧ PV w w.heap.size p1 z1 ∧ PV w w.heap.size p2 z2 ∧ (p1 = none → c1 = 0) ∧ (p2 = none → c2 = 0)) := ⟨h1, h2, r1, r2, n1, n2⟩
  have hl1 := hl.1
  have hl2 := hl.2
  clear h1 h2 r1 r2 n1 n2 hl
  go_enter Try.func21, Try.ntmps21
  go_wp2
  go_loopg [3, 11] 2 (fun kx s3 s11 wr => ∃ (k s : Nat), s11 = .int .i64 (k : Int) ∧ s3 = .int .i64 (s : Int) ∧ k ≤ 2 ∧ 2 - k ≤ kx ∧ Hid (SzS z1.length z2.length k s) ∧ s ≤ 200000 ∧ w = wr)
  case atStart => exact ⟨0, 0, rfl, rfl, by omega, by omega, .inl ⟨rfl, rfl⟩, by omega, rfl⟩
  case round =>
    obtain ⟨k, s, rfl, rfl, hk, hkx, HS, hs, rfl⟩ := hrel
    by_cases hlt : k < 2
    · have hkz : (k : Int) < 2 := by omega
      have hk0 : (0 : Int) ≤ (k : Int) := by omega
      have hcell : ∃ p n cc, w.cell? ⟨sb, k, none⟩ = some (.slice p n cc) ∧ n ≤ 100000 ∧ SzS z1.length z2.length (k + 1) (s + n) := by
        rcases HS.out with ⟨rfl, rfl⟩ | ⟨rfl, rfl⟩ | ⟨rfl, rfl⟩
        · exact ⟨_, _, _, H0.out.1, hl1, .inr (.inl ⟨rfl, by omega⟩)⟩
        · exact ⟨_, _, _, H0.out.2.1, hl2, .inr (.inr ⟨rfl, rfl⟩)⟩
        · omega
      obtain ⟨p, n, cc, hc, hn, hss⟩ := hcell
      have HSS : Hid (SzS z1.length z2.length (k + 1) (s + n)) := hss
      have hs2 : s + n ≤ 200000 := by
        rcases hss with ⟨h, _⟩ | ⟨_, h⟩ | ⟨_, h⟩ <;> omega
      have ws : IntKind.i64.wrap ((s : Int) + (n : Int)) = ((s + n : Nat) : Int) := by rw [IntKind.wrap_i64]; omega
      obtain ⟨sn, hsn⟩ : ∃ sn, sn = s + n := ⟨_, rfl⟩
      rw [← hsn] at ws HSS hs2
      have hneg : ¬ (sn : Int) < 0 := by omega
      clear hss hsn
      go_wp2
      go_roundg (2 - (k + 1))
      case measure => omega
      case rel => exact ⟨k + 1, sn, by go_num, rfl, by omega, Nat.le_refl _, HSS, hs2, rfl⟩
    · have hkz : ¬ (k : Int) < 2 := by omega
      have hk2 : k = 2 := by omega
      have hg := grow_any s w (by omega)
      go_wp2_with (go_at_call 27; refine hg.mono ?_; rintro e w' ⟨v, rfl, ho, hb⟩)
      go_loopg [6, 27] 2 (fun kx s6 s27 wr => ∃ (k : Nat) (zs : List Pk), s27 = .int .i64 (k : Int) ∧ k ≤ 2 ∧ 2 - k ≤ kx ∧ Hid (RwS z1 z2 k zs ∧ POwn wr w.heap.size s6 zs ∧ Below w.heap.size w wr))
      case atStart => exact ⟨0, [], rfl, by omega, by omega, ⟨.inl ⟨rfl, rfl⟩, ho, hb⟩⟩
      case round =>
        clear ho hb
        obtain ⟨k', zs, rfl, hk', hkx', HR⟩ := hrel
        by_cases hlt' : k' < 2
        · have hkz' : (k' : Int) < 2 := by omega
          have hk0' : (0 : Int) ≤ (k' : Int) := by omega
          have hcell : ∃ p z cc, w.cell? ⟨sb, k', none⟩ = some (.slice p z.length cc) ∧ z.length ≤ 100000 ∧ PV w w.heap.size p z ∧ (p = none → cc = 0) ∧ RwS z1 z2 (k' + 1) (zs ++ z) ∧ zs.length ≤ 100000 := by
            rcases HR.out.1 with ⟨rfl, rfl⟩ | ⟨rfl, rfl⟩ | ⟨rfl, rfl⟩
            · exact ⟨_, z1, _, H0.out.1, hl1, H0.out.2.2.1, H0.out.2.2.2.2.1, .inr (.inl ⟨rfl, rfl⟩), by simp⟩
            · exact ⟨_, z2, _, H0.out.2.1, hl2, H0.out.2.2.2.1, H0.out.2.2.2.2.2, .inr (.inr ⟨rfl, rfl⟩), hl1⟩
            · omega
          obtain ⟨p, z, cc, hc, hn, hpv, hpn, hss, hzl⟩ := hcell
          have hcw : _ = some (Value.slice p z.length cc) := (HR.out.2.2.cell (p := ⟨sb, k', none⟩) hsb).trans hc
          have HSS : Hid (RwS z1 z2 (k' + 1) (zs ++ z) ∧ PV w w.heap.size p z ∧ (p = none → cc = 0)) := ⟨hss, hpv, hpn⟩
          clear hc hss hpv hpn
          go_wp2_with (at_builtin; refine wpList_append_packs rfl _ _ rfl w.heap.size _ zs rfl HR.out.2.1 p z.length cc z rfl ((HSS.out.2.1.below HR.out.2.2 (Nat.le_refl _)).mono HR.out.2.2.size) rfl HSS.out.2.2 (by omega) HR.out.2.2.size ?_; intro v2 w2 ho2 hb2)
          have HN : Hid (RwS z1 z2 (k' + 1) (zs ++ z) ∧ POwn w2 w.heap.size v2 (zs ++ z) ∧ Below w.heap.size w w2) := ⟨HSS.out.1, ho2, HR.out.2.2.trans hb2⟩
          clear ho2 hb2
          go_roundg (2 - (k' + 1))
          case measure => omega
          case rel => exact ⟨k' + 1, zs ++ z, by go_num, by omega, Nat.le_refl _, HN⟩
        · have hkz' : ¬ (k' : Int) < 2 := by omega
          have hk2' : k' = 2 := by omega
          go_wp2
          go_ret
          rcases HR.out.1 with ⟨h, _⟩ | ⟨h, _⟩ | ⟨_, rfl⟩
          · omega
          · omega
          · exact ⟨_, rfl, HR.out.2⟩
end Go.Proofs.Ytefniglinligeaa.Lp

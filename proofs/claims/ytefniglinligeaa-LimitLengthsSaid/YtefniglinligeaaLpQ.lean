
/- Things that come twice as often; the walk of LimitMore. -/
import Derived.Test.YtefniglinligeaaLpO
import Derived.Deep.AppendLies
namespace Go.Proofs.Ytefniglinligeaa.Lp
open Go.RowKit Go.Proofs.Ytefniglinligeaa.Oct Go.Proofs.Ytefniglinligeaa.Lm
set_option linter.unusedVariables false
set_option linter.unusedSimpArgs false
set_option maxRecDepth 100000

def u16s (ns : List Nat) : List Value := ns.map fun n : Nat => .int .u16 (n : Int)
def IsU16 (w : World) (a : Option Addr) (len cap : Nat) : Prop := ∃ ns : List Nat, ns.length = len ∧ VRow w w.heap.size a (u16s ns) ∧ ∀ n ∈ ns, n ≤ 65535
section
variable {H : Type} {enc : TypeId × Value → H} {w : World} {spare : Nat → Bool} {held : Bool}
theorem open_u16row {fuel : Nat} {a : Option Addr} {len cap : Nat} {x : DataW H × List MemPlace} (h : DataW.trod enc Try.prog w 0 spare held fuel 32 [.slice a len cap] = some x) : IsU16 w a len cap := by
  rcases ChangeShapes.open_ints Try.underlying32 Try.underlying34 (by kernel_rfl) h with ⟨hcs, _⟩ | ⟨ad, l, c, zs, hcs, _, hl, hm, hz, _, hcell, hwz⟩
  · simp at hcs
    obtain ⟨rfl, rfl, rfl⟩ := hcs
    exact ⟨[], rfl, fun h => absurd h (by simp [u16s]), fun n hn => absurd hn List.not_mem_nil⟩
  · simp at hcs
    obtain ⟨rfl, rfl, rfl⟩ := hcs
    have hzl : len ≤ zs.length := by rw [hz]; split <;> omega
    have hrange : ∀ z ∈ zs, 0 ≤ z ∧ z ≤ 65535 := fun z hz' => by
      have := hwz z hz'
      simp [Lit.wf, IntKind.min, IntKind.max, IntKind.bits, IntKind.signed] at this
      omega
    refine ⟨(zs.take len).map Int.toNat, by rw [List.length_map, List.length_take]; omega, fun hp => ?_, fun n hn => ?_⟩
    · unfold u16s at hp
      rw [List.length_map, List.length_map, List.length_take] at hp
      obtain ⟨b, off, spot⟩ := ad
      have h0 := hcell 0 (by omega)
      have hs : spot = none := by simpa [Addr.add] using World.cell?_spot h0
      subst hs
      refine ⟨b, off, rfl, lt_of_cell h0, fun i hi => ?_⟩
      unfold u16s at hi
      rw [List.length_map, List.length_map, List.length_take] at hi
      have h1 := hcell i (by omega)
      rw [add_plain] at h1
      rw [h1]
      have hg : zs.getD i 0 = zs[i]'(by omega) := by simp [List.getD, List.getElem?_eq_getElem (show i < zs.length by omega)]
      have hr := hrange _ (List.getElem_mem (show i < zs.length by omega))
      rw [hg]
      simp only [u16s, List.getElem_map, List.getElem_take]
      congr 2
      omega
    · obtain ⟨z, hz', rfl⟩ := List.mem_map.1 hn
      have := hrange z (List.mem_of_mem_take hz')
      omega
end
/-- twice as often -/
def twI (ns : List Nat) : List Int := ns.map fun n : Nat => 2 * (n : Int)
theorem natsOf_ints (ns : List Nat) : natsOf (intsOf ns) = ns := by
  unfold natsOf intsOf
  rw [List.map_map]
  exact (List.map_congr_left (fun n _ => by simp)).trans (List.map_id ns)
theorem natsOf_tw (ns : List Nat) : natsOf (twI ns) = ns.map (2 * ·) := by
  unfold natsOf twI
  rw [List.map_map]
  exact List.map_congr_left (fun n _ => by simp only [Function.comp]; omega)
theorem come_tw (ns : List Nat) : come (natsOf (twI ns)) = (come (natsOf (intsOf ns))).map (2 * ·) := by rw [natsOf_tw, natsOf_ints, come_twice]
theorem okB_ints {ns : List Nat} {m : Nat} (h : ∀ n ∈ ns, n ≤ 65535) (hl : ns.length ≤ 40) (h1 : 1 ≤ m) (h2 : m ≤ 30) : okB (intsOf ns) (m : Int) = true := by
  unfold okB
  simp only [Bool.and_eq_true, decide_eq_true_eq, Bool.not_eq_true']
  refine ⟨⟨⟨by omega, by omega⟩, by unfold intsOf; rw [List.length_map]; omega⟩, List.any_eq_false.2 (fun z hz => ?_)⟩
  obtain ⟨n, hn, rfl⟩ := List.mem_map.1 hz
  have := h n hn
  unfold badZ
  simp
  omega
theorem okB_tw {ns : List Nat} {m : Nat} (h : ∀ n ∈ ns, n ≤ 65535) (hl : ns.length ≤ 40) (h1 : 1 ≤ m) (h2 : m ≤ 30) : okB (twI ns) (m : Int) = true := by
  unfold okB
  simp only [Bool.and_eq_true, decide_eq_true_eq, Bool.not_eq_true']
  refine ⟨⟨⟨by omega, by omega⟩, by unfold twI; rw [List.length_map]; omega⟩, List.any_eq_false.2 (fun z hz => ?_)⟩
  obtain ⟨n, hn, rfl⟩ := List.mem_map.1 hz
  have := h n hn
  unfold badZ
  simp
  omega
theorem kost_tw {ns : List Nat} {most : Nat} {ls cs : List Nat} (h : Fine (intsOf ns) most ls) (k : Fine (twI ns) most cs) : kost (twI ns) cs = 2 * kost (intsOf ns) ls := by
  have hk := k.least
  unfold kost
  rw [come_tw] at hk ⊢
  exact least_twice h.least hk
theorem kost_le {zs : List Int} {most : Nat} {ls : List Nat} (h : Fine zs most ls) (hok : okB zs (most : Int) = true) : kost zs ls ≤ 300 * 32212254720 := by
  obtain ⟨h1, h2, h3, h4⟩ := okB_parts hok
  have hc := h.cost h4 (by omega) h3
  have hl : (intsOf ls).length = zs.length := by unfold intsOf; rw [List.length_map, h.len]
  rw [hl, Nat.min_self] at hc
  obtain ⟨e1, e2⟩ := sum_nat h4 (fun i => Nat.le_trans (h.le (fun z hz' => (h4 z hz').1) i) (by omega)) zs.length h3
  rw [e1] at hc
  have : zs.length * 32212254720 ≤ 300 * 32212254720 := Nat.mul_le_mul_right _ h3
  unfold kost
  omega
theorem lengths_long (p : Option Addr) (len cap most : Nat) (zs : List Int) (w : World) (hr : VRow w w.heap.size p (ints zs)) (hx : zs.length = len) (hok : okB zs (most : Int) = true) (hc : 2 ^ most < (come (natsOf zs)).length) : Calls Try.prog 8 #[.slice p len cap, .int .i64 (most : Int)] w fun e w' => e = .returned (.tuple #[.slice none 0 0, .int .i64 5]) ∧ Below w.heap.size w w' := by
  refine (lengths_any p len cap (most : Int) zs w hr hx).mono ?_
  rintro e w' ⟨hb, h | h | h⟩
  · rw [hok] at h; cases h.1
  · exact ⟨h.2.2, hb⟩
  · have := h.2.1
    rw [Int.toNat_natCast] at this
    omega
/-- two rows that grow in turn -/
structure Tw (W : World) (u v : Value) (a b : List Int) (wr : World) : Prop where
  o1 : IOwn wr W.heap.size u a
  o2 : IOwn wr W.heap.size v b
  ap : ∀ k, u.ownBlock = some k → v.ownBlock ≠ some k
  bel : Below W.heap.size W wr
theorem Tw.more {W : World} {u v : Value} {a b : List Int} {wr w' : World} (h : Tw W u v a b wr) (hb : Below wr.heap.size wr w') : Tw W u v a b w' := ⟨h.o1.below hb, h.o2.below hb, h.ap, h.bel.trans (hb.mono h.bel.size)⟩
theorem Tw.swap {W : World} {u v : Value} {a b : List Int} {wr : World} (h : Tw W u v a b wr) : Tw W v u b a wr := ⟨h.o2, h.o1, fun k h1 h2 => h.ap k h2 h1, h.bel⟩
theorem Tw.grow {W : World} {u v : Value} {a b : List Int} {wr w' : World} (h : Tw W u v a b wr) {g cap : Nat} {x : Int} (ho : IOwn w' W.heap.size (.slice (some ⟨g, 0, none⟩) (a.length + 1) cap) (a ++ [x])) (hg : wr.grownBy w' u.ownBlock) (hd : u.ownBlock = some g ∨ g = wr.heap.size) :
    Tw W (.slice (some ⟨g, 0, none⟩) (a.length + 1) cap) v (a ++ [x]) b w' := by
  refine ⟨ho, ?_, fun k hk hv => ?_, h.bel.trans ((Below.refl _ wr).grown hg h.bel.size (fun k hk => (World.ownsRow.lt h.o1 k hk).1))⟩
  · refine World.ownsRow.kept h.o2 hg ?_
    rcases hv : v.ownBlock with _ | k
    · exact .inl rfl
    · exact .inr (fun e => h.ap k e.symm hv)
  · injection hk with hk
    subst hk
    rcases hd with hd | hd
    · exact h.ap g hd hv
    · have := (World.ownsRow.lt h.o2 g hv).2
      omega
theorem Tw.start (W : World) : Tw W (.slice none 0 0) (.slice none 0 0) [] [] W := ⟨IOwn.nil W, IOwn.nil W, fun k hk => (by cases hk), Below.refl _ _⟩
theorem wpList_append_tw {w w0 : World} {ops : Array Oper} {rest : List Oper} {o : Oper} {a : Act} {Q : Exit → Act → World → Prop} {W : World}
    (hgd : o.guard = none) (s x : Operand) (ho : o.op = .call { callee := .builtin .append, args := #[s, x], argTypes := #[22, 22] })
    (u v : Value) (ys zs : List Int) (hs : a.eval s = u) (h0 : Tw W u v ys zs w0) (z : Int) (hw : w = w0.alloc (.cells #[.int .i64 z] 3)) (hx : a.eval x = .slice (some ⟨w0.heap.size, 0, none⟩) 1 1) (hl : ys.length ≤ 1000)
    (h : ∀ u' w', Tw W u' v (ys ++ [z]) zs w' → wpList Try.prog ops Q rest (a.put o.dst u') w') :
    wpList Try.prog ops Q (o :: rest) a w := by
  obtain ⟨i0, hi, hz0, hz1, hz2⟩ := info_parts Try.infoInt3
  subst hw
  have hT := h0.more (w' := w0.alloc (.cells #[.int .i64 z] 3)) ((Below.refl _ w0).alloc (Nat.le_refl _) _)
  refine wpList_append_lies _ hgd s x 22 ho W.heap.size 3 i0 (.int .i64 0) 1 8 Try.underlying22 hi hz0 hz1 hz2 rfl (by decide) u ys.length (ints ys) hs hT.o1 ⟨w0.heap.size, 0, none⟩ 1 1 (ints [z]) hx rfl ?_ ints_one (by decide) (by unfold maxLen; omega) (by omega) hT.bel.size _ rfl ?_
  · intro j q hj
    have hj0 : j = 0 := by
      have := (List.getElem?_eq_some_iff.1 hj).1
      simp [ints] at this
      omega
    subst hj0
    have hq : q = .int .i64 z := by simpa [ints] using hj.symm
    subst hq
    have h9 := heap_alloc_last w0 (.cells #[.int .i64 z] 3)
    rw [add_plain]
    unfold World.cell?
    dsimp only
    rw [h9]
    rfl
  · intro g cap w' h1 h2 h3 h4
    refine h _ w' (hT.grow (x := z) ?_ h2 h3)
    unfold IOwn
    rw [ints_append, List.length_append]
    exact h1
end Go.Proofs.Ytefniglinligeaa.Lp

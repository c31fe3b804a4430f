
/- Rows of samples (numbers of 32 bits) in memory: that came in, made, filled, cloned, held against each other; of no package's function but the document's Same. -/
import Derived.Test.YtgakegomanfccaaLpR
import Derived.Test.YtgakegomanfccaaTail
import Derived.SizedLaws
import Derived.Lib.SmallJoins
import Derived.OpenShut
namespace Go.Proofs.Ytgakegomanfccaa.Sa
open Go.RowKit Go.Proofs.Ytgakegomanfccaa.Oct
open Go.Proofs.Ytgakegomanfccaa.Lp (VRow vrow_blk vrow_own wpList_append_vals blk_set blk_far blk_frozen fillV fillV_length fillV_zero fillV_all fillV_step)
set_option linter.unusedVariables false
set_option linter.unusedSimpArgs false
set_option maxRecDepth 100000

def u32s (ns : List Nat) : List Value := ns.map fun n : Nat => .int .u32 (n : Int)
theorem u32s_length (ns : List Nat) : (u32s ns).length = ns.length := by simp [u32s]
theorem u32s_append (a b : List Nat) : u32s (a ++ b) = u32s a ++ u32s b := by simp [u32s]
theorem u32s_one {ns : List Nat} : ∀ v ∈ u32s ns, v.oneCell' = true := by
  intro v hv
  simp [u32s] at hv
  obtain ⟨x, _, rfl⟩ := hv
  rfl
theorem vrow_u32 {w : World} {C : Nat} {p : Option Addr} {ns : List Nat} (h : VRow w C p (u32s ns)) (i : Nat) (hi : i < ns.length) : ∃ b off, p = some ⟨b, off, none⟩ ∧ b < C ∧ w.cell? ⟨b, off + i, none⟩ = some (.int .u32 (ns[i] : Int)) := by
  obtain ⟨b, off, e, hlt, hc⟩ := h (by rw [u32s_length]; omega)
  refine ⟨b, off, e, hlt, ?_⟩
  rw [hc i (by rw [u32s_length]; exact hi)]
  simp [u32s]
theorem Try.infoU32 : (Try.prog.info? 31).map (fun i => (i.zero, i.size, i.bytes)) = some (some (.int .u32 0), 1, 4) := by kernel_rfl
theorem bytesU32 : Try.prog.bytesOf 31 = 4 := by kernel_rfl
/-- a slice of samples that came in -/
def IsU32 (w : World) (a : Option Addr) (len cap : Nat) : Prop :=
  ∃ ns : List Nat, ns.length = len ∧ VRow w w.heap.size a (u32s ns) ∧ (∀ n ∈ ns, n < 4294967296) ∧ len ≤ cap ∧ cap ≤ maxLen ∧ (a = none → cap = 0)
section
variable {H : Type} {enc : TypeId × Value → H} {w : World} {spare : Nat → Bool} {held : Bool}
theorem open_u32 {fuel : Nat} {a : Option Addr} {len cap : Nat} {x : DataW H × List MemPlace} (h : DataW.trod enc Try.prog w 0 spare held fuel 22 [.slice a len cap] = some x) : IsU32 w a len cap := by
  rcases ChangeShapes.open_ints Try.underlying22 Try.underlying31 (by kernel_rfl) h with ⟨hcs, _⟩ | ⟨ad, l, c, zs, hcs, _, hl, hm, hz, _, hcell, hwz⟩
  · simp at hcs
    obtain ⟨rfl, rfl, rfl⟩ := hcs
    exact ⟨[], rfl, fun h => absurd h (by simp [u32s]), fun n hn => absurd hn List.not_mem_nil, Nat.le_refl _, by simp [maxLen], fun _ => rfl⟩
  · simp at hcs
    obtain ⟨rfl, rfl, rfl⟩ := hcs
    have hzl : len ≤ zs.length := by rw [hz]; split <;> omega
    have hrange : ∀ z ∈ zs, 0 ≤ z ∧ z ≤ 4294967295 := fun z hz' => by
      have := hwz z hz'
      simp [Lit.wf, IntKind.min, IntKind.max, IntKind.bits, IntKind.signed] at this
      omega
    refine ⟨(zs.take len).map Int.toNat, by rw [List.length_map, List.length_take]; omega, fun hp => ?_, fun n hn => ?_, hl, hm, fun h => by cases h⟩
    · rw [u32s_length, List.length_map, List.length_take] at hp
      obtain ⟨b, off, spot⟩ := ad
      have h0 := hcell 0 (by omega)
      have hs : spot = none := by simpa [Addr.add] using World.cell?_spot h0
      subst hs
      refine ⟨b, off, rfl, lt_of_cell h0, fun i hi => ?_⟩
      rw [u32s_length, List.length_map, List.length_take] at hi
      have h1 := hcell i (by omega)
      rw [add_plain] at h1
      rw [h1]
      have hg : zs.getD i 0 = zs[i]'(by omega) := by simp [List.getD, List.getElem?_eq_getElem (show i < zs.length by omega)]
      have hr := hrange _ (List.getElem_mem (show i < zs.length by omega))
      rw [hg]
      simp only [u32s, List.getElem_map, List.getElem_take]
      congr 2
      omega
    · obtain ⟨z, hz', rfl⟩ := List.mem_map.1 hn
      have := hrange z (List.mem_of_mem_take hz')
      omega
/-- a slice of samples among values that came in -/
theorem open_u32v {fuel : Nat} {c : Value} {x : DataW H × List MemPlace} (h : DataW.trod enc Try.prog w 0 spare held fuel 22 [c] = some x) (hw : ∀ n ∈ x.1.weights Try.prog 22, n ≤ reachBytes) : ∃ a len cap, c = .slice a len cap ∧ IsU32 w a len cap ∧ len ≤ 140737488351232 := by
  have hc : ∃ a len cap, c = .slice a len cap ∧ len ≤ 140737488351232 := by
    rcases ChangeShapes.open_ints Try.underlying22 Try.underlying31 (by kernel_rfl) h with ⟨hcs, _⟩ | ⟨ad, l, k, zs, hcs, _, hl, hm, hz, hx, _⟩
    · simp at hcs
      exact ⟨_, _, _, hcs, by omega⟩
    · simp at hcs
      refine ⟨_, _, _, hcs, ?_⟩
      have hzl : l ≤ zs.length := by rw [hz]; split <;> omega
      have h1 := hw ((((zs.take l).length + (zs.drop l).length)) * Try.prog.bytesOf 31) (by
        rw [hx]
        simp [DataW.weights, Try.underlying22, ChangeShapes.lits])
      rw [bytesU32, List.length_take, List.length_drop] at h1
      unfold reachBytes at h1
      omega
  obtain ⟨a, len, cap, rfl, hl⟩ := hc
  exact ⟨a, len, cap, rfl, open_u32 h, hl⟩
end
theorem u32_new (w : World) (vs : List Value) (T : TypeId) (fr : Nat × Nat) : VRow (w.alloc (.cells vs.toArray T fr)) (w.alloc (.cells vs.toArray T fr)).heap.size (some ⟨w.heap.size, 0, none⟩) vs :=
  vrow_blk (T := T) (fr := fr) (by
    show (w.heap.push _)[w.heap.size]? = _
    simp) (by simp)
theorem made_u32 (n : Nat) : (madeCells #[Value.int IntKind.u32 0] n).toList = List.replicate n (.int .u32 0) := by
  simp [madeCells]
  apply List.ext_getElem <;> simp [Nat.mod_one]
/-- samples that are new, or an error -/
def UnP (w : World) (ys : List Nat) (er : Int) (e : Ending) (w' : World) : Prop :=
  Below w.heap.size w w' ∧ ((er = 0 ∧ ∃ q cap, e = .returned (.tuple #[.slice q ys.length cap, .int .i64 0]) ∧ VRow w' w'.heap.size q (u32s ys) ∧ ys.length ≤ cap ∧ cap ≤ maxLen ∧ (q = none → cap = 0) ∧ ∀ a, q = some a → w.heap.size ≤ a.block) ∨
    (er ≠ 0 ∧ e = .returned (.tuple #[.slice none 0 0, .int .i64 er])))
theorem un_str {w w' : World} {Y : List Nat} {er : Int} {e : Ending} (h : UnP w Y er e w') : Below w.heap.size w w' ∧ ∃ q n cap ys, e = .returned (.tuple #[.slice q n cap, .int .i64 er]) ∧ VRow w' w'.heap.size q (u32s ys) ∧ ys.length = n ∧ n ≤ cap ∧ cap ≤ maxLen ∧ (q = none → cap = 0) ∧ ys = (if er = 0 then Y else []) ∧ ∀ a, q = some a → w.heap.size ≤ a.block := by
  obtain ⟨hb, ⟨h0, q, cap, h1, h2, h3, h4, h5, h6⟩ | ⟨h0, h1⟩⟩ := h
  · subst h0
    exact ⟨hb, q, Y.length, cap, Y, h1, h2, rfl, h3, h4, h5, rfl, h6⟩
  · exact ⟨hb, none, 0, 0, [], h1, fun h => absurd h (by simp [u32s]), rfl, Nat.le_refl _, by simp [maxLen], fun _ => rfl, by rw [if_neg h0], fun a h => by cases h⟩
def YesS (w : World) (e : Ending) (w' : World) : Prop := e = .returned (.bool true) ∧ Below w.heap.size w w'
/-- a row of samples while it is filled -/
def FilS (w : World) (G : Nat) (ys : List Nat) (k : Nat) (wr : World) : Prop :=
  Below w.heap.size w wr ∧ w.heap.size ≤ G ∧ G < wr.heap.size ∧ wr.heap[G]? = some (.cells (fillV (u32s ys) (.int .u32 0) k).toArray 31 (0, 0))
theorem FilS.cell {w wr : World} {G : Nat} {ys : List Nat} {k : Nat} (h : FilS w G ys k wr) (hk : k < ys.length) : ∃ v, wr.cell? ⟨G, k, none⟩ = some v := by
  have hl : k < (fillV (u32s ys) (.int .u32 0) k).length := by rw [fillV_length _ _ _ (by rw [u32s_length]; omega), u32s_length]; exact hk
  exact ⟨_, by simp [World.cell?, h.2.2.2, hl]; rfl⟩
theorem FilS.fz {w wr : World} {G : Nat} {ys : List Nat} {k : Nat} (h : FilS w G ys k wr) (i : Nat) : wr.frozen? ⟨G, i, none⟩ = false := blk_frozen h.2.2.2 i
theorem FilS.drawn {w wr w2 : World} {G : Nat} {ys : List Nat} {k : Nat} (h : FilS w G ys k wr) (hd : Drawn wr w2) : FilS w G ys k w2 := by
  obtain ⟨n, rfl⟩ := hd
  exact ⟨h.1.trans (Drawn.below ⟨n, rfl⟩ _), h.2.1, h.2.2.1, h.2.2.2⟩
theorem FilS.step {w wr : World} {G : Nat} {ys : List Nat} {k : Nat} (h : FilS w G ys k wr) (hk : k < ys.length) (v : Nat) (hv : ys[k] = v) : FilS w G ys (k + 1) (wr.setCell ⟨G, k, none⟩ (.int .u32 (v : Int))) := by
  have hk2 : k < (u32s ys).length := by rw [u32s_length]; exact hk
  refine ⟨h.1.setCell h.2.1 _, h.2.1, by simpa [World.setCell] using h.2.2.1, ?_⟩
  have := blk_set h.2.2.2 k (.int .u32 (v : Int))
  rw [List.setIfInBounds_toArray, show (Value.int .u32 (v : Int)) = (u32s ys)[k] from by simp [u32s, hv], fillV_step _ _ _ hk2] at this
  rw [show (Value.int .u32 (v : Int)) = (u32s ys)[k] from by simp [u32s, hv]]
  exact this
theorem FilS.start {w w1 : World} {G n : Nat} {ys : List Nat} (hn : ys.length = n) (hb : Below w.heap.size w w1) (hG : w.heap.size ≤ G) (hl : G < w1.heap.size) (h : w1.heap[G]? = some (.cells (madeCells #[Value.int IntKind.u32 0] n).toList.toArray 31 (0, 0))) : FilS w G ys 0 w1 := by
  refine ⟨hb, hG, hl, ?_⟩
  rw [h, made_u32, fillV_zero, u32s_length, hn]
theorem FilS.row {w wr : World} {G : Nat} {ys : List Nat} (h : FilS w G ys ys.length wr) : VRow wr wr.heap.size (some ⟨G, 0, none⟩) (u32s ys) := by
  have h4 := h.2.2.2
  have := fillV_all (u32s ys) (.int .u32 0)
  rw [u32s_length] at this
  rw [this] at h4
  exact vrow_blk h4 h.2.2.1
theorem blk_lt {w : World} {g : Nat} {o : Obj} (h : w.heap[g]? = some o) : g < w.heap.size := by
  rcases Nat.lt_or_ge g w.heap.size with h' | h'
  · exact h'
  · rw [Array.getElem?_eq_none h'] at h; cases h
theorem own_base {w : World} {base n e : Nat} {q : Option Addr} {m c : Nat} {vs : List Value} (h : w.ownsRow base e 1 (.slice q m c) n vs) : ∀ a, q = some a → base ≤ a.block := by
  intro a ha
  rcases h.2 with ⟨hv, _⟩ | ⟨g, cap, cur, hv, hb, _⟩
  · injection hv with h1
    rw [h1] at ha
    cases ha
  · injection hv with h1
    rw [h1] at ha
    injection ha with ha
    subst ha
    exact hb
theorem wi_small (z c : Int) (e : z = c) (h0 : 0 ≤ c) (h1 : c ≤ 1000000000) : IntKind.i64.wrap z = c ∧ wrap64 z = c := by
  subst e
  refine ⟨?_, ?_⟩
  · rw [IntKind.wrap_i64]; omega
  · unfold wrap64; omega
theorem wu64_small (c : Int) (h0 : 0 ≤ c) (h1 : c ≤ 1000000000) : IntKind.u64.wrap c = c := by rw [IntKind.wrap_u64]; omega
theorem wu32_small (c : Int) (h0 : 0 ≤ c) (h1 : c < 4294967296) : IntKind.u32.wrap c = c := by rw [IntKind.wrap_u32]; omega
theorem wu64_small' (c : Int) (h0 : 0 ≤ c) (h1 : c < 4294967296) : IntKind.u64.wrap c = c := by rw [IntKind.wrap_u64]; omega
/-- the same samples? -/
def sameU (a b : List Nat) : Bool := a == b
theorem same_any (p1 : Option Addr) (c1 : Nat) (p2 : Option Addr) (c2 : Nat) (xa xb : List Nat) (w : World) (C : Nat) (h1 : VRow w C p1 (u32s xa)) (h2 : VRow w C p2 (u32s xb)) (hl : xa.length ≤ 10000000) (hl2 : xb.length ≤ 10000000) :
    Calls Try.prog 11 #[.slice p1 xa.length c1, .slice p2 xb.length c2] w fun e w' => e = .returned (.bool (sameU xa xb)) ∧ Drawn w w' := by
  by_cases hne : xa.length = xb.length
  · obtain ⟨n, hn⟩ : ∃ n, n = xa.length := ⟨_, rfl⟩
    have HN := Lib.hid hn
    have HN2 : Hid (n = xb.length) := Lib.hid (by omega)
    have H1 := Lib.hid h1
    have H2 := Lib.hid h2
    have hnn : n ≤ 10000000 := by omega
    rw [← hne, ← hn]
    clear h1 h2 hn hne hl hl2
    go_enter Try.func11, Try.ntmps11
    go_wp2_with fail
    go_loopw [5] (fun i wr => ∃ k : Nat, k ≤ n ∧ i = .int .i64 (k : Int) ∧ Hid (xa.take k = xb.take k) ∧ Hid (Drawn w wr)) (fun i _ => n - (intOf i).toNat)
    case atStart => exact ⟨0, by omega, rfl, Lib.hid rfl, Lib.hid ⟨0, rfl⟩⟩
    case round =>
      obtain ⟨k, hk, rfl, HE, HD⟩ := hrel
      by_cases hlt : k < n
      · have hka : k < xa.length := by rw [← HN.out]; exact hlt
        have hkb : k < xb.length := by rw [← HN2.out]; exact hlt
        obtain ⟨b1, o1, hq1, _, hc1⟩ := vrow_u32 H1.out k hka
        obtain ⟨b2, o2, hq2, _, hc2⟩ := vrow_u32 H2.out k hkb
        subst hq1
        subst hq2
        have hd := HD.out
        obtain ⟨j, hj⟩ := hd
        have hcr1 : wr.cell? ⟨b1, o1 + k, none⟩ = some (.int .u32 (xa[k] : Int)) := by rw [hj]; exact hc1
        have hcr2 : wr.cell? ⟨b2, o2 + k, none⟩ = some (.int .u32 (xb[k] : Int)) := by rw [hj]; exact hc2
        have HT : Hid (xa[k] = xb[k] → xa.take (k + 1) = xb.take (k + 1)) := Lib.hid (fun e => by rw [List.take_succ_eq_append_getElem hka, List.take_succ_eq_append_getElem hkb, HE.out, e])
        have HF : Hid (xa[k] ≠ xb[k] → sameU xa xb = false) := Lib.hid (fun e => by
          unfold sameU
          rw [beq_eq_false_iff_ne]
          intro he
          subst he
          exact e rfl)
        generalize xa[k] = a at hcr1 HT HF
        generalize xb[k] = b at hcr2 HT HF
        have ql : decide ((k : Int) < (n : Int)) = true := by simpa using hlt
        have i1 : (0 : Int) ≤ (k : Int) := by omega
        have i2 : (k : Int) < (n : Int) := by omega
        clear hj hc1 hc2 hka hkb HE
        by_cases hab : a = b
        · have HT2 := Lib.hid (HT.out hab)
          have qn : ((a : Int) != (b : Int)) = false := by simp; omega
          clear HT HF hab
          go_wp2_with fail
          go_quiet (fail)
          go_wp2_with fail
          go_roundw
          case rel => exact ⟨k + 1, by omega, by go_num, HT2, Lib.hid (HD.out.more _)⟩
          case measure => simp [intOf]; omega
        · have HF2 := Lib.hid (HF.out hab)
          have qn : ((a : Int) != (b : Int)) = true := by simp; omega
          clear HT HF hab
          go_wp2_with fail
          go_quiet (fail)
          go_wp2_with fail
          go_ret
          exact ⟨by rw [HF2.out]; rfl, HD.out.more _⟩
      · have : k = n := by omega
        subst this
        have he := HE.out
        rw [HN.out, List.take_length] at he
        rw [← HN.out, HN2.out, List.take_length] at he
        have HR : Hid (sameU xa xb = true) := Lib.hid (by unfold sameU; rw [he]; exact beq_self_eq_true _)
        have ql : decide ((k : Int) < (k : Int)) = false := by simp
        clear he HE H1 H2 HN HN2 hlt hk
        go_wp2_with fail
        go_ret
        exact ⟨by rw [HR.out]; rfl, HD.out⟩
  · have e : sameU xa xb = false := by
      unfold sameU
      rw [beq_eq_false_iff_ne]
      intro he
      exact hne (by rw [he])
    have qn : ((xa.length : Int) != (xb.length : Int)) = true := by simp; omega
    rw [e]
    generalize xa.length = n at *
    generalize xb.length = m at *
    clear e h1 h2
    go_enter Try.func11, Try.ntmps11
    go_wp2_with fail
    go_ret
    exact ⟨rfl, ⟨0, rfl⟩⟩
/-- where l[:k] lies -/
theorem head_run4 (W : World) (p : Option Addr) (len cap k : Nat) (h : k ≤ cap) :
    (Instr.slice 22 (.slice p len cap) none (some (.int .i64 (k : Int))) none).run Try.prog W = .ok (.slice (headA p cap) k cap) W := by
  have ht' : Try.prog.underlying 22 = some (.slice (Try.prog.elem 22)) := by kernel_rfl
  have he : Try.prog.elem 22 = 31 := by kernel_rfl
  have hz : (Go.sizeOf 31).run Try.prog W = .ok 1 W := by
    obtain ⟨i, hi, _, hs, _⟩ := info_parts Try.infoU32
    simp [Go.sizeOf, typeInfo, hi, hs]
  rw [run_slice_h W 22 p len cap ht' .i64 _ (by omega) (by omega), he, hz]
  unfold headA
  simp [Result.andThen, sliced]
theorem head_row4 {w : World} {C : Nat} {p : Option Addr} {ns : List Nat} (cap k : Nat) (h : VRow w C p (u32s ns)) : VRow w C (headA p cap) (u32s (ns.take k)) := by
  intro hp
  rw [u32s_length, List.length_take] at hp
  obtain ⟨b, off, rfl, hb, hc⟩ := h (by rw [u32s_length]; omega)
  refine ⟨b, off, ?_, hb, fun i hi => ?_⟩
  · unfold headA
    split
    · rfl
    · simp [add_plain]
  · rw [u32s_length, List.length_take] at hi
    rw [hc i (by rw [u32s_length]; omega)]
    simp [u32s]
theorem head_none4 {p : Option Addr} {cap : Nat} (h : p = none → cap = 0) (ht : headA p cap = none) : cap = 0 := by
  unfold headA at ht
  split at ht
  · assumption
  · exact h (by simpa using ht)
def CloU (w : World) (ns : List Nat) (e : Ending) (w' : World) : Prop := Below w.heap.size w w' ∧ ∃ v, e = .returned v ∧ w'.ownsRow w.heap.size 31 1 v ns.length (u32s ns)
set_option maxHeartbeats 400000 in
theorem clone4_any (p : Option Addr) (len cap : Nat) (ns : List Nat) (w : World) (hr : VRow w w.heap.size p (u32s ns)) (hx : ns.length = len) (hnil : p = none → cap = 0) (h47 : len ≤ 1000000) :
    Calls Try.prog 12 #[.slice p len cap] w (CloU w ns) := by
  obtain ⟨i0, hi, hz0, hz1, hz2⟩ := info_parts Try.infoU32
  rcases p with _ | ad
  · have hxs : ns = [] := by
      rcases ns with _ | ⟨x, xs⟩
      · rfl
      · obtain ⟨b, off, he, _⟩ := hr (by simp [u32s])
        cases he
    subst hxs
    simp at hx
    subst hx
    have hcap := hnil rfl
    subst hcap
    clear hnil
    have heq : ∀ w' : World, (binOp .eql 22 (.slice none 0 0) (.slice none 0 0)).run Try.prog w' = .ok (.bool true) w' := fun w' => Lib.run_eql_slice_nil (P := Try.prog) w' 22 31 none 0 0 0 0 Try.underlying22
    go_enter Try.func12, Try.ntmps12
    go_wp2_with fail
    go_ret
    exact ⟨Below.refl _ _, _, rfl, World.ownsRow_nil w w.heap.size 31 1⟩
  · have hown := World.ownsRow_made (base := w.heap.size) (e := 31) (size := 1) w #[] 0 (Nat.le_refl _) (by simp [maxLen]) rfl
    have hba : Below w.heap.size w (w.alloc (.cells #[] 31)) := (Below.refl _ w).alloc (Nat.le_refl _) _
    have hr2 : VRow (w.alloc (.cells #[] 31)) (w.alloc (.cells #[] 31)).heap.size (some ad) (u32s ns) := (hr.below hba (Nat.le_refl _)).mono (by simp)
    have HX := Lib.hid hx
    have HXU : Hid ((u32s ns).length = len) := Lib.hid (by rw [u32s_length]; exact hx)
    have HR2 := Lib.hid hr2
    have HBA := Lib.hid hba
    clear hx hnil hr2 hba hr
    have heq : ∀ w' : World, (binOp .eql 22 (.slice (some ad) len cap) (.slice none 0 0)).run Try.prog w' = .ok (.bool false) w' := fun w' => Lib.run_eql_slice_nil (P := Try.prog) w' 22 31 (some ad) len cap 0 0 Try.underlying22
    go_enter Try.func12, Try.ntmps12
    go_wp2_with (at_builtin; refine wpList_append_vals Try.underlying22 hi hz0 hz1 hz2 rfl (by decide) rfl _ _ rfl w.heap.size _ 0 [] rfl hown (some ad) len cap (u32s ns) rfl HR2.out HXU.out (fun h => by cases h) u32s_one (by omega) (by simp) ?_)
    intro v' w2 hown' hgrow hbel
    have HB12 := Lib.hid (HBA.out.trans hbel)
    have HO := Lib.hid hown'
    clear hown hown' hgrow hbel
    go_wp2_with fail
    go_ret
    exact ⟨HB12.out, v', rfl, by rw [HX.out]; simpa using HO.out⟩
end Go.Proofs.Ytgakegomanfccaa.Sa

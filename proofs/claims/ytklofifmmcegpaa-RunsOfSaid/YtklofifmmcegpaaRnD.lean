
/- slices.Clone, Grow, Concat over rows of numbers; parts of such rows. -/
import Derived.Test.YtklofifmmcegpaaLpR
import Derived.Shelf.Spec.SlicesGrow
import Derived.Deep.LoopGhost
namespace Go.Proofs.Ytklofifmmcegpaa.Rn
open Go.RowKit Go.Shelf Go.Proofs.Ytklofifmmcegpaa.Oct Go.Proofs.Ytklofifmmcegpaa.Lp
set_option linter.unusedVariables false
set_option linter.unusedSimpArgs false
set_option maxRecDepth 100000

def CloneV (w : World) (vs : List Value) (e : Ending) (w' : World) : Prop :=
  Below w.heap.size w w' ∧ ∃ q cap, e = .returned (.slice q vs.length cap) ∧ VRow w' w'.heap.size q vs ∧ vs.length ≤ cap ∧ cap ≤ maxLen ∧ (q = none → cap = 0) ∧ ∀ a, q = some a → w.heap.size ≤ a.block
set_option maxHeartbeats 400000 in
theorem cloneI_any (p : Option Addr) (len cap : Nat) (vs : List Value) (w : World) (hr : VRow w w.heap.size p vs) (hx : vs.length = len) (hnil : p = none → cap = 0) (h47 : len ≤ 100000) (h1 : ∀ u ∈ vs, u.oneCell' = true) :
    Calls Try.prog 21 #[.slice p len cap] w (CloneV w vs) := by
  obtain ⟨i0, hi, hz0, hz1, hz2⟩ := info_parts Try.infoInt
  rcases p with _ | ad
  · have hxs : vs = [] := by
      rcases vs with _ | ⟨x, xs⟩
      · rfl
      · obtain ⟨b, off, he, _⟩ := hr (by simp)
        cases he
    subst hxs
    simp at hx
    subst hx
    have hcap := hnil rfl
    subst hcap
    clear hnil
    have heq : ∀ w' : World, (binOp .eql 24 (.slice none 0 0) (.slice none 0 0)).run Try.prog w' = .ok (.bool true) w' := fun w' => Lib.run_eql_slice_nil (P := Try.prog) w' 24 3 none 0 0 0 0 Try.underlying24
    go_enter Try.func21, Try.ntmps21
    go_wp2_with fail
    go_ret
    exact ⟨Below.refl _ _, none, 0, rfl, fun h => absurd h (by simp), by simp, by simp [maxLen], fun _ => rfl, (fun a h => by cases h)⟩
  · have hown := World.ownsRow_made (base := w.heap.size) (e := 3) (size := 1) w #[] 0 (Nat.le_refl _) (by simp [maxLen]) rfl
    have hba : Below w.heap.size w (w.alloc (.cells #[] 3)) := (Below.refl _ w).alloc (Nat.le_refl _) _
    have hr2 : VRow (w.alloc (.cells #[] 3)) (w.alloc (.cells #[] 3)).heap.size (some ad) vs := (hr.below hba (Nat.le_refl _)).mono (by simp)
    have HX := Lib.hid hx
    have HR2 := Lib.hid hr2
    have HBA := Lib.hid hba
    have H1 := Lib.hid h1
    clear hx hnil hr2 hba hr h1
    have heq : ∀ w' : World, (binOp .eql 24 (.slice (some ad) len cap) (.slice none 0 0)).run Try.prog w' = .ok (.bool false) w' := fun w' => Lib.run_eql_slice_nil (P := Try.prog) w' 24 3 (some ad) len cap 0 0 Try.underlying24
    go_enter Try.func21, Try.ntmps21
    go_wp2_with (at_builtin; refine wpList_append_vals Try.underlying24 hi hz0 hz1 hz2 rfl (by decide) rfl _ _ rfl w.heap.size _ 0 [] rfl hown (some ad) len cap vs rfl HR2.out HX.out (fun h => by cases h) H1.out (by omega) (by simp) ?_)
    intro v' w2 hown' hgrow hbel
    obtain ⟨q, cap2, hv', hq0, hgc, hgm, hrow2, hqb⟩ := vrow_own hown' HX.out
    rw [hv']
    have HB12 := Lib.hid (HBA.out.trans hbel)
    have HROW := Lib.hid hrow2
    have HGC := Lib.hid hgc
    have HGM := Lib.hid hgm
    have HQB := Lib.hid hqb
    have HQ0 := Lib.hid hq0
    clear hown hown' hgrow hbel hv' hrow2 hgc hgm hqb hq0
    go_wp2_with fail
    go_ret
    refine ⟨HB12.out, q, cap2, by rw [HX.out]; simp, HROW.out, by have := HGC.out; rw [HX.out]; omega, HGM.out, HQ0.out, HQB.out⟩
/-- the numbers of the library's Grow, here -/
def renI : Ren := ⟨fun n => if n = 4 then 38 else n, fun n => if n = 22 then 24 else if n = 25 then 3 else if n = 3 then 3 else if n = 4 then 4 else if n = 9 then 9 else if n = 20 then 20 else n, fun n => n⟩
theorem laysI : Lays8.n4 Try.prog renI where
  mixed := by kernel_rfl
  f4 := ⟨ "slices.Grow[[]int,int]", by kernel_rfl, by kernel_rfl⟩
  t0 := by kernel_rfl
  a0 _ := by kernel_rfl
  z0 _ := by kernel_rfl
  v0 _ := by kernel_rfl
  t3 := by kernel_rfl
  a3 _ := by kernel_rfl
  z3 _ := by kernel_rfl
  v3 _ := by kernel_rfl
  t4 := by kernel_rfl
  a4 _ := by kernel_rfl
  z4 _ := by kernel_rfl
  v4 _ := by kernel_rfl
  t9 := by kernel_rfl
  a9 _ := by kernel_rfl
  z9 _ := by kernel_rfl
  v9 _ := by kernel_rfl
  t20 := by kernel_rfl
  a20 _ := by kernel_rfl
  z20 _ := by kernel_rfl
  v20 _ := by kernel_rfl
  t22 := by kernel_rfl
  a22 _ := by kernel_rfl
  z22 _ := by kernel_rfl
  v22 _ := by kernel_rfl
/-- a row of numbers of the call's own -/
def IOwn (w : World) (base : Nat) (v : Value) (zs : List Int) : Prop := w.ownsRow base 3 1 v zs.length (ints zs)
def GrowP8 (w : World) (e : Ending) (w' : World) : Prop := ∃ v, e = .returned v ∧ IOwn w' w.heap.size v [] ∧ Below w.heap.size w w'
theorem growI_any (n : Nat) (w : World) (hn : n ≤ 1000000) : Calls Try.prog 38 #[.slice none 0 0, .int .i64 (n : Int)] w (GrowP8 w) := by
  obtain ⟨i0, hi, hz0, hz1, hz2⟩ := info_parts Try.infoInt
  have e : renI.f 4 = 38 := rfl
  rcases Nat.eq_zero_or_pos n with h0 | h0
  · have h := Any8.slices_Grow_room laysI none 0 0 n w (by omega) (by omega) (by omega) (by omega)
    rw [e] at h
    refine h.mono ?_
    rintro e w' ⟨rfl, rfl⟩
    exact ⟨_, rfl, ⟨rfl, .inl ⟨rfl, rfl⟩⟩, Below.refl _ _⟩
  · have h := Any8.slices_Grow_grow laysI i0 _ hi hz0 (by omega) none 0 0 n [] w (by omega) (by omega) (by rw [hz2]; omega) (by omega) (by simp) (fun _ => rfl) (fun a h => by cases h)
    rw [e] at h
    refine h.mono ?_
    rintro e w' ⟨rfl, rfl⟩
    refine ⟨_, rfl, ?_, ((Below.refl _ w).drew).alloc (Nat.le_refl _) _⟩
    have hm := World.ownsRow_made (size := 1) (w := w.drew) (base := w.heap.size) (e := 3) (([] : List Value).toArray ++ Builtin.zeroCells (Value.int .i64 0).cells (0 + n - 0) ++ Builtin.zeroCells (Value.int .i64 0).cells (grownCap w (0 + n) 0 3 - (0 + n))) (grownCap w (0 + n) 0 3) (Nat.le_refl _) (grownCap_le_maxLen _ _ _ _ (by unfold maxLen; omega)) ?_
    · exact hm
    · have hge := grownCap_ge w (0 + n) 0 3
      rw [Nat.zero_add] at hge
      simp [Builtin.zeroCells, Value.cells]
      omega
def CatP8 (w : World) (zs : List Int) (e : Ending) (w' : World) : Prop := ∃ v, e = .returned v ∧ IOwn w' w.heap.size v zs ∧ Below w.heap.size w w'
/-- a row of rows of numbers -/
def RowsAt (w : World) (sb : Nat) (R : List (List Int)) : Prop := ∀ k (h : k < R.length), ∃ p cc, w.cell? ⟨sb, k, none⟩ = some (.slice p R[k].length cc) ∧ VRow w w.heap.size p (ints R[k]) ∧ (p = none → cc = 0) ∧ R[k].length ≤ 1000
theorem take_flat (R : List (List Int)) (k : Nat) (h : k < R.length) : (R.take (k + 1)).flatten = (R.take k).flatten ++ R[k] := by
  rw [List.take_succ_eq_append_getElem h, List.flatten_append]
  simp
theorem flat_len (R : List (List Int)) (hl : R.length ≤ 10) (h : ∀ k (h : k < R.length), R[k].length ≤ 1000) (k : Nat) (hk : k ≤ R.length) : (R.take k).flatten.length ≤ 1000 * k := by
  induction k with
  | zero => simp
  | succ k ih =>
    rw [take_flat R k (by omega), List.length_append]
    have := ih (by omega)
    have := h k (by omega)
    omega
set_option maxHeartbeats 4000000 in
theorem concatI_any (sb c : Nat) (R : List (List Int)) (w : World) (hsb : sb < w.heap.size) (hR : RowsAt w sb R) (hl : R.length ≤ 10) (h1 : 1 ≤ R.length) :
    Calls Try.prog 33 #[.slice (some ⟨sb, 0, none⟩) R.length c] w (CatP8 w R.flatten) := by
  obtain ⟨i0, hi, hz0, hz1, hz2⟩ := info_parts Try.infoInt
  have HR := Lib.hid hR
  have HFL := Lib.hid (flat_len R hl (fun k h => by obtain ⟨_, _, _, _, _, h5⟩ := hR k h; exact h5))
  obtain ⟨N, hN⟩ : ∃ N, N = R.length := ⟨_, rfl⟩
  rw [← hN]
  have hN10 : N ≤ 10 := by omega
  have HN := Lib.hid hN
  clear hR hl hN h1
  go_enter Try.func33, Try.ntmps33
  go_wp2
  go_loopg [3, 11] N (fun kx s3 s11 wr => ∃ (k s : Nat), s11 = .int .i64 (k : Int) ∧ s3 = .int .i64 (s : Int) ∧ k ≤ N ∧ N - k ≤ kx ∧ Hid (s = (R.take k).flatten.length) ∧ s ≤ 10000 ∧ w = wr)
  case atStart => exact ⟨0, 0, rfl, rfl, by omega, by omega, Lib.hid (by simp), by omega, rfl⟩
  case round =>
    obtain ⟨k, s, rfl, rfl, hk, hkx, HS, hs, rfl⟩ := hrel
    by_cases hlt : k < N
    · have hkz : (k : Int) < (N : Int) := by omega
      have hk0 : (0 : Int) ≤ (k : Int) := by omega
      have hkR : k < R.length := by rw [← HN.out]; exact hlt
      obtain ⟨p, cc, hc, hv0, hp0, hn⟩ := HR.out k hkR
      clear hv0 hp0
      have hss : s + R[k].length = (R.take (k + 1)).flatten.length := by rw [take_flat R k hkR, List.length_append, ← HS.out]
      have HSS := Lib.hid hss
      have hs2 : s + R[k].length ≤ 10000 := by
        rw [hss]
        have := HFL.out (k + 1) (by omega)
        omega
      generalize R[k].length = n at hc hn HSS hs2
      have ws : IntKind.i64.wrap ((s : Int) + (n : Int)) = ((s + n : Nat) : Int) := by rw [IntKind.wrap_i64]; omega
      obtain ⟨sn, hsn⟩ : ∃ sn, sn = s + n := ⟨_, rfl⟩
      rw [← hsn] at ws HSS hs2
      have hneg : ¬ (sn : Int) < 0 := by omega
      clear hss hsn hkR
      go_wp2
      go_roundg (N - (k + 1))
      case measure => omega
      case rel => exact ⟨k + 1, sn, by go_num, rfl, by omega, Nat.le_refl _, HSS, hs2, rfl⟩
    · have hkz : ¬ (k : Int) < (N : Int) := by omega
      have hk2 : k = N := by omega
      have hg := growI_any s w (by omega)
      go_wp2_with (go_at_call 38; refine hg.mono ?_; rintro e w' ⟨v, rfl, ho, hb⟩)
      go_loopg [6, 27] N (fun kx s6 s27 wr => ∃ (k : Nat), s27 = .int .i64 (k : Int) ∧ k ≤ N ∧ N - k ≤ kx ∧ Hid (IOwn wr w.heap.size s6 (R.take k).flatten ∧ Below w.heap.size w wr))
      case atStart => exact ⟨0, rfl, by omega, by omega, Lib.hid ⟨by simpa using ho, hb⟩⟩
      case round =>
        clear ho hb
        obtain ⟨k', rfl, hk', hkx', HT⟩ := hrel
        by_cases hlt' : k' < N
        · have hkz' : (k' : Int) < (N : Int) := by omega
          have hk0' : (0 : Int) ≤ (k' : Int) := by omega
          have hkR : k' < R.length := by rw [← HN.out]; exact hlt'
          obtain ⟨p, cc, hc, hv, hp0, hn⟩ := HR.out k' hkR
          have hcw : wr.cell? ⟨sb, k', none⟩ = some (Value.slice p R[k'].length cc) := (HT.out.2.cell (p := ⟨sb, k', none⟩) hsb).trans hc
          have HV := Lib.hid ((hv.below HT.out.2 (Nat.le_refl _)).mono HT.out.2.size)
          have HP0 := Lib.hid hp0
          have hfl := HFL.out k' (by omega)
          have HTF := Lib.hid (take_flat R k' hkR)
          obtain ⟨z, hz⟩ : ∃ z, z = R[k'] := ⟨_, rfl⟩
          rw [← hz] at hcw HV hn HTF
          clear hc hv hp0 hz
          go_wp2_with (at_builtin; refine wpList_append_vals Try.underlying24 hi hz0 hz1 hz2 rfl (by decide) rfl _ _ rfl w.heap.size _ (R.take k').flatten.length (ints (R.take k').flatten) rfl HT.out.1 p z.length cc (ints z) rfl HV.out (ints_length _) HP0.out ints_one (by omega) HT.out.2.size ?_; intro v2 w2 ho2 hg2 hb2)
          have HX : Hid (IOwn w2 w.heap.size v2 (R.take (k' + 1)).flatten ∧ Below w.heap.size w w2) := Lib.hid ⟨by
            unfold IOwn
            rw [HTF.out, List.length_append, ints_append]
            exact ho2, HT.out.2.trans hb2⟩
          clear ho2 hg2 hb2
          go_roundg (N - (k' + 1))
          case measure => omega
          case rel => exact ⟨k' + 1, by go_num, by omega, Nat.le_refl _, HX⟩
        · have hkz' : ¬ (k' : Int) < (N : Int) := by omega
          have hk2' : k' = N := by omega
          go_wp2
          go_ret
          refine ⟨_, rfl, ?_⟩
          have := HT.out
          rwa [hk2', HN.out, List.take_length] at this
theorem tail_ints (W : World) (p : Option Addr) (len cap a : Nat) (h : a ≤ len) :
    (Instr.slice 24 (.slice p len cap) (some (.int .i64 (a : Int))) none none).run Try.prog W = .ok (.slice (tailA p cap a) (len - a) (cap - a)) W := by
  have ht' : Try.prog.underlying 24 = some (.slice (Try.prog.elem 24)) := by kernel_rfl
  have he : Try.prog.elem 24 = 3 := by kernel_rfl
  have hz : (Go.sizeOf 3).run Try.prog W = .ok 1 W := by kernel_rfl
  rw [run_slice_l W 24 p len cap ht' .i64 _ (by omega) (by omega), he, hz]
  unfold tailA
  simp [Result.andThen, sliced]
theorem head_ints (W : World) (p : Option Addr) (len cap k : Nat) (h : k ≤ cap) (hp : p = none → cap = 0) :
    (Instr.slice 24 (.slice p len cap) none (some (.int .i64 (k : Int))) none).run Try.prog W = .ok (.slice p k cap) W := by
  have ht' : Try.prog.underlying 24 = some (.slice (Try.prog.elem 24)) := by kernel_rfl
  have he : Try.prog.elem 24 = 3 := by kernel_rfl
  have hz : (Go.sizeOf 3).run Try.prog W = .ok 1 W := by kernel_rfl
  rw [run_slice_h W 24 p len cap ht' .i64 _ (by omega) (by omega), he, hz]
  rcases p with _ | a
  · have := hp rfl
    subst this
    simp [Result.andThen, sliced]
  · simp only [Result.andThen_ok, sliced, Int.toNat_natCast]
    obtain ⟨b, o, s⟩ := a
    by_cases h0 : cap = 0
    · simp [h0]
    · rw [if_neg h0]
      simp [Addr.add]
theorem tail_v {w : World} {C : Nat} {p : Option Addr} {zs : List Int} (cap a : Nat) (h : VRow w C p (ints zs)) (hx : zs.length ≤ cap) : VRow w C (tailA p cap a) (ints (zs.drop a)) := by
  intro hp
  rw [ints_length, List.length_drop] at hp
  obtain ⟨b, off, rfl, hb, hc⟩ := h (by rw [ints_length]; omega)
  have hne : ¬ cap = a := by omega
  refine ⟨b, off + a, by simp [tailA, hne, add_plain], hb, fun i hi => ?_⟩
  rw [ints_length, List.length_drop] at hi
  rw [Nat.add_assoc, hc (a + i) (by rw [ints_length]; omega)]
  simp [ints]
theorem head_v {w : World} {C : Nat} {p : Option Addr} {zs : List Int} (k : Nat) (h : VRow w C p (ints zs)) : VRow w C p (ints (zs.take k)) := by
  intro hp
  rw [ints_length, List.length_take] at hp
  obtain ⟨b, off, rfl, hb, hc⟩ := h (by rw [ints_length]; omega)
  refine ⟨b, off, rfl, hb, fun i hi => ?_⟩
  rw [ints_length, List.length_take] at hi
  rw [hc i (by rw [ints_length]; omega)]
  simp [ints]
end Go.Proofs.Ytklofifmmcegpaa.Rn

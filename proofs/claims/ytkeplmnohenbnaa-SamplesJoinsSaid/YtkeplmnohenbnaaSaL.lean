
/- Samples behind others: plain facts; slices.Clone and parts of rows of samples; two slices of samples that came in. -/
import Derived.Test.YtkeplmnohenbnaaSaK
import Derived.SizedLaws
namespace Go.Proofs.Ytkeplmnohenbnaa.Sa
open Go.RowKit Go.Proofs.Ytkeplmnohenbnaa.Oct Go.Proofs.Ytkeplmnohenbnaa.Bit
open Go.Proofs.Ytkeplmnohenbnaa.Lp (VRow vrow_blk vrow_own wpList_append_vals blk_set blk_far blk_frozen fillV fillV_length fillV_zero fillV_all fillV_step)
set_option linter.unusedVariables false
set_option linter.unusedSimpArgs false
set_option maxRecDepth 100000

theorem packB_join (l m : List Bool) (h : l.length % 8 = 0) : packB false (l ++ m) = packB false l ++ packB false m := by
  apply bits_all
  rw [bitsOf_append, bitsOf_packB, bitsOf_packB, bitsOf_packB, List.length_append]
  rw [show 8 * ((l.length + 7) / 8) - l.length = 0 from by omega, show zs 0 = [] from rfl, List.append_nil, List.append_assoc]
  congr 3
  omega
theorem pack_join (wd : Nat) (big : Bool) (a b : List Nat) (h : a.length % 8 = 0) : packS wd big (a ++ b) = packS wd big a ++ packS wd big b := by
  unfold packS
  rw [show tellsS wd big (a ++ b) = tellsS wd big a ++ tellsS wd big b from by simp [tellsS]]
  apply packB_join
  rw [tellsS_length]
  obtain ⟨k, hk⟩ : ∃ k, a.length = 8 * k := ⟨a.length / 8, by omega⟩
  rw [hk, Nat.mul_left_comm]
  omega
theorem pack_bytes (big : Bool) (ns : List Nat) (h : ∀ v ∈ ns, v < 2 ^ 8) : packS 8 big ns = ns.map fun v => UInt8.ofNat v := by
  have e : tellsS 8 big ns = bitsOf false (ns.map fun v => UInt8.ofNat v) := by
    induction ns with
    | nil => rfl
    | cons v ns ih =>
      rw [tellsS_cons, List.map_cons, bitsOf_cons, ih (fun x hx => h x (by simp [hx]))]
      congr 1
      have hv := h v (by simp)
      show word v 8 = word (UInt8.ofNat v).toNat 8
      rw [UInt8.toNat_ofNat', Nat.mod_eq_of_lt hv]
  unfold packS
  rw [e, pack_bits]
theorem pack_byte (big : Bool) (ns : List Nat) (h : ∀ v ∈ ns, v < 2 ^ 8) (i : Nat) (hi : i < ns.length) : ∃ h2 : i < (packS 8 big ns).length, ((packS 8 big ns)[i]).toNat = ns[i] := by
  have e := pack_bytes big ns h
  refine ⟨by rw [e, List.length_map]; exact hi, ?_⟩
  have hv := h _ (List.getElem_mem hi)
  simp only [e, List.getElem_map]
  rw [UInt8.toNat_ofNat', Nat.mod_eq_of_lt hv]
theorem fitA_append (k : Nat) (a b : List Nat) : fitA k (a ++ b) = (fitA k a && fitA k b) := by simp [fitA]
/-- where l[:k] lies -/
theorem head_run4 (W : World) (p : Option Addr) (len cap k : Nat) (h : k ≤ cap) :
    (Instr.slice 22 (.slice p len cap) none (some (.int .i64 (k : Int))) none).run Try.prog W = .ok (.slice (headA p cap) k cap) W := by
  have ht' : Try.prog.underlying 22 = some (.slice (Try.prog.elem 22)) := by kernel_rfl
  have he : Try.prog.elem 22 = 45 := by kernel_rfl
  have hz : (Go.sizeOf 45).run Try.prog W = .ok 1 W := by
    obtain ⟨i, hi, _, hs, _⟩ := info_parts Try.infoU32
    simp [Go.sizeOf, typeInfo, hi, hs]
  rw [run_slice_h W 22 p len cap ht' .i64 _ (by omega) (by omega), he, hz]
  unfold headA
  simp [Result.andThen, sliced]
theorem head_row4 {w : World} {C : Nat} {p : Option Addr} {ns : List Nat} (cap k : Nat) (h : VRow w C p (u32s ns)) : VRow w C (headA p cap) (u32s (ns.take k)) := by
  intro hp
  rw [u32s_length, List.length_take] at hp
  obtain ⟨b, off, rfl, hb, hc⟩ := h (by rw [u32s_length]; omega)
  refine ⟨b, off, ?_, hb, fun i hi => ?_⟩
  · unfold headA
    split
    · rfl
    · simp [add_plain]
  · rw [u32s_length, List.length_take] at hi
    rw [hc i (by rw [u32s_length]; omega)]
    simp [u32s]
theorem head_none4 {p : Option Addr} {cap : Nat} (h : p = none → cap = 0) (ht : headA p cap = none) : cap = 0 := by
  unfold headA at ht
  split at ht
  · assumption
  · exact h (by simpa using ht)
def CloU (w : World) (ns : List Nat) (e : Ending) (w' : World) : Prop := Below w.heap.size w w' ∧ ∃ v, e = .returned v ∧ w'.ownsRow w.heap.size 45 1 v ns.length (u32s ns)
set_option maxHeartbeats 400000 in
theorem clone4_any (p : Option Addr) (len cap : Nat) (ns : List Nat) (w : World) (hr : VRow w w.heap.size p (u32s ns)) (hx : ns.length = len) (hnil : p = none → cap = 0) (h47 : len ≤ 1000000) :
    Calls Try.prog 15 #[.slice p len cap] w (CloU w ns) := by
  obtain ⟨i0, hi, hz0, hz1, hz2⟩ := info_parts Try.infoU32
  rcases p with _ | ad
  · have hxs : ns = [] := by
      rcases ns with _ | ⟨x, xs⟩
      · rfl
      · obtain ⟨b, off, he, _⟩ := hr (by simp [u32s])
        cases he
    subst hxs
    simp at hx
    subst hx
    have hcap := hnil rfl
    subst hcap
    clear hnil
    have heq : ∀ w' : World, (binOp .eql 22 (.slice none 0 0) (.slice none 0 0)).run Try.prog w' = .ok (.bool true) w' := fun w' => Lib.run_eql_slice_nil (P := Try.prog) w' 22 45 none 0 0 0 0 Try.underlying22
    go_enter Try.func15, Try.ntmps15
    go_wp2_with fail
    go_ret
    exact ⟨Below.refl _ _, _, rfl, World.ownsRow_nil w w.heap.size 45 1⟩
  · have hown := World.ownsRow_made (base := w.heap.size) (e := 45) (size := 1) w #[] 0 (Nat.le_refl _) (by simp [maxLen]) rfl
    have hba : Below w.heap.size w (w.alloc (.cells #[] 45)) := (Below.refl _ w).alloc (Nat.le_refl _) _
    have hr2 : VRow (w.alloc (.cells #[] 45)) (w.alloc (.cells #[] 45)).heap.size (some ad) (u32s ns) := (hr.below hba (Nat.le_refl _)).mono (by simp)
    have HX := Lib.hid hx
    have HXU : Hid ((u32s ns).length = len) := Lib.hid (by rw [u32s_length]; exact hx)
    have HR2 := Lib.hid hr2
    have HBA := Lib.hid hba
    clear hx hnil hr2 hba hr
    have heq : ∀ w' : World, (binOp .eql 22 (.slice (some ad) len cap) (.slice none 0 0)).run Try.prog w' = .ok (.bool false) w' := fun w' => Lib.run_eql_slice_nil (P := Try.prog) w' 22 45 (some ad) len cap 0 0 Try.underlying22
    go_enter Try.func15, Try.ntmps15
    go_wp2_with (at_builtin; refine wpList_append_vals Try.underlying22 hi hz0 hz1 hz2 rfl (by decide) rfl _ _ rfl w.heap.size _ 0 [] rfl hown (some ad) len cap (u32s ns) rfl HR2.out HXU.out (fun h => by cases h) u32s_one (by omega) (by simp) ?_)
    intro v' w2 hown' hgrow hbel
    have HB12 := Lib.hid (HBA.out.trans hbel)
    have HO := Lib.hid hown'
    clear hown hown' hgrow hbel
    go_wp2_with fail
    go_ret
    exact ⟨HB12.out, v', rfl, by rw [HX.out]; simpa using HO.out⟩
section
variable {H : Type} {enc : TypeId × Value → H} {w : World} {spare : Nat → Bool} {held : Bool}
theorem bytesU32 : Try.prog.bytesOf 45 = 4 := by kernel_rfl
/-- a slice of samples among values that came in -/
theorem open_u32v {fuel : Nat} {c : Value} {x : DataW H × List MemPlace} (h : DataW.trod enc Try.prog w 0 spare held fuel 22 [c] = some x) (hw : ∀ n ∈ x.1.weights Try.prog 22, n ≤ reachBytes) : ∃ a len cap, c = .slice a len cap ∧ IsU32 w a len cap ∧ len ≤ 140737488351232 := by
  have hc : ∃ a len cap, c = .slice a len cap ∧ len ≤ 140737488351232 := by
    rcases ChangeShapes.open_ints Try.underlying22 Try.underlying45 (by kernel_rfl) h with ⟨hcs, _⟩ | ⟨ad, l, k, zs, hcs, _, hl, hm, hz, hx, _⟩
    · simp at hcs
      exact ⟨_, _, _, hcs, by omega⟩
    · simp at hcs
      refine ⟨_, _, _, hcs, ?_⟩
      have hzl : l ≤ zs.length := by rw [hz]; split <;> omega
      have h1 := hw ((((zs.take l).length + (zs.drop l).length)) * Try.prog.bytesOf 45) (by
        rw [hx]
        simp [DataW.weights, Try.underlying22, ChangeShapes.lits])
      rw [bytesU32, List.length_take, List.length_drop] at h1
      unfold reachBytes at h1
      omega
  obtain ⟨a, len, cap, rfl, hl⟩ := hc
  exact ⟨a, len, cap, rfl, open_u32 h, hl⟩
end
theorem open_two_u32 {H : Type} {enc : TypeId × Value → H} {w : World} {sp : Nat → Bool} {held : Bool} {r : Reach} {b0 : Nat} {v : Value} {d : DataW H} {p : List MemPlace}
    (hv : Value.okWide Try.prog w r b0 42 v) (h : DataW.Trod enc Try.prog w 0 sp held 42 v d p) (hw : ∀ n ∈ d.weights Try.prog 42, n ≤ reachBytes) :
    ∃ a0 l0 c0 a1 l1 c1, v = .agg #[.slice a0 l0 c0, .slice a1 l1 c1] ∧ (IsU32 w a0 l0 c0 ∧ l0 ≤ 140737488351232) ∧ IsU32 w a1 l1 c1 ∧ l1 ≤ 140737488351232 := by
  have ht : Try.prog.underlying 42 = some (.array 2 22) := by kernel_rfl
  have hC : Try.prog.cellsOf 42 = 2 := by kernel_rfl
  have hE : Try.prog.cellsOf 22 = 1 := by kernel_rfl
  obtain ⟨cs, rfl, hsz⟩ : ∃ cs, v = .agg cs ∧ cs.size = Try.prog.cellsOf 42 := by
    simp only [Value.okWide, ht] at hv
    obtain ⟨cs, h1, h2, _⟩ := hv
    exact ⟨cs, h1, h2⟩
  obtain ⟨c0, c1, rfl⟩ := Joins.array2 (hsz.trans hC)
  obtain ⟨fuel, hf⟩ := h
  obtain ⟨xs, m, _, hxe, _, hl, hi⟩ := DataW.trod_array ht hf
  match xs, hl with
  | [y0, y1], _ =>
    have hd : d = .agg [y0.1, y1.1] := (Prod.mk.inj hxe).1
    have hw0 : ∀ n ∈ y0.1.weights Try.prog 22, n ≤ reachBytes := fun n hn => hw n (by rw [hd]; simp [DataW.weights, ht, DataW.weightsAll, hn])
    have hw1 : ∀ n ∈ y1.1.weights Try.prog 22, n ≤ reachBytes := fun n hn => hw n (by rw [hd]; simp [DataW.weights, ht, DataW.weightsAll, hn])
    have h0 := hi 0 (by decide)
    have h1 := hi 1 (by decide)
    rw [hE] at h0 h1
    obtain ⟨a0, l0, k0, rfl, w0⟩ := open_u32v (x := y0) (by simpa [Value.cells] using h0) hw0
    obtain ⟨a1, l1, k1, rfl, w1⟩ := open_u32v (x := y1) (by simpa [Value.cells] using h1) hw1
    exact ⟨a0, l0, k0, a1, l1, k1, rfl, w0, w1⟩
end Go.Proofs.Ytkeplmnohenbnaa.Sa


/- The document's Sorted. -/
import Derived.Test.YtefniglinligeaaLpV
import Derived.Deep.RegionLaw
namespace Go.Proofs.Ytefniglinligeaa.Lp
open Go.RowKit Go.Proofs.Ytefniglinligeaa.Oct Go.Proofs.Ytefniglinligeaa.Lm
set_option linter.unusedVariables false
set_option linter.unusedSimpArgs false
set_option maxRecDepth 100000

theorem step_append_int {w : World} {ops : Array Oper} {o : Oper} {a : Act} {K : Act → World → Prop} {Q : Exit → Act → World → Prop} {E : Prop}
    (hgd : o.guard = none) (s x : Operand) (ho : o.op = .call { callee := .builtin .append, args := #[s, x], argTypes := #[22, 22] })
    (base : Nat) (v : Value) (ys : List Int) (hs : a.eval s = v) (hown : IOwn w base v ys)
    (p : Option Addr) (m c : Nat) (xs : List Int) (hx : a.eval x = .slice p m c) (hr : VRow w w.heap.size p (ints xs)) (hxm : xs.length = m) (hc0 : p = none → c = 0)
    (h47 : ys.length + m ≤ 100000000) (hbase : base ≤ w.heap.size)
    (h : ∀ v' w', IOwn w' base v' (ys ++ xs) → Below base w w' → K (a.put o.dst v') w') :
    if Region.wanted o (yielded ops a.tmps) = true then Oper.wp Try.prog o a w K Q else E := by
  have hw : Region.wanted o (yielded ops a.tmps) = true := by simp [Region.wanted, hgd]
  rw [if_pos hw]
  obtain ⟨i0, hi, hz0, hz1, hz2⟩ := info_parts Try.infoInt3
  rcases p with _ | ad
  · have hxs : xs = [] := by
      rcases xs with _ | ⟨y, xs⟩
      · rfl
      · obtain ⟨b, off, he, _⟩ := hr (by simp [ints])
        cases he
    subst hxs
    simp at hxm
    subst hxm
    have := hc0 rfl
    subst this
    have hrun := run_append_owned_none (P := Try.prog) (w := w) base 22 o.type 3 i0 1 Try.underlying22 hi v ys.length (ints ys) hown
    unfold Oper.wp
    simp [execOp, ho, resolve, invoke, builtin, hs, hx, hrun, Result.andThen]
    exact h v w (by simpa using hown) (Below.refl _ _)
  · refine wp_append_own w s x 22 ho base 3 i0 (.int .i64 0) 1 8 Try.underlying22 hi hz0 hz1 hz2 rfl (by decide) v ys.length (ints ys) hs hown ad m c (ints xs) hx (by rw [ints_length, hxm, Nat.mul_one]) ?_ ints_one (by unfold maxLen; omega) (by omega) hbase ?_
    · intro j u hj
      obtain ⟨hj', hju⟩ := List.getElem?_eq_some_iff.1 hj
      obtain ⟨b, off, he, _, hc⟩ := hr (by omega)
      injection he with he
      subst he
      rw [add_plain, ← hju]
      exact hc j hj'
    · intro v' w' h1 h2 h3
      refine h v' w' ?_ ((Below.refl _ w).grown h2 hbase (fun k hk => (World.ownsRow.lt hown k hk).1))
      unfold IOwn
      rw [List.length_append, hxm, ints_append]
      exact h1
theorem own_made (w : World) (zs : List Int) (hl : zs.length ≤ 1000) : IOwn (w.alloc (.cells (ints zs).toArray 3)) w.heap.size (.slice (some ⟨w.heap.size, 0, none⟩) zs.length zs.length) zs := by
  refine ⟨by rw [ints_length, Nat.mul_one], .inr ⟨w.heap.size, zs.length, (ints zs).toArray, rfl, Nat.le_refl _, heap_alloc_last w _, Nat.le_refl _, by unfold maxLen; omega, by simp [ints_length], ?_⟩⟩
  rw [Nat.mul_one, List.take_of_length_le (by simp [ints_length])]
theorem tail_ints (W : World) (p : Option Addr) (len cap a : Nat) (h : a ≤ len) :
    (Instr.slice 22 (.slice p len cap) (some (.int .i64 (a : Int))) none none).run Try.prog W = .ok (.slice (tailA p cap a) (len - a) (cap - a)) W := by
  have ht' : Try.prog.underlying 22 = some (.slice (Try.prog.elem 22)) := by kernel_rfl
  have he : Try.prog.elem 22 = 3 := by kernel_rfl
  have hz : (Go.sizeOf 3).run Try.prog W = .ok 1 W := by kernel_rfl
  rw [run_slice_l W 22 p len cap ht' .i64 _ (by omega) (by omega), he, hz]
  unfold tailA
  simp [Result.andThen, sliced]
theorem head_ints (W : World) (p : Option Addr) (len cap k : Nat) (h : k ≤ cap) (hp : p = none → cap = 0) :
    (Instr.slice 22 (.slice p len cap) none (some (.int .i64 (k : Int))) none).run Try.prog W = .ok (.slice p k cap) W := by
  have ht' : Try.prog.underlying 22 = some (.slice (Try.prog.elem 22)) := by kernel_rfl
  have he : Try.prog.elem 22 = 3 := by kernel_rfl
  have hz : (Go.sizeOf 3).run Try.prog W = .ok 1 W := by kernel_rfl
  rw [run_slice_h W 22 p len cap ht' .i64 _ (by omega) (by omega), he, hz]
  rcases p with _ | a
  · have := hp rfl
    subst this
    simp [Result.andThen, sliced]
  · simp only [Result.andThen_ok, sliced, Int.toNat_natCast]
    obtain ⟨b, o, s⟩ := a
    by_cases h0 : cap = 0
    · simp [h0]
    · rw [if_neg h0]
      simp [Addr.add]
theorem tail_v {w : World} {C : Nat} {p : Option Addr} {zs : List Int} (cap a : Nat) (h : VRow w C p (ints zs)) (hx : zs.length ≤ cap) : VRow w C (tailA p cap a) (ints (zs.drop a)) := by
  intro hp
  rw [ints_length, List.length_drop] at hp
  obtain ⟨b, off, rfl, hb, hc⟩ := h (by rw [ints_length]; omega)
  have hne : ¬ cap = a := by omega
  refine ⟨b, off + a, by simp [tailA, hne, add_plain], hb, fun i hi => ?_⟩
  rw [ints_length, List.length_drop] at hi
  rw [Nat.add_assoc, hc (a + i) (by rw [ints_length]; omega)]
  simp [ints]
theorem head_v {w : World} {C : Nat} {p : Option Addr} {zs : List Int} (k : Nat) (h : VRow w C p (ints zs)) : VRow w C p (ints (zs.take k)) := by
  intro hp
  rw [ints_length, List.length_take] at hp
  obtain ⟨b, off, rfl, hb, hc⟩ := h (by rw [ints_length]; omega)
  refine ⟨b, off, rfl, hb, fun i hi => ?_⟩
  rw [ints_length, List.length_take] at hi
  rw [hc i (by rw [ints_length]; omega)]
  simp [ints]
theorem IOwn.base {w : World} {b b' : Nat} {v : Value} {zs : List Int} (h : IOwn w b v zs) (hb : b' ≤ b) : IOwn w b' v zs := by
  refine ⟨h.1, ?_⟩
  rcases h.2 with h0 | ⟨g, cap, cur, h1, h2, h3⟩
  · exact .inl h0
  · exact .inr ⟨g, cap, cur, h1, by omega, h3⟩
theorem tailA_none {p : Option Addr} {c k : Nat} (h : p = none → c = 0) (ht : tailA p c k = none) : c - k = 0 := tail_none h ht
/-- falling -/
def Desc (D : List Int) : Prop := D.Pairwise fun a b => b ≤ a
theorem desc_insert {D : List Int} {x : Int} {k : Nat} (h : Desc D) (hk : k ≤ D.length) (h1 : 0 < k → x ≤ D.getD (k - 1) 0) (h2 : ∀ j, k ≤ j → j < D.length → D.getD j 0 < x) : Desc (D.take k ++ (x :: D.drop k)) := by
  have hD : Desc (D.take k ++ D.drop k) := by rw [List.take_append_drop]; exact h
  obtain ⟨q1, q2, q3⟩ := List.pairwise_append.1 hD
  refine List.pairwise_append.2 ⟨q1, List.pairwise_cons.2 ⟨fun b hb => ?_, q2⟩, fun a ha b hb => ?_⟩
  · obtain ⟨i, hi, rfl⟩ := List.getElem_of_mem hb
    rw [List.length_drop] at hi
    have := h2 (k + i) (by omega) (by omega)
    rw [List.getD_eq_getElem?_getD, List.getElem?_eq_getElem (show k + i < D.length by omega)] at this
    rw [List.getElem_drop]
    exact Int.le_of_lt this
  · rcases List.mem_cons.1 hb with rfl | hb
    · obtain ⟨i, hi, rfl⟩ := List.getElem_of_mem ha
      rw [List.length_take] at hi
      have hx := h1 (by omega)
      rw [List.getD_eq_getElem?_getD, List.getElem?_eq_getElem (show k - 1 < D.length by omega)] at hx
      have hx : b ≤ D[k - 1] := hx
      rw [List.getElem_take]
      rcases Nat.lt_or_ge i (k - 1) with h9 | h9
      · have := (List.pairwise_iff_getElem.1 h) i (k - 1) (by omega) (by omega) h9
        omega
      · have : i = k - 1 := by omega
        subst this
        exact hx
    · exact q3 a ha b hb
theorem perm_insert (D : List Int) (x : Int) (k : Nat) : (D.take k ++ (x :: D.drop k)).Perm (D ++ [x]) := by
  refine List.perm_middle.trans ?_
  rw [List.take_append_drop]
  exact (List.perm_append_singleton x D).symm
def SrtP (w : World) (zs : List Int) (e : Ending) (w' : World) : Prop := ∃ v D, e = .returned v ∧ IOwn w' w.heap.size v D ∧ D.Perm zs ∧ Desc D ∧ Below w.heap.size w w'
set_option maxHeartbeats 8000000 in
theorem sorted_any (p : Option Addr) (len cap : Nat) (zs : List Int) (w : World) (hr : VRow w w.heap.size p (ints zs)) (hx : zs.length = len) (hl : len ≤ 400) : Calls Try.prog 18 #[.slice p len cap] w (SrtP w zs) := by
  have HR := Lib.hid hr
  have HX := Lib.hid hx
  have H0 : Hid (∃ D, IOwn w w.heap.size (.slice none 0 0) D ∧ D.Perm (zs.take 0) ∧ Desc D ∧ Below w.heap.size w w) := ⟨[], IOwn.nil w, List.Perm.refl _, List.Pairwise.nil, Below.refl _ _⟩
  clear hr hx
  go_enter Try.func18, Try.ntmps18
  go_wp2
  go_loopg [3, 4] len (fun kx s3 s4 wr => ∃ (i : Nat), s4 = .int .i64 (i : Int) ∧ i ≤ len ∧ len - i ≤ kx ∧ Hid (∃ D, IOwn wr w.heap.size s3 D ∧ D.Perm (zs.take i) ∧ Desc D ∧ Below w.heap.size w wr))
  case atStart => exact ⟨0, rfl, by omega, by omega, H0⟩
  case round =>
    clear H0
    obtain ⟨i, rfl, hi, hkx, HK⟩ := hrel
    by_cases hlt : i < len
    · have hiz : (i : Int) < (len : Int) := by omega
      have hi0 : (0 : Int) ≤ (i : Int) := by omega
      have hil : i < zs.length := by rw [HX.out]; exact hlt
      obtain ⟨b, off, hp, hbl⟩ := HR.out.addr (by rw [ints_length]; omega)
      subst hp
      obtain ⟨D, hD1, hD2, hD3, hD4⟩ := HK.out
      have hDl : D.length = i := by rw [hD2.length_eq, List.length_take]; omega
      obtain ⟨q, c, hu, hq0, hqc, hqm, hqr⟩ := hD1.shape
      subst hu
      have HD : Hid (D.Perm (zs.take i) ∧ Desc D ∧ Below w.heap.size w wr ∧ VRow wr wr.heap.size q (ints D) ∧ (q = none → c = 0) ∧ D.length ≤ c ∧ D.length = i) := ⟨hD2, hD3, hD4, hqr, hq0, hqc, hDl⟩
      have HZ : Hid (zs.take (i + 1) = zs.take i ++ [zs.getD i 0]) := by
        show _ = _
        rw [List.take_succ_eq_append_getElem hil, List.getD_eq_getElem?_getD, List.getElem?_eq_getElem hil]; rfl
      have hcx : ∀ j, (wr.drewN j).cell? ⟨b, off + i, none⟩ = some (.int .i64 (zs.getD i 0)) := fun j => (hD4.cell (p := ⟨b, off + i, none⟩) hbl).trans (HR.out.intD i hil)
      generalize zs.getD i 0 = x at hcx HZ
      rw [hDl]
      clear hD1 hD2 hD3 hD4 hq0 hqm hqr hqc HK
      have hi400 : i ≤ 400 := by omega
      have hblr : b < wr.heap.size := by have := HD.out.2.2.1.size; omega
      obtain ⟨wA, rfl⟩ : ∃ wA, wA = wr := ⟨wr, rfl⟩
      go_wp2_with fail
      go_loopg [5] i (fun kx s5 wr2 => ∃ (k : Nat), s5 = .int .i64 (k : Int) ∧ k ≤ i ∧ k ≤ kx ∧ Hid (∀ j, k ≤ j → j < D.length → D.getD j 0 < x) ∧ Hid (∃ j, wr2 = wA.drewN j))
      case atStart => exact ⟨i, rfl, Nat.le_refl _, Nat.le_refl _, (fun j h1 h2 => by have := HD.out.2.2.2.2.2.2; omega), ⟨0, rfl⟩⟩
      case round =>
        obtain ⟨k, rfl, hki, hkx2, HLT, HWJ⟩ := hrel
        obtain ⟨cc, hcc⟩ : ∃ cc : Bool, cc = (decide (0 < k) && decide (D.getD (k - 1) 0 < x)) := ⟨_, rfl⟩
        have HCC := Lib.hid hcc
        clear hcc
        go_upto_region 6 with fail
        go_cut [28] (fun s wx => s = .bool cc ∧ Hid (∃ j, wx = wA.drewN j))
        case first =>
          by_cases h1 : 0 < k
          · have d1 : decide ((0 : Int) < (k : Int)) = true := decide_eq_true (by omega)
            obtain ⟨k1, hk1⟩ : ∃ k1, k1 = k - 1 := ⟨_, rfl⟩
            have w1 : IntKind.i64.wrap ((k : Int) - 1) = (k1 : Int) := by rw [IntKind.wrap_i64]; omega
            have j1 : (0 : Int) ≤ (k1 : Int) := by omega
            have j2 : (k1 : Int) < (i : Int) := by omega
            obtain ⟨b2, o2, hp2, hbl2⟩ := HD.out.2.2.2.1.addr (by rw [ints_length]; omega)
            subst hp2
            obtain ⟨j0, hj0⟩ := HWJ.out
            have hc2 : ∀ j, (wr.drewN j).cell? ⟨b2, o2 + k1, none⟩ = some (.int .i64 (D.getD k1 0)) := fun j => by rw [hj0]; exact HD.out.2.2.2.1.intD k1 (by omega)
            have hc1 : ∀ j, (wr.drewN j).cell? ⟨b, off + i, none⟩ = some (.int .i64 x) := fun j => by rw [hj0]; exact hcx 0
            have HY : Hid (cc = decide (D.getD k1 0 < x)) := by show _ = _; rw [HCC.out, decide_eq_true h1, Bool.true_and, hk1]
            have HNX : Hid (∀ n, ∃ j, wr.drewN n = wA.drewN j) := fun n => ⟨j0 + n, by rw [hj0]; exact World.drewN_drewN _ _ _⟩
            generalize D.getD k1 0 = y at hc2 HY
            clear hcx hj0 hk1
            by_cases h2 : y < x
            · have d2 : decide (y < x) = true := decide_eq_true h2
              go_wp2_with fail
              go_quiet (fail)
              go_wp2
              go_meet
              exact ⟨congrArg Value.bool (HY.out.trans d2).symm, HNX.out _⟩
            · have d2 : decide (y < x) = false := decide_eq_false h2
              go_wp2_with fail
              go_quiet (fail)
              go_wp2
              go_meet
              exact ⟨congrArg Value.bool (HY.out.trans d2).symm, HNX.out _⟩
          · have d1 : decide ((0 : Int) < (k : Int)) = false := decide_eq_false (by omega)
            obtain ⟨j0, hj0⟩ := HWJ.out
            have HNX : Hid (∀ n, ∃ j, wr.drewN n = wA.drewN j) := fun n => ⟨j0 + n, by rw [hj0]; exact World.drewN_drewN _ _ _⟩
            have HY : Hid (cc = false) := by show _ = _; rw [HCC.out, decide_eq_false h1, Bool.false_and]
            clear hcx hj0
            go_wp2_with fail
            go_quiet (fail)
            go_wp2
            go_meet
            exact ⟨congrArg Value.bool HY.out.symm, HNX.out _⟩
        case rest =>
          obtain ⟨rfl, hWJ2⟩ := hcut
          cases cc with
          | true =>
            have h9 := HCC.out.symm
            rw [Bool.and_eq_true, decide_eq_true_eq, decide_eq_true_eq] at h9
            obtain ⟨h9, h8⟩ := h9
            obtain ⟨k1, rfl⟩ : ∃ k1, k = k1 + 1 := ⟨k - 1, by omega⟩
            have w1 : IntKind.i64.wrap (((k1 + 1 : Nat) : Int) - 1) = (k1 : Int) := by rw [IntKind.wrap_i64]; omega
            have w1' : IntKind.i64.wrap ((k1 : Int) + 1 - 1) = (k1 : Int) := by rw [IntKind.wrap_i64]; omega
            have HLT2 : Hid (∀ j, k1 ≤ j → j < D.length → D.getD j 0 < x) := fun j q1 q2 => by
              by_cases hj : j = k1
              · subst hj; exact h8
              · exact HLT.out j (by omega) q2
            clear h8 HLT HCC
            go_wp2_with fail
            go_roundg k1
            case measure => omega
            case rel => exact ⟨k1, by first | rfl | go_num | (congr 1; omega), by omega, Nat.le_refl _, HLT2, hWJ2⟩
          | false =>
            have HGE : Hid (0 < k → x ≤ D.getD (k - 1) 0) := fun h1 => by
              have h9 := HCC.out.symm
              rw [decide_eq_true h1, Bool.true_and] at h9
              have := of_decide_eq_false h9
              omega
            obtain ⟨jj, hjj⟩ := hWJ2.out
            have hwz : wc.heap.size = wA.heap.size := by rw [hjj]; rfl
            have HVC : Hid (VRow wc wc.heap.size q (ints D) ∧ Below w.heap.size w wc) := by rw [hjj]; exact ⟨HD.out.2.2.2.1, HD.out.2.2.1.trans ⟨rfl, rfl, rfl, Nat.le_refl _, fun _ _ => rfl⟩⟩
            have hcz : wc.cell? ⟨b, off + i, none⟩ = some (.int .i64 x) := by rw [hjj]; exact hcx 0
            have hcz2 : wc.drew.cell? ⟨b, off + i, none⟩ = some (.int .i64 x) := hcz
            have hsl := fun W => tail_ints W q i c k hki
            have hbw : b < wc.heap.size := by omega
            have hcap0 : q = none → c = 0 := HD.out.2.2.2.2.1
            have hlc : D.length ≤ c := HD.out.2.2.2.2.2.1
            have hDi : D.length = i := HD.out.2.2.2.2.2.2
            have HO1 : Hid (IOwn (wc.drew.alloc (.cells #[.int .i64 x] 3)) wc.heap.size (.slice (some ⟨wc.heap.size, 0, none⟩) 1 1) [x]) := own_made wc.drew [x] (by simp)
            have HO2 : Hid (VRow (wc.drew.alloc (.cells #[.int .i64 x] 3)) (wc.drew.alloc (.cells #[.int .i64 x] 3)).heap.size (tailA q c k) (ints (D.drop k))) := by
              have hbb : Below wc.heap.size wc (wc.drew.alloc (.cells #[.int .i64 x] 3)) := ((Below.refl _ wc).drew).alloc (Nat.le_refl _) _
              exact tail_v c k ((HVC.out.1.below hbb (Nat.le_refl _)).mono hbb.size) hlc
            have HTN : Hid (tailA q c k = none → c - k = 0) := fun h => tailA_none hcap0 h
            have hsz1 : wc.heap.size ≤ (wc.drew.alloc (.cells #[.int .i64 x] 3)).heap.size := by simp
            clear hjj hcx
            go_wp2_with fail
            go_region_law (refine step_append_int rfl _ _ rfl wc.heap.size (.slice (some ⟨wc.heap.size, 0, none⟩) 1 1) [x] (by simp [Act.eval, Act.put]) HO1.out (tailA q c k) (i - k) (c - k) (D.drop k) (by simp [Act.eval, Act.put]) HO2.out (by rw [List.length_drop, hDi]) HTN.out (by simp; omega) hsz1 ?_; intro v6 w6 ho6 hb6)
            obtain ⟨q6, c6, hu6, hq60, hc6, hm6, hv6⟩ := ho6.shape
            subst hu6
            have hl6 : ([x] ++ D.drop k).length = i - k + 1 := by simp [hDi]
            have HB6 : Hid (Below wc.heap.size wc w6 ∧ wc.heap.size ≤ w6.heap.size) := by
              have h1 : Below wc.heap.size wc w6 := (((Below.refl _ wc).drew).alloc (Nat.le_refl _) _).trans hb6
              exact ⟨h1, h1.size⟩
            have HV6 : Hid (VRow w6 w6.heap.size q6 (ints ([x] ++ D.drop k)) ∧ (q6 = none → c6 = 0)) := ⟨hv6, hq60⟩
            have hsl2 := fun W => head_ints W q i c k (by omega) hcap0
            have HE0 : Hid (IOwn (w6.alloc (.cells #[] 3)) w6.heap.size (.slice (some ⟨w6.heap.size, 0, none⟩) 0 0) []) := own_made w6 [] (by simp)
            have HQ6 : Hid (VRow (w6.alloc (.cells #[] 3)) (w6.alloc (.cells #[] 3)).heap.size q (ints (D.take k))) := by
              have hbb : Below wc.heap.size wc (w6.alloc (.cells #[] 3)) := HB6.out.1.alloc HB6.out.2 _
              exact head_v k ((HVC.out.1.below hbb (Nat.le_refl _)).mono hbb.size)
            have hsz2 : w6.heap.size ≤ (w6.alloc (.cells #[] 3)).heap.size := by simp
            have hbel7 : Below w6.heap.size w6 (w6.alloc (.cells #[] 3)) := (Below.refl _ w6).alloc (Nat.le_refl _) _
            have HB7 := Lib.hid hbel7
            have HC0 := Lib.hid hcap0
            rw [hl6]
            clear ho6 hb6 hq60 hc6 hm6 hv6 hsl hwz hcz hcz2 hbel7 hcap0
            go_wp2_with (at_builtin; first | (refine wpList_append_int rfl _ _ rfl w6.heap.size (.slice (some ⟨w6.heap.size, 0, none⟩) 0 0) [] rfl HE0.out q k c (D.take k) rfl HQ6.out (by rw [List.length_take, hDi]; omega) HC0.out (by simp; omega) hsz2 ?_; intro v9 w9 ho9 hb9; have HO9 := Lib.hid ho9; have HB9 := Lib.hid hb9; clear ho9 hb9) | (refine wpList_append_int rfl _ _ rfl w6.heap.size _ ([] ++ D.take k) rfl HO9.out q6 (i - k + 1) c6 ([x] ++ D.drop k) rfl ((HV6.out.1.below (HB7.out.trans (HB9.out)) (Nat.le_refl _)).mono (HB7.out.trans HB9.out).size) hl6 HV6.out.2 (by simp; omega) (HB7.out.trans HB9.out).size ?_; intro v10 w10 ho10 hb10))
            have HN : Hid (∃ D', IOwn w10 w.heap.size v10 D' ∧ D'.Perm (zs.take (i + 1)) ∧ Desc D' ∧ Below w.heap.size w w10) := by
              have hb : Below w6.heap.size w6 w10 := (HB7.out.trans HB9.out).trans hb10
              have hw6 : w.heap.size ≤ w6.heap.size := by have := HVC.out.2.size; have := HB6.out.2; omega
              refine ⟨D.take k ++ (x :: D.drop k), ?_, ?_, ?_, ?_⟩
              · exact ho10.base hw6
              · rw [HZ.out]
                exact (perm_insert D x k).trans (List.Perm.append_right _ HD.out.1)
              · exact desc_insert HD.out.2.1 (by omega) HGE.out HLT.out
              · exact HVC.out.2.trans ((HB6.out.1.mono HVC.out.2.size).trans (hb.mono hw6))
            clear ho10 hb10
            go_roundg (len - (i + 1))
            case measure => omega
            case rel => exact ⟨i + 1, by go_num, by omega, Nat.le_refl _, HN⟩
    · have hiz : ¬ (i : Int) < (len : Int) := by omega
      have e : zs.take i = zs := List.take_of_length_le (by rw [HX.out]; omega)
      have h9 := HK.out
      rw [e] at h9
      have H9 := Lib.hid h9
      clear h9 e
      go_wp2
      go_ret
      obtain ⟨D, g1, g2, g3, g4⟩ := H9.out
      exact ⟨_, D, rfl, g1, g2, g3, g4⟩
/-- falling numbers are the sorted ones the other way round -/
theorem desc_is {f : List Nat} {D : List Int} (hp : D.Perm (intsOf f)) (hd : Desc D) : D = intsOf (isort f).reverse := by
  have e : D = intsOf (natsOf D) := by
    unfold intsOf natsOf
    rw [List.map_map]
    refine ((List.map_congr_left (fun z hz => ?_)).trans (List.map_id D)).symm
    obtain ⟨n, _, rfl⟩ := List.mem_map.1 (hp.mem_iff.1 hz)
    simp
  have hpn : (natsOf D).Perm f := by
    have h1 := hp.map Int.toNat
    have h2 : (intsOf f).map Int.toNat = f := natsOf_ints f
    rw [h2] at h1
    exact h1
  have hr : Rising (natsOf D).reverse := by
    refine rising_of _ (fun i j hj hij => ?_)
    rw [List.length_reverse] at hj
    rw [List.getElem_reverse, List.getElem_reverse]
    unfold natsOf at hj ⊢
    rw [List.length_map] at hj
    simp only [List.getElem_map, List.length_map]
    have := (List.pairwise_iff_getElem.1 hd) (D.length - 1 - j) (D.length - 1 - i) (by omega) (by omega) (by omega)
    omega
  have h3 := rising_perm hr ((List.reverse_perm _).trans hpn)
  rw [e, ← h3, List.reverse_reverse]
end Go.Proofs.Ytefniglinligeaa.Lp

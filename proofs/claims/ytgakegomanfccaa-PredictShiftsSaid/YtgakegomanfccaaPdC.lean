
/- Contracts of package predict: Diff, Undo. -/
import Derived.Test.YtgakegomanfccaaPdB
import Derived.StillTailTactics
namespace Go.Proofs.Ytgakegomanfccaa.Pd
open Go.RowKit Go.Proofs.Ytgakegomanfccaa.Oct Go.Proofs.Ytgakegomanfccaa.Sa Go.Proofs.Ytgakegomanfccaa.Pr
open Go.Proofs.Ytgakegomanfccaa.Lp (VRow vrow_blk vrow_own wpList_append_vals blk_set blk_far blk_frozen)
set_option linter.unusedVariables false
set_option linter.unusedSimpArgs false
set_option maxRecDepth 100000

theorem and_mod (z : Int) {wide : Int} (h : wide = 8 ∨ wide = 16 ∨ wide = 32) : bits .and .u32 (IntKind.u32.wrap z) ((2 ^ wide.toNat - 1 : Nat) : Int) = z % ((2 ^ wide.toNat : Nat) : Int) := by
  obtain ⟨n, hn⟩ : ∃ n : Nat, IntKind.u32.wrap z = (n : Int) := ⟨(IntKind.u32.wrap z).toNat, by rw [IntKind.wrap_u32]; omega⟩
  have hn2 : n < 4294967296 := by rw [IntKind.wrap_u32] at hn; omega
  have hp := pow_pos2 h
  rw [hn, u32_and_nat n _ hn2 (by omega), Nat.and_two_pow_sub_one_eq_mod]
  rw [IntKind.wrap_u32] at hn
  rcases h with rfl | rfl | rfl
  · show ((n % 256 : Nat) : Int) = z % 256
    omega
  · show ((n % 65536 : Nat) : Int) = z % 65536
    omega
  · show ((n % 4294967296 : Nat) : Int) = z % 4294967296
    omega
theorem err_zero {ns : List Nat} {per wide : Int} (h : errD ns per wide = 0) : (wide = 8 ∨ wide = 16 ∨ wide = 32) ∧ 1 ≤ per ∧ (ns.length : Int) % per = 0 ∧ ∀ v ∈ ns, v < 2 ^ wide.toNat := by
  unfold errD at h
  by_cases h1 : okD ns.length per wide = true
  · rw [if_pos h1] at h
    obtain ⟨a, b, c⟩ := ok_parts h1
    refine ⟨a, b, c, ?_⟩
    by_cases h2 : allD (2 ^ wide.toNat) ns = true
    · exact allD_iff.1 h2
    · rw [overD_no (by simpa using h2)] at h
      cases h
  · rw [if_neg h1] at h
    cases h
set_option maxHeartbeats 1000000 in
theorem diff_any (p : Option Addr) (len cap : Nat) (per wide : Int) (ns : List Nat) (w : World) (hr : VRow w w.heap.size p (u32s ns)) (hx : ns.length = len) (hl : len ≤ 1000000) :
    Calls Try.prog 7 #[.slice p len cap, .int .i64 per, .int .i64 wide] w (UnP w (diffL (2 ^ wide.toNat) per.toNat ns) (errD ns per wide)) := by
  have HCK := Lib.hid (check_any p len cap per wide ns w w.heap.size hr hx hl)
  by_cases he : errD ns per wide = 0
  · obtain ⟨hw, hp1, _, hlt⟩ := err_zero he
    rw [he] at HCK ⊢
    obtain ⟨pp, rfl⟩ : ∃ pp : Nat, per = (pp : Int) := ⟨per.toNat, by omega⟩
    rw [show ((pp : Int)).toNat = pp from rfl]
    have HG := Lib.hid (fun W => greatest_any wide W hw)
    have hpw := pow_pos2 hw
    have HAND := Lib.hid (fun z => and_mod z hw)
    generalize 2 ^ wide.toNat = m at HG hlt hpw HAND ⊢
    obtain ⟨g, hg⟩ : ∃ g : Int, g = ((m - 1 : Nat) : Int) := ⟨_, rfl⟩
    rw [← hg] at HG HAND
    have HDV : Hid (∀ k j (h : k < ns.length), k = j + pp → ∃ a b y : Nat, ns[k] = a ∧ ns.getD j 0 = b ∧ diffA m pp ns k = y ∧ bits .and .u32 (IntKind.u32.wrap ((a : Int) - (b : Int))) g = (y : Int)) := Lib.hid (fun k j h hkj => by
      refine ⟨_, _, _, rfl, rfl, rfl, ?_⟩
      have h1 := hlt _ (List.getElem_mem h)
      have h2 := getD_lt (by omega) hlt j
      rw [HAND.out]
      unfold diffA
      rw [if_pos (by omega), show k - pp = j from by omega, List.getD_eq_getElem?_getD (i := k), List.getElem?_eq_getElem h, Option.getD_some]
      have : (((ns[k] + m - ns.getD j 0) % m : Nat) : Int) = ((ns[k] : Int) - (ns.getD j 0 : Nat) + m) % m := by
        rw [Int.natCast_emod]
        congr 1
        omega
      rw [this, Int.add_emod_right])
    have HM0 : Hid (mixL (diffA m pp ns) ns pp = ns) := Lib.hid (mix_start fun i h1 h2 => by unfold diffA; rw [if_neg (by omega)])
    have HCP := Lib.hid (copyOf_any p len cap ns w hr hx hl)
    have HR := Lib.hid hr
    have HX := Lib.hid hx
    clear hr hx he hw hlt hpw hg HAND
    go_enter Try.func7, Try.ntmps7
    go_wp2_with fail
    refine HCK.out.mono ?_
    rintro e w' ⟨rfl, rfl⟩
    go_wp2_with fail
    refine HCP.out.mono ?_
    rintro e w1 ⟨rfl, hd1⟩
    have HST : Hid (DfS w w.heap.size (mixL (diffA m pp ns) ns pp) w1) := Lib.hid (by rw [HM0.out]; exact hd1)
    generalize hGG : w.heap.size = G at HST
    have HGG := Lib.hid hGG
    clear hd1 hGG HCP HCK HM0
    go_wp2_with fail
    go_loopw [10] (fun i wr => ∃ k : Nat, pp ≤ k ∧ i = .int .i64 (k : Int) ∧ Hid (DfS w G (mixL (diffA m pp ns) ns k) wr)) (fun i _ => len - (intOf i).toNat)
    case atStart => exact ⟨pp, Nat.le_refl _, rfl, HST⟩
    case round =>
      clear HST
      obtain ⟨k, hk, rfl, HS⟩ := hrel
      by_cases hlt : k < len
      · have hkl : k < ns.length := by rw [HX.out]; exact hlt
        obtain ⟨j, hj⟩ : ∃ j, k = j + pp := ⟨k - pp, by omega⟩
        have hjl : j < ns.length := by omega
        obtain ⟨a, b, y, ha, hb, hy, hand⟩ := HDV.out k j hkl hj
        have HRw := Lib.hid (HR.out.below HS.out.1 (Nat.le_refl _))
        obtain ⟨bb, off, hq, hbl, hc1⟩ := vrow_u32 HRw.out k hkl
        obtain ⟨bb2, off2, hq2, _, hc2⟩ := vrow_u32 HRw.out j hjl
        rw [hq] at hq2
        injection hq2 with hq2
        injection hq2 with hq2 hq3
        subst hq2
        subst hq3
        subst hq
        rw [ha] at hc1
        rw [show ns[j] = b from by rw [← hb, List.getD_eq_getElem?_getD, List.getElem?_eq_getElem hjl]; rfl] at hc2
        have hml : k < (mixL (diffA m pp ns) ns k).length := by rw [mixL_length]; exact hkl
        have hc3 := HS.out.cell k hml
        have hf3 := HS.out.fz k
        have HN0 := HS.out.drew.set k y
        rw [← hy, mix_step hkl] at HN0
        rw [hy] at HN0
        have HN := Lib.hid HN0
        generalize (mixL (diffA m pp ns) ns k)[k] = old at hc3
        have ql : decide ((k : Int) < (len : Int)) = true := by simpa using hlt
        have i1 : (0 : Int) ≤ (k : Int) := by omega
        have i2 : (k : Int) < (len : Int) := by omega
        have i3 : (0 : Int) ≤ (j : Int) := by omega
        have i4 : (j : Int) < (len : Int) := by omega
        have hij : (k : Int) - (pp : Int) = (j : Int) := by omega
        have hwj : IntKind.i64.wrap (j : Int) = (j : Int) := by rw [IntKind.wrap_i64]; omega
        clear ha hb hy hkl hjl hml HS HRw HN0 hj
        go_wp2_with fail
        refine wp_region_still_tail 16 (by kernel_rfl) (by kernel_rfl) ?_
        simp only [List.take_succ_cons, List.take_zero, List.drop_succ_cons, List.drop_zero]
        repeat (first | still_step | still_call (stays (HG.out _)))
        refine wpStill_nil ?_
        obtain ⟨w9, hw9⟩ : ∃ w9, w9 = wr.drew := ⟨_, rfl⟩
        have hc9 : w9.cell? ⟨G, k, none⟩ = some (.int .u32 (old : Int)) := by rw [hw9]; exact hc3
        have hf9 : w9.frozen? ⟨G, k, none⟩ = false := by rw [hw9]; exact hf3
        rw [← hw9] at HN
        change wpList _ _ _ _ _ wr.drew
        rw [← hw9]
        clear hw9 hc1 hc2 hc3 hf3
        go_wp2_with fail
        go_roundw
        case rel => exact ⟨k + 1, by omega, by go_num, HN⟩
        case measure => simp [intOf]; omega
      · have hS := HS.out
        rw [mix_all (by rw [HX.out]; omega)] at hS
        have HB := Lib.hid hS.1
        have HV := Lib.hid hS.row
        have ql : decide ((k : Int) < (len : Int)) = false := by simpa using hlt
        clear hS HS HR HDV HG
        go_wp2_with fail
        go_ret2
        exact ⟨HB.out, .inl ⟨rfl, some ⟨G, 0, none⟩, len, by rw [diffL_length, HX.out]; rfl, HV.out, by rw [diffL_length, HX.out]; omega, by unfold maxLen; omega, (fun h => by cases h), (fun a h => by injection h with h; subst h; exact Nat.le_of_eq HGG.out)⟩⟩
  · generalize errD ns per wide = er at *
    generalize diffL _ _ _ = Y
    have q1 : (er != 0) = true := by simpa using he
    have HE := Lib.hid he
    clear hr hx he
    go_enter Try.func7, Try.ntmps7
    go_wp2_with fail
    refine HCK.out.mono ?_
    rintro e w' ⟨rfl, rfl⟩
    go_wp2_with fail
    go_ret2
    exact ⟨Below.refl _ _, .inr ⟨HE.out, rfl⟩⟩
set_option maxHeartbeats 1000000 in
theorem undo_any (p : Option Addr) (len cap : Nat) (per wide : Int) (ns : List Nat) (w : World) (hr : VRow w w.heap.size p (u32s ns)) (hx : ns.length = len) (hl : len ≤ 1000000) :
    Calls Try.prog 9 #[.slice p len cap, .int .i64 per, .int .i64 wide] w (UnP w (undoL (2 ^ wide.toNat) per.toNat ns) (errD ns per wide)) := by
  have HCK := Lib.hid (check_any p len cap per wide ns w w.heap.size hr hx hl)
  by_cases he : errD ns per wide = 0
  · obtain ⟨hw, hp1, _, hlt⟩ := err_zero he
    rw [he] at HCK ⊢
    obtain ⟨pp, rfl⟩ : ∃ pp : Nat, per = (pp : Int) := ⟨per.toNat, by omega⟩
    rw [show ((pp : Int)).toNat = pp from rfl]
    have HG := Lib.hid (fun W => greatest_any wide W hw)
    have hpw := pow_pos2 hw
    have HAND := Lib.hid (fun z => and_mod z hw)
    generalize 2 ^ wide.toNat = m at HG hlt hpw HAND ⊢
    obtain ⟨g, hg⟩ : ∃ g : Int, g = ((m - 1 : Nat) : Int) := ⟨_, rfl⟩
    rw [← hg] at HG HAND
    have HDV : Hid (∀ k j (h : k < ns.length), k = j + pp → ∃ a b y : Nat, ns[k] = a ∧ undoA m pp ns j = b ∧ undoA m pp ns k = y ∧ bits .and .u32 (IntKind.u32.wrap ((a : Int) + (b : Int))) g = (y : Int)) := Lib.hid (fun k j h hkj => by
      refine ⟨_, _, _, rfl, rfl, rfl, ?_⟩
      rw [HAND.out, undoA_next (i := k) (by omega) (by omega), show k - pp = j from by omega, List.getD_eq_getElem?_getD (i := k), List.getElem?_eq_getElem h, Option.getD_some, Int.natCast_emod]
      congr 1
      omega)
    have HM0 : Hid (mixL (undoA m pp ns) ns pp = ns) := Lib.hid (mix_start fun i h1 h2 => by rw [undoA_first h1, Nat.mod_eq_of_lt (getD_lt (by omega) hlt i)])
    have HCP := Lib.hid (copyOf_any p len cap ns w hr hx hl)
    have HR := Lib.hid hr
    have HX := Lib.hid hx
    clear hr hx he hw hlt hpw hg HAND
    go_enter Try.func9, Try.ntmps9
    go_wp2_with fail
    refine HCK.out.mono ?_
    rintro e w' ⟨rfl, rfl⟩
    go_wp2_with fail
    refine HCP.out.mono ?_
    rintro e w1 ⟨rfl, hd1⟩
    have HST : Hid (DfS w w.heap.size (mixL (undoA m pp ns) ns pp) w1) := Lib.hid (by rw [HM0.out]; exact hd1)
    generalize hGG : w.heap.size = G at HST
    have HGG := Lib.hid hGG
    clear hd1 hGG HCP HCK HM0
    go_wp2_with fail
    go_loopw [10] (fun i wr => ∃ k : Nat, pp ≤ k ∧ i = .int .i64 (k : Int) ∧ Hid (DfS w G (mixL (undoA m pp ns) ns k) wr)) (fun i _ => len - (intOf i).toNat)
    case atStart => exact ⟨pp, Nat.le_refl _, rfl, HST⟩
    case round =>
      clear HST
      obtain ⟨k, hk, rfl, HS⟩ := hrel
      by_cases hlt : k < len
      · have hkl : k < ns.length := by rw [HX.out]; exact hlt
        obtain ⟨j, hj⟩ : ∃ j, k = j + pp := ⟨k - pp, by omega⟩
        have hjl : j < ns.length := by omega
        obtain ⟨a, b, y, ha, hb, hy, hand⟩ := HDV.out k j hkl hj
        have HRw := Lib.hid (HR.out.below HS.out.1 (Nat.le_refl _))
        obtain ⟨bb, off, hq, hbl, hc1⟩ := vrow_u32 HRw.out k hkl
        rw [ha] at hc1
        subst hq
        have hc2 := HS.out.cell j (by rw [mixL_length]; exact hjl)
        rw [mix_get (show j < k by omega) (Nat.le_of_lt hkl), hb] at hc2
        have hml : k < (mixL (undoA m pp ns) ns k).length := by rw [mixL_length]; exact hkl
        have hc3 := HS.out.cell k hml
        have hf3 := HS.out.fz k
        have HN0 := HS.out.drew.set k y
        rw [← hy, mix_step hkl] at HN0
        rw [hy] at HN0
        have HN := Lib.hid HN0
        generalize (mixL (undoA m pp ns) ns k)[k] = old at hc3
        have ql : decide ((k : Int) < (len : Int)) = true := by simpa using hlt
        have i1 : (0 : Int) ≤ (k : Int) := by omega
        have i2 : (k : Int) < (len : Int) := by omega
        have i3 : (0 : Int) ≤ (j : Int) := by omega
        have i4 : (j : Int) < (len : Int) := by omega
        have hij : (k : Int) - (pp : Int) = (j : Int) := by omega
        have hwj : IntKind.i64.wrap (j : Int) = (j : Int) := by rw [IntKind.wrap_i64]; omega
        clear ha hb hy hkl hjl hml HS HRw HN0 hj
        go_wp2_with fail
        refine wp_region_still_tail 16 (by kernel_rfl) (by kernel_rfl) ?_
        simp only [List.take_succ_cons, List.take_zero, List.drop_succ_cons, List.drop_zero]
        repeat (first | still_step | still_call (stays (HG.out _)))
        refine wpStill_nil ?_
        obtain ⟨w9, hw9⟩ : ∃ w9, w9 = wr.drew := ⟨_, rfl⟩
        have hc9 : w9.cell? ⟨G, k, none⟩ = some (.int .u32 (old : Int)) := by rw [hw9]; exact hc3
        have hf9 : w9.frozen? ⟨G, k, none⟩ = false := by rw [hw9]; exact hf3
        rw [← hw9] at HN
        change wpList _ _ _ _ _ wr.drew
        rw [← hw9]
        clear hw9 hc1 hc2 hc3 hf3
        go_wp2_with fail
        go_roundw
        case rel => exact ⟨k + 1, by omega, by go_num, HN⟩
        case measure => simp [intOf]; omega
      · have hS := HS.out
        rw [mix_all (by rw [HX.out]; omega)] at hS
        have HB := Lib.hid hS.1
        have HV := Lib.hid hS.row
        have ql : decide ((k : Int) < (len : Int)) = false := by simpa using hlt
        clear hS HS HR HDV HG
        go_wp2_with fail
        go_ret2
        exact ⟨HB.out, .inl ⟨rfl, some ⟨G, 0, none⟩, len, by rw [undoL_length, HX.out]; rfl, HV.out, by rw [undoL_length, HX.out]; omega, by unfold maxLen; omega, (fun h => by cases h), (fun a h => by injection h with h; subst h; exact Nat.le_of_eq HGG.out)⟩⟩
  · generalize errD ns per wide = er at *
    generalize undoL _ _ _ = Y
    have q1 : (er != 0) = true := by simpa using he
    have HE := Lib.hid he
    clear hr hx he
    go_enter Try.func9, Try.ntmps9
    go_wp2_with fail
    refine HCK.out.mono ?_
    rintro e w' ⟨rfl, rfl⟩
    go_wp2_with fail
    go_ret2
    exact ⟨Below.refl _ _, .inr ⟨HE.out, rfl⟩⟩
end Go.Proofs.Ytgakegomanfccaa.Pd


/- The document's answers for layer 18: Diff and Undo. -/
import Derived.Test.YtgakegomanfccaaPdE
namespace Go.Proofs.Ytgakegomanfccaa.Pd
open Go.RowKit Go.Proofs.Ytgakegomanfccaa.Oct Go.Proofs.Ytgakegomanfccaa.Sa Go.Proofs.Ytgakegomanfccaa.Pr
open Go.Proofs.Ytgakegomanfccaa.Lp (VRow vrow_blk vrow_own wpList_append_vals blk_set blk_far blk_frozen)
set_option linter.unusedVariables false
set_option linter.unusedSimpArgs false
set_option maxRecDepth 100000

/-- a row of the call's own that grows -/
def RoD (w : World) (ys : List Nat) (k : Nat) (v : Value) (wr : World) : Prop := wr.ownsRow w.heap.size 31 1 v k (u32s (ys.take k)) ∧ Below w.heap.size w wr
theorem RoD.all {w wr : World} {ys : List Nat} {k : Nat} {v : Value} (h : RoD w ys k v wr) (W : World) (hd : Drawn wr W) (z : Nat) :
    VRow (W.alloc (.cells (u32s [z]).toArray 31)) (W.alloc (.cells (u32s [z]).toArray 31)).heap.size (some ⟨W.heap.size, 0, none⟩) (u32s [z]) ∧ (W.alloc (.cells (u32s [z]).toArray 31)).ownsRow w.heap.size 31 1 v k (u32s (ys.take k)) ∧ Below w.heap.size w (W.alloc (.cells (u32s [z]).toArray 31)) ∧ w.heap.size ≤ (W.alloc (.cells (u32s [z]).toArray 31)).heap.size := by
  have hb1 : Below W.heap.size W (W.alloc (.cells (u32s [z]).toArray 31)) := (Below.refl _ W).alloc (Nat.le_refl _) _
  have hb2 : Below w.heap.size w W := h.2.trans (hd.below w.heap.size)
  have hbl := hb2.trans (hb1.mono hb2.size)
  exact ⟨u32_new W (u32s [z]) 31 (0, 0), own_below (own_below h.1 (hd.below _)) hb1, hbl, hbl.size⟩
theorem RoD.done {w wr : World} {ys : List Nat} {n : Nat} {v : Value} (h : RoD w ys n v wr) (hn : ys.length = n) :
    Below w.heap.size w wr ∧ ∃ q c, v = .slice q n c ∧ VRow wr wr.heap.size q (u32s ys) ∧ n ≤ c ∧ c ≤ maxLen ∧ (q = none → c = 0) ∧ ∀ a, q = some a → w.heap.size ≤ a.block := by
  obtain ⟨h1, h2⟩ := h
  rw [← hn, List.take_length] at h1
  obtain ⟨q, c2, hv, hnq, hq1, hq2, hrow, hqb⟩ := vrow_own h1 (u32s_length _)
  exact ⟨h2, q, c2, by rw [hv, hn], hrow, by omega, hq2, hnq, hqb⟩
theorem take_next (f : Nat → Nat) (n j : Nat) (h : j < n) : ((List.range n).map f).take (j + 1) = ((List.range n).map f).take j ++ [f j] := by
  rw [List.take_succ_eq_append_getElem (by simpa using h)]
  simp
set_option maxHeartbeats 1000000 in
theorem rdiff_any (p : Option Addr) (len cap : Nat) (per wide : Int) (ns : List Nat) (w : World) (hr : VRow w w.heap.size p (u32s ns)) (hx : ns.length = len) (hl : len ≤ 1000000) (hb : ∀ n ∈ ns, n < 4294967296) :
    Calls Try.prog 8 #[.slice p len cap, .int .i64 per, .int .i64 wide] w (UnP w (diffL (2 ^ wide.toNat) per.toNat ns) (errD ns per wide)) := by
  obtain ⟨i0, hi, hz0, hz1, hz2⟩ := info_parts Try.infoU32
  have HCK := Lib.hid (rfits_any p len cap per wide ns w w.heap.size hr hx hl hb)
  by_cases he : errD ns per wide = 0
  · obtain ⟨hw, hp1, _, hlt⟩ := err_zero he
    rw [he] at HCK ⊢
    obtain ⟨pp, rfl⟩ : ∃ pp : Nat, per = (pp : Int) := ⟨per.toNat, by omega⟩
    rw [show ((pp : Int)).toNat = pp from rfl]
    have HG := Lib.hid (fun W => rround_wide wide W hw)
    have hpw := pow_pos2 hw
    generalize 2 ^ wide.toNat = m at HG hlt hpw ⊢
    obtain ⟨ys, hys⟩ : ∃ ys, ys = diffL m pp ns := ⟨_, rfl⟩
    have HYL : Hid (ys.length = len) := Lib.hid (by rw [hys, diffL_length, hx])
    have HYS : Hid (∀ k, k < len → ys.take (k + 1) = ys.take k ++ [diffA m pp ns k]) := Lib.hid (fun k h => by rw [hys]; exact take_next _ _ _ (by omega))
    rw [← hys]
    have HDV : Hid (∀ k j (h : k < ns.length), k = j + pp → ∃ a b y : Nat, ns[k] = a ∧ ns.getD j 0 = b ∧ diffA m pp ns k = y ∧ a < m ∧ b < m ∧ y < m ∧ ((a : Int) - (b : Int) + (m : Int)).tmod (m : Int) = (y : Int)) := Lib.hid (fun k j h hkj => by
      have h1 := hlt _ (List.getElem_mem h)
      have h2 := getD_lt (by omega) hlt j
      refine ⟨_, _, _, rfl, rfl, rfl, h1, h2, diffA_lt (by omega) hlt, ?_⟩
      unfold diffA
      rw [if_pos (by omega), show k - pp = j from by omega, List.getD_eq_getElem?_getD (i := k), List.getElem?_eq_getElem h, Option.getD_some, Int.tmod_eq_emod_of_nonneg (by omega), Int.natCast_emod]
      congr 1
      omega)
    have HDU : Hid (∀ k (h : k < ns.length), k < pp → ∃ a : Nat, ns[k] = a ∧ diffA m pp ns k = a ∧ a < m) := Lib.hid (fun k h hkj => by
      refine ⟨_, rfl, ?_, hlt _ (List.getElem_mem h)⟩
      unfold diffA
      rw [if_neg (by omega), List.getD_eq_getElem?_getD (i := k), List.getElem?_eq_getElem h, Option.getD_some])
    have HR := Lib.hid hr
    have HX := Lib.hid hx
    clear hr hx he hw hlt hys hb
    generalize hPP : (pp : Int) = P at HCK
    have HPP := Lib.hid hPP
    clear hPP
    go_enter Try.func8, Try.ntmps8
    go_wp2_with fail
    refine HCK.out.mono ?_
    rintro e w1 ⟨rfl, hd1⟩
    have HST : Hid (RoD w ys 0 (.slice none 0 0) w1) := Lib.hid ⟨World.ownsRow_nil w1 w.heap.size 31 1, hd1.below _⟩
    clear hd1 HCK
    go_wp2_with fail
    go_loopw [9, 10, 11] (fun o i _ wr => ∃ k : Nat, k ≤ len ∧ i = .int .i64 (k : Int) ∧ Hid (RoD w ys k o wr)) (fun _ i _ _ => len - (intOf i).toNat)
    case atStart => exact ⟨0, by omega, rfl, HST⟩
    case round =>
      clear HST
      obtain ⟨k, hk, rfl, HS⟩ := hrel
      by_cases hlt : k < len
      · have hkl : k < ns.length := by rw [HX.out]; exact hlt
        have HRw := Lib.hid (HR.out.below HS.out.2 (Nat.le_refl _))
        obtain ⟨bb, off, hq, hbl, hc1⟩ := vrow_u32 HRw.out k hkl
        have ql : decide ((k : Int) < (len : Int)) = true := by simpa using hlt
        have i1 : (0 : Int) ≤ (k : Int) := by omega
        have i2 : (k : Int) < (len : Int) := by omega
        have HYT := Lib.hid (HYS.out k hlt)
        have HALL := Lib.hid (fun W hd z => HS.out.all W hd z)
        by_cases hjp : pp ≤ k
        · obtain ⟨j, hj⟩ : ∃ j, k = j + pp := ⟨k - pp, by omega⟩
          have hjl : j < ns.length := by omega
          obtain ⟨a, b, y, ha, hb, hy, hal, hbl2, hyl, hmod⟩ := HDV.out k j hkl hj
          obtain ⟨bb2, off2, hq2, _, hc2⟩ := vrow_u32 HRw.out j hjl
          rw [hq] at hq2
          injection hq2 with hq2
          injection hq2 with hq2 hq3
          subst hq2
          subst hq3
          subst hq
          rw [ha] at hc1
          rw [show ns[j] = b from by rw [← hb, List.getD_eq_getElem?_getD, List.getElem?_eq_getElem hjl]; rfl] at hc2
          rw [hy] at HYT
          have i3 : (0 : Int) ≤ (j : Int) := by omega
          have i4 : (j : Int) < (len : Int) := by omega
          have hij : (k : Int) - P = (j : Int) := by have := HPP.out; omega
          have hwj : IntKind.i64.wrap (j : Int) = (j : Int) := by rw [IntKind.wrap_i64]; omega
          have qp : decide (P ≤ (k : Int)) = true := by have := HPP.out; simp; omega
          have ha32 : a < 4294967296 := by omega
          have hb32 : b < 4294967296 := by omega
          have hy32 : y < 4294967296 := by omega
          have hwu := wu32_small (y : Int) (by omega) (by omega)
          have hm0 : (m : Int) ≠ 0 := by omega
          clear ha hb hy hkl hjl HS HRw hj hjp hal hbl2 hyl
          go_wp2_with fail
          go_quiet ((go_at_call 17; exact quietly (HG.out _)))
          obtain ⟨wB, hwB⟩ : ∃ wB, wB = wr.drewN nq := ⟨_, rfl⟩
          obtain ⟨HR1, HR2, HR3, HR4⟩ := HALL.out wB ⟨nq, hwB⟩ y
          rw [← hwB]
          clear HALL hwB hmod
          go_wp2_with (at_builtin; refine wpList_append_vals Try.underlying22 hi hz0 hz1 hz2 rfl (by decide) rfl _ _ rfl w.heap.size _ k (u32s (ys.take k)) rfl HR2 (some ⟨wB.heap.size, 0, none⟩) 1 1 (u32s [y]) rfl HR1 rfl (fun h => by cases h) u32s_one (by omega) HR4 ?_)
          intro v2 w2 hown2 _ hb3
          rw [← u32s_append, ← HYT.out] at hown2
          have HN : Hid (RoD w ys (k + 1) v2 w2) := Lib.hid ⟨hown2, HR3.trans hb3⟩
          clear hown2 hb3 HR1 HR2 HR3 HR4
          go_wp2_with fail
          go_roundw
          case rel => exact ⟨k + 1, by omega, by go_num, HN⟩
          case measure => simp [intOf]; omega
        · obtain ⟨a, ha, hy, hal⟩ := HDU.out k hkl (by omega)
          subst hq
          rw [ha] at hc1
          rw [hy] at HYT
          have qp : decide (P ≤ (k : Int)) = false := by have := HPP.out; simp; omega
          have ha32 : a < 4294967296 := by omega
          have hwu := wu32_small (a : Int) (by omega) (by omega)
          obtain ⟨HR1, HR2, HR3, HR4⟩ := HALL.out wr ⟨0, rfl⟩ a
          clear ha hy hkl HS HRw hjp hal HALL
          go_wp2_with (at_builtin; refine wpList_append_vals Try.underlying22 hi hz0 hz1 hz2 rfl (by decide) rfl _ _ rfl w.heap.size _ k (u32s (ys.take k)) rfl HR2 (some ⟨wr.heap.size, 0, none⟩) 1 1 (u32s [a]) rfl HR1 rfl (fun h => by cases h) u32s_one (by omega) HR4 ?_)
          intro v2 w2 hown2 _ hb3
          rw [← u32s_append, ← HYT.out] at hown2
          have HN : Hid (RoD w ys (k + 1) v2 w2) := Lib.hid ⟨hown2, HR3.trans hb3⟩
          clear hown2 hb3 HR1 HR2 HR3 HR4
          go_wp2_with fail
          go_roundw
          case rel => exact ⟨k + 1, by omega, by go_num, HN⟩
          case measure => simp [intOf]; omega
      · have : k = len := by omega
        subst this
        obtain ⟨hB, q, c2, hv, h1, h2, h3, h4, h5⟩ := HS.out.done HYL.out
        subst hv
        have HB := Lib.hid hB
        have H1 := Lib.hid h1
        have H5 := Lib.hid h5
        have H4 := Lib.hid h4
        have ql : decide ((k : Int) < (k : Int)) = false := by simp
        clear HS HR HDV HG hB h1 h4 h5 HYS HDU
        go_wp2_with fail
        go_ret2
        exact ⟨HB.out, .inl ⟨rfl, q, c2, by rw [HYL.out]; rfl, H1.out, by rw [HYL.out]; exact h2, h3, H4.out, H5.out⟩⟩
  · generalize errD ns per wide = er at *
    generalize diffL _ _ _ = Y
    have q1 : (er != 0) = true := by simpa using he
    have HE := Lib.hid he
    clear hr hx he
    go_enter Try.func8, Try.ntmps8
    go_wp2_with fail
    refine HCK.out.mono ?_
    rintro e w1 ⟨rfl, hd1⟩
    have HB1 := Lib.hid (hd1.below w.heap.size)
    clear hd1
    go_wp2_with fail
    go_ret2
    exact ⟨HB1.out, .inr ⟨HE.out, rfl⟩⟩
set_option maxHeartbeats 1000000 in
theorem rundo_any (p : Option Addr) (len cap : Nat) (per wide : Int) (ns : List Nat) (w : World) (hr : VRow w w.heap.size p (u32s ns)) (hx : ns.length = len) (hl : len ≤ 1000000) (hb : ∀ n ∈ ns, n < 4294967296) :
    Calls Try.prog 10 #[.slice p len cap, .int .i64 per, .int .i64 wide] w (UnP w (undoL (2 ^ wide.toNat) per.toNat ns) (errD ns per wide)) := by
  obtain ⟨i0, hi, hz0, hz1, hz2⟩ := info_parts Try.infoU32
  have HCK := Lib.hid (rfits_any p len cap per wide ns w w.heap.size hr hx hl hb)
  by_cases he : errD ns per wide = 0
  · obtain ⟨hw, hp1, hdv, hlt⟩ := err_zero he
    rw [he] at HCK ⊢
    obtain ⟨pp, rfl⟩ : ∃ pp : Nat, per = (pp : Int) := ⟨per.toNat, by omega⟩
    rw [show ((pp : Int)).toNat = pp from rfl]
    have HG := Lib.hid (fun W => rround_wide wide W hw)
    have hpw := pow_pos2 hw
    generalize 2 ^ wide.toNat = m at HG hlt hpw ⊢
    obtain ⟨ys, hys⟩ : ∃ ys, ys = undoL m pp ns := ⟨_, rfl⟩
    have HYL : Hid (ys.length = len) := Lib.hid (by rw [hys, undoL_length, hx])
    have HYS : Hid (∀ k, k < len → ys.take (k + 1) = ys.take k ++ [undoA m pp ns k]) := Lib.hid (fun k h => by rw [hys]; exact take_next _ _ _ (by omega))
    rw [← hys]
    have HIN : Hid (∀ nn kk : Nat, (h : kk < ns.length) → ∃ a c : Nat, ns[kk] = a ∧ a < m ∧ c < m ∧ ((nn : Int) + (a : Int)).tmod (m : Int) = (c : Int) ∧ ((nn + undoA m pp ns kk) % m = (if kk < pp then c else (c + undoA m pp ns (kk - pp)) % m))) := Lib.hid (fun nn kk h => by
      have h1 := hlt _ (List.getElem_mem h)
      have e : ns.getD kk 0 = ns[kk] := by rw [List.getD_eq_getElem?_getD, List.getElem?_eq_getElem h]; rfl
      refine ⟨_, (nn + ns[kk]) % m, rfl, h1, Nat.mod_lt _ (by omega), by rw [Int.tmod_eq_emod_of_nonneg (by omega)]; rfl, ?_⟩
      split
      · rename_i hk
        rw [← sum_last hk, e]
      · rw [← sum_down (by omega) (by omega), e])
    have HY0 : Hid (∀ kk, (0 + undoA m pp ns kk) % m = undoA m pp ns kk ∧ undoA m pp ns kk < m) := Lib.hid (fun kk => ⟨sum_all (by omega), undoA_lt (by omega)⟩)
    have HPL : Hid (0 < len → pp ≤ len) := Lib.hid (fun h => by
      have : (len : Int) % (pp : Int) = 0 := by rw [← hx]; exact hdv
      have h2 : len % pp = 0 := by exact_mod_cast this
      exact Nat.le_of_dvd h (Nat.dvd_of_mod_eq_zero h2))
    have HR := Lib.hid hr
    have HX := Lib.hid hx
    clear hr hx he hw hlt hys hb hdv
    generalize hPP : (pp : Int) = P at HCK
    have HPP := Lib.hid hPP
    clear hPP
    go_enter Try.func10, Try.ntmps10
    go_wp2_with fail
    refine HCK.out.mono ?_
    rintro e w1 ⟨rfl, hd1⟩
    have HST : Hid (RoD w ys 0 (.slice none 0 0) w1) := Lib.hid ⟨World.ownsRow_nil w1 w.heap.size 31 1, hd1.below _⟩
    clear hd1 HCK
    go_wp2_with fail
    go_loopw [9, 10, 11, 12] (fun o i _ _ wr => ∃ k : Nat, k ≤ len ∧ i = .int .i64 (k : Int) ∧ Hid (RoD w ys k o wr)) (fun _ i _ _ _ => len - (intOf i).toNat)
    case atStart => exact ⟨0, by omega, rfl, HST⟩
    case round =>
      clear HST
      obtain ⟨k, hk, rfl, HS⟩ := hrel
      by_cases hlt : k < len
      · have hpl := HPL.out (by omega)
        have ql : decide ((k : Int) < (len : Int)) = true := by simpa using hlt
        have HYT := Lib.hid (HYS.out k hlt)
        obtain ⟨hy0, hylt⟩ := HY0.out k
        have HRw := Lib.hid (HR.out.below HS.out.2 (Nat.le_refl _))
        obtain ⟨y, hy⟩ : ∃ y, y = undoA m pp ns k := ⟨_, rfl⟩
        rw [← hy] at HYT hylt
        have hy32 : y < 4294967296 := by omega
        have hwu := wu32_small (y : Int) (by omega) (by omega)
        have HY1 : Hid ((0 + undoA m pp ns k) % m = y) := Lib.hid (hy0.trans hy.symm)
        clear hy0 hylt hy
        go_wp2_with fail
        go_loopw [11, 12] (fun n kv wv => ∃ nn : Nat, ∃ kk : Int, n = .int .i64 (nn : Int) ∧ kv = .int .i64 kk ∧ nn < m ∧ -(pp : Int) ≤ kk ∧ kk < (len : Int) ∧ Hid ((0 ≤ kk → (nn + undoA m pp ns kk.toNat) % m = y) ∧ (kk < 0 → nn = y)) ∧ Hid (Drawn wr wv)) (fun _ kv _ => (intOf kv + 1).toNat)
        case atStart => exact ⟨0, (k : Int), rfl, rfl, by omega, by omega, by omega, Lib.hid ⟨fun _ => HY1.out, fun h => by omega⟩, Lib.hid ⟨0, rfl⟩⟩
        case round =>
          obtain ⟨nn, kk, rfl, rfl, hnm, hk1, hk2, HE, HD⟩ := hrel
          by_cases hk0 : 0 ≤ kk
          · obtain ⟨j, rfl⟩ : ∃ j : Nat, kk = (j : Int) := ⟨kk.toNat, by omega⟩
            have hjl : j < ns.length := by rw [HX.out]; omega
            obtain ⟨a, c, ha, ham, hcm, hmod, hnx⟩ := HIN.out nn j hjl
            obtain ⟨bb, off, hq, _, hc0⟩ := vrow_u32 HRw.out j hjl
            subst hq
            rw [ha] at hc0
            have hcc : wr.cell? ⟨bb, off + j, none⟩ = some (.int .u32 (a : Int)) := by have hd := HD.out; obtain ⟨i, hi⟩ := hd; rw [hi]; exact hc0
            have hnx2 : ((c : Int) = c ∧ (if j < pp then c else (c + undoA m pp ns (j - pp)) % m) = y) := ⟨rfl, by rw [← hnx]; exact HE.out.1 hk0⟩
            have HN : Hid ((0 ≤ (j : Int) - P → (c + undoA m pp ns ((j : Int) - P).toNat) % m = y) ∧ ((j : Int) - P < 0 → c = y)) := Lib.hid (by
              rw [← HPP.out]
              refine ⟨fun h => ?_, fun h => ?_⟩
              · have := hnx2.2
                rw [if_neg (by omega)] at this
                rwa [show ((j : Int) - (pp : Int)).toNat = j - pp from by omega]
              · have := hnx2.2
                rwa [if_pos (by omega)] at this)
            have hPl : P ≤ (len : Int) := by have := HPP.out; omega
            have hP1 : 1 ≤ P := by have := HPP.out; omega
            have qk : decide ((0 : Int) ≤ (j : Int)) = true := by simp
            have i3 : (0 : Int) ≤ (j : Int) := by omega
            have i4 : (j : Int) < (len : Int) := by omega
            have ha32 : a < 4294967296 := by omega
            have hm0 : (m : Int) ≠ 0 := by omega
            have hnb : nn < 4294967296 := by omega
            clear ha ham hc0 hnx hnx2 HE hjl hk0
            go_wp2_with fail
            go_quiet ((go_at_call 17; exact quietly (HG.out _)))
            go_wp2_with fail
            go_roundw
            case rel => exact ⟨c, (j : Int) - P, by go_num, by go_num, hcm, by have := HPP.out; omega, by omega, HN, Lib.hid (HD.out.more _)⟩
            case measure => simp [intOf]; omega
          · have qk : decide ((0 : Int) ≤ kk) = false := by simpa using hk0
            have hny := HE.out.2 (by omega)
            subst hny
            have HALL := Lib.hid (fun z => HS.out.all wr HD.out z)
            obtain ⟨HR1, HR2, HR3, HR4⟩ := HALL.out nn
            clear HE HALL HY1 HRw HIN
            go_wp2_with (at_builtin; refine wpList_append_vals Try.underlying22 hi hz0 hz1 hz2 rfl (by decide) rfl _ _ rfl w.heap.size _ k (u32s (ys.take k)) rfl HR2 (some ⟨wr.heap.size, 0, none⟩) 1 1 (u32s [nn]) rfl HR1 rfl (fun h => by cases h) u32s_one (by omega) HR4 ?_)
            intro v2 w2 hown2 _ hb3
            rw [← u32s_append, ← HYT.out] at hown2
            have HN : Hid (RoD w ys (k + 1) v2 w2) := Lib.hid ⟨hown2, HR3.trans hb3⟩
            clear hown2 hb3 HR1 HR2 HR3 HR4
            go_wp2_with fail
            go_roundw
            case rel => exact ⟨k + 1, by omega, by go_num, HN⟩
            case measure => simp [intOf]; omega
      · have : k = len := by omega
        subst this
        obtain ⟨hB, q, c2, hv, h1, h2, h3, h4, h5⟩ := HS.out.done HYL.out
        subst hv
        have HB := Lib.hid hB
        have H1 := Lib.hid h1
        have H5 := Lib.hid h5
        have H4 := Lib.hid h4
        have ql : decide ((k : Int) < (k : Int)) = false := by simp
        clear HS HR HIN HG hB h1 h4 h5 HYS
        go_wp2_with fail
        go_ret2
        exact ⟨HB.out, .inl ⟨rfl, q, c2, by rw [HYL.out]; rfl, H1.out, by rw [HYL.out]; exact h2, h3, H4.out, H5.out⟩⟩
  · generalize errD ns per wide = er at *
    generalize undoL _ _ _ = Y
    have q1 : (er != 0) = true := by simpa using he
    have HE := Lib.hid he
    clear hr hx he
    go_enter Try.func10, Try.ntmps10
    go_wp2_with fail
    refine HCK.out.mono ?_
    rintro e w1 ⟨rfl, hd1⟩
    have HB1 := Lib.hid (hd1.below w.heap.size)
    clear hd1
    go_wp2_with fail
    go_ret2
    exact ⟨HB1.out, .inr ⟨HE.out, rfl⟩⟩
end Go.Proofs.Ytgakegomanfccaa.Pd

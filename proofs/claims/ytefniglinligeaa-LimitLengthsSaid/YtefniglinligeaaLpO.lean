
/- Things the other way round, bounds that are higher; the walk of LimitCosts. -/
import Derived.Test.YtefniglinligeaaLpN
namespace Go.Proofs.Ytefniglinligeaa.Lp
open Go.RowKit Go.Proofs.Ytefniglinligeaa.Oct Go.Proofs.Ytefniglinligeaa.Lm
set_option linter.unusedVariables false
set_option linter.unusedSimpArgs false
set_option maxRecDepth 100000

theorem okB_rev (zs : List Int) (m : Int) : okB zs.reverse m = okB zs m := by
  unfold okB
  rw [List.length_reverse, List.any_reverse]
theorem come_rev (zs : List Int) : (come (natsOf zs.reverse)).Perm (come (natsOf zs)) := by
  unfold come natsOf
  rw [List.map_reverse, List.filter_reverse]
  exact List.reverse_perm _
theorem okB_top (zs : List Int) : okB zs 31 = false := by
  unfold okB
  simp
theorem okB_more {zs : List Int} {m : Nat} (h : okB zs (m : Int) = true) (hm : m ≠ 30) : okB zs ((m + 1 : Nat) : Int) = true := by
  unfold okB at h ⊢
  simp only [Bool.and_eq_true, decide_eq_true_eq] at h ⊢
  obtain ⟨⟨⟨h1, h2⟩, h3⟩, h4⟩ := h
  exact ⟨⟨⟨by omega, by omega⟩, h3⟩, h4⟩
def kost (zs : List Int) (ls : List Nat) : Nat := cost (come (natsOf zs)) (comeL (natsOf zs) ls)
/-- lengths that came out -/
def LOk (w : World) (zs : List Int) (most : Nat) (e : Ending) (w' : World) : Prop :=
  Below w.heap.size w w' ∧ ∃ bl ls, e = .returned (.tuple #[.slice (some ⟨bl, 0, none⟩) zs.length zs.length, .int .i64 0]) ∧ VRow w' w'.heap.size (some ⟨bl, 0, none⟩) (ints (intsOf ls)) ∧ Fine zs most ls
theorem lengths_ok (p : Option Addr) (len cap most : Nat) (zs : List Int) (w : World) (hr : VRow w w.heap.size p (ints zs)) (hx : zs.length = len) (hok : okB zs (most : Int) = true) (hc : (come (natsOf zs)).length ≤ 2 ^ most) : Calls Try.prog 8 #[.slice p len cap, .int .i64 (most : Int)] w (LOk w zs most) := by
  refine (lengths_any p len cap (most : Int) zs w hr hx).mono ?_
  rintro e w' ⟨hb, h | h | h⟩
  · rw [hok] at h; cases h.1
  · have := h.2.1
    rw [Int.toNat_natCast] at this
    omega
  · obtain ⟨_, _, bl, ls, he, hl, _, hf⟩ := h
    rw [Int.toNat_natCast] at hf
    exact ⟨hb, bl, ls, he, hl.row, hf⟩
theorem cost_fine (p : Option Addr) (len cap bl most : Nat) (zs : List Int) (ls : List Nat) (w : World) (hr : VRow w w.heap.size p (ints zs)) (hx : zs.length = len) (hl : VRow w w.heap.size (some ⟨bl, 0, none⟩) (ints (intsOf ls))) (hf : Fine zs most ls) (hok : okB zs (most : Int) = true) (cap2 : Nat) :
    Calls Try.prog 12 #[.slice p len cap, .slice (some ⟨bl, 0, none⟩) len cap2] w fun e w' => e = .returned (.int .i64 ((kost zs ls : Nat) : Int)) ∧ Below w.heap.size w w' := by
  obtain ⟨h1, h2, h3, h4⟩ := okB_parts hok
  have hc := cost_any p (some ⟨bl, 0, none⟩) len cap len cap2 zs (intsOf ls) w hr hl hx (by unfold intsOf; rw [List.length_map, hf.len]; exact hx) (by omega) (by omega)
  rw [hf.cost h4 (by omega) h3] at hc
  exact hc
/-- an own row of numbers -/
def IOwn (w : World) (base : Nat) (v : Value) (zs : List Int) : Prop := w.ownsRow base 3 1 v zs.length (ints zs)
theorem IOwn.below {w w' : World} {base : Nat} {v : Value} {zs : List Int} (h : IOwn w base v zs) (hb : Below w.heap.size w w') : IOwn w' base v zs := own_below h hb
theorem IOwn.nil (w : World) : IOwn w w.heap.size (.slice none 0 0) [] := ⟨rfl, .inl ⟨rfl, rfl⟩⟩
theorem IOwn.shape {w : World} {base : Nat} {v : Value} {zs : List Int} (h : IOwn w base v zs) : ∃ q c, v = .slice q zs.length c ∧ (q = none → c = 0) ∧ zs.length ≤ c ∧ c ≤ maxLen ∧ VRow w w.heap.size q (ints zs) := by
  obtain ⟨q, c, h1, h2, h3, h4, h5, _⟩ := vrow_own h (by rw [ints_length])
  exact ⟨q, c, h1, h2, h3, h4, h5⟩
theorem wpList_append_int {w : World} {ops : Array Oper} {rest : List Oper} {o : Oper} {a : Act} {Q : Exit → Act → World → Prop}
    (hgd : o.guard = none) (s x : Operand) (ho : o.op = .call { callee := .builtin .append, args := #[s, x], argTypes := #[22, 22] })
    (base : Nat) (v : Value) (ys : List Int) (hs : a.eval s = v) (hown : IOwn w base v ys)
    (p : Option Addr) (m c : Nat) (xs : List Int) (hx : a.eval x = .slice p m c) (hr : VRow w w.heap.size p (ints xs)) (hxm : xs.length = m) (hc0 : p = none → c = 0)
    (h47 : ys.length + m ≤ 100000000) (hbase : base ≤ w.heap.size)
    (h : ∀ v' w', IOwn w' base v' (ys ++ xs) → Below base w w' → wpList Try.prog ops Q rest (a.put o.dst v') w') :
    wpList Try.prog ops Q (o :: rest) a w := by
  obtain ⟨i0, hi, hz0, hz1, hz2⟩ := info_parts Try.infoInt3
  refine wpList_append_vals Try.underlying22 hi hz0 hz1 hz2 rfl (by decide) hgd s x ho base v ys.length (ints ys) hs hown p m c (ints xs) hx hr (by rw [ints_length]; exact hxm) hc0 ints_one h47 hbase ?_
  intro v' w' h1 _ h3
  refine h v' w' ?_ h3
  unfold IOwn
  rw [List.length_append, hxm, ints_append]
  exact h1
theorem one_row (w : World) (z : Int) : VRow (w.alloc (.cells #[.int .i64 z] 3)) (w.alloc (.cells #[.int .i64 z] 3)).heap.size (some ⟨w.heap.size, 0, none⟩) (ints [z]) := vrow_blk (heap_alloc_last w _) (by simp)
theorem rev_step (zs : List Int) (k : Nat) (h : k < zs.length) : zs.reverse.take (k + 1) = zs.reverse.take k ++ [zs.getD (zs.length - 1 - k) 0] := by
  rw [List.take_succ_eq_append_getElem (by rw [List.length_reverse]; exact h), List.getElem_reverse, List.getD_eq_getElem?_getD, List.getElem?_eq_getElem (show zs.length - 1 - k < zs.length by omega)]
  rfl
/-- what the walk is told of costs -/
theorem kost_rev {zs : List Int} {most : Nat} {ls ms : List Nat} (h : Fine zs most ls) (k : Fine zs.reverse most ms) : kost zs.reverse ms = kost zs ls := least_same (come_rev zs) k.least h.least
theorem kost_more {zs : List Int} {most : Nat} {ls ms : List Nat} (h : Fine zs most ls) (k : Fine zs (most + 1) ms) : kost zs ms ≤ kost zs ls := Least.more h.least k.least (by omega)
set_option maxHeartbeats 8000000 in
theorem costs_walk (a1 : Option Addr) (l1 c1 : Nat) (a2 : Option Addr) (l2 c2 : Nat) (most : Int) (W : World) (h1 : IsInts W a1 l1 c1) (h2 : IsInts W a2 l2 c2) (hwf : (Lit.int IntKind.i64 most).wf = true) :
    Calls Try.prog 4 #[.slice a1 l1 c1, .slice a2 l2 c2, .int .i64 most] W fun e w' => e = .returned (.bool true) ∧ Below W.heap.size W w' := by
  obtain ⟨zs, hx1, hr1, _, _, _⟩ := h1
  obtain ⟨ys, hx2, hr2, _, _, _⟩ := h2
  have HX := Lib.hid hx1
  have HR := Lib.hid hr1
  have HX2 := Lib.hid hx2
  have HR2 := Lib.hid hr2
  clear hx1 hr1 hx2 hr2 hwf
  have big : Hid (∀ w1, Below W.heap.size W w1 → Calls Try.prog 7 #[] w1 fun e w' => e = .returned (.bool true) ∧ Below W.heap.size W w') := fun w1 hb => (lives_any w1).mono fun e w' ⟨h1, h2⟩ => ⟨h1, hb.trans (h2.mono hb.size)⟩
  have hl0 := big.out W (Below.refl _ _)
  go_enter Try.func4, Try.ntmps4
  go_wp2_with fail
  refine hl0.mono ?_
  clear hl0
  rintro e w1 ⟨rfl, hb1⟩
  have HB1 := Lib.hid hb1
  clear hb1
  by_cases hbig : 60 < l1
  · have hd : decide ((60 : Int) < (l1 : Int)) = true := decide_eq_true (by omega)
    go_wp2_with fail
    refine (big.out _ HB1.out).mono ?_
    rintro e w2 ⟨rfl, hb2⟩
    have HB2 := Lib.hid hb2
    clear hb2
    go_wp2_with fail
    go_ret
    exact ⟨rfl, HB2.out⟩
  have hd : decide ((60 : Int) < (l1 : Int)) = false := decide_eq_false (by omega)
  by_cases hbig2 : 60 < l2
  · have hd2 : decide ((60 : Int) < (l2 : Int)) = true := decide_eq_true (by omega)
    go_wp2_with fail
    refine (big.out _ HB1.out).mono ?_
    rintro e w2 ⟨rfl, hb2⟩
    have HB2 := Lib.hid hb2
    clear hb2
    go_wp2_with fail
    go_ret
    exact ⟨rfl, HB2.out⟩
  have hd2 : decide ((60 : Int) < (l2 : Int)) = false := decide_eq_false (by omega)
  clear big
  obtain ⟨n, hn⟩ : ∃ n, n = min l1 l2 := ⟨_, rfl⟩
  have HN : Hid (n = min l1 l2) := hn
  have hn1 : n ≤ 60 := by omega
  clear hn
  go_wp2_with fail
  go_loopg [7, 8] n (fun kx s7 s8 wr => ∃ (k : Nat) (s : Int), s8 = .int .i64 (k : Int) ∧ s7 = .int .i64 s ∧ k ≤ n ∧ n - k ≤ kx ∧ Hid (s = sumI zs ys k ∧ Below W.heap.size W wr))
  case atStart => exact ⟨0, 0, rfl, rfl, by omega, by omega, ⟨rfl, HB1.out⟩⟩
  case round =>
    obtain ⟨k, s, rfl, rfl, hk, hkx, HK⟩ := hrel
    obtain ⟨cc, hcc⟩ : ∃ c : Bool, c = decide (k < n) := ⟨_, rfl⟩
    have HCC : Hid (cc = decide (k < n)) := hcc
    clear hcc
    go_upto_region 5 with fail
    go_cut [39] (fun s39 wx => s39 = .bool cc ∧ wr = wx)
    case first =>
      by_cases h1 : k < l1
      · have k1 : decide ((k : Int) < (l1 : Int)) = true := decide_eq_true (by omega)
        by_cases h2 : k < l2
        · have k2 : decide ((k : Int) < (l2 : Int)) = true := decide_eq_true (by omega)
          go_wp2_with fail
          go_meet
          exact ⟨congrArg Value.bool (HCC.out.trans (decide_eq_true (by have := HN.out; omega))).symm, rfl⟩
        · have k2 : decide ((k : Int) < (l2 : Int)) = false := decide_eq_false (by omega)
          go_wp2_with fail
          go_meet
          exact ⟨congrArg Value.bool (HCC.out.trans (decide_eq_false (by have := HN.out; omega))).symm, rfl⟩
      · have k1 : decide ((k : Int) < (l1 : Int)) = false := decide_eq_false (by omega)
        go_wp2_with fail
        go_meet
        exact ⟨congrArg Value.bool (HCC.out.trans (decide_eq_false (by have := HN.out; omega))).symm, rfl⟩
    case rest =>
     obtain ⟨rfl, rfl⟩ := hcut
     have hnn := HN.out
     cases cc with
     | true =>
      have hlt : k < n := of_decide_eq_true HCC.out.symm
      have i1 : (k : Int) < (l1 : Int) := by omega
      have i2 : (k : Int) < (l2 : Int) := by omega
      have hk0 : (0 : Int) ≤ (k : Int) := by omega
      obtain ⟨b1, o1, hp1, hbl1⟩ := HR.out.addr (by rw [ints_length, HX.out]; omega)
      subst hp1
      obtain ⟨b2, o2, hp2, hbl2⟩ := HR2.out.addr (by rw [ints_length, HX2.out]; omega)
      subst hp2
      have q1 : ∀ j, (wr.drewN j).cell? ⟨b1, o1 + k, none⟩ = some (.int .i64 (zs.getD k 0)) := fun j => (HK.out.2.cell (p := ⟨b1, o1 + k, none⟩) hbl1).trans (HR.out.intD k (by rw [HX.out]; omega))
      have q2 : ∀ j, (wr.drewN j).cell? ⟨b2, o2 + k, none⟩ = some (.int .i64 (ys.getD k 0)) := fun j => (HK.out.2.cell (p := ⟨b2, o2 + k, none⟩) hbl2).trans (HR2.out.intD k (by rw [HX2.out]; omega))
      have HS : Hid (sumI zs ys (k + 1) = IntKind.i64.wrap (sumI zs ys k + IntKind.i64.wrap (zs.getD k 0 * ys.getD k 0))) := rfl
      generalize zs.getD k 0 = x at q1 HS
      generalize ys.getD k 0 = y at q2 HS
      obtain ⟨t, ht⟩ : ∃ t, t = IntKind.i64.wrap (x * y) := ⟨_, rfl⟩
      have ht' := ht.symm
      obtain ⟨u, hu⟩ : ∃ u, u = IntKind.i64.wrap (s + t) := ⟨_, rfl⟩
      have hu' := hu.symm
      have HU : Hid (u = sumI zs ys (k + 1)) := by show _ = _; rw [HS.out, hu, ht, HK.out.1]
      clear ht hu hnn
      have HNX : Hid (∀ j, Below W.heap.size W (wr.drewN j)) := fun j => HK.out.2.trans ⟨rfl, rfl, rfl, Nat.le_refl _, fun _ _ => rfl⟩
      go_wp2_with fail
      go_quiet (fail)
      go_wp2_with fail
      go_roundg (n - (k + 1))
      case measure => omega
      case rel => exact ⟨k + 1, u, by go_num, rfl, by omega, Nat.le_refl _, ⟨HU.out, HNX.out _⟩⟩
     | false =>
      have hnlt : ¬ k < n := of_decide_eq_false HCC.out.symm
      have hkn : k = n := by omega
      have HS : Hid (s = sumI zs ys (min zs.length ys.length)) := by show _ = _; rw [HK.out.1, HX.out, HX2.out, hkn, hnn]
      have hcost := cost_any a1 a2 l1 c1 l2 c2 zs ys wr ((HR.out.below HK.out.2 (Nat.le_refl _)).mono HK.out.2.size) ((HR2.out.below HK.out.2 (Nat.le_refl _)).mono HK.out.2.size) HX.out HX2.out (by omega) (by omega)
      rw [← HS.out] at hcost
      have HB3 : Hid (Below W.heap.size W wr) := HK.out.2
      clear hnn
      have hss : (s != s) = false := by simp
      go_upto_region 10 with (go_at_call 12; refine hcost.mono ?_; rintro e w3 ⟨rfl, hb3⟩)
      have HB4 : Hid (Below W.heap.size W w3) := HB3.out.trans (hb3.mono HB3.out.size)
      clear hb3 hcost hss HCC HK HS HN
      have hl := lengths_any a1 l1 c1 most zs w3 ((HR.out.below HB4.out (Nat.le_refl _)).mono HB4.out.size) HX.out
      go_wp2_with fail
      refine hl.mono ?_
      rintro e w4 ⟨hb4, hres⟩
      have HB5 := Lib.hid (HB4.out.trans (hb4.mono HB4.out.size))
      clear hl hb4
      rcases hres with ⟨_, rfl⟩ | ⟨_, _, rfl⟩ | ⟨hok, hcnt, bl, ls, rfl, hlr, _, hfine⟩
      · go_wp2_with fail
        go_ret
        exact ⟨rfl, HB5.out⟩
      · go_wp2_with fail
        go_ret
        exact ⟨rfl, HB5.out⟩
      obtain ⟨p1, p2, _, _⟩ := okB_parts hok
      obtain ⟨m, rfl⟩ : ∃ m : Nat, most = (m : Int) := ⟨most.toNat, by omega⟩
      rw [Int.toNat_natCast] at hfine hcnt
      have HF : Hid (okB zs (m : Int) = true ∧ (come (natsOf zs)).length ≤ 2 ^ m ∧ VRow w4 w4.heap.size (some ⟨bl, 0, none⟩) (ints (intsOf ls)) ∧ Fine zs m ls) := ⟨hok, hcnt, hlr.row, hfine⟩
      rw [HX.out]
      clear hok hcnt hlr hfine
      have HI0 : Hid (IOwn w4 w4.heap.size (.slice none 0 0) (zs.reverse.take 0) ∧ Below w4.heap.size w4 w4) := ⟨IOwn.nil w4, Below.refl _ _⟩
      go_wp2_with fail
      go_loopg [11, 71] l1 (fun kx s11 s71 wr => ∃ (k : Nat), s71 = .int .i64 (k : Int) ∧ k ≤ l1 ∧ l1 - k ≤ kx ∧ Hid (IOwn wr w4.heap.size s11 (zs.reverse.take k) ∧ Below w4.heap.size w4 wr))
      case atStart => exact ⟨0, rfl, by omega, by omega, HI0⟩
      case round =>
        clear HI0
        obtain ⟨k, rfl, hk, hkx, HK⟩ := hrel
        by_cases hlt : k < l1
        · have hkz : (k : Int) < (l1 : Int) := by omega
          obtain ⟨b1, o1, hp1, hbl1⟩ := HR.out.addr (by rw [ints_length, HX.out]; omega)
          subst hp1
          obtain ⟨j, hj⟩ : ∃ j, j = l1 - 1 - k := ⟨_, rfl⟩
          have hB := HB5.out.trans (HK.out.2.mono HB5.out.size)
          have q1 := (hB.cell (p := ⟨b1, o1 + j, none⟩) hbl1).trans (HR.out.intD j (by rw [HX.out]; omega))
          have HS : Hid (zs.reverse.take (k + 1) = zs.reverse.take k ++ [zs.getD j 0]) := by
            show _ = _
            rw [rev_step zs k (by rw [HX.out]; exact hlt), HX.out, ← hj]
          generalize zs.getD j 0 = x at q1 HS
          have wl : IntKind.i64.wrap ((l1 : Int) - 1) = (l1 : Int) - 1 := by rw [IntKind.wrap_i64]; omega
          have wj : IntKind.i64.wrap ((l1 : Int) - 1 - (k : Int)) = (j : Int) := by rw [IntKind.wrap_i64]; omega
          have j1 : (0 : Int) ≤ (j : Int) := by omega
          have j2 : (j : Int) < (l1 : Int) := by omega
          have hlk : (zs.reverse.take k).length ≤ 60 := by rw [List.length_take]; omega
          have hbs : w4.heap.size ≤ (wr.alloc (.cells #[.int .i64 x] 3)).heap.size := by have := HK.out.2.size; simp; omega
          clear hB hj
          go_wp2_with (at_builtin; refine wpList_append_int rfl _ _ rfl w4.heap.size _ (zs.reverse.take k) rfl (HK.out.1.below ((Below.refl _ _).alloc (Nat.le_refl _) _)) _ 1 1 [x] rfl (one_row _ x) rfl (fun h => by cases h) (by omega) hbs ?_; intro v2 w5 ho2 hb2)
          have HNX : Hid (IOwn w5 w4.heap.size v2 (zs.reverse.take (k + 1)) ∧ Below w4.heap.size w4 w5) := by rw [HS.out]; exact ⟨ho2, (HK.out.2.alloc HK.out.2.size _).trans hb2⟩
          clear ho2 hb2
          go_roundg (l1 - (k + 1))
          case measure => omega
          case rel => exact ⟨k + 1, by go_num, by omega, Nat.le_refl _, HNX⟩
        · have hkz : ¬ (k : Int) < (l1 : Int) := by omega
          have hkl : zs.reverse.take k = zs.reverse := List.take_of_length_le (by rw [List.length_reverse, HX.out]; omega)
          have hI := HK.out.1
          rw [hkl] at hI
          have HB6 : Hid (Below W.heap.size W wr) := HB5.out.trans (HK.out.2.mono HB5.out.size)
          have HROW : Hid (VRow wr wr.heap.size (some ⟨bl, 0, none⟩) (ints (intsOf ls))) := (HF.out.2.2.1.below HK.out.2 (Nat.le_refl _)).mono HK.out.2.size
          obtain ⟨q, c, hu, hq0, hqc, hqm, hqr⟩ := hI.shape
          subst hu
          have hrl : zs.reverse.length = l1 := by rw [List.length_reverse]; exact HX.out
          have HQR := Lib.hid hqr
          have hlb := lengths_ok q l1 c m zs.reverse wr hqr hrl (by rw [okB_rev]; exact HF.out.1) (by rw [(come_rev zs).length_eq]; exact HF.out.2.1)
          have HRL := Lib.hid hrl
          rw [hrl]
          clear hkl hI hq0 hqc hqm hqr hrl HK
          go_wp2_with fail
          refine hlb.mono ?_
          rintro e w5 ⟨hb5, bm, ms, rfl, hmr, hmf⟩
          rw [HRL.out]
          have HB7 : Hid (Below W.heap.size W w5) := HB6.out.trans (hb5.mono HB6.out.size)
          have HROW5 : Hid (VRow w5 w5.heap.size (some ⟨bl, 0, none⟩) (ints (intsOf ls))) := (HROW.out.below hb5 (Nat.le_refl _)).mono hb5.size
          have hcb := cost_fine q l1 c bm m zs.reverse ms w5 ((HQR.out.below hb5 (Nat.le_refl _)).mono hb5.size) HRL.out hmr hmf (by rw [okB_rev]; exact HF.out.1) l1
          rw [kost_rev HF.out.2.2.2 hmf] at hcb
          obtain ⟨c0, hc0⟩ : ∃ c0, c0 = kost zs ls := ⟨_, rfl⟩
          have HC0 := Lib.hid hc0
          rw [← hc0] at hcb
          clear hlb hb5 hmr hmf hc0
          go_wp2_with fail
          refine hcb.mono ?_
          rintro e w6 ⟨rfl, hb6⟩
          have HB8 : Hid (Below W.heap.size W w6) := HB7.out.trans (hb6.mono HB7.out.size)
          have HROW6 : Hid (VRow w6 w6.heap.size (some ⟨bl, 0, none⟩) (ints (intsOf ls))) := (HROW5.out.below hb6 (Nat.le_refl _)).mono hb6.size
          have hca := cost_fine a1 l1 c1 bl m zs ls w6 ((HR.out.below HB8.out (Nat.le_refl _)).mono HB8.out.size) HX.out HROW6.out HF.out.2.2.2 HF.out.1 l1
          rw [← HC0.out] at hca
          clear hcb hb6
          go_wp2_with fail
          refine hca.mono ?_
          rintro e w7 ⟨rfl, hb7⟩
          have HB9 : Hid (Below W.heap.size W w7) := HB8.out.trans (hb7.mono HB8.out.size)
          have HROW7 : Hid (VRow w7 w7.heap.size (some ⟨bl, 0, none⟩) (ints (intsOf ls))) := (HROW6.out.below hb7 (Nat.le_refl _)).mono hb7.size
          clear hca hb7
          have hcc : ((c0 : Int) != (c0 : Int)) = false := by simp
          have wm : IntKind.i64.wrap ((m : Int) + 1) = ((m + 1 : Nat) : Int) := by rw [IntKind.wrap_i64]; omega
          obtain ⟨m1, hm1⟩ : ∃ m1, m1 = m + 1 := ⟨_, rfl⟩
          have HM1 := Lib.hid hm1
          rw [← hm1] at wm
          by_cases h30 : m = 30
          · have hd3 : ((m : Int) == 30) = true := by rw [h30]; rfl
            have hl2 := lengths_any a1 l1 c1 (m1 : Int) zs w7 ((HR.out.below HB9.out (Nat.le_refl _)).mono HB9.out.size) HX.out
            have HTOP : Hid (okB zs (m1 : Int) = false) := by show _ = _; rw [hm1, h30]; exact okB_top zs
            clear hm1 h30
            go_wp2_with fail
            refine hl2.mono ?_
            rintro e w8 ⟨hb8, hres⟩
            have HB10 : Hid (Below W.heap.size W w8) := HB9.out.trans (hb8.mono HB9.out.size)
            rcases hres with ⟨_, rfl⟩ | ⟨h9, _⟩ | ⟨h9, _⟩
            · clear hl2 hb8
              go_wp2_with fail
              go_ret
              exact ⟨rfl, HB10.out⟩
            · rw [HTOP.out] at h9; cases h9
            · rw [HTOP.out] at h9; cases h9
          · have hd3 : ((m : Int) == 30) = false := beq_eq_false_iff_ne.2 (by omega)
            have hok2 : okB zs (m1 : Int) = true := by rw [hm1]; exact okB_more HF.out.1 h30
            have hl2 := lengths_ok a1 l1 c1 m1 zs w7 ((HR.out.below HB9.out (Nat.le_refl _)).mono HB9.out.size) HX.out hok2 (by rw [hm1, Nat.pow_succ]; have := HF.out.2.1; omega)
            have HOK2 := Lib.hid hok2
            clear hm1 h30 hok2
            go_wp2_with fail
            refine hl2.mono ?_
            rintro e w8 ⟨hb8, bk, ks, rfl, hkr, hkf⟩
            have HB10 : Hid (Below W.heap.size W w8) := HB9.out.trans (hb8.mono HB9.out.size)
            have HROW8 : Hid (VRow w8 w8.heap.size (some ⟨bl, 0, none⟩) (ints (intsOf ls))) := (HROW7.out.below hb8 (Nat.le_refl _)).mono hb8.size
            have hck := cost_fine a1 l1 c1 bk m1 zs ks w8 ((HR.out.below HB10.out (Nat.le_refl _)).mono HB10.out.size) HX.out hkr hkf HOK2.out l1
            have hle : kost zs ks ≤ c0 := by
              have h9 := hkf
              rw [HM1.out] at h9
              rw [HC0.out]
              exact kost_more HF.out.2.2.2 h9
            rw [HX.out]
            clear hl2 hb8 hkr hkf
            generalize kost zs ks = c9 at hck hle
            have hd4 : decide ((c9 : Int) ≤ (c0 : Int)) = true := decide_eq_true (by omega)
            go_wp2_with fail
            refine hck.mono ?_
            rintro e w9 ⟨rfl, hb9⟩
            have HB11 : Hid (Below W.heap.size W w9) := HB10.out.trans (hb9.mono HB10.out.size)
            have HROW9 : Hid (VRow w9 w9.heap.size (some ⟨bl, 0, none⟩) (ints (intsOf ls))) := (HROW8.out.below hb9 (Nat.le_refl _)).mono hb9.size
            have hcl := cost_fine a1 l1 c1 bl m zs ls w9 ((HR.out.below HB11.out (Nat.le_refl _)).mono HB11.out.size) HX.out HROW9.out HF.out.2.2.2 HF.out.1 l1
            rw [← HC0.out] at hcl
            clear hck hb9
            go_wp2_with fail
            refine hcl.mono ?_
            rintro e w10 ⟨rfl, hb10⟩
            have HB12 : Hid (Below W.heap.size W w10) := HB11.out.trans (hb10.mono HB11.out.size)
            clear hcl hb10
            go_wp2_with fail
            go_ret
            exact ⟨rfl, HB12.out⟩
end Go.Proofs.Ytefniglinligeaa.Lp


/- The walk of GthreeAgain. -/
import Derived.Test.YtidicajedckaoaaDoorGtH
import Derived.Laws.AppendOwnNone
import Derived.Laws.AppendOwn
import Derived.BigQuiet
namespace Go.Proofs.YtidicajedckaoaaDoor.Gt
open Go.RowKit Go.Proofs.YtidicajedckaoaaDoor.Oct Go.Proofs.YtidicajedckaoaaDoor.Bit
open Go.Proofs.YtidicajedckaoaaDoor.Fx (Tab TrueT)
open Go.Proofs.YtidicajedckaoaaDoor.Mh (vrow_far DecP EncP Tbl Rws Txs txt IsBytess same_in)
open Go.Proofs.YtidicajedckaoaaDoor.Rn (changes zl zl_length Valid changes_valid)
open Go.Proofs.YtidicajedckaoaaDoor.Lp (VRow ints ints_length)
set_option linter.unusedVariables false
set_option linter.unusedSimpArgs false
set_option maxRecDepth 100000

/-- a page that is told is read, two bytes ahead of it, others behind -/
theorem page_back {two al ends : Bool} {ev wd : Nat} (h0 : 0 < wd) (Xs : List (List Bool)) (a : List UInt8) (hl : ∀ X ∈ Xs, X.length = wd) :
    readB two (bitsOf false (([0, 0] ++ packB false (pageG two al ends ev wd Xs)) ++ a)) wd Xs.length 0 (List.replicate wd false) [] = .ok Xs := by
  obtain ⟨t, ht⟩ := pageG_more two al ends ev wd Xs
  rw [readB_nil, bitsOf_append, bitsOf_append, bitsOf_packB, ht, show bitsOf false [0, 0] = List.replicate 16 false from by decide +kernel]
  have h := page_read (two := two) (aligned := al) (every := ev) h0 Xs 16 (t ++ zs (8 * (((rowsF two al ev wd 0 (List.replicate wd false) Xs [] ++ t).length + 7) / 8) - (rowsF two al ev wd 0 (List.replicate wd false) Xs [] ++ t).length) ++ bitsOf false a) hl
  rw [← h]
  congr 1
  simp only [List.append_assoc]
/-- append, at a step of a region that draws its order -/
theorem step_bytes {w : World} {ops : Array Oper} {o : Oper} {a : Act} {K : Act → World → Prop} {Q : Exit → Act → World → Prop} {E : Prop} (hgd : o.guard = none) (s x : Operand)
    (ho : o.op = .call { callee := .builtin .append, args := #[s, x], argTypes := #[31, 31] })
    (base : Nat) (v : Value) (n : Nat) (ys : List UInt8) (hs : a.eval s = v) (hown : w.ownsRow base 5 1 v n (cellsOf ys)) (hv : v ≠ .slice none 0 0)
    (p : Option Addr) (m c : Nat) (xs : List UInt8) (hx : a.eval x = .slice p m c) (hr : Row w p xs) (hxm : xs.length = m) (hc0 : p = none → c = 0)
    (h47 : n + m ≤ 140737488355328) (hbase : base ≤ w.heap.size) (N : Nat) (zs : List UInt8) (hN : n + m = N) (hzs : ys ++ xs = zs)
    (h : ∀ g c' w', N ≤ c' → w'.ownsRow base 5 1 (.slice (some ⟨g, 0, none⟩) N c') N (cellsOf zs) → w.grownBy w' v.ownBlock → g < w'.heap.size → Row w' (some ⟨g, 0, none⟩) zs → K (a.put o.dst (.slice (some ⟨g, 0, none⟩) N c')) w') :
    if Region.wanted o (yielded ops a.tmps) = true then Oper.wp Tryd.prog o a w K Q else E := by
  have hw : Region.wanted o (yielded ops a.tmps) = true := by simp [Region.wanted, hgd]
  rw [if_pos hw]
  subst hN hzs
  obtain ⟨i0, hi, hz0, hz1, hz2⟩ := info_parts Tryd.infoByte
  have key : ∀ v' w', w'.ownsRow base 5 1 v' (n + m) (cellsOf (ys ++ xs)) → w.grownBy w' v.ownBlock → v' ≠ .slice none 0 0 → K (a.put o.dst v') w' := fun v' w' h1 h2 h3 => by
    obtain ⟨g, c', rfl, q1, q2, q3, q4, q5⟩ := own_form h1 h3
    exact h g c' w' q1 h1 h2 q4 q5
  rcases p with _ | ad
  · have hxs : xs = [] := by
      rcases xs with _ | ⟨x, xs⟩
      · rfl
      · obtain ⟨b, off, he, _⟩ := hr (by simp)
        cases he
    subst hxs
    simp at hxm
    subst hxm
    have := hc0 rfl
    subst this
    have hrun := run_append_owned_none (P := Tryd.prog) (w := w) base 31 o.type 5 i0 1 Tryd.underlying31 hi v n (cellsOf ys) hown
    unfold Oper.wp
    simp [execOp, ho, resolve, invoke, builtin, hs, hx, hrun, Result.andThen]
    exact key v w (by simpa using hown) (World.grownBy.refl w _) hv
  · refine wp_append_own w s x 31 ho base 5 i0 (.int .u8 0) 1 1 Tryd.underlying31 hi hz0 hz1 hz2 rfl (by decide) v n (cellsOf ys) hs hown ad m c (cellsOf xs) hx (by simp [cellsOf_length, hxm]) ?_ cellsOf_one (by unfold maxLen; omega) (by omega) hbase ?_
    · intro j u hj
      obtain ⟨hj', rfl⟩ := cellsOf_get hj
      obtain ⟨b, off, he, _, hc⟩ := hr (by omega)
      replace he := Option.some.inj he
      subst he
      rw [add_plain]
      exact hc j hj'
    · intro v' w' h2 h3 h4
      exact key v' w' (by rw [cellsOf_append]; exact h2) h3 (fun e => hv (h4.1 e).1)
theorem own_two (w : World) (base : Nat) (a b : UInt8) (hb : base ≤ w.heap.size) : (w.alloc (.cells #[.int .u8 (a.toNat : Int), .int .u8 (b.toNat : Int)] 5)).ownsRow base 5 1 (.slice (some ⟨w.heap.size, 0, none⟩) 2 2) 2 (cellsOf [a, b]) :=
  ⟨rfl, .inr ⟨w.heap.size, 2, (cellsOf [a, b]).toArray, rfl, hb, Array.getElem?_push_size, by omega, by unfold maxLen; omega, rfl, rfl⟩⟩
theorem row_two (w : World) (a b : UInt8) : Row (w.alloc (.cells #[.int .u8 (a.toNat : Int), .int .u8 (b.toNat : Int)] 5)) (some ⟨w.heap.size, 0, none⟩) [a, b] := fun _ => ⟨w.heap.size, 0, rfl, by simp, fun i hi => by
  rcases (show i = 0 ∨ i = 1 by simp at hi; omega) with rfl | rfl <;> simp⟩
theorem row_grown {w w' : World} {g g0 : Nat} {xs : List UInt8} (h : Row w (some ⟨g, 0, none⟩) xs) (hg : w.grownBy w' (some g0)) (hne : g ≠ g0) : Row w' (some ⟨g, 0, none⟩) xs := fun h0 => by
  obtain ⟨b, off, e, hb, hc⟩ := h h0
  refine ⟨b, off, e, Nat.lt_of_lt_of_le hb hg.size, fun i hi => ?_⟩
  rw [← hc i hi]
  injection e with e
  injection e with e1 e2 _
  subst e1
  exact World.cell?_of_block (w := w) (hg.block g hb (fun e => hne (Option.some.inj e)))
theorem cut9 {goal : Prop} (H : Nat → Nat → Nat → Nat → Nat → Nat → Option Addr → Nat → World → Prop) (G : Nat → Nat → Nat → Nat → Nat → Nat → Option Addr → Nat → World → Prop) (main : (∀ a b c d e f q k W, H a b c d e f q k W → G a b c d e f q k W) → goal) (key : ∀ a b c d e f q k W, H a b c d e f q k W → G a b c d e f q k W) : goal := main key
set_option maxHeartbeats 16000000 in
theorem again_walk (p : Option Addr) (len cap : Nat) (z : Int) (two : Bool) (every : Int) (al ends : Bool) (w : World) (hT : Tab w) (hbs : IsBytess w p len cap) :
    Calls Tryd.prog 3 #[.slice p len cap, .int .i64 z, .agg #[.bool two, .int .i64 every, .bool al, .bool ends]] w fun e w' => e = .returned (.bool true) ∧ Below w.heap.size w w' := by
  have HT := Lib.hid hT
  have HBS := Lib.hid hbs
  obtain ⟨w0, hw0⟩ : ∃ w0, w0 = w.alloc (.cells #[.bool two, .int .i64 every, .bool al, .bool ends] 24) := ⟨_, rfl⟩
  have hbx0 : BxO w0 w.heap.size every two al ends := by rw [hw0]; exact bxO_new w every two al ends
  have hb0 : Below w.heap.size w w0 := by rw [hw0]; exact alloc_below w _
  have HB0 := Lib.hid hb0
  have HBX0 := Lib.hid hbx0
  have HT0 := Lib.hid (hT.below hb0 hT.lt)
  have HW0 := Lib.hid hw0
  obtain ⟨rg, hrg⟩ : ∃ rg, rg = (decide (1 ≤ every) || !two) := ⟨_, rfl⟩
  have HRT : Hid (∀ W, Calls Tryd.prog 5 #[.agg #[.bool two, .int .i64 every, .bool al, .bool ends]] W fun e w' => e = .returned (.bool rg) ∧ Below W.heap.size W w') := Lib.hid (fun W => by rw [hrg]; exact right_any two al ends every W)
  have HRG := Lib.hid hrg
  clear hT hbs hbx0 hb0 hw0 hrg
  by_cases hbad : 20 < len ∨ z < 1 ∨ 300 < z ∨ rg = false
  · have hways : decide (20 < (len : Int)) = true ∨ (decide (20 < (len : Int)) = false ∧ (decide (z < 1) = true ∨ (decide (z < 1) = false ∧ (decide (300 < z) = true ∨ (decide (300 < z) = false ∧ rg = false))))) := by
      by_cases h1 : 20 < len
      · left; simp; omega
      · right
        refine ⟨by simp; omega, ?_⟩
        by_cases h2 : z < 1
        · left; simpa using h2
        · right
          refine ⟨by simp; omega, ?_⟩
          by_cases h3 : 300 < z
          · left; simpa using h3
          · right
            refine ⟨by simp; omega, ?_⟩
            rcases hbad with h | h | h | h
            · exact absurd h h1
            · exact absurd h h2
            · exact absurd h h3
            · exact h
    clear hbad
    rcases hways with q1 | ⟨q1, q2 | ⟨q2, q3 | ⟨q3, q4⟩⟩⟩
    iterate 3
      (go_enter Tryd.func3, Tryd.ntmps3
       go_wp2_with fail
       rw [← HW0.out]
       refine (lives_any w0 HT0.out).mono ?_
       rintro e w1 ⟨rfl, hb1⟩
       have HB1 := Lib.hid (HB0.out.trans (hb1.mono HB0.out.size))
       have HT1 := Lib.hid (HT0.out.below hb1 HT0.out.lt)
       clear hb1
       go_wp2_with fail
       refine (lives_any w1 HT1.out).mono ?_
       rintro e w2 ⟨rfl, hb2⟩
       have HB2 := Lib.hid (HB1.out.trans (hb2.mono HB1.out.size))
       clear hb2
       go_wp2_with fail
       go_ret
       exact ⟨rfl, HB2.out⟩)
    subst q4
    go_enter Tryd.func3, Tryd.ntmps3
    go_wp2_with fail
    rw [← HW0.out]
    refine (lives_any w0 HT0.out).mono ?_
    rintro e w1 ⟨rfl, hb1⟩
    obtain ⟨b0, b1, b2, b3⟩ := (HBX0.out.below hb1 HBX0.out.lt).cells
    have HB1 := Lib.hid (HB0.out.trans (hb1.mono HB0.out.size))
    have HT1 := Lib.hid (HT0.out.below hb1 HT0.out.lt)
    clear hb1
    go_wp2_with fail
    refine (HRT.out w1).mono ?_
    rintro e w2 ⟨rfl, hb2⟩
    have HT2 := Lib.hid (HT1.out.below hb2 HT1.out.lt)
    have HB2 := Lib.hid (HB1.out.trans (hb2.mono HB1.out.size))
    clear hb2
    go_wp2_with fail
    refine (lives_any w2 HT2.out).mono ?_
    rintro e w3 ⟨rfl, hb3⟩
    have HB3 := Lib.hid (HB2.out.trans (hb3.mono HB2.out.size))
    clear hb3
    go_wp2_with fail
    go_ret
    exact ⟨rfl, HB3.out⟩
  · obtain ⟨wd, rfl⟩ : ∃ n : Nat, z = (n : Int) := ⟨z.toNat, by omega⟩
    obtain rfl : rg = true := by
      cases rg
      · exact absurd (.inr (.inr (.inr rfl))) hbad
      · rfl
    have q1 : decide (20 < (len : Int)) = false := by simp; omega
    have q2 : decide ((wd : Int) < 1) = false := by simp; omega
    have q3 : decide (300 < (wd : Int)) = false := by simp; omega
    have hl20 : len ≤ 20 := by omega
    have h1 : 1 ≤ wd := by omega
    have hn300 : wd ≤ 300 := by omega
    have hev : two = true → 1 ≤ every := fun e => by
      have h := HRG.out
      rw [e] at h
      simpa using h.symm
    have HEV := Lib.hid hev
    clear hbad hev
    go_enter Tryd.func3, Tryd.ntmps3
    go_wp2_with fail
    rw [← HW0.out]
    refine (lives_any w0 HT0.out).mono ?_
    rintro e w1 ⟨rfl, hb1⟩
    have hbx1 := HBX0.out.below hb1 HBX0.out.lt
    obtain ⟨b0, b1, b2, b3⟩ := hbx1.cells
    have HBX1 := Lib.hid hbx1
    have HB1 := Lib.hid (HB0.out.trans (hb1.mono HB0.out.size))
    have HT1 := Lib.hid (HT0.out.below hb1 HT0.out.lt)
    obtain ⟨go, hgo⟩ : ∃ go, go = w.heap.size := ⟨_, rfl⟩
    rw [← hgo] at HBX1 b0 b1 b2 b3 ⊢
    have HGE := Lib.hid hgo
    clear hb1 hbx1 hgo
    go_wp2_with fail
    refine (HRT.out w1).mono ?_
    rintro e w2 ⟨rfl, hb2⟩
    have hbx2 := HBX1.out.below hb2 HBX1.out.lt
    have HBX2 := Lib.hid hbx2
    have HT2 := Lib.hid (HT1.out.below hb2 HT1.out.lt)
    have HB2 := Lib.hid (HB1.out.trans (hb2.mono HB1.out.size))
    clear hb2 hbx2 b0 b1 b2 b3
    have hbs2 : IsBytess w2 p len cap := by
      obtain ⟨x1, x2, x3⟩ := HBS.out
      refine ⟨x1, x2, fun h0 => ?_⟩
      obtain ⟨b, off, e, hb, hc⟩ := x3 h0
      refine ⟨b, off, e, Nat.lt_of_lt_of_le hb HB2.out.size, fun i hi => ?_⟩
      obtain ⟨q, l, c, xs, y1, y2, y3, y4⟩ := hc i hi
      exact ⟨q, l, c, xs, (HB2.out.cell (p := ⟨b, off + i, none⟩) hb).trans y1, y2, y3.below HB2.out, y4⟩
    have HTX := Lib.hid (texts_any w2 p len cap wd hbs2 hl20 hn300)
    clear hbs2
    go_wp2_with fail
    refine HTX.out.mono ?_
    rintro e w3 ⟨hb3, hres⟩
    have hbx3 := HBX2.out.below hb3 HBX2.out.lt
    have HBX3 := Lib.hid hbx3
    have HT3 := Lib.hid (HT2.out.below hb3 HT2.out.lt)
    have HB3 := Lib.hid (HB2.out.trans (hb3.mono HB2.out.size))
    clear hb3 hbx3 HTX
    rcases hres with rfl | ⟨Xs, qs, ql, cs, cl, rfl, hXl, hXw, hts, htl⟩
    · go_wp2_with fail
      go_ret
      exact ⟨rfl, HB3.out⟩
    · have HXL := Lib.hid hXl
      have HXW := Lib.hid hXw
      have HTL := Lib.hid htl
      obtain ⟨b0, b1, b2, b3⟩ := HBX3.out.cells
      have HEN := Lib.hid (gencode_any w3 HT3.out ql len cl Xs wd every two al ends htl hXl hl20 hXw h1 (by omega) HEV.out)
      clear hXl hXw hts htl
      go_wp2_with fail
      refine HEN.out.mono ?_
      rintro e w6 ⟨hb6, q1, cc1, rfl, hr6, hn6, hc6⟩
      have hbx6 := HBX3.out.below hb6 HBX3.out.lt
      have HBX := Lib.hid hbx6
      have hgo6 := hbx6.lt
      have HGO := Lib.hid hgo6
      have HT6 := Lib.hid (HT3.out.below hb6 HT3.out.lt)
      have HB6 := Lib.hid (HB3.out.trans (hb6.mono HB3.out.size))
      have HTL6 := Lib.hid (HTL.out.below hb6)
      have HZ36 := Lib.hid hb6.size
      have hpl := pageG_len (two := two) (aligned := al) (ends := ends) (every := every.toNat) HXW.out (by omega : wd ≤ 400) (by rw [HXL.out]; exact hl20)
      have HPB := Lib.hid (page_back (two := two) (al := al) (ends := ends) (ev := every.toNat) h1 Xs [3, 4] HXW.out)
      rw [HXL.out] at HPB
      have hbl : (packB false (pageG two al ends every.toNat wd Xs)).length ≤ 300000 := by rw [packB_length]; omega
      obtain ⟨BT, hBT⟩ : ∃ BT, BT = packB false (pageG two al ends every.toNat wd Xs) := ⟨_, rfl⟩
      rw [← hBT] at hr6 hc6 hbl HPB ⊢
      obtain ⟨m1, hm1⟩ : ∃ m1, m1 = BT.length := ⟨_, rfl⟩
      rw [← hm1] at hc6 hbl ⊢
      have HRB := Lib.hid hr6
      have HM1 := Lib.hid hm1.symm
      have HN1 := Lib.hid hn6
      obtain ⟨N1, hN1⟩ : ∃ N1, 2 + m1 = N1 := ⟨_, rfl⟩
      obtain ⟨N2, hN2⟩ : ∃ N2, N1 + 2 = N2 := ⟨_, rfl⟩
      have hN1b : N1 ≤ 300010 := by omega
      have hN2b : N2 ≤ 300020 := by omega
      have HNN1 := Lib.hid hN1
      have HNN2 := Lib.hid hN2
      have HZL : Hid ((([0, 0] ++ BT) ++ [3, 4]).length = N2) := Lib.hid (by rw [List.length_append, List.length_append, ← hN2, ← hN1, hm1]; rfl)
      clear hb6 hbx6 hgo6 hr6 hn6 hc6 hpl hBT hm1 hN1 hN2 b0 b1 b2 b3 HEN
      go_wp2_with fail
      apply cut9 (H := fun g0 g1 c1 g2 g3 c3 q9 c9 W => Hid (Below w6.heap.size w6 W ∧ Tbl W W.heap.size q9 (Xs.map changes)))
      case main =>
        intro KEY
        have k0 := (HBX.out.below (drew_below w6) HGO.out).cells.1
        refine wp_region_held_drew (S := fun W => W.cell? ⟨go, 0, none⟩ = some (.bool two)) (by kernel_rfl) k0 (fun hHeld => ?_)
        clear k0
        have HBWwz : Hid (Below w6.heap.size w6 w6.drew) := Lib.hid (drew_below w6)
        refine wpAnyH_take (i := 1) (v := ?v1) rfl (by kernel_rfl) (by kernel_rfl) (by kernel_rfl) (fun _ _ _ h => h) (Or.inl ⟨by rfl, fun w hSw => ?y1⟩) hHeld ?r1
        case y1 => (try dsimp only at hSw); first | (go_simp; done) | (go_simp; with_reducible rfl)
        try simp only [Act.put, List.setIfInBounds_toArray, List.set_cons_zero, List.set_cons_succ, List.getElem_toArray, List.getElem_cons_zero, List.getElem_cons_succ]
        refine wpAnyH_take (i := 5) (v := ?v2) rfl (by kernel_rfl) (by kernel_rfl) (by kernel_rfl) (fun _ _ _ h => h) (Or.inl ⟨by rfl, fun w hSw => ?y2⟩) hHeld ?r2
        case y2 => (try dsimp only at hSw); first | (go_simp; done) | (go_simp; with_reducible rfl)
        try simp only [Act.put, List.setIfInBounds_toArray, List.set_cons_zero, List.set_cons_succ, List.getElem_toArray, List.getElem_cons_zero, List.getElem_cons_succ]
        refine wpAnyH_take (i := 6) (v := ?v3) rfl (by kernel_rfl) (by kernel_rfl) (by kernel_rfl) (fun _ _ _ h => h) (Or.inl ⟨by rfl, fun w hSw => ?y3⟩) hHeld ?r3
        case y3 => (try dsimp only at hSw); first | (go_simp; done) | (go_simp; with_reducible rfl)
        try simp only [Act.put, List.setIfInBounds_toArray, List.set_cons_zero, List.set_cons_succ, List.getElem_toArray, List.getElem_cons_zero, List.getElem_cons_succ]
        refine wpAnyH_take (i := 7) (v := ?v4) rfl (by kernel_rfl) (by kernel_rfl) (by kernel_rfl) (fun _ _ _ h => h) (Or.inl ⟨by rfl, fun w hSw => ?y4⟩) hHeld ?r4
        case y4 => (try dsimp only at hSw); first | (go_simp; done) | (go_simp; with_reducible rfl)
        try simp only [Act.put, List.setIfInBounds_toArray, List.set_cons_zero, List.set_cons_succ, List.getElem_toArray, List.getElem_cons_zero, List.getElem_cons_succ]
        refine wpAnyH_take (i := 8) (v := ?v5) rfl (by kernel_rfl) (by kernel_rfl) (by kernel_rfl) (fun _ _ _ h => h) (Or.inl ⟨by rfl, fun w hSw => ?y5⟩) hHeld ?r5
        case y5 => (try dsimp only at hSw); first | (go_simp; done) | (go_simp; with_reducible rfl)
        try simp only [Act.put, List.setIfInBounds_toArray, List.set_cons_zero, List.set_cons_succ, List.getElem_toArray, List.getElem_cons_zero, List.getElem_cons_succ]
        refine wpAnyH_take (i := 9) (v := ?v6) rfl (by kernel_rfl) (by kernel_rfl) (by kernel_rfl) (fun _ _ _ h => h) (Or.inl ⟨by rfl, fun w hSw => ?y6⟩) hHeld ?r6
        case y6 => (try dsimp only at hSw); first | (go_simp; done) | (go_simp; with_reducible rfl)
        try simp only [Act.put, List.setIfInBounds_toArray, List.set_cons_zero, List.set_cons_succ, List.getElem_toArray, List.getElem_cons_zero, List.getElem_cons_succ]
        refine wpAnyH_ready (rs := [0, 3]) (by kernel_rfl) (by simp) ?_
        refine AllReadyH.cons rfl (fun K hK => ?_) ?_
        · go_simp
          obtain ⟨wa, hqq⟩ : ∃ X, X = (w6.alloc (.cells #[.int .u8 0, .int .u8 0] 5)).drew := ⟨_, rfl⟩
          obtain ⟨g0, hg0⟩ : ∃ g, g = w6.heap.size := ⟨_, rfl⟩
          have hoo : wa.ownsRow w6.heap.size 5 1 (.slice (some ⟨g0, 0, none⟩) 2 2) 2 (cellsOf [0, 0]) := by rw [hqq, hg0]; exact own_two w6.drew w6.heap.size 0 0 HBWwz.out.size
          have hrr : Row wa (some ⟨g0, 0, none⟩) [0, 0] := by rw [hqq, hg0]; exact row_two w6.drew 0 0
          have hbb : Below w6.heap.size w6.drew wa := by rw [hqq]; exact alloc_below w6.drew _
          have hzz : wa.heap.size = w6.heap.size + 1 := by rw [hqq]; exact alloc_size w6.drew _
          rw [← hqq]
          try rw [show w6.drew.heap.size = w6.heap.size from rfl]
          try rw [← hg0]
          have HOg0 := Lib.hid hoo
          have HRg0 := Lib.hid hrr
          have HBwa := Lib.hid hbb
          have HZwa := Lib.hid hzz
          have HGg0 := Lib.hid hg0
          have HBWwa : Hid (Below w6.heap.size w6 wa) := Lib.hid (HBWwz.out.trans (hbb.mono HBWwz.out.size))
          clear hqq hoo hrr hbb hzz hg0
          refine hK.out _ _ (HBX.out.below HBWwa.out HGO.out).cells.1 (fun hHelda => ?_)
          clear hK K
          try simp only [Act.put, List.setIfInBounds_toArray, List.set_cons_zero, List.set_cons_succ, List.getElem_toArray, List.getElem_cons_zero, List.getElem_cons_succ]
          refine wpAnyH_ready (rs := [2, 3]) (by kernel_rfl) (by simp) ?_
          refine AllReadyH.cons rfl (fun K hK => ?_) ?_
          · have HOA := HOg0
            refine step_bytes rfl _ _ rfl w6.heap.size _ 2 [0, 0] rfl HOA.out (fun h => by cases h) q1 m1 cc1 BT rfl (HRB.out.below HBWwa.out) HM1.out HN1.out (by omega) HBWwa.out.size N1 ([0, 0] ++ BT) HNN1.out rfl ?_
            intro g1 c1 wb hc1 ho1 hgr1 hg1 hr1
            have HBWwb : Hid (Below w6.heap.size w6 wb) := Lib.hid (HBWwa.out.trans (grown_below HOA.out hgr1 HBWwa.out.size))
            have HO1 := Lib.hid ho1
            have HGR1 := Lib.hid hgr1
            have HC1 := Lib.hid hc1
            clear ho1 hgr1 hg1 hr1 hc1
            refine hK.out _ _ (HBX.out.below HBWwb.out HGO.out).cells.1 (fun hHeldb => ?_)
            clear hK K
            try simp only [Act.put, List.setIfInBounds_toArray, List.set_cons_zero, List.set_cons_succ, List.getElem_toArray, List.getElem_cons_zero, List.getElem_cons_succ]
            refine wpAnyH_ready (rs := [3]) (by kernel_rfl) (by simp) ?_
            refine AllReadyH.cons rfl (fun K hK => ?_) AllReadyH.nil
            go_simp
            obtain ⟨wc, hqq⟩ : ∃ X, X = (wb.alloc (.cells #[.int .u8 3, .int .u8 4] 5)) := ⟨_, rfl⟩
            obtain ⟨g2, hg0⟩ : ∃ g, g = wb.heap.size := ⟨_, rfl⟩
            have hoo : wc.ownsRow w6.heap.size 5 1 (.slice (some ⟨g2, 0, none⟩) 2 2) 2 (cellsOf [3, 4]) := by rw [hqq, hg0]; exact own_two wb w6.heap.size 3 4 HBWwb.out.size
            have hrr : Row wc (some ⟨g2, 0, none⟩) [3, 4] := by rw [hqq, hg0]; exact row_two wb 3 4
            have hbb : Below wb.heap.size wb wc := by rw [hqq]; exact alloc_below wb _
            have hzz : wc.heap.size = wb.heap.size + 1 := by rw [hqq]; exact alloc_size wb _
            rw [← hqq]
            try rw [← hg0]
            have HOg2 := Lib.hid hoo
            have HRg2 := Lib.hid hrr
            have HBwc := Lib.hid hbb
            have HZwc := Lib.hid hzz
            have HGg2 := Lib.hid hg0
            have HBWwc : Hid (Below w6.heap.size w6 wc) := Lib.hid (HBWwb.out.trans (hbb.mono HBWwb.out.size))
            clear hqq hoo hrr hbb hzz hg0
            refine hK.out _ _ (HBX.out.below HBWwc.out HGO.out).cells.1 (fun hHeldc => ?_)
            clear hK K
            try simp only [Act.put, List.setIfInBounds_toArray, List.set_cons_zero, List.set_cons_succ, List.getElem_toArray, List.getElem_cons_zero, List.getElem_cons_succ]
            have HOC := Lib.hid (own_below HO1.out HBwc.out)
            have HRD := HRg2
            refine wpAnyH_ready (rs := [4]) (by kernel_rfl) (by simp) ?_
            refine AllReadyH.cons rfl (fun K hK => ?_) AllReadyH.nil
            refine step_bytes rfl _ _ rfl w6.heap.size _ N1 ([0, 0] ++ BT) rfl HOC.out (fun h => by cases h) (some ⟨g2, 0, none⟩) 2 2 [3, 4] rfl HRD.out rfl (fun h => by cases h) (by omega) HBWwc.out.size N2 (([0, 0] ++ BT) ++ [3, 4]) HNN2.out rfl ?_
            intro g3 c3 we hc3 ho3 hgr3 hg3 hr3
            have HBWwe : Hid (Below w6.heap.size w6 we) := Lib.hid (HBWwc.out.trans (grown_below HOC.out hgr3 HBWwc.out.size))
            have HR3 := Lib.hid hr3
            clear ho3 hgr3 hg3 hr3 hc3
            refine hK.out _ _ (HBX.out.below HBWwe.out HGO.out).cells.1 (fun hHelde => ?_)
            clear hK K
            try simp only [Act.put, List.setIfInBounds_toArray, List.set_cons_zero, List.set_cons_succ, List.getElem_toArray, List.getElem_cons_zero, List.getElem_cons_succ]
            refine wpAnyH_ready (rs := [10]) (by kernel_rfl) (by simp) ?_
            refine AllReadyH.cons rfl (fun K hK => ?_) AllReadyH.nil
            go_simp
            refine (gdecode_any we (HT6.out.below HBWwe.out HT6.out.lt) (some ⟨g3, 0, none⟩) N2 c3 (([0, 0] ++ BT) ++ [3, 4]) wd len two HR3.out HZL.out (fun h => by cases h) (by omega) h1 (by omega) (by omega)).mono ?_
            rintro e wf ⟨hbd, hres⟩
            rw [HPB.out] at hres
            obtain ⟨q9, c9, rfl, ht9⟩ := hres
            rw [HXL.out]
            have HT9 := Lib.hid ht9
            have HBWwf : Hid (Below w6.heap.size w6 wf) := Lib.hid (HBWwe.out.trans (hbd.mono HBWwe.out.size))
            clear hbd ht9
            go_wp2_with fail
            refine hK.out _ _ (HBX.out.below HBWwf.out HGO.out).cells.1 (fun hHeldD => ?_)
            clear hK K
            try simp only [Act.put, List.setIfInBounds_toArray, List.set_cons_zero, List.set_cons_succ, List.getElem_toArray, List.getElem_cons_zero, List.getElem_cons_succ]
            refine wpAnyH_take (i := 11) (v := ?v7) rfl (by kernel_rfl) (by kernel_rfl) (by kernel_rfl) (fun _ _ _ h => h) (Or.inl ⟨by rfl, fun w hSw => ?y7⟩) hHeldD ?r7
            case y7 => (try dsimp only at hSw); first | (go_simp; done) | (go_simp; with_reducible rfl)
            try simp only [Act.put, List.setIfInBounds_toArray, List.set_cons_zero, List.set_cons_succ, List.getElem_toArray, List.getElem_cons_zero, List.getElem_cons_succ]
            refine wpAnyH_take (i := 12) (v := ?v8) rfl (by kernel_rfl) (by kernel_rfl) (by kernel_rfl) (fun _ _ _ h => h) (Or.inl ⟨by rfl, fun w hSw => ?y8⟩) hHeldD ?r8
            case y8 => (try dsimp only at hSw); first | (go_simp; done) | (go_simp; with_reducible rfl)
            try simp only [Act.put, List.setIfInBounds_toArray, List.set_cons_zero, List.set_cons_succ, List.getElem_toArray, List.getElem_cons_zero, List.getElem_cons_succ]
            refine wpAnyH_take (i := 13) (v := ?v9) rfl (by kernel_rfl) (by kernel_rfl) (by kernel_rfl) (fun _ _ _ h => h) (Or.inl ⟨by rfl, fun w hSw => ?y9⟩) hHeldD ?r9
            case y9 => (try dsimp only at hSw); first | (go_simp; done) | (go_simp; with_reducible rfl)
            try simp only [Act.put, List.setIfInBounds_toArray, List.set_cons_zero, List.set_cons_succ, List.getElem_toArray, List.getElem_cons_zero, List.getElem_cons_succ]
            refine wpAnyH_take (i := 14) (v := ?v10) rfl (by kernel_rfl) (by kernel_rfl) (by kernel_rfl) (fun _ _ _ h => h) (Or.inl ⟨by rfl, fun w hSw => ?y10⟩) hHeldD ?r10
            case y10 => (try dsimp only at hSw); first | (go_simp; done) | (go_simp; with_reducible rfl)
            try simp only [Act.put, List.setIfInBounds_toArray, List.set_cons_zero, List.set_cons_succ, List.getElem_toArray, List.getElem_cons_zero, List.getElem_cons_succ]
            refine wpAnyH_take (i := 15) (v := ?v11) rfl (by kernel_rfl) (by kernel_rfl) (by kernel_rfl) (fun _ _ _ h => h) (Or.inl ⟨by rfl, fun w hSw => ?y11⟩) hHeldD ?r11
            case y11 => (try dsimp only at hSw); first | (go_simp; done) | (go_simp; with_reducible rfl)
            try simp only [Act.put, List.setIfInBounds_toArray, List.set_cons_zero, List.set_cons_succ, List.getElem_toArray, List.getElem_cons_zero, List.getElem_cons_succ]
            refine wpAnyH_done (by kernel_rfl) ?_ _
            exact KEY g0 g1 c1 g2 g3 c3 q9 c9 wf (Lib.hid ⟨HBWwf.out, HT9.out⟩)
          refine AllReadyH.cons rfl (fun K hK => ?_) AllReadyH.nil
          go_simp
          obtain ⟨wb, hqq⟩ : ∃ X, X = (wa.alloc (.cells #[.int .u8 3, .int .u8 4] 5)) := ⟨_, rfl⟩
          obtain ⟨g2, hg0⟩ : ∃ g, g = wa.heap.size := ⟨_, rfl⟩
          have hoo : wb.ownsRow w6.heap.size 5 1 (.slice (some ⟨g2, 0, none⟩) 2 2) 2 (cellsOf [3, 4]) := by rw [hqq, hg0]; exact own_two wa w6.heap.size 3 4 HBWwa.out.size
          have hrr : Row wb (some ⟨g2, 0, none⟩) [3, 4] := by rw [hqq, hg0]; exact row_two wa 3 4
          have hbb : Below wa.heap.size wa wb := by rw [hqq]; exact alloc_below wa _
          have hzz : wb.heap.size = wa.heap.size + 1 := by rw [hqq]; exact alloc_size wa _
          rw [← hqq]
          try rw [← hg0]
          have HOg2 := Lib.hid hoo
          have HRg2 := Lib.hid hrr
          have HBwb := Lib.hid hbb
          have HZwb := Lib.hid hzz
          have HGg2 := Lib.hid hg0
          have HBWwb : Hid (Below w6.heap.size w6 wb) := Lib.hid (HBWwa.out.trans (hbb.mono HBWwa.out.size))
          clear hqq hoo hrr hbb hzz hg0
          refine hK.out _ _ (HBX.out.below HBWwb.out HGO.out).cells.1 (fun hHeldb => ?_)
          clear hK K
          try simp only [Act.put, List.setIfInBounds_toArray, List.set_cons_zero, List.set_cons_succ, List.getElem_toArray, List.getElem_cons_zero, List.getElem_cons_succ]
          have HOA := Lib.hid (own_below HOg0.out HBwb.out)
          have hne : g2 ≠ g0 := by have h1 := HGg0.out; have h2 := HGg2.out; have h3 := HZwa.out; omega
          have HNE := Lib.hid hne
          clear hne
          refine wpAnyH_ready (rs := [2]) (by kernel_rfl) (by simp) ?_
          refine AllReadyH.cons rfl (fun K hK => ?_) AllReadyH.nil
          refine step_bytes rfl _ _ rfl w6.heap.size _ 2 [0, 0] rfl HOA.out (fun h => by cases h) q1 m1 cc1 BT rfl (HRB.out.below HBWwb.out) HM1.out HN1.out (by omega) HBWwb.out.size N1 ([0, 0] ++ BT) HNN1.out rfl ?_
          intro g1 c1 wc hc1 ho1 hgr1 hg1 hr1
          have HBWwc : Hid (Below w6.heap.size w6 wc) := Lib.hid (HBWwb.out.trans (grown_below HOA.out hgr1 HBWwb.out.size))
          have HO1 := Lib.hid ho1
          have HGR1 := Lib.hid hgr1
          have HC1 := Lib.hid hc1
          clear ho1 hgr1 hg1 hr1 hc1
          refine hK.out _ _ (HBX.out.below HBWwc.out HGO.out).cells.1 (fun hHeldc => ?_)
          clear hK K
          try simp only [Act.put, List.setIfInBounds_toArray, List.set_cons_zero, List.set_cons_succ, List.getElem_toArray, List.getElem_cons_zero, List.getElem_cons_succ]
          have HOC := HO1
          have HRD := Lib.hid (row_grown HRg2.out HGR1.out HNE.out)
          refine wpAnyH_ready (rs := [4]) (by kernel_rfl) (by simp) ?_
          refine AllReadyH.cons rfl (fun K hK => ?_) AllReadyH.nil
          refine step_bytes rfl _ _ rfl w6.heap.size _ N1 ([0, 0] ++ BT) rfl HOC.out (fun h => by cases h) (some ⟨g2, 0, none⟩) 2 2 [3, 4] rfl HRD.out rfl (fun h => by cases h) (by omega) HBWwc.out.size N2 (([0, 0] ++ BT) ++ [3, 4]) HNN2.out rfl ?_
          intro g3 c3 we hc3 ho3 hgr3 hg3 hr3
          have HBWwe : Hid (Below w6.heap.size w6 we) := Lib.hid (HBWwc.out.trans (grown_below HOC.out hgr3 HBWwc.out.size))
          have HR3 := Lib.hid hr3
          clear ho3 hgr3 hg3 hr3 hc3
          refine hK.out _ _ (HBX.out.below HBWwe.out HGO.out).cells.1 (fun hHelde => ?_)
          clear hK K
          try simp only [Act.put, List.setIfInBounds_toArray, List.set_cons_zero, List.set_cons_succ, List.getElem_toArray, List.getElem_cons_zero, List.getElem_cons_succ]
          refine wpAnyH_ready (rs := [10]) (by kernel_rfl) (by simp) ?_
          refine AllReadyH.cons rfl (fun K hK => ?_) AllReadyH.nil
          go_simp
          refine (gdecode_any we (HT6.out.below HBWwe.out HT6.out.lt) (some ⟨g3, 0, none⟩) N2 c3 (([0, 0] ++ BT) ++ [3, 4]) wd len two HR3.out HZL.out (fun h => by cases h) (by omega) h1 (by omega) (by omega)).mono ?_
          rintro e wf ⟨hbd, hres⟩
          rw [HPB.out] at hres
          obtain ⟨q9, c9, rfl, ht9⟩ := hres
          rw [HXL.out]
          have HT9 := Lib.hid ht9
          have HBWwf : Hid (Below w6.heap.size w6 wf) := Lib.hid (HBWwe.out.trans (hbd.mono HBWwe.out.size))
          clear hbd ht9
          go_wp2_with fail
          refine hK.out _ _ (HBX.out.below HBWwf.out HGO.out).cells.1 (fun hHeldD => ?_)
          clear hK K
          try simp only [Act.put, List.setIfInBounds_toArray, List.set_cons_zero, List.set_cons_succ, List.getElem_toArray, List.getElem_cons_zero, List.getElem_cons_succ]
          refine wpAnyH_take (i := 11) (v := ?v12) rfl (by kernel_rfl) (by kernel_rfl) (by kernel_rfl) (fun _ _ _ h => h) (Or.inl ⟨by rfl, fun w hSw => ?y12⟩) hHeldD ?r12
          case y12 => (try dsimp only at hSw); first | (go_simp; done) | (go_simp; with_reducible rfl)
          try simp only [Act.put, List.setIfInBounds_toArray, List.set_cons_zero, List.set_cons_succ, List.getElem_toArray, List.getElem_cons_zero, List.getElem_cons_succ]
          refine wpAnyH_take (i := 12) (v := ?v13) rfl (by kernel_rfl) (by kernel_rfl) (by kernel_rfl) (fun _ _ _ h => h) (Or.inl ⟨by rfl, fun w hSw => ?y13⟩) hHeldD ?r13
          case y13 => (try dsimp only at hSw); first | (go_simp; done) | (go_simp; with_reducible rfl)
          try simp only [Act.put, List.setIfInBounds_toArray, List.set_cons_zero, List.set_cons_succ, List.getElem_toArray, List.getElem_cons_zero, List.getElem_cons_succ]
          refine wpAnyH_take (i := 13) (v := ?v14) rfl (by kernel_rfl) (by kernel_rfl) (by kernel_rfl) (fun _ _ _ h => h) (Or.inl ⟨by rfl, fun w hSw => ?y14⟩) hHeldD ?r14
          case y14 => (try dsimp only at hSw); first | (go_simp; done) | (go_simp; with_reducible rfl)
          try simp only [Act.put, List.setIfInBounds_toArray, List.set_cons_zero, List.set_cons_succ, List.getElem_toArray, List.getElem_cons_zero, List.getElem_cons_succ]
          refine wpAnyH_take (i := 14) (v := ?v15) rfl (by kernel_rfl) (by kernel_rfl) (by kernel_rfl) (fun _ _ _ h => h) (Or.inl ⟨by rfl, fun w hSw => ?y15⟩) hHeldD ?r15
          case y15 => (try dsimp only at hSw); first | (go_simp; done) | (go_simp; with_reducible rfl)
          try simp only [Act.put, List.setIfInBounds_toArray, List.set_cons_zero, List.set_cons_succ, List.getElem_toArray, List.getElem_cons_zero, List.getElem_cons_succ]
          refine wpAnyH_take (i := 15) (v := ?v16) rfl (by kernel_rfl) (by kernel_rfl) (by kernel_rfl) (fun _ _ _ h => h) (Or.inl ⟨by rfl, fun w hSw => ?y16⟩) hHeldD ?r16
          case y16 => (try dsimp only at hSw); first | (go_simp; done) | (go_simp; with_reducible rfl)
          try simp only [Act.put, List.setIfInBounds_toArray, List.set_cons_zero, List.set_cons_succ, List.getElem_toArray, List.getElem_cons_zero, List.getElem_cons_succ]
          refine wpAnyH_done (by kernel_rfl) ?_ _
          exact KEY g0 g1 c1 g2 g3 c3 q9 c9 wf (Lib.hid ⟨HBWwf.out, HT9.out⟩)
        refine AllReadyH.cons rfl (fun K hK => ?_) AllReadyH.nil
        go_simp
        obtain ⟨wa, hqq⟩ : ∃ X, X = (w6.alloc (.cells #[.int .u8 3, .int .u8 4] 5)).drew := ⟨_, rfl⟩
        obtain ⟨g2, hg0⟩ : ∃ g, g = w6.heap.size := ⟨_, rfl⟩
        have hoo : wa.ownsRow w6.heap.size 5 1 (.slice (some ⟨g2, 0, none⟩) 2 2) 2 (cellsOf [3, 4]) := by rw [hqq, hg0]; exact own_two w6.drew w6.heap.size 3 4 HBWwz.out.size
        have hrr : Row wa (some ⟨g2, 0, none⟩) [3, 4] := by rw [hqq, hg0]; exact row_two w6.drew 3 4
        have hbb : Below w6.heap.size w6.drew wa := by rw [hqq]; exact alloc_below w6.drew _
        have hzz : wa.heap.size = w6.heap.size + 1 := by rw [hqq]; exact alloc_size w6.drew _
        rw [← hqq]
        try rw [show w6.drew.heap.size = w6.heap.size from rfl]
        try rw [← hg0]
        have HOg2 := Lib.hid hoo
        have HRg2 := Lib.hid hrr
        have HBwa := Lib.hid hbb
        have HZwa := Lib.hid hzz
        have HGg2 := Lib.hid hg0
        have HBWwa : Hid (Below w6.heap.size w6 wa) := Lib.hid (HBWwz.out.trans (hbb.mono HBWwz.out.size))
        clear hqq hoo hrr hbb hzz hg0
        refine hK.out _ _ (HBX.out.below HBWwa.out HGO.out).cells.1 (fun hHelda => ?_)
        clear hK K
        try simp only [Act.put, List.setIfInBounds_toArray, List.set_cons_zero, List.set_cons_succ, List.getElem_toArray, List.getElem_cons_zero, List.getElem_cons_succ]
        refine wpAnyH_ready (rs := [0]) (by kernel_rfl) (by simp) ?_
        refine AllReadyH.cons rfl (fun K hK => ?_) AllReadyH.nil
        go_simp
        obtain ⟨wb, hqq⟩ : ∃ X, X = (wa.alloc (.cells #[.int .u8 0, .int .u8 0] 5)) := ⟨_, rfl⟩
        obtain ⟨g0, hg0⟩ : ∃ g, g = wa.heap.size := ⟨_, rfl⟩
        have hoo : wb.ownsRow w6.heap.size 5 1 (.slice (some ⟨g0, 0, none⟩) 2 2) 2 (cellsOf [0, 0]) := by rw [hqq, hg0]; exact own_two wa w6.heap.size 0 0 HBWwa.out.size
        have hrr : Row wb (some ⟨g0, 0, none⟩) [0, 0] := by rw [hqq, hg0]; exact row_two wa 0 0
        have hbb : Below wa.heap.size wa wb := by rw [hqq]; exact alloc_below wa _
        have hzz : wb.heap.size = wa.heap.size + 1 := by rw [hqq]; exact alloc_size wa _
        rw [← hqq]
        try rw [← hg0]
        have HOg0 := Lib.hid hoo
        have HRg0 := Lib.hid hrr
        have HBwb := Lib.hid hbb
        have HZwb := Lib.hid hzz
        have HGg0 := Lib.hid hg0
        have HBWwb : Hid (Below w6.heap.size w6 wb) := Lib.hid (HBWwa.out.trans (hbb.mono HBWwa.out.size))
        clear hqq hoo hrr hbb hzz hg0
        refine hK.out _ _ (HBX.out.below HBWwb.out HGO.out).cells.1 (fun hHeldb => ?_)
        clear hK K
        try simp only [Act.put, List.setIfInBounds_toArray, List.set_cons_zero, List.set_cons_succ, List.getElem_toArray, List.getElem_cons_zero, List.getElem_cons_succ]
        have HOA := HOg0
        have hne : g2 ≠ g0 := by have h1 := HGg0.out; have h2 := HGg2.out; have h3 := HZwa.out; omega
        have HNE := Lib.hid hne
        clear hne
        refine wpAnyH_ready (rs := [2]) (by kernel_rfl) (by simp) ?_
        refine AllReadyH.cons rfl (fun K hK => ?_) AllReadyH.nil
        refine step_bytes rfl _ _ rfl w6.heap.size _ 2 [0, 0] rfl HOA.out (fun h => by cases h) q1 m1 cc1 BT rfl (HRB.out.below HBWwb.out) HM1.out HN1.out (by omega) HBWwb.out.size N1 ([0, 0] ++ BT) HNN1.out rfl ?_
        intro g1 c1 wc hc1 ho1 hgr1 hg1 hr1
        have HBWwc : Hid (Below w6.heap.size w6 wc) := Lib.hid (HBWwb.out.trans (grown_below HOA.out hgr1 HBWwb.out.size))
        have HO1 := Lib.hid ho1
        have HGR1 := Lib.hid hgr1
        have HC1 := Lib.hid hc1
        clear ho1 hgr1 hg1 hr1 hc1
        refine hK.out _ _ (HBX.out.below HBWwc.out HGO.out).cells.1 (fun hHeldc => ?_)
        clear hK K
        try simp only [Act.put, List.setIfInBounds_toArray, List.set_cons_zero, List.set_cons_succ, List.getElem_toArray, List.getElem_cons_zero, List.getElem_cons_succ]
        have HOC := HO1
        have HRD := Lib.hid (row_grown (HRg2.out.below HBwb.out) HGR1.out HNE.out)
        refine wpAnyH_ready (rs := [4]) (by kernel_rfl) (by simp) ?_
        refine AllReadyH.cons rfl (fun K hK => ?_) AllReadyH.nil
        refine step_bytes rfl _ _ rfl w6.heap.size _ N1 ([0, 0] ++ BT) rfl HOC.out (fun h => by cases h) (some ⟨g2, 0, none⟩) 2 2 [3, 4] rfl HRD.out rfl (fun h => by cases h) (by omega) HBWwc.out.size N2 (([0, 0] ++ BT) ++ [3, 4]) HNN2.out rfl ?_
        intro g3 c3 we hc3 ho3 hgr3 hg3 hr3
        have HBWwe : Hid (Below w6.heap.size w6 we) := Lib.hid (HBWwc.out.trans (grown_below HOC.out hgr3 HBWwc.out.size))
        have HR3 := Lib.hid hr3
        clear ho3 hgr3 hg3 hr3 hc3
        refine hK.out _ _ (HBX.out.below HBWwe.out HGO.out).cells.1 (fun hHelde => ?_)
        clear hK K
        try simp only [Act.put, List.setIfInBounds_toArray, List.set_cons_zero, List.set_cons_succ, List.getElem_toArray, List.getElem_cons_zero, List.getElem_cons_succ]
        refine wpAnyH_ready (rs := [10]) (by kernel_rfl) (by simp) ?_
        refine AllReadyH.cons rfl (fun K hK => ?_) AllReadyH.nil
        go_simp
        refine (gdecode_any we (HT6.out.below HBWwe.out HT6.out.lt) (some ⟨g3, 0, none⟩) N2 c3 (([0, 0] ++ BT) ++ [3, 4]) wd len two HR3.out HZL.out (fun h => by cases h) (by omega) h1 (by omega) (by omega)).mono ?_
        rintro e wf ⟨hbd, hres⟩
        rw [HPB.out] at hres
        obtain ⟨q9, c9, rfl, ht9⟩ := hres
        rw [HXL.out]
        have HT9 := Lib.hid ht9
        have HBWwf : Hid (Below w6.heap.size w6 wf) := Lib.hid (HBWwe.out.trans (hbd.mono HBWwe.out.size))
        clear hbd ht9
        go_wp2_with fail
        refine hK.out _ _ (HBX.out.below HBWwf.out HGO.out).cells.1 (fun hHeldD => ?_)
        clear hK K
        try simp only [Act.put, List.setIfInBounds_toArray, List.set_cons_zero, List.set_cons_succ, List.getElem_toArray, List.getElem_cons_zero, List.getElem_cons_succ]
        refine wpAnyH_take (i := 11) (v := ?v17) rfl (by kernel_rfl) (by kernel_rfl) (by kernel_rfl) (fun _ _ _ h => h) (Or.inl ⟨by rfl, fun w hSw => ?y17⟩) hHeldD ?r17
        case y17 => (try dsimp only at hSw); first | (go_simp; done) | (go_simp; with_reducible rfl)
        try simp only [Act.put, List.setIfInBounds_toArray, List.set_cons_zero, List.set_cons_succ, List.getElem_toArray, List.getElem_cons_zero, List.getElem_cons_succ]
        refine wpAnyH_take (i := 12) (v := ?v18) rfl (by kernel_rfl) (by kernel_rfl) (by kernel_rfl) (fun _ _ _ h => h) (Or.inl ⟨by rfl, fun w hSw => ?y18⟩) hHeldD ?r18
        case y18 => (try dsimp only at hSw); first | (go_simp; done) | (go_simp; with_reducible rfl)
        try simp only [Act.put, List.setIfInBounds_toArray, List.set_cons_zero, List.set_cons_succ, List.getElem_toArray, List.getElem_cons_zero, List.getElem_cons_succ]
        refine wpAnyH_take (i := 13) (v := ?v19) rfl (by kernel_rfl) (by kernel_rfl) (by kernel_rfl) (fun _ _ _ h => h) (Or.inl ⟨by rfl, fun w hSw => ?y19⟩) hHeldD ?r19
        case y19 => (try dsimp only at hSw); first | (go_simp; done) | (go_simp; with_reducible rfl)
        try simp only [Act.put, List.setIfInBounds_toArray, List.set_cons_zero, List.set_cons_succ, List.getElem_toArray, List.getElem_cons_zero, List.getElem_cons_succ]
        refine wpAnyH_take (i := 14) (v := ?v20) rfl (by kernel_rfl) (by kernel_rfl) (by kernel_rfl) (fun _ _ _ h => h) (Or.inl ⟨by rfl, fun w hSw => ?y20⟩) hHeldD ?r20
        case y20 => (try dsimp only at hSw); first | (go_simp; done) | (go_simp; with_reducible rfl)
        try simp only [Act.put, List.setIfInBounds_toArray, List.set_cons_zero, List.set_cons_succ, List.getElem_toArray, List.getElem_cons_zero, List.getElem_cons_succ]
        refine wpAnyH_take (i := 15) (v := ?v21) rfl (by kernel_rfl) (by kernel_rfl) (by kernel_rfl) (fun _ _ _ h => h) (Or.inl ⟨by rfl, fun w hSw => ?y21⟩) hHeldD ?r21
        case y21 => (try dsimp only at hSw); first | (go_simp; done) | (go_simp; with_reducible rfl)
        try simp only [Act.put, List.setIfInBounds_toArray, List.set_cons_zero, List.set_cons_succ, List.getElem_toArray, List.getElem_cons_zero, List.getElem_cons_succ]
        refine wpAnyH_done (by kernel_rfl) ?_ _
        exact KEY g0 g1 c1 g2 g3 c3 q9 c9 wf (Lib.hid ⟨HBWwf.out, HT9.out⟩)
      case key =>
        intro g0 g1 c1 g2 g3 c3 q9 c9 W HS
        have HBF := Lib.hid (HB6.out.trans (HS.out.1.mono HB6.out.size))
        have HTl := Lib.hid (HTL6.out.below (HS.out.1.mono HZ36.out))
        have HT9 := Lib.hid HS.out.2
        have HZW := Lib.hid (Nat.le_trans HZ36.out HS.out.1.size)
        clear HS
        go_wp2_with fail
        go_loopw [14, 81] (fun _ sk wr => ∃ i : Nat, i ≤ len ∧ sk = .int .i64 (i : Int) ∧ Hid (Below W.heap.size W wr)) (fun _ sk _ => len - (intOf sk).toNat)
        case atStart => exact ⟨0, by omega, rfl, Lib.hid (Below.refl _ _)⟩
        case round =>
          obtain ⟨i, hi, rfl, HBq⟩ := hrel
          by_cases hlti : i < len
          · have hdi : decide ((i : Int) < (len : Int)) = true := by simp; omega
            have hiX : i < Xs.length := by rw [HXL.out]; exact hlti
            have hiR : i < (Xs.map changes).length := by rw [List.length_map]; exact hiX
            obtain ⟨bx, o1, he1, qx, cx, hc1, hv1, _⟩ := (HTl.out.below (HBq.out.mono HZW.out)).get hiR
            obtain ⟨b2, o2, he2, qy, cy, hc2, hv2, _⟩ := (HT9.out.below HBq.out).get hiR
            have hX3 : (Xs.map changes)[i].length ≤ 300 := by
              rw [List.getElem_map]
              have h1 := HXW.out Xs[i] (List.getElem_mem hiX)
              have := Rn.chg_len Xs[i] false 0
              unfold changes
              omega
            generalize (Xs.map changes)[i] = d at *
            subst he1 he2
            obtain ⟨md, hmd⟩ : ∃ md, md = d.length := ⟨_, rfl⟩
            rw [← hmd] at hc1 hc2 hX3
            have HSM : Hid (∀ kk, Calls Tryd.prog 9 #[.slice qx md cx, .slice qy md cy] (wr.drewN kk) fun e w'' => e = .returned (.bool true) ∧ ∃ m, w'' = wr.drewN m) := Lib.hid (fun kk => by
              have hdk : Drawn wr (wr.drewN kk) := ⟨kk, rfl⟩
              exact Calls.quiet_of ((same_in qx qy md cx cy d (wr.drewN kk) _ _ (hv1.below (hdk.below _) (Nat.le_refl _)) (hv2.below (hdk.below _) (Nat.le_refl _)) hmd.symm (by omega)).mono fun _ _ h => h))
            have i1 : (0 : Int) ≤ (i : Int) := by omega
            have i2 : (i : Int) < (len : Int) := by omega
            clear hv1 hv2 hmd hiR hiX
            go_wp2_with fail
            go_quiet ((go_at_call 9; with_reducible exact HSM.out _))
            have HBq2 := Lib.hid (HBq.out.trans ((show Drawn wr (wr.drewN nq) from ⟨nq, rfl⟩).below _))
            try go_wp2_with fail
            go_roundw
            case rel => exact ⟨i + 1, by omega, by go_num, HBq2⟩
            case measure => simp [intOf]; omega
          · have hie : i = len := by omega
            subst hie
            have hdi : decide ((i : Int) < (i : Int)) = false := by simp
            have HBE := Lib.hid (HBF.out.trans (HBq.out.mono HBF.out.size))
            go_wp2_with fail
            go_ret
            exact ⟨rfl, HBE.out⟩
end Go.Proofs.YtidicajedckaoaaDoor.Gt

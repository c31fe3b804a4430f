
/- The walk of GridCuts. -/
import Derived.Test.YtjecakkdongcoaaGrL
import Derived.Test.YtjecakkdongcoaaGrH
namespace Go.Proofs.Ytjecakkdongcoaa.Gr
open Go.RowKit Go.Proofs.Ytjecakkdongcoaa.Oct
open Go.Proofs.Ytjecakkdongcoaa.Lp (VRow Only ints ints_length ints_append ints_one vrow_blk vrow_own blk_set blk_far blk_frozen)
open Go.Proofs.Ytjecakkdongcoaa.Gd (canG cutG cutG_length)
open Go.Proofs.Ytjecakkdongcoaa.Fm (Ow)
set_option linter.unusedVariables false
set_option linter.unusedSimpArgs false
set_option maxRecDepth 100000

/-- a grid of the call's own, and an error -/
def CutU (w : World) (W H : Int) (Z : List Int) (er : Int) (e : Ending) (wr : World) : Prop :=
  Below w.heap.size w wr ∧ ∃ G q, e = .returned (.tuple #[.agg #[.int .i64 W, .int .i64 H, .slice q Z.length Z.length], .int .i64 er]) ∧ VRow wr wr.heap.size q (ints Z) ∧ (w.heap.size ≤ G ∧ G ≠ wr.heap.size) ∧ (0 < Z.length → q = some ⟨G, 0, none⟩ ∧ wr.heap[G]? = some (.cells (ints Z).toArray 3 (0, 0)))
def RCutU (w : World) (W H : Int) (Z : List Int) (er : Int) (e : Ending) (wr : World) : Prop :=
  Below w.heap.size w wr ∧ ∃ q c, e = .returned (.tuple #[.agg #[.int .i64 W, .int .i64 H, .slice q Z.length c], .int .i64 er]) ∧ VRow wr wr.heap.size q (ints Z)
theorem cut_len {W H : Int} {n : Nat} {X Y wd ht : Int} {zs : List Int} (h : (hasI W H n X Y && canG wd ht) = true) : (cutG W.toNat H.toNat zs 0 X.toNat Y.toNat wd.toNat ht.toNat).length = (wd * ht).toNat ∧ (wd * ht).toNat ≤ 4194304 := by
  rw [Bool.and_eq_true] at h
  obtain ⟨h1, h2, h3, h4, h5, _⟩ := can_parts h.2
  obtain ⟨a, rfl⟩ : ∃ a : Nat, wd = (a : Int) := ⟨wd.toNat, by omega⟩
  obtain ⟨b, rfl⟩ : ∃ b : Nat, ht = (b : Int) := ⟨ht.toNat, by omega⟩
  rw [cutG_length]
  have : (a : Int) * (b : Int) = ((a * b : Nat) : Int) := by push_cast; rfl
  rw [this] at h5 ⊢
  simp only [Int.toNat_natCast]
  exact ⟨trivial, by omega⟩
/-- both answers are the same -/
theorem cut_two (W H : Int) (p1 p2 : Option Addr) (n c1 c2 : Nat) (zs : List Int) (X Y wd ht : Int) (hx : zs.length = n) (hc : n ≤ c1) (hX : X < 4611686018427387904) (hY : Y < 4611686018427387904) : ∃ (W' H' er : Int) (Z : List Int), Z.length ≤ 4194304 ∧
    (∀ w, VRow w w.heap.size p1 (ints zs) → Calls Try.prog 23 #[.agg #[.int .i64 W, .int .i64 H, .slice p1 n c1], .agg #[.int .i64 X, .int .i64 Y, .int .i64 wd, .int .i64 ht]] w (CutU w W' H' Z er)) ∧
    (∀ w, VRow w w.heap.size p2 (ints zs) → Calls Try.prog 24 #[.agg #[.int .i64 W, .int .i64 H, .slice p2 n c2], .agg #[.int .i64 X, .int .i64 Y, .int .i64 wd, .int .i64 ht]] w (RCutU w W' H' Z er)) := by
  by_cases h : (hasI W H n X Y && canG wd ht) = true
  · obtain ⟨hl, hm⟩ := cut_len (zs := zs) h
    refine ⟨wd, ht, 0, _, by rw [hl]; exact hm, fun w hr => ?_, fun w hr => ?_⟩
    · refine (cut_any W H p1 n c1 zs X Y wd ht w hr hx hc hX hY).mono ?_
      rintro e wr (⟨_, G, rfl, ho⟩ | ⟨h0, _⟩)
      · exact ⟨ho.1, G, _, by rw [hl], ho.row, ⟨ho.2.1, Nat.ne_of_lt ho.2.2.1⟩, fun _ => ⟨rfl, ho.2.2.2⟩⟩
      · rw [h] at h0; cases h0
    · refine (rcut_any W H p2 n c2 zs X Y wd ht w hr hx).mono ?_
      rintro e wr ⟨hb, ⟨_, q, c, rfl, hv⟩ | ⟨h0, _⟩⟩
      · exact ⟨hb, q, c, by rw [hl], hv⟩
      · rw [h] at h0; cases h0
  · refine ⟨0, 0, 1, [], Nat.zero_le _, fun w hr => ?_, fun w hr => ?_⟩
    · refine (cut_any W H p1 n c1 zs X Y wd ht w hr hx hc hX hY).mono ?_
      rintro e wr (⟨h1, _⟩ | ⟨_, hb, rfl⟩)
      · exact absurd h1 h
      · exact ⟨hb, wr.heap.size + 1, none, rfl, fun h => absurd h (by simp [ints]), ⟨by have := hb.size; omega, by omega⟩, fun h => absurd h (by simp)⟩
    · refine (rcut_any W H p2 n c2 zs X Y wd ht w hr hx).mono ?_
      rintro e wr ⟨hb, ⟨h1, _⟩ | ⟨_, rfl⟩⟩
      · exact absurd h1 h
      · exact ⟨hb, none, 0, rfl, fun h => absurd h (by simp [ints])⟩
theorem vrow_only {w w' : World} {G C : Nat} {q : Option Addr} {vs : List Value} (h : VRow w C q vs) (ho : Only (· = G) w w') (hC : C ≤ G) (hw : C ≤ w.heap.size) : VRow w' C q vs := by
  intro hp
  obtain ⟨b, off, e, hb, hc⟩ := h hp
  refine ⟨b, off, e, hb, fun i hi => ?_⟩
  rw [only_cell ho (p := ⟨b, off + i, none⟩) (by show b < _; omega) (by show b ≠ G; omega)]
  exact hc i hi
set_option maxHeartbeats 16000000 in
theorem cuts_walk (W H : Int) (p : Option Addr) (n0 c0 : Nat) (f : Bool) (X Y wd ht : Int) (w : World) (hs : IsSome_ w p n0 c0) :
    Calls Try.prog 4 #[.agg #[.int .i64 W, .int .i64 H, .slice p n0 c0, .bool f], .agg #[.int .i64 X, .int .i64 Y, .int .i64 wd, .int .i64 ht]] w (BolP w true) := by
  obtain ⟨w1, hw1, HB1, HX1, hz1⟩ := box4 24 w (.int .i64 W) (.int .i64 H) (.slice p n0 c0) (.bool f)
  obtain ⟨w2, hw2, HB2, HX2, hz2⟩ := box4 52 w1 (.int .i64 X) (.int .i64 Y) (.int .i64 wd) (.int .i64 ht)
  rw [hz1] at HX2
  rw [hw1] at hw2
  have HBE := Lib.hid (HB1.out.trans (HB2.out.mono HB1.out.size))
  have HOF := Lib.hid (of_any W H p n0 c0 f w2 (hs.go HBE.out))
  have HW2 := Lib.hid hw2
  clear hw1 hw2 hz1 HB1 HX1 HB2 hz2 hs
  go_enter Try.func4, Try.ntmps4
  go_wp2_with fail
  rw [← HW2.out]
  refine HOF.out.mono ?_
  rintro e w3 ⟨hb3, W1, H1, n, zs, q1, q2, c1, c2, ok, rfl, hx, hv1, hv2, hc1, hc2, hq1, hq2, hok⟩
  obtain ⟨w4, hw4, HB4, HX4, HY4, hz4⟩ := box2 26 28 w3 (.int .i64 W1) (.int .i64 H1) (.slice q1 n c1) (.int .i64 W1) (.int .i64 H1) (.slice q2 n c2)
  have HW4 := Lib.hid hw4
  have hb34 := HBE.out.trans ((hb3.trans (HB4.out.mono hb3.size)).mono HBE.out.size)
  have HX24 := Lib.hid (HX2.out.go (hb3.trans (HB4.out.mono hb3.size)))
  have HV1 := Lib.hid ((hv1.below HB4.out (Nat.le_refl _)).mono HB4.out.size)
  have HV2 := Lib.hid ((hv2.below HB4.out (Nat.le_refl _)).mono HB4.out.size)
  have HX := Lib.hid hx
  have HC := Lib.hid hc1
  have HOK := Lib.hid hok
  have HB34 := Lib.hid hb34
  clear hb3 hv1 hv2 hx hc1 hc2 hq1 hq2 hok hw4 hb34 HOF HW2 HBE HX2
  go_wp2_with fail
  rw [← HW4.out]
  refine (lives_any _).mono ?_
  rintro e w5 ⟨rfl, hb5⟩
  have HB5 := Lib.hid (HB34.out.trans (hb5.mono HB34.out.size))
  have HX5 := Lib.hid (HX4.out.go hb5)
  have HY5 := Lib.hid (HY4.out.go hb5)
  have HR5 := Lib.hid (HX24.out.go hb5)
  have HV15 := Lib.hid ((HV1.out.below hb5 (Nat.le_refl _)).mono hb5.size)
  have HV25 := Lib.hid ((HV2.out.below hb5 (Nat.le_refl _)).mono hb5.size)
  obtain ⟨r0, r1, r2, r3⟩ := HR5.out.cells
  obtain ⟨k0, k1, k2⟩ := HX5.out.cells
  clear hb5 HV1 HV2 HX24 HX4 HY4 HB34 HW4 HB4 hz4
  cases ok
  · go_wp2_with fail
    refine (lives_any _).mono ?_
    rintro e w6 ⟨rfl, hb6⟩
    have HB6 := Lib.hid (HB5.out.trans (hb6.mono HB5.out.size))
    clear hb6
    go_wp2_with fail
    go_ret
    exact ⟨rfl, HB6.out⟩
  have hn36 := HOK.out rfl
  by_cases hA : 100 < wd ∧ wd ≤ 4194304
  · have d1 : decide (100 < wd) = true := by simpa using hA.1
    have d2 : decide (wd ≤ 4194304) = true := by simpa using hA.2
    clear hA
    go_wp2_with fail
    refine (lives_any _).mono ?_
    rintro e w6 ⟨rfl, hb6⟩
    have HB6 := Lib.hid (HB5.out.trans (hb6.mono HB5.out.size))
    clear hb6
    go_wp2_with fail
    go_ret
    exact ⟨rfl, HB6.out⟩
  have hWc : decide (100 < wd) = false ∨ (decide (100 < wd) = true ∧ decide (wd ≤ 4194304) = false) := by
    by_cases h : 100 < wd
    · exact .inr ⟨by simpa using h, by simp; omega⟩
    · exact .inl (by simpa using h)
  clear hA
  by_cases hA : 100 < ht ∧ ht ≤ 4194304
  · have d3 : decide (100 < ht) = true := by simpa using hA.1
    have d4 : decide (ht ≤ 4194304) = true := by simpa using hA.2
    clear hA
    rcases hWc with d1 | ⟨d1, d2⟩
    all_goals
      go_wp2_with fail
      refine (lives_any _).mono ?_
      rintro e w6 ⟨rfl, hb6⟩
      have HB6 := Lib.hid (HB5.out.trans (hb6.mono HB5.out.size))
      clear hb6
      go_wp2_with fail
      go_ret
      exact ⟨rfl, HB6.out⟩
  have hHc : decide (100 < ht) = false ∨ (decide (100 < ht) = true ∧ decide (ht ≤ 4194304) = false) := by
    by_cases h : 100 < ht
    · exact .inr ⟨by simpa using h, by simp; omega⟩
    · exact .inl (by simpa using h)
  clear hA
  by_cases hX : 1099511627776 < X
  · have d5 : decide (1099511627776 < X) = true := by simpa using hX
    clear hX
    rcases hWc with d1 | ⟨d1, d2⟩ <;> rcases hHc with d3 | ⟨d3, d4⟩
    all_goals
      go_wp2_with fail
      refine (lives_any _).mono ?_
      rintro e w6 ⟨rfl, hb6⟩
      have HB6 := Lib.hid (HB5.out.trans (hb6.mono HB5.out.size))
      clear hb6
      go_wp2_with fail
      go_ret
      exact ⟨rfl, HB6.out⟩
  have d5 : decide (1099511627776 < X) = false := by simpa using hX
  by_cases hY : 1099511627776 < Y
  · have d6 : decide (1099511627776 < Y) = true := by simpa using hY
    clear hX hY
    rcases hWc with d1 | ⟨d1, d2⟩ <;> rcases hHc with d3 | ⟨d3, d4⟩
    all_goals
      go_wp2_with fail
      refine (lives_any _).mono ?_
      rintro e w6 ⟨rfl, hb6⟩
      have HB6 := Lib.hid (HB5.out.trans (hb6.mono HB5.out.size))
      clear hb6
      go_wp2_with fail
      go_ret
      exact ⟨rfl, HB6.out⟩
  have d6 : decide (1099511627776 < Y) = false := by simpa using hY
  obtain ⟨W2, H2, er, Z, hZ, HC1, HC2⟩ := cut_two W1 H1 q1 q2 n c1 c2 zs X Y wd ht HX.out HC.out (by omega) (by omega)
  have HC1 := Lib.hid HC1
  have HC2 := Lib.hid HC2
  have qe : (er != er) = false := by simp
  obtain ⟨nz, hnz⟩ : ∃ nz, nz = Z.length := ⟨_, rfl⟩
  have HNZ := Lib.hid hnz
  rw [← hnz] at hZ
  clear hX hY HOK hnz
  rcases hWc with d1 | ⟨d1, d2⟩ <;> rcases hHc with d3 | ⟨d3, d4⟩
  all_goals
    go_wp2_with fail
    refine (HC1.out _ HV15.out).mono ?_
    rintro e w6 ⟨hb6, G, q, rfl, hvz, hG, hown⟩
    rw [← HNZ.out] at hown
    rw [← HNZ.out]
    obtain ⟨w7, hw7, HB7, HX7, hz7⟩ := box1 26 w6 (.int .i64 W2) (.int .i64 H2) (.slice q nz nz)
    have hb57 := hb6.trans (HB7.out.mono hb6.size)
    have HX57 := Lib.hid (HX5.out.go hb57)
    have HY57 := Lib.hid (HY5.out.go hb57)
    have HR57 := Lib.hid (HR5.out.go hb57)
    have HV17 := Lib.hid ((HV15.out.below hb57 (Nat.le_refl _)).mono hb57.size)
    have HV27 := Lib.hid ((HV25.out.below hb57 (Nat.le_refl _)).mono hb57.size)
    have kk := HR57.out.cells
    have ll := HY57.out.cells
    rw [hw7] at kk ll
    obtain ⟨r0, r1, r2, r3⟩ := kk
    obtain ⟨l0, l1, l2⟩ := ll
    have HW7 := Lib.hid hw7
    have hb67 := Lib.hid hb57
    have HLT5 : Hid (w3.heap.size + 1 < w5.heap.size) := Lib.hid HY5.out.lt
    have HB57 := Lib.hid (HB5.out.trans (hb57.mono HB5.out.size))
    have HVZ := Lib.hid ((hvz.below HB7.out (Nat.le_refl _)).mono HB7.out.size)
    have HGG := Lib.hid hG
    have HOW := Lib.hid hown
    clear hb6 hvz hG hown hw7 hz7 hb57
    go_wp2_with fail
    rw [← HW7.out]
    refine (HC2.out _ HV27.out).mono ?_
    rintro e w8 ⟨hb8, q', c', rfl, hv'⟩
    rw [← HNZ.out]
    obtain ⟨w9, hw9, HB9, HX9, hz9⟩ := box1 28 w8 (.int .i64 W2) (.int .i64 H2) (.slice q' nz c')
    have hb79 := hb8.trans (HB9.out.mono hb8.size)
    have HX79 := Lib.hid (HX7.out.go hb79)
    have kk := HX79.out.cells
    rw [hw9] at kk
    obtain ⟨l0, l1, l2⟩ := kk
    have HW9 := Lib.hid hw9
    have HB79 := Lib.hid hb79
    have HLK := Lib.hid (like_yes W2 H2 q q' nz nz c' Z w9 ((HVZ.out.below hb79 (Nat.le_refl _)).mono hb79.size) ((hv'.below HB9.out (Nat.le_refl _)).mono HB9.out.size) HNZ.out.symm (by omega))
    clear hb8 hv' hw9 hz9 hb79
    go_wp2_with fail
    rw [← HW9.out]
    refine HLK.out.mono ?_
    rintro e w10 ⟨rfl, hb10⟩
    have hb710 := HB79.out.trans (hb10.mono HB79.out.size)
    have HXA := Lib.hid (HX7.out.go hb710)
    have HX5A := Lib.hid (HX57.out.go hb710)
    have HY5A := Lib.hid (HY57.out.go hb710)
    have HV1A := Lib.hid ((HV15.out.below (B := w5.heap.size) (hb67.out.trans (hb710.mono hb67.out.size)) (Nat.le_refl _)))
    have HV2A := Lib.hid ((HV25.out.below (B := w5.heap.size) (hb67.out.trans (hb710.mono hb67.out.size)) (Nat.le_refl _)))
    have HBA := Lib.hid (HB57.out.trans (hb710.mono HB57.out.size))
    have HOA : Hid (0 < nz → q = some ⟨G, 0, none⟩ ∧ w10.heap[G]? = some (.cells (ints Z).toArray 3 (0, 0))) := Lib.hid (fun h => ⟨(HOW.out h).1, by
      have h1 := (HOW.out h).2
      have h2 := (HB7.out.block G (blk_lt h1)).trans h1
      exact (hb710.block G (blk_lt h2)).trans h2⟩)
    have HS5 : Hid (w5.heap.size ≤ w10.heap.size) := Lib.hid (Nat.le_trans hb67.out.size hb710.size)
    obtain ⟨k0, k1, k2⟩ := HXA.out.cells
    clear hb10 hb710 l0 l1 l2 HLK HW9 HX79 HX9 HB9 HB79 HOW HVZ HX7 HX57 HY57 HR57 HV17 HV27
    go_wp2_with fail
    go_loopw [12, 80] (fun s12 i wr => ∃ (k : Nat) (L : List Int), k ≤ nz ∧ i = .int .i64 (k : Int) ∧ Hid (Only (· = G) w10 wr) ∧ Hid (L.length = nz) ∧ Hid (0 < nz → wr.heap[G]? = some (.cells (ints L).toArray 3 (0, 0)))) (fun _ i _ => nz - (intOf i).toNat)
    case atStart => exact ⟨0, Z, Nat.zero_le _, rfl, Lib.hid (Only.refl _ _), Lib.hid HNZ.out.symm, Lib.hid (fun h => (HOA.out h).2)⟩
    case round =>
      obtain ⟨k, L, hk, rfl, HO, HL, HG⟩ := hrel
      have HX8 := Lib.hid (HXA.out.only HO.out (fun e => HGG.out.2 e.symm))
      obtain ⟨k0, k1, k2⟩ := HX8.out.cells
      by_cases hlt : k < nz
      · have hG := HG.out (by omega)
        have hq := (HOA.out (by omega)).1
        have hkl : k < (ints L).length := by rw [ints_length, HL.out]; exact hlt
        have hc := blk_cell hG hkl
        rw [ints_at] at hc
        have hf := blk_frozen hG k
        generalize L.getD k 0 = z at hc
        subst hq
        have ql : decide ((k : Int) < (nz : Int)) = true := by simpa using hlt
        have i1 : (0 : Int) ≤ (k : Int) := by omega
        have i2 : (k : Int) < (nz : Int) := by omega
        have HN : Hid (∀ v : Int, Only (· = G) w10 (wr.setCell ⟨G, k, none⟩ (.int .i64 v)) ∧ (wr.setCell ⟨G, k, none⟩ (.int .i64 v)).heap[G]? = some (.cells (ints (L.set k v)).toArray 3 (0, 0))) := Lib.hid (fun v => ⟨HO.out.trans (Only.setCell (S := fun x => x = G) (p := ⟨G, k, none⟩) rfl _), by
          have h1 := blk_set hG k (.int .i64 v)
          rw [List.setIfInBounds_toArray] at h1
          rw [h1]
          simp [ints, List.map_set]⟩)
        clear hG hkl
        go_wp2_with fail
        go_roundw
        case rel => exact ⟨k + 1, L.set k _, by omega, by go_num, Lib.hid (HN.out _).1, Lib.hid (by rw [List.length_set]; exact HL.out), Lib.hid (fun _ => (HN.out _).2)⟩
        case measure => simp [intOf]; omega
      · obtain rfl : k = nz := by omega
        have ql : decide ((k : Int) < (k : Int)) = false := by simp
        have HX5B := Lib.hid (HX5A.out.only HO.out (by have := HGG.out.1; have := HLT5.out; omega))
        have HY5B := Lib.hid (HY5A.out.only HO.out (by have := HGG.out.1; have := HLT5.out; omega))
        have HLK := Lib.hid (like_yes W1 H1 q1 q2 n c1 c2 zs wr ((vrow_only HV1A.out HO.out HGG.out.1 HS5.out).mono (Nat.le_trans HS5.out HO.out.2.2.2.1)) ((vrow_only HV2A.out HO.out HGG.out.1 HS5.out).mono (Nat.le_trans HS5.out HO.out.2.2.2.1)) HX.out (by omega))
        have HBE := Lib.hid (HBA.out.trans (HO.out.below (B := w.heap.size) HBA.out.size (fun j hj e => by have := HGG.out.1; have := HB5.out.size; omega)))
        obtain ⟨a0, a1, a2⟩ := HX5B.out.cells
        obtain ⟨b0, b1, b2⟩ := HY5B.out.cells
        clear hlt hk
        go_wp2_with fail
        refine HLK.out.mono ?_
        rintro e w11 ⟨rfl, hb11⟩
        have HBF := Lib.hid (HBE.out.trans (hb11.mono HBE.out.size))
        clear hb11
        go_wp2_with fail
        go_ret
        exact ⟨rfl, HBF.out⟩
end Go.Proofs.Ytjecakkdongcoaa.Gr

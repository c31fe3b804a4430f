
/- The contracts of repeats, lengthOf and lengthCode. -/
import Derived.Test.YtmcjhkdcbblnnaaIgL
namespace Go.Proofs.Ytmcjhkdcbblnnaa.Inf
open Go.RowKit Go.Proofs.Ytmcjhkdcbblnnaa.Oct Go.Proofs.Ytmcjhkdcbblnnaa.Bit Go.Proofs.Ytmcjhkdcbblnnaa.Hf
set_option linter.unusedVariables false
set_option linter.unusedSimpArgs false
set_option maxRecDepth 100000

/-- blocks made later have turned alone -/
theorem De.apart {w w' : World} {K : Kon} {a : Nat} {v : Value} {out : List UInt8} {F : Option Fix} {S : Nat → Prop} (h : De w K a v out F) (ho : Only S w w') (z : Nat) (hz : K.d < z) (hv : ∀ k, v.ownBlock = some k → k < z)
    (hf : ∀ f, F = some f → f.C ≤ z) (hS : ∀ k, S k → z ≤ k) : De w' K a v out F := by
  have h1 := h.lo
  refine ⟨(ho.2.2.2.2 K.d h.lt (fun e => by have := hS _ e; omega)).trans h.blk, rd_only h.rd ho (fun k hk e => by have := hS _ e; omega), own_only8 h.own ho (fun k hk e => by have := hS _ e; have := hv k hk; omega), h.tbl.only ho (fun k h2 h3 e => by have := hS _ e; omega), h.lo, h.hv, h.om, h.sz, h.fx.only ho ?_, h.cl⟩
  intro f hf2 k h2 h3 e
  have := hf f hf2
  have := hS _ e
  omega
theorem only_late {S T : Nat → Prop} {w w1 w2 : World} (h : Only S w w1) (h2 : Only T w1 w2) (hT : ∀ k, T k → w.heap.size ≤ k) : Only S w w2 :=
  ⟨h2.1.trans h.1, h2.2.1.trans h.2.1, h2.2.2.1.trans h.2.2.1, Nat.le_trans h.2.2.2.1 h2.2.2.2.1, fun k hk hn =>
    (h2.2.2.2.2 k (by have := h.2.2.2.1; omega) (fun e => by have := hT k e; omega)).trans (h.2.2.2.2 k hk hn)⟩
/-- what of a decoder lies below z -/
structure Low (K : Kon) (v : Value) (F : Option Fix) (z : Nat) : Prop where
  d : K.d < z
  v : ∀ k, v.ownBlock = some k → k < z
  f : ∀ f, F = some f → f.C ≤ z
theorem De.low {w : World} {K : Kon} {a : Nat} {v : Value} {out : List UInt8} {F : Option Fix} (h : De w K a v out F) : Low K v F w.heap.size :=
  ⟨h.lt, h.own_lt, fun f hf => by have := h.fx; subst hf; exact this.2.1.1.1⟩
theorem Low.mono {K : Kon} {v : Value} {F : Option Fix} {z y : Nat} (h : Low K v F z) (hy : z ≤ y) : Low K v F y := ⟨by have := h.d; omega, fun k hk => by have := h.v k hk; omega, fun f hf => by have := h.f f hf; omega⟩
theorem De.later {w w' : World} {K : Kon} {a : Nat} {v : Value} {out : List UInt8} {F : Option Fix} {S : Nat → Prop} (h : De w K a v out F) (ho : Only S w w') {z : Nat} (hl : Low K v F z) (hS : ∀ k, S k → z ≤ k) : De w' K a v out F :=
  h.apart ho z hl.d hl.v hl.f hS
set_option maxHeartbeats 1000000 in
theorem repeats_any (s : Nat) (w : World) (hs : s ≤ 100000) : Calls Try.prog 72 #[.int .i64 (s : Int)] w fun e w' => e = .returned (.agg #[.int .i64 (timesV s : Int), .int .i64 (wideV s : Int)]) ∧ Below w.heap.size w w' := by
  have fin : ∀ (V : World) (x y : Int) (tm : Array Value), Below w.heap.size w V → V.heap[w.heap.size]? = some (.cells #[.int .i64 x, .int .i64 y] 40 (0, 0)) → tm[2]?.getD undef = .pointer (some ⟨w.heap.size, 0, none⟩) → x = timesV s → y = wideV s →
      bodyPost Try.prog Try.f72 (fun e w' => e = .returned (.agg #[.int .i64 (timesV s : Int), .int .i64 (wideV s : Int)]) ∧ Below w.heap.size w w') .ret { tmps := tm, defers := [] } V := by
    intro V x y tm hV hb t2 hx hy
    obtain ⟨q0, q1, _, _⟩ := two_cells hb
    refine bodyPost_ret (v := .agg #[.int .i64 (timesV s : Int), .int .i64 (wideV s : Int)]) ?_ rfl ⟨rfl, hV⟩
    simp [results, Try.results72, go_sem, q0, q1, t2, hx, hy]
  have hbA : ∀ x y : Int, Below w.heap.size w (w.alloc (.cells #[.int .i64 x, .int .i64 y] 40)) := fun x y => (Below.refl _ w).alloc (Nat.le_refl _) _
  have hcA : ∀ x y : Int, (w.alloc (.cells #[.int .i64 x, .int .i64 y] 40)).heap[w.heap.size]? = some (.cells #[.int .i64 x, .int .i64 y] 40 (0, 0)) := fun x y => Array.getElem?_push_size
  obtain ⟨k0, k1, f0, f1⟩ := two_cells (hcA 0 0)
  have FIN := Lib.hid fin
  have HBA := Lib.hid hbA
  have HCA := Lib.hid hcA
  clear fin hbA hcA
  by_cases h16 : s = 16
  · subst h16
    clear hs
    go_enter Try.func72, Try.ntmps72
    go_wp2_with fail
    refine FIN.out _ _ _ _ (HBA.out _ _) (HCA.out _ _) ?_ ?_ ?_ <;> rfl
  · have q16 : ((s : Int) == 16) = false := by simp; omega
    by_cases h17 : s = 17
    · subst h17
      clear hs q16 h16
      go_enter Try.func72, Try.ntmps72
      go_wp2_with fail
      refine FIN.out _ _ _ _ (HBA.out _ _) (HCA.out _ _) ?_ ?_ ?_ <;> rfl
    · have q17 : ((s : Int) == 17) = false := by simp; omega
      by_cases h18 : s = 18
      · subst h18
        clear hs q16 q17 h16 h17
        go_enter Try.func72, Try.ntmps72
        go_wp2_with fail
        refine FIN.out _ _ _ _ (HBA.out _ _) (HCA.out _ _) ?_ ?_ ?_ <;> rfl
      · have q18 : ((s : Int) == 18) = false := by simp; omega
        have e1 : timesV s = 1 := by unfold timesV; rw [if_neg h16, if_neg h17, if_neg h18]
        have e2 : wideV s = 0 := by unfold wideV; rw [if_neg h16, if_neg h17, if_neg h18]
        have E1 := Lib.hid e1
        have E2 := Lib.hid e2
        clear h16 h17 h18 hs e1 e2
        go_enter Try.func72, Try.ntmps72
        go_wp2_with fail
        exact FIN.out _ _ _ _ (HBA.out 1 0) (HCA.out 1 0) rfl (by rw [E1.out]; rfl) (by rw [E2.out]; rfl)
set_option maxHeartbeats 1000000 in
theorem lengthOf_any (p : Option Addr) (c s : Nat) (all : List Nat) (w : World) (C : Nat) (hr : VRow w C p (ints (castZ all))) (hs : s ≤ 100000) (hn : all.length ≤ 100000) (h16 : s = 16 → all ≠ []) :
    Calls Try.prog 73 #[.int .i64 (s : Int), .slice p all.length c] w fun e w' => e = .returned (.int .i64 (valueV s all : Int)) ∧ w = w' := by
  obtain ⟨V, hV⟩ : ∃ V, valueV s all = V := ⟨_, rfl⟩
  rw [hV]
  by_cases e16 : s = 16
  · have hne := h16 e16
    have hpos : 0 < all.length := List.length_pos_iff.2 hne
    obtain ⟨b, off, rfl, hbl⟩ := hr.addr (by rw [ints_length, castZ_length]; exact hpos)
    have hc := hr.int (all.length - 1) (by rw [castZ_length]; omega)
    have hz : (castZ all)[all.length - 1]'(by rw [castZ_length]; omega) = (V : Int) := by
      rw [← hV]
      unfold valueV
      rw [if_pos e16]
      simp [castZ, List.getLastD_eq_getLast?, List.getLast?_eq_getElem?, List.getElem?_eq_getElem (show all.length - 1 < all.length by omega)]
    rw [hz] at hc
    obtain ⟨n, hn2⟩ : ∃ n, n = all.length - 1 := ⟨_, rfl⟩
    rw [← hn2] at hc
    have hl : all.length = n + 1 := by omega
    rw [hl]
    have i1 : (0 : Int) ≤ (n : Int) := by omega
    have e : ((n + 1 : Nat) : Int) - 1 = (n : Int) := by omega
    have ew : wrap64 (n : Int) = (n : Int) := by unfold wrap64; omega
    subst e16
    clear hr hz hV hne hpos h16 hn2 hl
    go_enter Try.func73, Try.ntmps73
    go_wp2_with fail
    go_ret
    exact ⟨rfl, rfl⟩
  · have q16 : ((s : Int) == 16) = false := by simp; omega
    by_cases h17 : s = 17
    · have : V = 0 := by rw [← hV]; unfold valueV; rw [if_neg e16, if_pos h17]
      subst this
      subst h17
      clear hr hV h16 hs hn e16 q16
      go_enter Try.func73, Try.ntmps73
      go_wp2_with fail
      go_ret
      exact ⟨rfl, rfl⟩
    · have q17 : ((s : Int) == 17) = false := by simp; omega
      by_cases h18 : s = 18
      · have : V = 0 := by rw [← hV]; unfold valueV; rw [if_neg e16, if_neg h17, if_pos h18]
        subst this
        subst h18
        clear hr hV h16 hs hn e16 q16 h17 q17
        go_enter Try.func73, Try.ntmps73
        go_wp2_with fail
        go_ret
        exact ⟨rfl, rfl⟩
      · have q18 : ((s : Int) == 18) = false := by simp; omega
        have : V = s := by rw [← hV]; unfold valueV; rw [if_neg e16, if_neg h17, if_neg h18]
        subst this
        clear hr hV h16 hs hn e16 h17 h18
        go_enter Try.func73, Try.ntmps73
        go_wp2_with fail
        go_ret
        exact ⟨rfl, rfl⟩
/-- what lengthCode gives -/
def LcP (w : World) (K : Kon) (v : Value) (out : List UInt8) (F : Option Fix) (x : R (List Nat)) (e : Ending) (w' : World) : Prop :=
  Only (MineE K v) w w' ∧ ((∃ c, x = .error c ∧ c ≠ 0 ∧ e = .returned (.tuple #[.pointer none, .int .i64 (c : Int)])) ∨
    (∃ l a, x = .ok (l, a) ∧ ((startN l 31 ≠ 1073741824 ∧ e = .returned (.tuple #[.pointer none, .int .i64 3])) ∨
      (startN l 31 = 1073741824 ∧ ∃ B g, e = .returned (.tuple #[.pointer (some ⟨g, 0, none⟩), .int .i64 0]) ∧ w.heap.size ≤ B ∧ De w' K a v out F ∧ Bo w' B w'.heap.size g (canonW l)))))
theorem castZ_set (L : List Nat) (i n : Nat) : (ints (castZ L)).set i (.int .i64 (n : Int)) = ints (castZ (L.set i n)) := by
  unfold ints castZ
  rw [List.map_set, List.map_set]
def MtSt (w : World) (K : Kon) (v : Value) (out : List UInt8) (F : Option Fix) (X : R (List Nat)) (H1 H2 k j : Nat) (wr : World) : Prop :=
  ∃ a l, De wr K a v out F ∧ Only (MineE K v) w wr ∧ w.heap.size ≤ H1 ∧ H1 < H2 ∧ VRow wr H2 (some ⟨H1, 0, none⟩) (ints (castZ order)) ∧ wr.heap[H2]? = some (.cells (ints (castZ l)).toArray 3 (0, 0)) ∧ l.length = 19 ∧ (∀ m ∈ l, m ≤ 30) ∧ metaR (bitsOf true K.xs) (k - j) j a l = X
theorem order_lt : ∀ j, j < 19 → order.getD j 0 < 19 := by decide +kernel
theorem order_get (j : Nat) (h : j < 19) : (castZ order)[j]? = some ((order.getD j 0 : Nat) : Int) := by
  have : ∀ j, j < 19 → (castZ order)[j]? = some ((order.getD j 0 : Nat) : Int) := by decide +kernel
  exact this j h
set_option maxHeartbeats 4000000 in
theorem lengthCode_any (w : World) (K : Kon) (a : Nat) (v : Value) (out : List UInt8) (F : Option Fix) (k : Nat) (h : De w K a v out F) (hk : k ≤ 19) :
    Calls Try.prog 56 #[.pointer (some ⟨K.d, 0, none⟩), .int .i64 (k : Int)] w (LcP w K v out F (metaR (bitsOf true K.xs) k 0 a (List.replicate 19 0))) := by
  obtain ⟨i0, hi, hz0, hz1, hz2⟩ := info_parts Try.infoInt
  obtain ⟨X, hX⟩ : ∃ X, X = metaR (bitsOf true K.xs) k 0 a (List.replicate 19 0) := ⟨_, rfl⟩
  rw [← hX]
  have HLOW := Lib.hid h.low
  have HLO := Lib.hid h.lo
  have H := Lib.hid h
  have HX := Lib.hid hX
  clear h hX
  go_enter Try.func56, Try.ntmps56
  go_wp2_with fail
  refine (order_any w).mono ?_
  rintro e w1 ⟨rfl, hb1, hv1⟩
  have HB1 := Lib.hid hb1
  have HV1 := Lib.hid hv1
  clear hb1 hv1
  go_wp2_with (at_make; refine wpList_make_full _ rfl _ _ 30 rfl w1.heap.size 3 i0 (.int .i64 0) 1 Try.underlying30 hi hz0 hz1 .i64 .i64 19 19 19 rfl rfl rfl rfl ?c2 ?c3 ?c4 ?_)
  case c2 => rw [hz2]; omega
  case c3 => unfold maxLen; omega
  case c4 => omega
  intro w2 hown hgrow
  have hb2 : Below w1.heap.size w1 w2 := (Below.refl _ _).grown hgrow (Nat.le_refl _) (fun k hk => by cases hk)
  have hblk := blk_of_own hown
  have hmv : (madeCells #[Value.int .i64 0] 19).toList = ints (castZ (List.replicate 19 0)) := by rw [made_vals]; rfl
  rw [hmv] at hblk
  have hlt1 : w.heap.size < w1.heap.size := by
    obtain ⟨b, off, e, hlt⟩ := HV1.out.addr (by decide)
    cases e
    exact hlt
  have hST : MtSt w K v out F X w.heap.size w1.heap.size k 0 w2 := by
    have hb12 : Below w.heap.size w w2 := HB1.out.trans (hb2.mono (by omega))
    refine ⟨a, List.replicate 19 0, H.out.later (Only.of_below (S := fun k => w.heap.size ≤ k) hb12) HLOW.out (fun k h => h), Only.of_below hb12, Nat.le_refl _, hlt1, HV1.out.below hb2 (Nat.le_refl _), hblk, by simp, by decide, ?_⟩
    rw [Nat.sub_zero]
    exact HX.out.symm
  have HST := Lib.hid hST
  clear hown hgrow hb2 hblk hmv hST HV1 HB1
  generalize w1.heap.size = H2 at HST hlt1 ⊢
  clear hlt1
  generalize hH1 : w.heap.size = H1 at HST ⊢
  have k0 : (0 : Int) ≤ (k : Int) := by omega
  have k1 : (k : Int) ≤ 19 := by omega
  go_wp2_with fail
  go_loopw [9, 10, 11, 20] (fun _ _ _ i wr => ∃ j : Nat, j ≤ k ∧ i = .int .i64 (j : Int) ∧ Hid (MtSt w K v out F X H1 H2 k j wr)) (fun _ _ _ i _ => k - (intOf i).toNat)
  case atStart => exact ⟨0, by omega, rfl, HST⟩
  case round =>
    obtain ⟨j, hj, rfl, HB⟩ := hrel
    obtain ⟨a2, l, hD, ho, hwH, hHH, hvo, hblk, hll, hlm, hrun⟩ := HB.out
    by_cases hjk : j < k
    · have ql : decide ((j : Int) < (k : Int)) = true := by simpa using hjk
      have j0 : (0 : Int) ≤ (j : Int) := by omega
      have j1 : (j : Int) < (k : Int) := by omega
      have j19 : j < 19 := by omega
      rw [show k - j = (k - (j + 1)) + 1 from by omega, metaR] at hrun
      obtain ⟨s, hs⟩ : ∃ s, order.getD j 0 = s := ⟨_, rfl⟩
      have hs19 : s < 19 := by rw [← hs]; exact order_lt j j19
      have hoc : wr.cell? ⟨H1, j, none⟩ = some (.int .i64 (s : Int)) := by
        have hjl : j < (castZ order).length := by rw [castZ_length]; exact j19
        have := hvo.int j hjl
        rw [Nat.zero_add] at this
        rw [this]
        have h2 := order_get j j19
        rw [List.getElem?_eq_getElem hjl, hs] at h2
        injection h2 with h2
        rw [h2]
      rw [hs] at hrun
      have c0 := hD.c0
      have HD := Lib.hid hD
      have HO := Lib.hid ho
      rcases hx : numR (bitsOf true K.xs) a2 3 with c | ⟨m, b⟩
      · have HRD := Lib.hid (read_bad K.gr K.p K.cap K.xs a2 3 c (by omega) wr hD.rd hx)
        have hc2 := num_err hx
        have HRES : Hid (∀ w3, Only (· = K.gr) wr w3 → LcP w K v out F X (.returned (.tuple #[.pointer none, .int .i64 2])) w3) := Lib.hid fun w3 ho3 =>
          ⟨ho.trans (only_gr ho3), .inl ⟨2, by rw [← hrun, hx, hc2]; rfl, by decide, rfl⟩⟩
        clear hx hrun hD ho hvo hblk hlm
        go_wp2_with fail
        refine HRD.out.mono ?_
        rintro e w3 ⟨rfl, ho3⟩
        have HRES2 := Lib.hid (HRES.out w3 ho3)
        clear ho3
        go_wp2_with fail
        go_ret2
        exact HRES2.out
      · have HRD := Lib.hid (read_ok K.gr K.p K.cap K.xs a2 3 m b (by omega) wr hD.rd hx)
        obtain ⟨hm8, hb2⟩ := num_lt hx (by omega)
        have hm8 : m < 8 := hm8
        rw [hx, R.then_ok] at hrun
        have HRUN := Lib.hid hrun
        have hgrH : K.gr < w.heap.size := by have := HLOW.out.d; have := HLO.out; omega
        have HKEEP : Hid (∀ w3, Only (· = K.gr) wr w3 → w3.heap[H2]? = some (.cells (ints (castZ l)).toArray 3 (0, 0)) ∧ VRow w3 H2 (some ⟨H1, 0, none⟩) (ints (castZ order))) := Lib.hid (by
          intro w3 ho3
          have hlt : H2 < wr.heap.size := by
            rcases Nat.lt_or_ge H2 wr.heap.size with h | h
            · exact h
            · rw [Array.getElem?_eq_none h] at hblk; cases hblk
          refine ⟨(ho3.2.2.2.2 H2 hlt (by omega)).trans hblk, fun hp => ?_⟩
          obtain ⟨b, off, e, hbl, hc⟩ := hvo hp
          cases e
          exact ⟨_, _, rfl, hbl, fun i hi => (World.cell?_of_block (w := wr) (ho3.2.2.2.2 _ (by show H1 < _; omega) (by show H1 ≠ _; omega))).trans (hc i hi)⟩)
        have HNXT : Hid (∀ w3, Rd w3 K.gr K.p K.cap K.xs b true → Only (· = K.gr) wr w3 → MtSt w K v out F X H1 H2 k (j + 1) (w3.setCell ⟨H2, s, none⟩ (.int .i64 (m : Int)))) := Lib.hid (by
          intro w3 hr3 ho3
          obtain ⟨hb3, hv3⟩ := HKEEP.out w3 ho3
          have hD3 := hD.moved ho3 hr3
          have hset : Only (· = H2) w3 (w3.setCell ⟨H2, s, none⟩ (.int .i64 (m : Int))) := Only.setCell (S := (· = H2)) (p := ⟨H2, s, none⟩) (by rfl) _
          refine ⟨b, l.set s m, hD3.later hset HLOW.out (fun k hk => by omega), only_late (ho.trans (only_gr ho3)) hset (fun k hk => by omega), hwH, hHH, VRow.set_far hv3 _, ?_, by simp [hll], fun x hx2 => ?_, HRUN.out⟩
          · rw [← castZ_set]
            exact blk_set9 hb3 s _
          · rcases List.mem_or_eq_of_mem_set hx2 with h | h
            · exact hlm x h
            · omega)
        have hsl : (ints (castZ l)).length = 19 := by rw [ints_length, castZ_length, hll]
        have HCELL : Hid (∀ w3, Only (· = K.gr) wr w3 → (∃ u, w3.cell? ⟨H2, s, none⟩ = some u) ∧ w3.frozen? ⟨H2, s, none⟩ = false) := Lib.hid (by
          intro w3 ho3
          obtain ⟨hb3, _⟩ := HKEEP.out w3 ho3
          refine ⟨⟨(ints (castZ l))[s]'(by omega), by simp [World.cell?, hb3, hsl, hs19]⟩, by simp [World.frozen?, hb3]⟩)
        have s0 : (0 : Int) ≤ (s : Int) := by omega
        have s1 : (s : Int) < 19 := by omega
        clear hx hrun hD ho hvo hblk hlm hb2 hs hsl HB HST
        go_wp2_with fail
        refine HRD.out.mono ?_
        rintro e w3 ⟨rfl, hr3, ho3⟩
        obtain ⟨⟨u, hu⟩, hfz⟩ := HCELL.out w3 ho3
        have HN := Lib.hid (HNXT.out w3 hr3 ho3)
        clear hr3 ho3
        go_wp2_with fail
        go_roundw
        case rel => exact ⟨j + 1, by omega, by first | rfl | (push_cast; rfl), HN⟩
        case measure => simp [intOf]; omega
    · have hjk2 : j = k := by omega
      subst hjk2
      have ql : decide ((j : Int) < (j : Int)) = false := by simp
      rw [Nat.sub_self] at hrun
      have hHlt : H2 < wr.heap.size := by
        rcases Nat.lt_or_ge H2 wr.heap.size with h | h
        · exact h
        · rw [Array.getElem?_eq_none h] at hblk; cases hblk
      have HCB := Lib.hid (complete_any (some ⟨H2, 0, none⟩) 19 19 l wr (vrow_blk hblk hHlt) hll hlm (by omega) (fun h => by cases h))
      have HRUN : Hid (X = .ok (l, a2)) := Lib.hid hrun.symm
      have HD := Lib.hid hD
      have HO := Lib.hid ho
      clear hrun hD ho hvo hblk hlm HB HST
      go_wp2_with fail
      refine HCB.out.mono ?_
      rintro e w3 ⟨hb3, hres⟩
      have HO3 := Lib.hid (HO.out.trans (Only.of_below (S := MineE K v) hb3))
      rcases hres with ⟨hne, rfl⟩ | ⟨hfull, B, g, rfl, hB, hbo⟩
      · have HRES : Hid (LcP w K v out F X (.returned (.tuple #[.pointer none, .int .i64 3])) w3) := Lib.hid ⟨HO3.out, .inr ⟨l, a2, HRUN.out, .inl ⟨hne, rfl⟩⟩⟩
        clear hb3 hne
        go_wp2_with fail
        go_ret2
        exact HRES.out
      · have hzz := HO.out.2.2.2.1
        have HRES : Hid (LcP w K v out F X (.returned (.tuple #[.pointer (some ⟨g, 0, none⟩), .int .i64 0])) w3) := Lib.hid ⟨HO3.out, .inr ⟨l, a2, HRUN.out, .inr ⟨hfull, B, g, rfl, by omega, HD.out.keep (Only.of_below hb3), hbo⟩⟩⟩
        clear hb3 hfull hB hbo
        go_wp2_with fail
        go_ret2
        exact HRES.out
end Go.Proofs.Ytmcjhkdcbblnnaa.Inf

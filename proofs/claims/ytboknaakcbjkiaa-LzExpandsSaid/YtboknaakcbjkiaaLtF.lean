
/- The contract of longest. -/
import Derived.Test.YtboknaakcbjkiaaLtE
import Derived.Test.YtboknaakcbjkiaaLtX
namespace Go.Proofs.Ytboknaakcbjkiaa.Lzt
open Go.RowKit Go.Proofs.Ytboknaakcbjkiaa.Oct
set_option linter.unusedVariables false
set_option linter.unusedSimpArgs false
set_option maxRecDepth 100000

/-- a token in a block of its own -/
def Tb (w : World) (g : Nat) (t : Tok) : Prop := w.heap[g]? = some (.cells #[.int .u8 (t.lit.toNat : Int), .int .i64 t.len, .int .i64 t.dist] 31 (0, 0))
def put3 (w : World) (g : Nat) (t : Tok) : World := ((w.setCell ⟨g, 0, none⟩ (.int .u8 (t.lit.toNat : Int))).setCell ⟨g, 1, none⟩ (.int .i64 t.len)).setCell ⟨g, 2, none⟩ (.int .i64 t.dist)
theorem Tb.cells {w : World} {g : Nat} {t : Tok} (h : Tb w g t) : w.cell? ⟨g, 0, none⟩ = some (.int .u8 (t.lit.toNat : Int)) ∧ w.cell? ⟨g, 1, none⟩ = some (.int .i64 t.len) ∧ w.cell? ⟨g, 2, none⟩ = some (.int .i64 t.dist) := by
  unfold Tb at h
  refine ⟨?_, ?_, ?_⟩ <;> simp [World.cell?, h]
theorem Tb.free {w : World} {g : Nat} {t : Tok} (h : Tb w g t) : w.frozen? ⟨g, 0, none⟩ = false ∧ w.frozen? ⟨g, 1, none⟩ = false ∧ w.frozen? ⟨g, 2, none⟩ = false := by
  unfold Tb at h
  refine ⟨?_, ?_, ?_⟩ <;> simp [World.frozen?, h]
theorem Tb.lt {w : World} {g : Nat} {t : Tok} (h : Tb w g t) : g < w.heap.size := by
  unfold Tb at h
  rcases Nat.lt_or_ge g w.heap.size with hlt | hge
  · exact hlt
  · rw [Array.getElem?_eq_none hge] at h; cases h
theorem Tb.only {S : Nat → Prop} {w w' : World} {g : Nat} {t : Tok} (h : Tb w g t) (ho : Only S w w') (hg : ¬ S g) : Tb w' g t := (ho.2.2.2.2 g h.lt hg).trans h
theorem Tb.put {w : World} {g : Nat} {t : Tok} (h : Tb w g t) (t' : Tok) : Tb (put3 w g t') g t' := by
  unfold Tb at h
  unfold Tb put3
  simp [World.setCell, Array.getElem?_modify, h]
theorem put3_only (w : World) (g : Nat) (t : Tok) : Only (· = g) w (put3 w g t) :=
  ((Only.setCell (S := (· = g)) (p := ⟨g, 0, none⟩) rfl _).trans (Only.setCell (S := (· = g)) (p := ⟨g, 1, none⟩) rfl _)).trans (Only.setCell (S := (· = g)) (p := ⟨g, 2, none⟩) rfl _)
theorem ret_tok {Q : Ending → World → Prop} {act : Act} {F : World} {d : Nat} {t : Tok} (hb : Tb F d t) (h4 : act.tmps[4]?.getD undef = .pointer (some ⟨d, 0, none⟩)) (hd : act.defers = [])
    (h : Q (.returned (tokV t)) F) : bodyPost Try.prog Try.f14 Q .ret act F := by
  obtain ⟨q0, q1, q2⟩ := hb.cells
  refine bodyPost_ret (v := tokV t) ?_ hd h
  simp [results, Try.results14, go_sem, h4, q0, q1, q2, tokV]
/-- a token that may tell what begins at a place -/
def TokGood (xs : List UInt8) (a most : Nat) (t : Tok) : Prop :=
  (t.len = 0 ∧ t.dist = 0 ∧ ∃ h : a < xs.length, t.lit = xs[a]) ∨
  (∃ n d : Nat, t = ⟨0, (n : Int), (d : Int)⟩ ∧ 3 ≤ n ∧ n ≤ most ∧ 1 ≤ d ∧ d ≤ 32768 ∧ d ≤ a ∧ ∀ k, k < n → xs[a + k]? = xs[a - d + k]?)
theorem eq_good (xs : List UInt8) (z a most k : Nat) (hz : z < a) (h : k < eqN (xs.drop z) ((xs.drop a).take most)) : xs[a + k]? = xs[a - (a - z) + k]? := by
  have h1 := eqN_same _ _ k h
  have h2 := eqN_le (xs.drop z) ((xs.drop a).take most)
  rw [List.length_take] at h2
  rw [List.getElem?_drop, List.getElem?_take, if_pos (by omega), List.getElem?_drop] at h1
  rw [← h1]
  congr 1
  omega
/-- the search under way -/
structure Lng (w : World) (K : Fdr) (a most r0 b0 : Nat) (t : Tok) (wr : World) : Prop where
  fi : Fi wr K a
  bel : Below w.heap.size w wr
  res : Tb wr r0 ⟨0, 0, 0⟩
  best : Tb wr b0 t
  good : TokGood K.xs a most t
  hr : w.heap.size ≤ r0
  hb : w.heap.size ≤ b0
  ne : r0 ≠ b0
theorem Lng.drawn {w wr wr' : World} {K : Fdr} {a most r0 b0 : Nat} {t : Tok} (h : Lng w K a most r0 b0 t wr) (hd : Drawn wr wr') : Lng w K a most r0 b0 t wr' :=
  ⟨h.fi.drawn hd, h.bel.trans (hd.below _), h.res.only (Only.drawn (fun _ => False) hd) (fun e => e), h.best.only (Only.drawn (fun _ => False) hd) (fun e => e), h.good, h.hr, h.hb, h.ne⟩
theorem Lng.put {w wr : World} {K : Fdr} {a most r0 b0 : Nat} {t t' : Tok} (h : Lng w K a most r0 b0 t wr) (hK : K.d < w.heap.size ∧ K.g < w.heap.size ∧ K.h < w.heap.size) (hg : TokGood K.xs a most t') : Lng w K a most r0 b0 t' (put3 wr b0 t') := by
  have ho := put3_only wr b0 t'
  have h1 := h.hb
  have hC := h.fi.Cd
  have h2 := h.bel.size
  exact ⟨h.fi.only ho (by omega) (by omega) (by omega) (fun k hk => by omega), h.bel.trans (ho.below h2 (fun k hk => by omega)), h.res.only ho h.ne, h.best.put t', hg, h.hr, h.hb, h.ne⟩
/-- what the search gives -/
def LngP (w : World) (K : Fdr) (a : Nat) (e : Ending) (w' : World) : Prop :=
  ∃ t, TokGood K.xs a (min (K.xs.length - a) 258) t ∧ e = .returned (tokV t) ∧ Fi w' K a ∧ Below w.heap.size w w'
theorem Lng.done {w wr : World} {K : Fdr} {a r0 b0 : Nat} {t : Tok} (h : Lng w K a (min (K.xs.length - a) 258) r0 b0 t wr) (hK : K.d < w.heap.size ∧ K.g < w.heap.size ∧ K.h < w.heap.size) :
    Tb (put3 wr r0 t) r0 t ∧ LngP w K a (.returned (tokV t)) (put3 wr r0 t) := by
  have ho := put3_only wr r0 t
  have h1 := h.hr
  have hC := h.fi.Cd
  have h2 := h.bel.size
  exact ⟨h.res.put t, t, h.good, rfl, h.fi.only ho (by omega) (by omega) (by omega) (fun k hk => by omega), h.bel.trans (ho.below h2 (fun k hk => by omega))⟩
set_option maxHeartbeats 4000000 in
theorem longest_any (K : Fdr) (a : Nat) (w : World) (hF : Fi w K a) (ha : a < K.xs.length) (hK : K.d < w.heap.size ∧ K.g < w.heap.size ∧ K.h < w.heap.size) :
    Calls Try.prog 14 #[.pointer (some ⟨K.d, 0, none⟩), .int .i64 (a : Int)] w (LngP w K a) := by
  have c0 := hF.c0
  obtain ⟨b, off, hp, hlt, hc⟩ := hF.row (by omega)
  have n2 := hF.n2
  have d0 := hc a ha
  rw [hp] at c0
  obtain ⟨n, hn⟩ : ∃ n, n = K.xs.length := ⟨_, rfl⟩
  obtain ⟨x, hx⟩ : ∃ x, x = K.xs[a] := ⟨_, rfl⟩
  rw [← hn] at c0 n2
  rw [← hx] at d0
  have han : a < n := by omega
  have i0 : (0 : Int) ≤ (a : Int) := by omega
  have i1 : (a : Int) < (n : Int) := by omega
  have HF := Lib.hid hF
  have HK := Lib.hid hK
  have HN := Lib.hid hn
  have HG0 : Hid (TokGood K.xs a (min (K.xs.length - a) 258) ⟨x, 0, 0⟩) := Lib.hid (.inl ⟨rfl, rfl, ha, hx⟩)
  have HPP := Lib.hid hp
  have hb1 : Below w.heap.size w (w.alloc (.cells #[.int .u8 0, .int .i64 0, .int .i64 0] 31)) := alloc_below w _
  have k0 := (hb1.cell (p := ⟨K.d, 0, none⟩) hK.1).trans c0
  have k1 := (hb1.cell (p := ⟨b, off + a, none⟩) (lt_of_cell d0)).trans d0
  have hs1 := alloc_size w (.cells #[.int .u8 0, .int .i64 0, .int .i64 0] 31)
  have hb2 := alloc_below (w.alloc (.cells #[.int .u8 0, .int .i64 0, .int .i64 0] 31)) (.cells #[.int .u8 (x.toNat : Int), .int .i64 0, .int .i64 0] 31)
  have k2 := (hb2.cell (p := ⟨K.d, 0, none⟩) (by rw [hs1]; exact Nat.lt_succ_of_lt hK.1)).trans k0
  have hb3 : Below w.heap.size w ((w.alloc (.cells #[.int .u8 0, .int .i64 0, .int .i64 0] 31)).alloc (.cells #[.int .u8 (x.toNat : Int), .int .i64 0, .int .i64 0] 31)) := hb1.trans (hb2.mono (by rw [hs1]; exact Nat.le_succ _))
  have ht1 : Tb (w.alloc (.cells #[.int .u8 0, .int .i64 0, .int .i64 0] 31)) w.heap.size ⟨0, 0, 0⟩ := Array.getElem?_push_size
  have ht2 : Tb ((w.alloc (.cells #[.int .u8 0, .int .i64 0, .int .i64 0] 31)).alloc (.cells #[.int .u8 (x.toNat : Int), .int .i64 0, .int .i64 0] 31)) (w.heap.size + 1) ⟨x, 0, 0⟩ := by
    rw [← hs1]
    exact Array.getElem?_push_size
  obtain ⟨most, hmost⟩ : ∃ most, most = min (K.xs.length - a) 258 := ⟨_, rfl⟩
  have hl0 : Lng w K a most w.heap.size (w.heap.size + 1) ⟨x, 0, 0⟩ ((w.alloc (.cells #[.int .u8 0, .int .i64 0, .int .i64 0] 31)).alloc (.cells #[.int .u8 (x.toNat : Int), .int .i64 0, .int .i64 0] 31)) :=
    ⟨hF.below (alloc_below w _ |>.trans (hb2.mono (by rw [hs1]; exact Nat.le_succ _))), hb3, ht1.only (S := fun _ => False) (Only.of_below hb2) (fun e => e), ht2, .inl ⟨rfl, rfl, ha, hx⟩, Nat.le_refl _, by omega, by omega⟩
  have HL0 := Lib.hid hl0
  have HMO := Lib.hid hmost
  have hmi : min ((n : Int) - (a : Int)) 258 = (most : Int) := by omega
  have hm1 : 1 ≤ most := by omega
  have hm2 : a + most ≤ n := by omega
  have hm3 : most ≤ 258 := by omega
  clear hF hK hn hx ha hp hc hlt hs1 hb1 hb2 hb3 ht1 ht2 hl0 hmost
  go_enter Try.func14, Try.ntmps14
  go_wp2_with fail
  generalize ((w.alloc (.cells #[.int .u8 0, .int .i64 0, .int .i64 0] 31)).alloc (.cells #[.int .u8 (x.toNat : Int), .int .i64 0, .int .i64 0] 31)) = w2 at HL0 k2 ⊢
  refine (last_any K a a w2 HL0.out.fi (by rw [← HN.out]; omega)).mono ?_
  rintro e w3 ⟨⟨z, hz, rfl⟩, hd3⟩
  have HZ := Lib.hid hz
  have HL3 := Lib.hid (HL0.out.drawn hd3)
  clear k0 k1 k2 d0 c0 HL0 hd3 hz
  go_wp2_with fail
  go_loopw [7, 28] (fun v i wr => ∃ (j : Nat) (z : Int) (t : Tok), j ≤ 64 ∧ i = .int .i64 (j : Int) ∧ v = .int .i64 z ∧ Hid (PlaceOk z a) ∧ Hid (Lng w K a most w.heap.size (w.heap.size + 1) t wr)) (fun _ i _ => 64 - (intOf i).toNat)
  case atStart => exact ⟨0, z, ⟨x, 0, 0⟩, by omega, rfl, rfl, HZ, HL3⟩
  case round =>
    clear HZ HL3
    obtain ⟨j, z, t, hj, rfl, rfl, HZ, HL⟩ := hrel
    obtain ⟨r0, r1, r2⟩ := HL.out.res.cells
    obtain ⟨f0, f1, f2⟩ := HL.out.res.free
    obtain ⟨t0, t1, t2⟩ := HL.out.best.cells
    obtain ⟨g0, g1, g2⟩ := HL.out.best.free
    have HDN : Hid (Tb (put3 wr w.heap.size t) w.heap.size t ∧ LngP w K a (.returned (tokV t)) (put3 wr w.heap.size t)) := Lib.hid (by
      have h := HL.out
      rw [HMO.out] at h
      exact h.done HK.out)
    by_cases hjl : j < 64
    · have qj : decide ((j : Int) < 64) = true := by simp; omega
      rcases HZ.out with hz | ⟨hz0, hza⟩
      · subst hz
        have q1 : decide ((32768 : Int) < (a : Int) - -32769) = true := by simp; omega
        have q2 : decide ((32768 : Int) < (a : Int) + 32769) = true := by simp; omega
        go_wp2_with fail
        exact ret_tok HDN.out.1 rfl rfl HDN.out.2
      · obtain ⟨Z, rfl⟩ : ∃ Z : Nat, z = (Z : Int) := ⟨z.toNat, by omega⟩
        have hZa : Z < a := by omega
        have q1 : decide ((32768 : Int) < (a : Int) - (Z : Int)) = false := by simp; omega
        by_cases hfull : t.len = (most : Int)
        · have qf : (t.len == (most : Int)) = true := by simpa using hfull
          clear hfull
          go_wp2_with fail
          exact ret_tok HDN.out.1 rfl rfl HDN.out.2
        · have qf : (t.len == (most : Int)) = false := by simpa using hfull
          clear HDN
          obtain ⟨cap, hcap⟩ : ∃ cap, cap = K.cap := ⟨_, rfl⟩
          have hcn : n ≤ cap := by rw [hcap, HN.out]; exact HL.out.fi.cap.1
          have hcm : cap ≤ 9223372036854775807 := by
            have := HL.out.fi.cap.2
            unfold maxLen at this
            omega
          have c0 := HL.out.fi.c0
          rw [HPP.out, ← HN.out, ← hcap] at c0
          have c3 := HL.out.fi.c3
          rw [← HN.out] at c3
          have j0 : (0 : Int) ≤ (Z : Int) := by omega
          have j1 : (Z : Int) ≤ (n : Int) := by omega
          have j2 : (a : Int) + (most : Int) ≤ (cap : Int) := by omega
          have j3 : ¬ cap = Z := by omega
          have j4 : ¬ cap = a := by omega
          obtain ⟨E, hE⟩ : ∃ E, E = eqN (K.xs.drop Z) ((K.xs.drop a).take most) := ⟨_, rfl⟩
          have HEE := Lib.hid hE
          have hEl : E ≤ most := by
            have h1 := eqN_le (K.xs.drop Z) ((K.xs.drop a).take most)
            rw [List.length_take] at h1
            omega
          have HE : Hid (∀ N, Calls Try.prog 19 #[.slice (some ⟨b, off + Z, none⟩) (n - Z) (cap - Z), .slice (some ⟨b, off + a, none⟩) most (cap - a)] (wr.drewN N) fun e w' => e = .returned (.int .i64 (E : Int)) ∧ ∃ M, w' = wr.drewN M) := Lib.hid fun N => by
            rw [HEE.out]
            obtain ⟨b', off', e', hlt', hc'⟩ := (HL.out.fi.drawn (w' := wr.drewN N) ⟨N, rfl⟩).row (by rw [← HN.out]; omega)
            rw [HPP.out] at e'
            injection e' with e'
            injection e' with e1 e2
            subst e1 e2
            have hnn := HN.out
            refine (equals_any _ _ _ _ _ _ (K.xs.drop Z) ((K.xs.drop a).take most) _ (fun _ => ⟨b, off + Z, rfl, lt_of_cell (hc' 0 (by omega)), fun i hi => ?_⟩) (fun _ => ⟨b, off + a, rfl, lt_of_cell (hc' 0 (by omega)), fun i hi => ?_⟩) (by rw [List.length_drop]; omega) (by rw [List.length_take, List.length_drop]; omega) (by omega) (by omega)).mono ?_
            · rw [List.length_drop] at hi
              rw [Nat.add_assoc, hc' (Z + i) (by omega)]
              simp
            · rw [List.length_take, List.length_drop] at hi
              rw [Nat.add_assoc, hc' (a + i) (by omega)]
              simp
            · rintro e w' ⟨h, M, hM⟩
              exact ⟨h, N + M, by rw [hM, World.drewN_drewN]⟩
          have HCAP := Lib.hid hcap
          have hrem : (Z : Int).tmod 32768 = (Z : Int) := Int.tmod_eq_of_lt (by omega) (by omega)
          have j5 : (Z : Int) < (n : Int) := by omega
          clear hfull hcap hE
          go_wp2_with fail
          go_quiet ((go_at_call 19; exact HE.out _))
          have HLQ := Lib.hid (HL.out.drawn (wr' := wr.drewN nq) ⟨nq, rfl⟩)
          by_cases hgood : 3 ≤ E ∧ t.len < (E : Int)
          · obtain ⟨hg1, hg2⟩ := hgood
            have p1 : decide ((3 : Int) ≤ (E : Int)) = true := by simp; omega
            have p2 : decide (t.len < (E : Int)) = true := by simpa using hg2
            have htg : TokGood K.xs a most ⟨0, (E : Int), (a : Int) - (Z : Int)⟩ := .inr ⟨E, a - Z, by rw [show (((a - Z : Nat) : Int)) = (a : Int) - (Z : Int) from by omega], hg1, hEl, by omega, by omega, by omega, fun k hk => eq_good K.xs Z a most k hZa (by rw [← HEE.out]; exact hk)⟩
            have HL5 := Lib.hid (HLQ.out.put HK.out htg)
            obtain ⟨⟨z2, hz2, hp2⟩, _⟩ := HL5.out.fi.bef Z (by rw [← HN.out]; omega)
            have k3 := HL5.out.fi.c3
            rw [← HN.out] at k3
            replace k3 : ((((wr.drewN nq).setCell ⟨w.heap.size + 1, 0, none⟩ (.int .u8 0)).setCell ⟨w.heap.size + 1, 1, none⟩ (.int .i64 (E : Int))).setCell ⟨w.heap.size + 1, 2, none⟩ (.int .i64 ((a : Int) - (Z : Int)))).cell? ⟨K.d, 3, none⟩ = some (.slice (some ⟨K.h, 0, none⟩) n n) := k3
            replace hz2 : ((((wr.drewN nq).setCell ⟨w.heap.size + 1, 0, none⟩ (.int .u8 0)).setCell ⟨w.heap.size + 1, 1, none⟩ (.int .i64 (E : Int))).setCell ⟨w.heap.size + 1, 2, none⟩ (.int .i64 ((a : Int) - (Z : Int)))).cell? ⟨K.h, Z, none⟩ = some (.int .i64 z2) := hz2
            have HP2 : Hid (PlaceOk z2 a) := Lib.hid (by rw [show max a 1 = a from by omega] at hp2; exact hp2)
            clear hg2 htg hp2 c0 c3
            go_wp2_with fail
            go_roundw
            case rel => exact ⟨j + 1, z2, _, by omega, by first | rfl | (push_cast; rfl), rfl, HP2, HL5⟩
            case measure => simp [intOf]; omega
          · obtain ⟨⟨z2, hz2, hp2⟩, _⟩ := HLQ.out.fi.bef Z (by rw [← HN.out]; omega)
            have HP2 : Hid (PlaceOk z2 a) := Lib.hid (by rw [show max a 1 = a from by omega] at hp2; exact hp2)
            have k3 := HLQ.out.fi.c3
            rw [← HN.out] at k3
            by_cases hg1 : 3 ≤ E
            · have p1 : decide ((3 : Int) ≤ (E : Int)) = true := by simp; omega
              have p2 : decide (t.len < (E : Int)) = false := by simp; omega
              clear hgood hp2 c0 c3
              go_wp2_with fail
              go_roundw
              case rel => exact ⟨j + 1, z2, t, by omega, by first | rfl | (push_cast; rfl), rfl, HP2, HLQ⟩
              case measure => simp [intOf]; omega
            · have p1 : decide ((3 : Int) ≤ (E : Int)) = false := by simp; omega
              clear hgood hp2 c0 c3
              go_wp2_with fail
              go_roundw
              case rel => exact ⟨j + 1, z2, t, by omega, by first | rfl | (push_cast; rfl), rfl, HP2, HLQ⟩
              case measure => simp [intOf]; omega
    · have qj : decide ((j : Int) < 64) = false := by simp; omega
      go_wp2_with fail
      exact ret_tok HDN.out.1 rfl rfl HDN.out.2
end Go.Proofs.Ytboknaakcbjkiaa.Lzt

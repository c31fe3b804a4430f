
/- The contracts of fixedBlock and of block. -/
import Derived.Test.YtmcjhkdcbblnnaaIgO
namespace Go.Proofs.Ytmcjhkdcbblnnaa.Inf
open Go.RowKit Go.Proofs.Ytmcjhkdcbblnnaa.Oct Go.Proofs.Ytmcjhkdcbblnnaa.Bit Go.Proofs.Ytmcjhkdcbblnnaa.Hf
set_option linter.unusedVariables false
set_option linter.unusedSimpArgs false
set_option maxRecDepth 100000

/-- a call on a decoder did as it should, or told the error; the given codes may have been made -/
def ResF (w : World) (K : Kon) (v : Value) (x : R (List UInt8)) (e : Ending) (w' : World) : Prop :=
  (∃ o a F, x = .ok (o, a) ∧ e = .returned (.int .i64 0) ∧ DeT w K v a o F w') ∨ ∃ c, x = .error c ∧ c ≠ 0 ∧ e = .returned (.int .i64 (c : Int)) ∧ Only (MineE K v) w w'
theorem Res.f {w w' : World} {K : Kon} {v : Value} {F : Option Fix} {x : R (List UInt8)} {e : Ending} (h : Res w K v F x e w') : ResF w K v x e w' := by
  rcases h with ⟨o, a, h1, h2, h3⟩ | h
  · exact .inl ⟨o, a, F, h1, h2, h3⟩
  · exact .inr h
theorem ResF.end_ {w w' : World} {K : Kon} {v : Value} {x : R (List UInt8)} {e : Ending} (h : ResF w K v x e w') : ∃ r, e = .returned (.int .i64 r) := by
  rcases h with ⟨_, _, _, _, h2, _⟩ | ⟨c, _, _, h3, _⟩
  · exact ⟨_, h2⟩
  · exact ⟨_, h3⟩
theorem ResF.more {w w1 w' : World} {K : Kon} {v : Value} {x : R (List UInt8)} {e : Ending} (ho : Only (MineE K v) w w1) (h : ResF w1 K v x e w') : ResF w K v x e w' := by
  rcases h with ⟨o, a, F, h1, h2, h3⟩ | ⟨c, h1, h2, h3, h4⟩
  · exact .inl ⟨o, a, F, h1, h2, h3.more ho (fun k hk => .inl hk)⟩
  · exact .inr ⟨c, h1, h2, h3, ho.trans h4⟩
theorem fixW : (canonW fixedA).length ≤ 300 ∧ (canonW fixedB).length ≤ 30 := by rw [canonW_length, canonW_length]; decide
theorem De.fixed {w : World} {K : Kon} {a : Nat} {v : Value} {out : List UInt8} {B ga gb : Nat} (h : De w K a v out none) (hB : K.d < B) (hv : ∀ k, v.ownBlock = some k → k < B) (h1 : Bo w B w.heap.size ga (canonW fixedA)) (h2 : Bo w B w.heap.size gb (canonW fixedB)) :
    De ((w.setCell ⟨K.d, 5, none⟩ (.pointer (some ⟨ga, 0, none⟩))).setCell ⟨K.d, 6, none⟩ (.pointer (some ⟨gb, 0, none⟩))) K a v out (some ⟨B, w.heap.size, ga, gb⟩) ∧
      Only (MineE K v) w ((w.setCell ⟨K.d, 5, none⟩ (.pointer (some ⟨ga, 0, none⟩))).setCell ⟨K.d, 6, none⟩ (.pointer (some ⟨gb, 0, none⟩))) := by
  have ho : Only (· = K.d) w ((w.setCell ⟨K.d, 5, none⟩ (.pointer (some ⟨ga, 0, none⟩))).setCell ⟨K.d, 6, none⟩ (.pointer (some ⟨gb, 0, none⟩))) :=
    (Only.setCell (S := (· = K.d)) (p := ⟨K.d, 5, none⟩) (by rfl) _).trans (Only.setCell (S := (· = K.d)) (p := ⟨K.d, 6, none⟩) (by rfl) _)
  have hlo := h.lo
  have hhv := h.hv
  refine ⟨⟨?_, rd_only h.rd ho (fun k hk e => by omega), own_only8 h.own ho (fun k hk e => by have := hhv k hk; omega), h.tbl.only ho (fun k _ h2 e => by omega), hlo, hhv, h.om, h.sz, ?_, h.cl⟩, ho.mono fun k _ e => .inl e⟩
  · have hb := h.blk
    simp [World.setCell, Array.getElem?_modify, hb, fixL, fixR]
  · refine ⟨⟨hB, fun k hk hh => by have := hv k hk; have := hh.1; simp at this; omega⟩, ?_, ?_⟩
    · exact (h1.set hB _).set hB _
    · exact (h2.set hB _).set hB _
set_option maxHeartbeats 2000000 in
theorem fixedBlock_any (w : World) (K : Kon) (a : Nat) (v : Value) (out : List UInt8) (F : Option Fix) (h : De w K a v out F) :
    Calls Try.prog 39 #[.pointer (some ⟨K.d, 0, none⟩)] w (ResF w K v (blockA (canonW fixedA) (canonW fixedB) (bitsOf true K.xs) K.most a out)) := by
  obtain ⟨X, hX⟩ : ∃ X, X = blockA (canonW fixedA) (canonW fixedB) (bitsOf true K.xs) K.most a out := ⟨_, rfl⟩
  rw [← hX]
  have HX := Lib.hid hX
  have HLOW := Lib.hid h.low
  have hlo := h.lo
  have c5 := h.c5
  have c6 := h.c6
  rcases F with _ | f
  · change w.cell? ⟨K.d, 5, none⟩ = some (.pointer none) at c5
    have H := Lib.hid h
    clear h hX c6
    go_enter Try.func39, Try.ntmps39
    go_wp2_with fail
    refine (fixedCodes_any w).mono ?_
    rintro e w2 ⟨hb2, B, ga, gb, rfl, hB, h1, h2⟩
    have hD2 := H.out.keep (Only.of_below hb2)
    obtain ⟨hD3, ho3⟩ := hD2.fixed (B := B) (by have := HLOW.out.d; omega) (fun k hk => by have := HLOW.out.v k hk; omega) h1 h2
    have f5 := hD2.fz 5
    have f6 := hD2.fz 6
    have c5 : w2.cell? ⟨K.d, 5, none⟩ = some (.pointer none) := hD2.c5
    have c6 : w2.cell? ⟨K.d, 6, none⟩ = some (.pointer none) := hD2.c6
    obtain ⟨w3, hw3⟩ : ∃ w3, w3 = (w2.setCell ⟨K.d, 5, none⟩ (.pointer (some ⟨ga, 0, none⟩))).setCell ⟨K.d, 6, none⟩ (.pointer (some ⟨gb, 0, none⟩)) := ⟨_, rfl⟩
    rw [← hw3] at hD3 ho3
    have HCD := Lib.hid (coded_any w3 K a v out _ B w2.heap.size ga gb _ _ hD3 hD3.fx.2.1 hD3.fx.2.2 hD3.fx.1 fixW.1 fixW.2)
    have HO3 := Lib.hid ((Only.of_below (S := MineE K v) hb2).trans ho3)
    have HW3 := Lib.hid hw3
    clear hb2 hB h1 h2 hD2 hD3 ho3 hw3
    go_wp2_with fail
    rw [← HW3.out]
    refine HCD.out.mono ?_
    rintro e w4 hres
    have HRES : Hid (ResF w K v X e w4) := Lib.hid (by rw [HX.out]; exact (Res.f hres).more HO3.out)
    obtain ⟨r, rfl⟩ := HRES.out.end_
    clear hres
    go_wp2_with fail
    go_ret
    exact HRES.out
  · change w.cell? ⟨K.d, 5, none⟩ = some (.pointer (some ⟨f.ga, 0, none⟩)) at c5
    change w.cell? ⟨K.d, 6, none⟩ = some (.pointer (some ⟨f.gb, 0, none⟩)) at c6
    have HCD := Lib.hid (coded_any w K a v out _ f.B f.C f.ga f.gb _ _ h h.fx.2.1 h.fx.2.2 h.fx.1 fixW.1 fixW.2)
    clear h hX
    go_enter Try.func39, Try.ntmps39
    go_wp2_with fail
    refine HCD.out.mono ?_
    rintro e w4 hres
    have HRES : Hid (ResF w K v X e w4) := Lib.hid (by rw [HX.out]; exact Res.f hres)
    obtain ⟨r, rfl⟩ := HRES.out.end_
    clear hres
    go_wp2_with fail
    go_ret
    exact HRES.out
/-- what block gives -/
def BlP (w : World) (K : Kon) (a : Nat) (v : Value) (out : List UInt8) (e : Ending) (w' : World) : Prop :=
  (∃ h b o a' F, numR (bitsOf true K.xs) a 3 = .ok (h, b) ∧ oneA (bitsOf true K.xs) K.most h b out = .ok (o, a') ∧ e = .returned (.tuple #[.bool (decide (h % 2 = 1)), .int .i64 0]) ∧ DeT w K v a' o F w') ∨
    ∃ c t, ((numR (bitsOf true K.xs) a 3).then fun h b => oneA (bitsOf true K.xs) K.most h b out) = .error c ∧ c ≠ 0 ∧ e = .returned (.tuple #[.bool t, .int .i64 (c : Int)]) ∧ Only (MineE K v) w w'
theorem and1 (m : Nat) (h : m < 4294967296) : bits .and .u32 (m : Int) 1 = ((m % 2 : Nat) : Int) := by
  rw [show (1 : Int) = ((1 : Nat) : Int) from rfl, u32_and_nat m 1 h (by omega)]
  congr 1
  rw [show (1 : Nat) = 2 ^ 1 - 1 from rfl, Nat.and_two_pow_sub_one_eq_mod]
theorem ResF.bl {w w1 w' : World} {K : Kon} {a : Nat} {v : Value} {out : List UInt8} {h b : Nat} {r : Int} (hx : numR (bitsOf true K.xs) a 3 = .ok (h, b)) (ho : Only (MineE K v) w w1)
    (hr : ResF w1 K v (oneA (bitsOf true K.xs) K.most h b out) (.returned (.int .i64 r)) w') : BlP w K a v out (.returned (.tuple #[.bool (decide (h % 2 = 1)), .int .i64 r])) w' := by
  rcases hr with ⟨o, a', F, h1, h2, h3⟩ | ⟨c, h1, h2, h3, h4⟩
  · cases h2
    exact .inl ⟨h, b, o, a', F, hx, h1, rfl, h3.more ho (fun k hk => .inl hk)⟩
  · injection h3 with h3
    injection h3 with _ h3
    subst h3
    exact .inr ⟨c, _, by rw [hx, R.then_ok, h1], h2, rfl, ho.trans h4⟩
set_option maxHeartbeats 2000000 in
theorem block_any (w : World) (K : Kon) (a : Nat) (v : Value) (out : List UInt8) (F : Option Fix) (h : De w K a v out F) :
    Calls Try.prog 22 #[.pointer (some ⟨K.d, 0, none⟩)] w (BlP w K a v out) := by
  have c0 := h.c0
  have H := Lib.hid h
  rcases hx : numR (bitsOf true K.xs) a 3 with c | ⟨m, b⟩
  · have HRD := Lib.hid (read_bad K.gr K.p K.cap K.xs a 3 c (by omega) w h.rd hx)
    have hc2 := num_err hx
    have HRES : Hid (∀ w2, Only (· = K.gr) w w2 → BlP w K a v out (.returned (.tuple #[.bool false, .int .i64 2])) w2) := Lib.hid fun w2 ho2 =>
      .inr ⟨2, false, by rw [hx, hc2]; rfl, by decide, rfl, only_gr ho2⟩
    clear hx h
    go_enter Try.func22, Try.ntmps22
    go_wp2_with fail
    refine HRD.out.mono ?_
    rintro e w2 ⟨rfl, ho2⟩
    have HRES2 := Lib.hid (HRES.out w2 ho2)
    clear ho2
    go_wp2_with fail
    go_ret2
    exact HRES2.out
  · have HRD := Lib.hid (read_ok K.gr K.p K.cap K.xs a 3 m b (by omega) w h.rd hx)
    obtain ⟨hm8, _⟩ := num_lt hx (by omega)
    have hm8 : m < 8 := hm8
    have g1 := and1 m (by omega)
    obtain ⟨y, hy⟩ : ∃ y, y = m % 2 := ⟨_, rfl⟩
    obtain ⟨q, hq⟩ : ∃ q, q = m / 2 := ⟨_, rfl⟩
    rw [← hy] at g1
    have d1 : (m : Int) / 2 = (q : Int) := by omega
    have hbit : ((y : Int) == 1) = decide (m % 2 = 1) := by
      rw [← hy]
      by_cases h1 : y = 1
      · subst h1; rfl
      · have : ¬ (y : Int) = 1 := by omega
        simp [h1, this]
    have HX := Lib.hid hx
    have HQ := Lib.hid hq
    have hq4 : q < 4 := by omega
    have FIN : Hid (∀ w1 r w', Only (MineE K v) w w1 → ResF w1 K v (oneA (bitsOf true K.xs) K.most m b out) (.returned (.int .i64 r)) w' → BlP w K a v out (.returned (.tuple #[.bool ((y : Int) == 1), .int .i64 r])) w') := Lib.hid fun w1 r w' ho hr => by
      rw [hbit]; exact hr.bl hx ho
    have HPRE : Hid (∀ w2, Rd w2 K.gr K.p K.cap K.xs b true → Only (· = K.gr) w w2 → De w2 K b v out F ∧ Only (MineE K v) w w2) := Lib.hid fun w2 hr ho => ⟨H.out.moved ho hr, only_gr ho⟩
    clear hx h hy hq hbit
    match q, hq4 with
    | 0, _ =>
      have HONE : Hid (oneA (bitsOf true K.xs) K.most m b out = storedR (bitsOf true K.xs) K.most b out) := Lib.hid (by unfold oneA; rw [← HQ.out, if_pos rfl])
      go_enter Try.func22, Try.ntmps22
      go_wp2_with fail
      refine HRD.out.mono ?_
      rintro e w2 ⟨rfl, hr2, ho2⟩
      obtain ⟨hD2, hO2⟩ := HPRE.out w2 hr2 ho2
      have HC := Lib.hid (stored_any w2 K b v out F hD2)
      have HO2 := Lib.hid hO2
      clear hr2 ho2 hD2 hO2
      go_wp2_with fail
      refine HC.out.mono ?_
      rintro e w3 hres
      have hres2 := Res.f hres
      rw [← HONE.out] at hres2
      obtain ⟨r, rfl⟩ := hres2.end_
      have HRES := Lib.hid (FIN.out w2 r w3 HO2.out hres2)
      clear hres hres2
      go_wp2_with fail
      go_ret2
      exact HRES.out
    | 1, _ =>
      have HONE : Hid (oneA (bitsOf true K.xs) K.most m b out = blockA (canonW fixedA) (canonW fixedB) (bitsOf true K.xs) K.most b out) := Lib.hid (by unfold oneA; rw [← HQ.out, if_neg (by omega), if_pos rfl])
      go_enter Try.func22, Try.ntmps22
      go_wp2_with fail
      refine HRD.out.mono ?_
      rintro e w2 ⟨rfl, hr2, ho2⟩
      obtain ⟨hD2, hO2⟩ := HPRE.out w2 hr2 ho2
      have HC := Lib.hid (fixedBlock_any w2 K b v out F hD2)
      have HO2 := Lib.hid hO2
      clear hr2 ho2 hD2 hO2
      go_wp2_with fail
      refine HC.out.mono ?_
      rintro e w3 hres2
      rw [← HONE.out] at hres2
      obtain ⟨r, rfl⟩ := hres2.end_
      have HRES := Lib.hid (FIN.out w2 r w3 HO2.out hres2)
      clear hres2
      go_wp2_with fail
      go_ret2
      exact HRES.out
    | 2, _ =>
      have HONE : Hid (oneA (bitsOf true K.xs) K.most m b out = toldA (bitsOf true K.xs) K.most b out) := Lib.hid (by unfold oneA; rw [← HQ.out, if_neg (by omega), if_neg (by omega), if_pos rfl])
      go_enter Try.func22, Try.ntmps22
      go_wp2_with fail
      refine HRD.out.mono ?_
      rintro e w2 ⟨rfl, hr2, ho2⟩
      obtain ⟨hD2, hO2⟩ := HPRE.out w2 hr2 ho2
      have HC := Lib.hid (ownBlock_any w2 K b v out F hD2)
      have HO2 := Lib.hid hO2
      clear hr2 ho2 hD2 hO2
      go_wp2_with fail
      refine HC.out.mono ?_
      rintro e w3 hres
      have hres2 := Res.f hres
      rw [← HONE.out] at hres2
      obtain ⟨r, rfl⟩ := hres2.end_
      have HRES := Lib.hid (FIN.out w2 r w3 HO2.out hres2)
      clear hres hres2
      go_wp2_with fail
      go_ret2
      exact HRES.out
    | 3, _ =>
      have HONE : Hid (oneA (bitsOf true K.xs) K.most m b out = .error 3) := Lib.hid (by unfold oneA; rw [← HQ.out, if_neg (by omega), if_neg (by omega), if_neg (by omega)])
      go_enter Try.func22, Try.ntmps22
      go_wp2_with fail
      refine HRD.out.mono ?_
      rintro e w2 ⟨rfl, hr2, ho2⟩
      obtain ⟨hD2, hO2⟩ := HPRE.out w2 hr2 ho2
      have HRES := Lib.hid (FIN.out w2 3 w2 hO2 (.inr ⟨3, HONE.out, by decide, rfl, Only.refl _ _⟩))
      clear hr2 ho2 hD2 hO2
      go_wp2_with fail
      go_ret2
      exact HRES.out
end Go.Proofs.Ytmcjhkdcbblnnaa.Inf


/- The contracts of enter and equals. -/
import Derived.Test.YtboknaakcbjkiaaLtC
namespace Go.Proofs.Ytboknaakcbjkiaa.Lzt
open Go.RowKit Go.Proofs.Ytboknaakcbjkiaa.Oct
set_option linter.unusedVariables false
set_option linter.unusedSimpArgs false
set_option maxRecDepth 100000

theorem PlaceOk.mono {z : Int} {a b : Nat} (h : PlaceOk z a) (hab : a ≤ b) : PlaceOk z b := by
  rcases h with h | ⟨h1, h2⟩
  · exact .inl h
  · exact .inr ⟨h1, by omega⟩
theorem Fi.more {w : World} {K : Fdr} {a b : Nat} (h : Fi w K a) (hab : a ≤ b) : Fi w K b :=
  ⟨h.blk, h.row, fun j hj => by
    obtain ⟨⟨z, hz, hp⟩, hf⟩ := h.lat j hj
    exact ⟨⟨z, hz, hp.mono hab⟩, hf⟩, fun j hj => by
    obtain ⟨⟨z, hz, hp⟩, hf⟩ := h.bef j hj
    exact ⟨⟨z, hz, hp.mono (by omega)⟩, hf⟩, h.gd, h.hd, h.gh, h.Cd, h.Cg, h.Ch, h.m15, h.n2, h.cap⟩
theorem other_block {w : World} {p q : Addr} {u : Value} (h : p.block ≠ q.block) : (w.setCell p u).heap[q.block]? = w.heap[q.block]? := Below.heap_setCell _ _ _ _ (fun e => h e.symm)
theorem cell_set {w : World} {b i j : Nat} {u v : Value} (h : w.cell? ⟨b, i, none⟩ = some v) : (w.setCell ⟨b, i, none⟩ u).cell? ⟨b, j, none⟩ = if i = j then some u else w.cell? ⟨b, j, none⟩ := by
  by_cases e : i = j
  · subst e
    rw [if_pos rfl]
    exact World.cell?_setCell_same _ _ _ h
  · rw [if_neg e]
    exact World.cell?_setCell_other _ _ _ _ (fun h => e (by injection h))
theorem Fi.setBef {w : World} {K : Fdr} {a i : Nat} {z : Int} (h : Fi w K a) (hi : i < K.xs.length) (hz : PlaceOk z a) : Fi (w.setCell ⟨K.h, i, none⟩ (.int .i64 z)) K a := by
  obtain ⟨⟨y, hy, _⟩, _⟩ := h.bef i hi
  refine ⟨?_, fun hp => ?_, fun j hj => ?_, fun j hj => ?_, h.gd, h.hd, h.gh, h.Cd, h.Cg, h.Ch, h.m15, h.n2, h.cap⟩
  · exact (other_block (q := ⟨K.d, 0, none⟩) (by exact h.hd)).trans h.blk
  · obtain ⟨b, off, e, hlt, hc⟩ := h.row hp
    refine ⟨b, off, e, hlt, fun i hi => (World.cell?_of_block (other_block (by show K.h ≠ b; have := h.Ch; omega))).trans (hc i hi)⟩
  · obtain ⟨⟨x, hx, hp⟩, hf⟩ := h.lat j hj
    have hb := other_block (w := w) (p := ⟨K.h, i, none⟩) (q := ⟨K.g, j, none⟩) (u := .int .i64 z) (fun e => h.gh e.symm)
    exact ⟨⟨x, (World.cell?_of_block hb).trans hx, hp⟩, (frozen_of hb).trans hf⟩
  · obtain ⟨⟨x, hx, hp⟩, hf⟩ := h.bef j hj
    refine ⟨?_, by rw [World.frozen?_setCell]; exact hf⟩
    rw [cell_set hy]
    by_cases e : i = j
    · exact ⟨z, by rw [if_pos e], hz.mono (by omega)⟩
    · exact ⟨x, by rw [if_neg e]; exact hx, hp⟩
theorem Fi.setLat {w : World} {K : Fdr} {a i : Nat} {z : Int} (h : Fi w K a) (hi : i < 2 ^ K.m) (hz : PlaceOk z a) : Fi (w.setCell ⟨K.g, i, none⟩ (.int .i64 z)) K a := by
  obtain ⟨⟨y, hy, _⟩, _⟩ := h.lat i hi
  refine ⟨?_, fun hp => ?_, fun j hj => ?_, fun j hj => ?_, h.gd, h.hd, h.gh, h.Cd, h.Cg, h.Ch, h.m15, h.n2, h.cap⟩
  · exact (other_block (q := ⟨K.d, 0, none⟩) (by exact h.gd)).trans h.blk
  · obtain ⟨b, off, e, hlt, hc⟩ := h.row hp
    refine ⟨b, off, e, hlt, fun i hi => (World.cell?_of_block (other_block (by show K.g ≠ b; have := h.Cg; omega))).trans (hc i hi)⟩
  · obtain ⟨⟨x, hx, hp⟩, hf⟩ := h.lat j hj
    refine ⟨?_, by rw [World.frozen?_setCell]; exact hf⟩
    rw [cell_set hy]
    by_cases e : i = j
    · exact ⟨z, by rw [if_pos e], hz⟩
    · exact ⟨x, by rw [if_neg e]; exact hx, hp⟩
  · obtain ⟨⟨x, hx, hp⟩, hf⟩ := h.bef j hj
    have hb := other_block (w := w) (p := ⟨K.g, i, none⟩) (q := ⟨K.h, j, none⟩) (u := .int .i64 z) (fun e => h.gh e)
    exact ⟨⟨x, (World.cell?_of_block hb).trans hx, hp⟩, (frozen_of hb).trans hf⟩
set_option maxHeartbeats 2000000 in
theorem enter_any (K : Fdr) (a : Nat) (w : World) (hF : Fi w K a) (h3 : a < K.xs.length) :
    Calls Try.prog 15 #[.pointer (some ⟨K.d, 0, none⟩), .int .i64 (a : Int)] w fun e w' => e = .returned (.tuple #[]) ∧ Fi w' K (a + 1) ∧ Only (MineF K) w w' := by
  have c0 := hF.c0
  have n2 := hF.n2
  have m15 := hF.m15
  obtain ⟨n, hn⟩ : ∃ n, n = K.xs.length := ⟨_, rfl⟩
  have HF := Lib.hid hF
  rw [← hn] at c0 h3 n2
  by_cases hlt : n < a + 3
  · have q : decide ((n : Int) - (a : Int) < 3) = true := by rw [decide_eq_true_eq]; omega
    clear hF hn
    go_enter Try.func15, Try.ntmps15
    go_wp2_with fail
    refine bodyPost_ret (results_none rfl _ _ _) rfl ?_
    exact ⟨rfl, HF.out.more (by omega), Only.refl _ _⟩
  · have q : decide ((n : Int) - (a : Int) < 3) = false := by rw [decide_eq_false_iff_not]; omega
    have hk := markK_lt K a m15
    have HM := Lib.hid (mark_any K a a w hF (by rw [← hn]; omega))
    obtain ⟨L, hL⟩ : ∃ L, L = 2 ^ K.m := ⟨_, rfl⟩
    have HL := Lib.hid hL
    have HN := Lib.hid hn
    rw [← hL] at hk
    obtain ⟨k, hkk⟩ : ∃ k, k = markK K a := ⟨_, rfl⟩
    rw [← hkk] at hk HM
    have i0 : (0 : Int) ≤ (k : Int) := by omega
    have i1 : (k : Int) < (L : Int) := by omega
    have i2 : (0 : Int) ≤ (a : Int) := by omega
    have i3 : (a : Int) < (n : Int) := by omega
    have hrem : (a : Int).tmod 32768 = (a : Int) := Int.tmod_eq_of_lt (by omega) (by omega)
    clear hF hn hL hkk
    go_enter Try.func15, Try.ntmps15
    go_wp2_with fail
    refine HM.out.mono ?_
    rintro e w1 ⟨rfl, hd1⟩
    have HF1 := Lib.hid (HF.out.drawn hd1)
    have HO1 := Lib.hid (Only.drawn (MineF K) hd1)
    clear hd1 c0
    obtain ⟨⟨z, hz, hp⟩, hfz⟩ := HF1.out.lat k (by rw [← HL.out]; exact hk)
    obtain ⟨⟨y, hy, _⟩, hfy⟩ := HF1.out.bef a (by rw [← HN.out]; exact h3)
    have HP := Lib.hid hp
    have c2 := HF1.out.c2
    have c3 := HF1.out.c3
    rw [← HL.out] at c2
    rw [← HN.out] at c3
    clear hp
    go_wp2_with fail
    go_region
    have HF2 := Lib.hid ((HF1.out.setBef (i := a) (z := z) (by rw [← HN.out]; exact h3) HP.out).drawn (w' := (w1.setCell ⟨K.h, a, none⟩ (.int .i64 z)).drew) ⟨1, rfl⟩)
    have HO2 := Lib.hid ((HO1.out.trans (Only.setCell (p := ⟨K.h, a, none⟩) (.inr (.inr rfl)) (.int .i64 z))).trans (Only.drawn (MineF K) (w' := (w1.setCell ⟨K.h, a, none⟩ (.int .i64 z)).drew) ⟨1, rfl⟩))
    clear c2 c3 hz hfz hy hfy
    generalize (w1.setCell ⟨K.h, a, none⟩ (.int .i64 z)).drew = w2 at HF2 HO2 ⊢
    obtain ⟨⟨z2, hz, _⟩, hfz⟩ := HF2.out.lat k (by rw [← HL.out]; exact hk)
    have c2 := HF2.out.c2
    rw [← HL.out] at c2
    go_wp2_with fail
    go_end0
    refine ⟨rfl, (HF2.out.more (Nat.le_succ a)).setLat (by rw [← HL.out]; exact hk) (.inr ⟨by omega, by omega⟩), HO2.out.trans (Only.setCell (p := ⟨K.g, k, none⟩) (.inr (.inl rfl)) _)⟩
/-- how far two texts are alike -/
def eqN : List UInt8 → List UInt8 → Nat
  | x :: xs, y :: ys => if x = y then eqN xs ys + 1 else 0
  | _, _ => 0
theorem eqN_le : ∀ xs ys : List UInt8, eqN xs ys ≤ ys.length
  | [], ys => Nat.zero_le _
  | x :: xs, [] => Nat.le_refl _
  | x :: xs, y :: ys => by
    unfold eqN
    have := eqN_le xs ys
    split
    · simp; omega
    · simp
theorem eqN_same : ∀ (xs ys : List UInt8) (k : Nat), k < eqN xs ys → xs[k]? = ys[k]?
  | [], ys, k, h => by simp [eqN] at h
  | x :: xs, [], k, h => by simp [eqN] at h
  | x :: xs, y :: ys, k, h => by
    unfold eqN at h
    split at h
    · rename_i e
      subst e
      cases k with
      | zero => rfl
      | succ k => exact eqN_same xs ys k (by omega)
    · omega
theorem eqN_cons {x y : UInt8} {xs ys : List UInt8} : eqN (x :: xs) (y :: ys) = if x = y then eqN xs ys + 1 else 0 := rfl
theorem eqN_nil (xs : List UInt8) : eqN xs [] = 0 := by cases xs <;> rfl
set_option maxHeartbeats 2000000 in
theorem equals_any (p1 p2 : Option Addr) (l1 c1 l2 c2 : Nat) (xs ys : List UInt8) (w : World) (h1 : Row w p1 xs) (h2 : Row w p2 ys) (e1 : xs.length = l1) (e2 : ys.length = l2) (hl : l2 ≤ l1) (hb : l1 ≤ 2000) :
    Calls Try.prog 19 #[.slice p1 l1 c1, .slice p2 l2 c2] w fun e w' => e = .returned (.int .i64 (eqN xs ys : Int)) ∧ Drawn w w' := by
  have H1 := Lib.hid h1
  have H2 := Lib.hid h2
  have E1 := Lib.hid e1
  have E2 := Lib.hid e2
  clear h1 h2 e1 e2
  go_enter Try.func19, Try.ntmps19
  go_wp2_with fail
  go_loopw [5] (fun i wr => ∃ k : Nat, k ≤ l2 ∧ i = .int .i64 (k : Int) ∧ Hid (k + eqN (xs.drop k) (ys.drop k) = eqN xs ys) ∧ Hid (Drawn w wr)) (fun i _ => l2 - (intOf i).toNat)
  case atStart => exact ⟨0, by omega, rfl, Lib.hid (by simp), Lib.hid ⟨0, rfl⟩⟩
  case round =>
    obtain ⟨k, hk, rfl, HE, HD⟩ := hrel
    by_cases hlt : k < l2
    · have ql : decide ((k : Int) < (l2 : Int)) = true := by simpa using hlt
      have hx : k < xs.length := by rw [E1.out]; omega
      have hy : k < ys.length := by rw [E2.out]; exact hlt
      obtain ⟨b1, o1, rfl, hb1, hc1⟩ := (H1.out.below (HD.out.below _)) (by omega)
      obtain ⟨b2, o2, rfl, hb2, hc2⟩ := (H2.out.below (HD.out.below _)) (by omega)
      have d1 := hc1 k hx
      have d2 := hc2 k hy
      have he := HE.out
      rw [List.drop_eq_getElem_cons hx, List.drop_eq_getElem_cons hy, eqN_cons] at he
      generalize xs[k] = x at d1 he
      generalize ys[k] = y at d2 he
      have i0 : (0 : Int) ≤ (k : Int) := by omega
      have i1 : (k : Int) < (l1 : Int) := by omega
      have i2 : (k : Int) < (l2 : Int) := by omega
      by_cases hxy : x = y
      · subst hxy
        rw [if_pos rfl] at he
        have HE2 : Hid (k + 1 + eqN (xs.drop (k + 1)) (ys.drop (k + 1)) = eqN xs ys) := Lib.hid (by omega)
        have qe : ((x.toNat : Int) == (x.toNat : Int)) = true := by simp
        clear he hc1 hc2 HE
        go_wp2_with fail
        go_quiet (fail)
        go_wp2_with fail
        go_roundw
        case rel => exact ⟨k + 1, by omega, by first | rfl | (push_cast; rfl), HE2, Lib.hid (HD.out.more _)⟩
        case measure => simp [intOf]; omega
      · rw [if_neg hxy] at he
        have HE2 := Lib.hid he
        have qe : ((x.toNat : Int) == (y.toNat : Int)) = false := by
          rw [beq_eq_false_iff_ne]
          intro h
          exact hxy (UInt8.toNat_inj.1 (by omega))
        clear he hc1 hc2 HE hxy
        go_wp2_with fail
        go_quiet (fail)
        go_wp2_with fail
        go_ret
        refine ⟨?_, HD.out.more _⟩
        rw [← HE2.out]
        rfl
    · have hkn : k = l2 := by omega
      have ql : decide ((k : Int) < (l2 : Int)) = false := by simp; omega
      have he := HE.out
      rw [show ys.drop k = [] from List.drop_eq_nil_of_le (by rw [E2.out]; omega), eqN_nil] at he
      have HE2 := Lib.hid he
      clear he HE
      go_wp2_with fail
      go_quiet (fail)
      go_wp2_with fail
      go_ret
      refine ⟨?_, HD.out.more _⟩
      rw [← HE2.out]
      rfl
end Go.Proofs.Ytboknaakcbjkiaa.Lzt

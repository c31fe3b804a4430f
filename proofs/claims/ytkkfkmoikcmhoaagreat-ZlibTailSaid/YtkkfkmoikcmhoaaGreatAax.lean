/- DfG: merged. -/
import Derived.Test.YtkkfkmoikcmhoaaGreatAao
import Derived.Test.YtkkfkmoikcmhoaaGreatAaw
set_option linter.unusedVariables false
set_option linter.unusedSimpArgs false
namespace Go.Proofs.YtkkfkmoikcmhoaaGreat.Df
open Go.RowKit Oct Bit Hf Inf
set_option maxRecDepth 100000
def Yee (w : World) (b off : Nat) (l : List Nat) : Prop := ∀ V i, Drawn w V → i < l.length → V.cell? ⟨b, off + i, none⟩ = some (.int .i64 ((l.getD i 0 : Nat) : Int))
theorem Yzc {w : World} {b off : Nat} {l : List Nat} (hr : VRow w w.heap.size (some ⟨b, off, none⟩) (ints (Y05 l))) : Yee w b off l := fun V i hd hi => by
 obtain ⟨m, rfl⟩ := hd
 exact Y4o hr i hi
theorem Yee.drop {w : World} {b off : Nat} {l : List Nat} (h : Yee w b off l) (a : Nat) : Yee w b (off + a) (l.drop a) := fun V i hd hi => by
 rw [List.length_drop] at hi
 rw [Y5h, Nat.add_assoc]
 exact h V (a + i) hd (by omega)
def RunP (w : World) (l : List Nat) (e : Ending) (w' : World) : Prop := e = .returned (.int .i64 (runN l : Int)) ∧ Drawn w w'
set_option maxHeartbeats 1000000 in
theorem Yxw (w : World) (b off n cap : Nat) (l : List Nat) (hr : Yee w b off l) (hx : l.length = n) (hn : n ≤ 1000) (h0 : 0 < n) :
  Calls Tryz.prog 164 #[.slice (some ⟨b, off, none⟩) n cap] w (RunP w l) := by
 have HC := Lib.hid hr
 have HX := Lib.hid hx
 clear hr hx
 go_enter Tryz.func164, Tryz.ntmps164
 go_wp2_with fail
 go_loopw [3] (fun s wr => ∃ k : Nat, 1 ≤ k ∧ k ≤ n ∧ s = .int .i64 (k : Int) ∧ Drawn w wr ∧ Hid (Ymb l k = runN l)) (fun s _ => n - (intOf s).toNat)
 case atStart => exact ⟨1, by omega, by omega, rfl, ⟨0, rfl⟩, Lib.hid rfl⟩
 case round =>
  obtain ⟨k, hk1, hk, rfl, hdr, HT⟩ := hrel
  have h00 : (0 : Int) < (n : Int) := by omega
  by_cases hlt : k < n
  ·have hlz : (k : Int) < (n : Int) := by omega
   have k0 : (0 : Int) ≤ (k : Int) := by omega
   have c0 := HC.out wr 0 hdr (by rw [HX.out]; omega)
   have ck := HC.out wr k hdr (by rw [HX.out]; omega)
   rw [Nat.add_zero] at c0
   have HDR := Lib.hid hdr
   clear hdr
   by_cases hz : l.getD k 0 = l.getD 0 0
   ·have hst := Yqc (l := l) (n := k) (by rw [HX.out]; exact hlt) hz
    have HT2 := Lib.hid (hst ▸ HT.out)
    rw [hz] at ck
    generalize l.getD 0 0 = x at c0 ck
    have qx : ((x : Int) == (x : Int)) = true := by simp
    have qd : decide ((k : Int) < (n : Int)) = true := decide_eq_true hlz
    clear hst HT hz
    go_wp2_with fail
    go_quiet (fail)
    have HDR2 := Lib.hid (HDR.out.more nq)
    go_wp2_with fail
    go_roundw
    case rel => exact ⟨k + 1, by omega, by omega, by first | rfl | (push_cast; rfl), HDR2.out, HT2⟩
    case measure => simp [intOf]; omega
   ·have hst := Y98 (l := l) (n := k) (fun h => hz h.2)
    have HT2 := Lib.hid (HT.out.symm.trans hst)
    have qx : (((l.getD k 0 : Nat) : Int) == ((l.getD 0 0 : Nat) : Int)) = false := by simp only [beq_eq_false_iff_ne]; omega
    generalize l.getD 0 0 = x at c0 qx
    generalize l.getD k 0 = y at ck qx
    have qd : decide ((k : Int) < (n : Int)) = true := decide_eq_true hlz
    clear hst HT hz
    go_wp2_with fail
    go_quiet (fail)
    have HDR2 := Lib.hid (HDR.out.more nq)
    go_wp2_with fail
    go_ret
    exact ⟨by rw [HT2.out]; rfl, HDR2.out⟩
  ·have hkn : k = n := by omega
   subst hkn
   have hst := Y98 (l := l) (n := k) (fun h => by have := HX.out; omega)
   have HT2 := Lib.hid (HT.out.symm.trans hst)
   have qd : decide ((k : Int) < (k : Int)) = false := by simp
   have HDR := Lib.hid hdr
   clear hst HT hdr
   go_wp2_with fail
   go_quiet (fail)
   have HDR2 := Lib.hid (HDR.out.more nq)
   go_wp2_with fail
   go_ret
   exact ⟨by rw [HT2.out]; rfl, HDR2.out⟩
def Y9d (w : World) (l : List Nat) (a : Nat) (e : Ending) (w' : World) : Prop :=
 e = .returned (.tuple #[.agg #[.int .i64 ((Y0p l a).1.1 : Int), .int .i64 ((Y0p l a).1.2 : Int), .int .i64 (wideV (Y0p l a).1.1 : Int)], .int .i64 ((Y0p l a).2 : Int)]) ∧ Below w.heap.size w w'
theorem Y37 {Q : Ending → World → Prop} {act : Act} {F : World} {d : Nat} {x y z u : Value} (hm : Mk F d x y z) (h4 : act.tmps[4]?.getD undef = .pointer (some ⟨d, 0, none⟩)) (h5 : act.tmps[5]?.getD undef = u) (hd : act.defers = [])
  (h : Q (.returned (.tuple #[.agg #[x, y, z], u])) F) : bodyPost Tryz.prog Tryz.f148 Q .ret act F := by
 have q0 := hm.c0
 have q1 := hm.c1
 have q2 := hm.c2
 refine bodyPost_ret (v := .tuple #[.agg #[x, y, z], u]) ?_ hd h
 simp [results, Tryz.results148, go_sem, h4, h5, q0, q1, q2]
structure Nx (w wa : World) (b off n cap a : Nat) (l : List Nat) (x y r : Nat) : Prop where
 hwa : wa = w.alloc (.cells #[.int .i64 0, .int .i64 0, .int .i64 0] 166)
 run : Calls Tryz.prog 164 #[.slice (some ⟨b, off + a, none⟩) (n - a) (cap - a)] wa fun e w' => e = .returned (.int .i64 (r : Int)) ∧ Drawn wa w'
 ca : ∀ V, Drawn wa V → V.cell? ⟨b, off + a, none⟩ = some (.int .i64 (x : Int))
 cp : ∀ V, Drawn wa V → 0 < a → V.cell? ⟨b, off + (a - 1), none⟩ = some (.int .i64 (y : Int))
 mk0 : ∀ V, Drawn wa V → Mk V w.heap.size (.int .i64 0) (.int .i64 0) (.int .i64 0)
 bv : ∀ V, Drawn wa V → Below w.heap.size w V
 mark : Y0p l a = if x = 0 ∧ 11 ≤ r then ((18, min r 138 - 11), min r 138) else if x = 0 ∧ 3 ≤ r then ((17, r - 3), r) else if 0 < a ∧ x = y ∧ 3 ≤ r then ((16, min r 6 - 3), min r 6) else ((x, 0), 1)
 r2 : r ≤ 1000
 r3 : 1 ≤ r
 x15 : x ≤ 15
 bl : b < w.heap.size
 hn : n ≤ 1000
 hc : n ≤ cap
 cm : cap ≤ 9223372036854775807
 ha : a < n
theorem Yzd (w : World) (b off n cap a : Nat) (l : List Nat) (hr : VRow w w.heap.size (some ⟨b, off, none⟩) (ints (Y05 l))) (hx : l.length = n) (hn : n ≤ 1000) (hc : n ≤ cap) (hc2 : cap ≤ maxLen) (ha : a < n) (h15 : ∀ x ∈ l, x ≤ 15) :
  ∃ wa, Nx w wa b off n cap a l (l.getD a 0) (l.getD (a - 1) 0) (runN (l.drop a)) := by
 obtain ⟨wa, hwa⟩ : ∃ wa, wa = w.alloc (.cells #[.int .i64 0, .int .i64 0, .int .i64 0] 166) := ⟨_, rfl⟩
 have hba : Below w.heap.size w wa := by rw [hwa]; exact (Below.refl _ w).alloc (Nat.le_refl _) _
 have hmk : Mk wa w.heap.size (.int .i64 0) (.int .i64 0) (.int .i64 0) := by rw [hwa]; exact Array.getElem?_push_size
 have hbl : b < w.heap.size := by obtain ⟨b', off', e, hlt, _⟩ := hr (by rw [Y06, Y02]; omega); injection e with e; injection e with e1; subst e1; exact hlt
 have hna := Yzc ((hr.below hba (Nat.le_refl _)).mono hba.size)
 have hrun := Y8u (l := l) (a := a) (by rw [hx]; exact ha)
 refine ⟨wa, hwa, Yxw wa b (off + a) (n - a) (cap - a) (l.drop a) (hna.drop a) (by rw [List.length_drop, hx]) (by omega) (by omega), fun V hd => hna V a hd (by omega), fun V hd h0 => hna V (a - 1) hd (by omega),
  fun V hd => by obtain ⟨m, rfl⟩ := hd; exact hmk, fun V hd => hba.trans (hd.below _), rfl, by omega, hrun.1, ?_, hbl, hn, hc, by unfold maxLen at hc2; omega, ha⟩
 rw [List.getD_eq_getElem?_getD, List.getElem?_eq_getElem (by omega)]
 exact h15 _ (List.getElem_mem _)
set_option maxHeartbeats 1000000 in
theorem Yza (w wa : World) (b off n cap a : Nat) (l : List Nat) (x y r : Nat) (h : Nx w wa b off n cap a l x y r) (hx0 : x = 0) (h11 : 11 ≤ r) : Calls Tryz.prog 148 #[.slice (some ⟨b, off, none⟩) n cap, .int .i64 (a : Int)] w (Y9d w l a) := by
 have HWA := Lib.hid h.hwa
 have HRUN := Lib.hid h.run
 have HCA := Lib.hid h.ca
 have HCP := Lib.hid h.cp
 have HMK := Lib.hid h.mk0
 have HBV := Lib.hid h.bv
 have HMARK := Lib.hid h.mark
 have hr2 := h.r2
 have hr3 := h.r3
 have hx15 := h.x15
 have hbl := h.bl
 have hn := h.hn
 have hc := h.hc
 have acm := h.cm
 have ha := h.ha
 have a0 : (0 : Int) ≤ (a : Int) := by omega
 have a1 : (a : Int) < (n : Int) := by omega
 have a2 : (a : Int) ≤ (cap : Int) := by omega
 have a3 : (a : Int) ≤ (n : Int) := by omega
 have acn : ¬ cap = a := by omega
 clear h
 subst hx0
 have qx : (((0 : Nat) : Int) == 0) = true := rfl
 have q11 : decide ((r : Int) ≥ 11) = true := decide_eq_true (by omega)
 obtain ⟨mr, hmr⟩ : ∃ mr, mr = min r 138 := ⟨_, rfl⟩
 have hmz : min (r : Int) 138 = (mr : Int) := by omega
 have hm11 : 11 ≤ mr := by omega
 have hms : ((mr - 11 : Nat) : Int) = (mr : Int) - 11 := by omega
 have hws : wrap64 ((mr : Int) - 11) = (mr : Int) - 11 := Y0q _ (by omega) (by omega)
 have hm2 : mr ≤ 138 := by omega
 have HRES : Hid (Y0p l a = ((18, mr - 11), mr)) := Lib.hid (by rw [HMARK.out, if_pos ⟨rfl, h11⟩, hmr])
 have HWD : Hid (wideV (18) = 7) := Lib.hid (rfl)
 clear HMARK
 go_enter Tryz.func148, Tryz.ntmps148
 go_wp2_with fail
 rw [← HWA.out]
 refine HRUN.out.mono ?_
 rintro e V ⟨rfl, hd⟩
 have hcc := HCA.out V hd
 have hcd : V.cell? ⟨b, off + a, none⟩ = some (.int .i64 0) := hcc
 clear hcc
 have hcc := hcd
 clear hcd
 have m0 := (HMK.out V hd).c0
 have m1 := (HMK.out V hd).c1
 have m2 := (HMK.out V hd).c2
 have mf := fun j => (HMK.out V hd).fz j
 have HD := Lib.hid hd
 clear hd HRUN
 go_wp2_with fail
 refine Y37 ((HMK.out _ HD.out).put _ _ _) rfl rfl rfl ⟨?_, Y1n (HBV.out _ HD.out) (Nat.le_refl _) _ _ _⟩
 rw [HRES.out]
 dsimp only
 rw [HWD.out]
 first | rfl | (congr 4 <;> (first | rfl | omega)) | (simp; omega)
set_option maxHeartbeats 1000000 in
theorem Yzb (w wa : World) (b off n cap a : Nat) (l : List Nat) (x y r : Nat) (h : Nx w wa b off n cap a l x y r) (hx0 : x = 0) (h11 : ¬ 11 ≤ r) (h3 : 3 ≤ r) : Calls Tryz.prog 148 #[.slice (some ⟨b, off, none⟩) n cap, .int .i64 (a : Int)] w (Y9d w l a) := by
 have HWA := Lib.hid h.hwa
 have HRUN := Lib.hid h.run
 have HCA := Lib.hid h.ca
 have HCP := Lib.hid h.cp
 have HMK := Lib.hid h.mk0
 have HBV := Lib.hid h.bv
 have HMARK := Lib.hid h.mark
 have hr2 := h.r2
 have hr3 := h.r3
 have hx15 := h.x15
 have hbl := h.bl
 have hn := h.hn
 have hc := h.hc
 have acm := h.cm
 have ha := h.ha
 have a0 : (0 : Int) ≤ (a : Int) := by omega
 have a1 : (a : Int) < (n : Int) := by omega
 have a2 : (a : Int) ≤ (cap : Int) := by omega
 have a3 : (a : Int) ≤ (n : Int) := by omega
 have acn : ¬ cap = a := by omega
 clear h
 subst hx0
 have qx : (((0 : Nat) : Int) == 0) = true := rfl
 have q11 : decide ((r : Int) ≥ 11) = false := decide_eq_false (by omega)
 have q3 : decide ((r : Int) ≥ 3) = true := decide_eq_true (by omega)
 have hms : ((r - 3 : Nat) : Int) = (r : Int) - 3 := by omega
 have hws : wrap64 ((r : Int) - 3) = (r : Int) - 3 := Y0q _ (by omega) (by omega)
 have HRES : Hid (Y0p l a = ((17, r - 3), r)) := Lib.hid (by rw [HMARK.out, if_neg (fun h => h11 h.2), if_pos ⟨rfl, h3⟩])
 have HWD : Hid (wideV (17) = 3) := Lib.hid (rfl)
 clear HMARK
 go_enter Tryz.func148, Tryz.ntmps148
 go_wp2_with fail
 rw [← HWA.out]
 refine HRUN.out.mono ?_
 rintro e V ⟨rfl, hd⟩
 have hcc := HCA.out V hd
 have hcd : V.cell? ⟨b, off + a, none⟩ = some (.int .i64 0) := hcc
 clear hcc
 have hcc := hcd
 clear hcd
 have m0 := (HMK.out V hd).c0
 have m1 := (HMK.out V hd).c1
 have m2 := (HMK.out V hd).c2
 have mf := fun j => (HMK.out V hd).fz j
 have HD := Lib.hid hd
 clear hd HRUN
 go_wp2_with fail
 refine Y37 ((HMK.out _ HD.out).put _ _ _) rfl rfl rfl ⟨?_, Y1n (HBV.out _ HD.out) (Nat.le_refl _) _ _ _⟩
 rw [HRES.out]
 dsimp only
 rw [HWD.out]
 first | rfl | (congr 4 <;> (first | rfl | omega)) | (simp; omega)
set_option maxHeartbeats 1000000 in
theorem Yx1 (w wa : World) (b off n cap a : Nat) (l : List Nat) (x y r : Nat) (h : Nx w wa b off n cap a l x y r) (hx0 : x = 0) (h3 : ¬ 3 ≤ r) (ha0 : a = 0) : Calls Tryz.prog 148 #[.slice (some ⟨b, off, none⟩) n cap, .int .i64 (a : Int)] w (Y9d w l a) := by
 have HWA := Lib.hid h.hwa
 have HRUN := Lib.hid h.run
 have HCA := Lib.hid h.ca
 have HCP := Lib.hid h.cp
 have HMK := Lib.hid h.mk0
 have HBV := Lib.hid h.bv
 have HMARK := Lib.hid h.mark
 have hr2 := h.r2
 have hr3 := h.r3
 have hx15 := h.x15
 have hbl := h.bl
 have hn := h.hn
 have hc := h.hc
 have acm := h.cm
 have ha := h.ha
 have a0 : (0 : Int) ≤ (a : Int) := by omega
 have a1 : (a : Int) < (n : Int) := by omega
 have a2 : (a : Int) ≤ (cap : Int) := by omega
 have a3 : (a : Int) ≤ (n : Int) := by omega
 have acn : ¬ cap = a := by omega
 clear h
 subst hx0
 have qx : (((0 : Nat) : Int) == 0) = true := rfl
 have q11 : decide ((r : Int) ≥ 11) = false := decide_eq_false (by omega)
 have q3 : decide ((r : Int) ≥ 3) = false := decide_eq_false (by omega)
 have qa : decide ((0 : Int) < (a : Int)) = false := decide_eq_false (by omega)
 have qb : decide (0 < a) = false := decide_eq_false (by omega)
 have qc : decide ((a : Int) > 0) = false := decide_eq_false (by omega)
 have HRES : Hid (Y0p l a = ((0, 0), 1)) := Lib.hid (by rw [HMARK.out, if_neg (fun h => by omega), if_neg (fun h => h3 h.2), if_neg (fun h => by omega)])
 have HWD : Hid (wideV (0) = 0) := Lib.hid (by unfold wideV; rw [if_neg (by omega), if_neg (by omega), if_neg (by omega)])
 clear HMARK
 clear ha0
 go_enter Tryz.func148, Tryz.ntmps148
 go_wp2_with fail
 rw [← HWA.out]
 refine HRUN.out.mono ?_
 rintro e V ⟨rfl, hd⟩
 have hcc := HCA.out V hd
 have hcd : V.cell? ⟨b, off + a, none⟩ = some (.int .i64 0) := hcc
 clear hcc
 have hcc := hcd
 clear hcd
 have m0 := (HMK.out V hd).c0
 have m1 := (HMK.out V hd).c1
 have m2 := (HMK.out V hd).c2
 have mf := fun j => (HMK.out V hd).fz j
 have HD := Lib.hid hd
 clear hd HRUN
 go_wp2_with fail
 go_quiet (fail)
 have hd2 := Y29 HD.out (show Drawn V (V.drewN nq) from ⟨nq, rfl⟩)
 generalize V.drewN nq = V2 at hd2 ⊢
 have hc2 := HCA.out V2 hd2
 have n0 := (HMK.out V2 hd2).c0
 have n1 := (HMK.out V2 hd2).c1
 have n2 := (HMK.out V2 hd2).c2
 have nf := fun j => (HMK.out V2 hd2).fz j
 have HD2 := Lib.hid hd2
 clear hd2 m0 m1 m2 mf hcc
 go_wp2_with fail
 refine Y37 ((HMK.out _ HD2.out).put _ _ _) rfl rfl rfl ⟨?_, Y1n (HBV.out _ HD2.out) (Nat.le_refl _) _ _ _⟩
 rw [HRES.out]
 dsimp only
 rw [HWD.out]
 first | rfl | (congr 4 <;> (first | rfl | omega)) | (simp; omega)
set_option maxHeartbeats 1000000 in
theorem Yx2 (w wa : World) (b off n cap a : Nat) (l : List Nat) (x y r : Nat) (h : Nx w wa b off n cap a l x y r) (hx0 : x = 0) (h3 : ¬ 3 ≤ r) (ha0 : 0 < a) (hy : y ≠ 0) : Calls Tryz.prog 148 #[.slice (some ⟨b, off, none⟩) n cap, .int .i64 (a : Int)] w (Y9d w l a) := by
 have HWA := Lib.hid h.hwa
 have HRUN := Lib.hid h.run
 have HCA := Lib.hid h.ca
 have HCP := Lib.hid h.cp
 have HMK := Lib.hid h.mk0
 have HBV := Lib.hid h.bv
 have HMARK := Lib.hid h.mark
 have hr2 := h.r2
 have hr3 := h.r3
 have hx15 := h.x15
 have hbl := h.bl
 have hn := h.hn
 have hc := h.hc
 have acm := h.cm
 have ha := h.ha
 have a0 : (0 : Int) ≤ (a : Int) := by omega
 have a1 : (a : Int) < (n : Int) := by omega
 have a2 : (a : Int) ≤ (cap : Int) := by omega
 have a3 : (a : Int) ≤ (n : Int) := by omega
 have acn : ¬ cap = a := by omega
 clear h
 subst hx0
 have qx : (((0 : Nat) : Int) == 0) = true := rfl
 have q11 : decide ((r : Int) ≥ 11) = false := decide_eq_false (by omega)
 have q3 : decide ((r : Int) ≥ 3) = false := decide_eq_false (by omega)
 have a4 : 0 < a := ha0
 have qb : decide (0 < a) = true := decide_eq_true (by omega)
 have qc : decide ((a : Int) > 0) = true := decide_eq_true (by omega)
 have qa : decide ((0 : Int) < (a : Int)) = true := decide_eq_true (by omega)
 obtain ⟨cc, hcce⟩ : ∃ cc, cc = a - 1 := ⟨_, rfl⟩
 have a6 : (0 : Int) ≤ (cc : Int) := by omega
 have a7 : (cc : Int) < (n : Int) := by omega
 have a8 : wrap64 ((a : Int) - 1) = (cc : Int) := (Y0q _ (by omega) (by omega)).trans (by omega)
 have a9 : IntKind.i64.wrap ((a : Int) - 1) = (cc : Int) := by rw [IntKind.wrap_i64]; omega
 rw [← hcce] at HCP
 clear hcce
 have qy : ((0 : Int) == (y : Int)) = false := by simp only [beq_eq_false_iff_ne]; omega
 have HRES : Hid (Y0p l a = ((0, 0), 1)) := Lib.hid (by rw [HMARK.out, if_neg (fun h => by omega), if_neg (fun h => h3 h.2), if_neg (fun h => hy h.2.1.symm)])
 have HWD : Hid (wideV (0) = 0) := Lib.hid (by unfold wideV; rw [if_neg (by omega), if_neg (by omega), if_neg (by omega)])
 clear HMARK
 go_enter Tryz.func148, Tryz.ntmps148
 go_wp2_with fail
 rw [← HWA.out]
 refine HRUN.out.mono ?_
 rintro e V ⟨rfl, hd⟩
 have hcc := HCA.out V hd
 have hcd : V.cell? ⟨b, off + a, none⟩ = some (.int .i64 0) := hcc
 clear hcc
 have hcc := hcd
 clear hcd
 have hp := HCP.out V hd a4
 have m0 := (HMK.out V hd).c0
 have m1 := (HMK.out V hd).c1
 have m2 := (HMK.out V hd).c2
 have mf := fun j => (HMK.out V hd).fz j
 have HD := Lib.hid hd
 clear hd HRUN
 go_wp2_with fail
 go_quiet (fail)
 have hd2 := Y29 HD.out (show Drawn V (V.drewN nq) from ⟨nq, rfl⟩)
 generalize V.drewN nq = V2 at hd2 ⊢
 have hc2 := HCA.out V2 hd2
 have n0 := (HMK.out V2 hd2).c0
 have n1 := (HMK.out V2 hd2).c1
 have n2 := (HMK.out V2 hd2).c2
 have nf := fun j => (HMK.out V2 hd2).fz j
 have HD2 := Lib.hid hd2
 clear hd2 m0 m1 m2 mf hcc
 go_wp2_with fail
 refine Y37 ((HMK.out _ HD2.out).put _ _ _) rfl rfl rfl ⟨?_, Y1n (HBV.out _ HD2.out) (Nat.le_refl _) _ _ _⟩
 rw [HRES.out]
 dsimp only
 rw [HWD.out]
 first | rfl | (congr 4 <;> (first | rfl | omega)) | (simp; omega)
set_option maxHeartbeats 1000000 in
theorem Yx3 (w wa : World) (b off n cap a : Nat) (l : List Nat) (x y r : Nat) (h : Nx w wa b off n cap a l x y r) (hx0 : x = 0) (h3 : ¬ 3 ≤ r) (ha0 : 0 < a) (hy : y = 0) : Calls Tryz.prog 148 #[.slice (some ⟨b, off, none⟩) n cap, .int .i64 (a : Int)] w (Y9d w l a) := by
 have HWA := Lib.hid h.hwa
 have HRUN := Lib.hid h.run
 have HCA := Lib.hid h.ca
 have HCP := Lib.hid h.cp
 have HMK := Lib.hid h.mk0
 have HBV := Lib.hid h.bv
 have HMARK := Lib.hid h.mark
 have hr2 := h.r2
 have hr3 := h.r3
 have hx15 := h.x15
 have hbl := h.bl
 have hn := h.hn
 have hc := h.hc
 have acm := h.cm
 have ha := h.ha
 have a0 : (0 : Int) ≤ (a : Int) := by omega
 have a1 : (a : Int) < (n : Int) := by omega
 have a2 : (a : Int) ≤ (cap : Int) := by omega
 have a3 : (a : Int) ≤ (n : Int) := by omega
 have acn : ¬ cap = a := by omega
 clear h
 subst hx0
 have qx : (((0 : Nat) : Int) == 0) = true := rfl
 subst hy
 have q11 : decide ((r : Int) ≥ 11) = false := decide_eq_false (by omega)
 have q3 : decide ((r : Int) ≥ 3) = false := decide_eq_false (by omega)
 have a4 : 0 < a := ha0
 have qb : decide (0 < a) = true := decide_eq_true (by omega)
 have qc : decide ((a : Int) > 0) = true := decide_eq_true (by omega)
 have qa : decide ((0 : Int) < (a : Int)) = true := decide_eq_true (by omega)
 obtain ⟨cc, hcce⟩ : ∃ cc, cc = a - 1 := ⟨_, rfl⟩
 have a6 : (0 : Int) ≤ (cc : Int) := by omega
 have a7 : (cc : Int) < (n : Int) := by omega
 have a8 : wrap64 ((a : Int) - 1) = (cc : Int) := (Y0q _ (by omega) (by omega)).trans (by omega)
 have a9 : IntKind.i64.wrap ((a : Int) - 1) = (cc : Int) := by rw [IntKind.wrap_i64]; omega
 rw [← hcce] at HCP
 clear hcce
 have qy : ((0 : Int) == (0 : Int)) = true := rfl
 have HRES : Hid (Y0p l a = ((0, 0), 1)) := Lib.hid (by rw [HMARK.out, if_neg (fun h => by omega), if_neg (fun h => h3 h.2), if_neg (fun h => h3 h.2.2)])
 have HWD : Hid (wideV (0) = 0) := Lib.hid (by unfold wideV; rw [if_neg (by omega), if_neg (by omega), if_neg (by omega)])
 clear HMARK
 go_enter Tryz.func148, Tryz.ntmps148
 go_wp2_with fail
 rw [← HWA.out]
 refine HRUN.out.mono ?_
 rintro e V ⟨rfl, hd⟩
 have hcc := HCA.out V hd
 have hcd : V.cell? ⟨b, off + a, none⟩ = some (.int .i64 0) := hcc
 clear hcc
 have hcc := hcd
 clear hcd
 have hp := HCP.out V hd a4
 have hpd : V.cell? ⟨b, off + cc, none⟩ = some (.int .i64 0) := hp
 clear hp
 have hp := hpd
 clear hpd
 have m0 := (HMK.out V hd).c0
 have m1 := (HMK.out V hd).c1
 have m2 := (HMK.out V hd).c2
 have mf := fun j => (HMK.out V hd).fz j
 have HD := Lib.hid hd
 clear hd HRUN
 go_wp2_with fail
 go_quiet (fail)
 have hd2 := Y29 HD.out (show Drawn V (V.drewN nq) from ⟨nq, rfl⟩)
 generalize V.drewN nq = V2 at hd2 ⊢
 have hc2 := HCA.out V2 hd2
 have n0 := (HMK.out V2 hd2).c0
 have n1 := (HMK.out V2 hd2).c1
 have n2 := (HMK.out V2 hd2).c2
 have nf := fun j => (HMK.out V2 hd2).fz j
 have HD2 := Lib.hid hd2
 clear hd2 m0 m1 m2 mf hcc
 go_wp2_with fail
 refine Y37 ((HMK.out _ HD2.out).put _ _ _) rfl rfl rfl ⟨?_, Y1n (HBV.out _ HD2.out) (Nat.le_refl _) _ _ _⟩
 rw [HRES.out]
 dsimp only
 rw [HWD.out]
 first | rfl | (congr 4 <;> (first | rfl | omega)) | (simp; omega)
set_option maxHeartbeats 1000000 in
theorem Yx4 (w wa : World) (b off n cap a : Nat) (l : List Nat) (x y r : Nat) (h : Nx w wa b off n cap a l x y r) (hx0 : x ≠ 0) (ha0 : a = 0) : Calls Tryz.prog 148 #[.slice (some ⟨b, off, none⟩) n cap, .int .i64 (a : Int)] w (Y9d w l a) := by
 have HWA := Lib.hid h.hwa
 have HRUN := Lib.hid h.run
 have HCA := Lib.hid h.ca
 have HCP := Lib.hid h.cp
 have HMK := Lib.hid h.mk0
 have HBV := Lib.hid h.bv
 have HMARK := Lib.hid h.mark
 have hr2 := h.r2
 have hr3 := h.r3
 have hx15 := h.x15
 have hbl := h.bl
 have hn := h.hn
 have hc := h.hc
 have acm := h.cm
 have ha := h.ha
 have a0 : (0 : Int) ≤ (a : Int) := by omega
 have a1 : (a : Int) < (n : Int) := by omega
 have a2 : (a : Int) ≤ (cap : Int) := by omega
 have a3 : (a : Int) ≤ (n : Int) := by omega
 have acn : ¬ cap = a := by omega
 clear h
 have qx : ((x : Int) == 0) = false := by simp only [beq_eq_false_iff_ne]; omega
 have qa : decide ((0 : Int) < (a : Int)) = false := decide_eq_false (by omega)
 have qb : decide (0 < a) = false := decide_eq_false (by omega)
 have qc : decide ((a : Int) > 0) = false := decide_eq_false (by omega)
 have HRES : Hid (Y0p l a = ((x, 0), 1)) := Lib.hid (by rw [HMARK.out, if_neg (fun h => hx0 h.1), if_neg (fun h => hx0 h.1), if_neg (fun h => by omega)])
 have HWD : Hid (wideV (x) = 0) := Lib.hid (by unfold wideV; rw [if_neg (by omega), if_neg (by omega), if_neg (by omega)])
 clear HMARK
 clear ha0
 go_enter Tryz.func148, Tryz.ntmps148
 go_wp2_with fail
 rw [← HWA.out]
 refine HRUN.out.mono ?_
 rintro e V ⟨rfl, hd⟩
 have hcc := HCA.out V hd
 have m0 := (HMK.out V hd).c0
 have m1 := (HMK.out V hd).c1
 have m2 := (HMK.out V hd).c2
 have mf := fun j => (HMK.out V hd).fz j
 have HD := Lib.hid hd
 clear hd HRUN
 go_wp2_with fail
 go_quiet (fail)
 have hd2 := Y29 HD.out (show Drawn V (V.drewN nq) from ⟨nq, rfl⟩)
 generalize V.drewN nq = V2 at hd2 ⊢
 have hc2 := HCA.out V2 hd2
 have n0 := (HMK.out V2 hd2).c0
 have n1 := (HMK.out V2 hd2).c1
 have n2 := (HMK.out V2 hd2).c2
 have nf := fun j => (HMK.out V2 hd2).fz j
 have HD2 := Lib.hid hd2
 clear hd2 m0 m1 m2 mf hcc
 go_wp2_with fail
 refine Y37 ((HMK.out _ HD2.out).put _ _ _) rfl rfl rfl ⟨?_, Y1n (HBV.out _ HD2.out) (Nat.le_refl _) _ _ _⟩
 rw [HRES.out]
 dsimp only
 rw [HWD.out]
 first | rfl | (congr 4 <;> (first | rfl | omega)) | (simp; omega)
set_option maxHeartbeats 1000000 in
theorem Yx5 (w wa : World) (b off n cap a : Nat) (l : List Nat) (x y r : Nat) (h : Nx w wa b off n cap a l x y r) (hx0 : x ≠ 0) (ha0 : 0 < a) (hy : y ≠ x) : Calls Tryz.prog 148 #[.slice (some ⟨b, off, none⟩) n cap, .int .i64 (a : Int)] w (Y9d w l a) := by
 have HWA := Lib.hid h.hwa
 have HRUN := Lib.hid h.run
 have HCA := Lib.hid h.ca
 have HCP := Lib.hid h.cp
 have HMK := Lib.hid h.mk0
 have HBV := Lib.hid h.bv
 have HMARK := Lib.hid h.mark
 have hr2 := h.r2
 have hr3 := h.r3
 have hx15 := h.x15
 have hbl := h.bl
 have hn := h.hn
 have hc := h.hc
 have acm := h.cm
 have ha := h.ha
 have a0 : (0 : Int) ≤ (a : Int) := by omega
 have a1 : (a : Int) < (n : Int) := by omega
 have a2 : (a : Int) ≤ (cap : Int) := by omega
 have a3 : (a : Int) ≤ (n : Int) := by omega
 have acn : ¬ cap = a := by omega
 clear h
 have qx : ((x : Int) == 0) = false := by simp only [beq_eq_false_iff_ne]; omega
 have a4 : 0 < a := ha0
 have qb : decide (0 < a) = true := decide_eq_true (by omega)
 have qc : decide ((a : Int) > 0) = true := decide_eq_true (by omega)
 have qa : decide ((0 : Int) < (a : Int)) = true := decide_eq_true (by omega)
 obtain ⟨cc, hcce⟩ : ∃ cc, cc = a - 1 := ⟨_, rfl⟩
 have a6 : (0 : Int) ≤ (cc : Int) := by omega
 have a7 : (cc : Int) < (n : Int) := by omega
 have a8 : wrap64 ((a : Int) - 1) = (cc : Int) := (Y0q _ (by omega) (by omega)).trans (by omega)
 have a9 : IntKind.i64.wrap ((a : Int) - 1) = (cc : Int) := by rw [IntKind.wrap_i64]; omega
 rw [← hcce] at HCP
 clear hcce
 have qy : ((x : Int) == (y : Int)) = false := by simp only [beq_eq_false_iff_ne]; omega
 have HRES : Hid (Y0p l a = ((x, 0), 1)) := Lib.hid (by rw [HMARK.out, if_neg (fun h => hx0 h.1), if_neg (fun h => hx0 h.1), if_neg (fun h => hy h.2.1.symm)])
 have HWD : Hid (wideV (x) = 0) := Lib.hid (by unfold wideV; rw [if_neg (by omega), if_neg (by omega), if_neg (by omega)])
 clear HMARK
 go_enter Tryz.func148, Tryz.ntmps148
 go_wp2_with fail
 rw [← HWA.out]
 refine HRUN.out.mono ?_
 rintro e V ⟨rfl, hd⟩
 have hcc := HCA.out V hd
 have hp := HCP.out V hd a4
 have m0 := (HMK.out V hd).c0
 have m1 := (HMK.out V hd).c1
 have m2 := (HMK.out V hd).c2
 have mf := fun j => (HMK.out V hd).fz j
 have HD := Lib.hid hd
 clear hd HRUN
 go_wp2_with fail
 go_quiet (fail)
 have hd2 := Y29 HD.out (show Drawn V (V.drewN nq) from ⟨nq, rfl⟩)
 generalize V.drewN nq = V2 at hd2 ⊢
 have hc2 := HCA.out V2 hd2
 have n0 := (HMK.out V2 hd2).c0
 have n1 := (HMK.out V2 hd2).c1
 have n2 := (HMK.out V2 hd2).c2
 have nf := fun j => (HMK.out V2 hd2).fz j
 have HD2 := Lib.hid hd2
 clear hd2 m0 m1 m2 mf hcc
 go_wp2_with fail
 refine Y37 ((HMK.out _ HD2.out).put _ _ _) rfl rfl rfl ⟨?_, Y1n (HBV.out _ HD2.out) (Nat.le_refl _) _ _ _⟩
 rw [HRES.out]
 dsimp only
 rw [HWD.out]
 first | rfl | (congr 4 <;> (first | rfl | omega)) | (simp; omega)
set_option maxHeartbeats 1000000 in
theorem Yx6 (w wa : World) (b off n cap a : Nat) (l : List Nat) (x y r : Nat) (h : Nx w wa b off n cap a l x y r) (hx0 : x ≠ 0) (ha0 : 0 < a) (hy : y = x) (h3 : ¬ 3 ≤ r) : Calls Tryz.prog 148 #[.slice (some ⟨b, off, none⟩) n cap, .int .i64 (a : Int)] w (Y9d w l a) := by
 have HWA := Lib.hid h.hwa
 have HRUN := Lib.hid h.run
 have HCA := Lib.hid h.ca
 have HCP := Lib.hid h.cp
 have HMK := Lib.hid h.mk0
 have HBV := Lib.hid h.bv
 have HMARK := Lib.hid h.mark
 have hr2 := h.r2
 have hr3 := h.r3
 have hx15 := h.x15
 have hbl := h.bl
 have hn := h.hn
 have hc := h.hc
 have acm := h.cm
 have ha := h.ha
 have a0 : (0 : Int) ≤ (a : Int) := by omega
 have a1 : (a : Int) < (n : Int) := by omega
 have a2 : (a : Int) ≤ (cap : Int) := by omega
 have a3 : (a : Int) ≤ (n : Int) := by omega
 have acn : ¬ cap = a := by omega
 clear h
 subst hy
 have qy : ((y : Int) == 0) = false := by simp only [beq_eq_false_iff_ne]; omega
 have q3 : decide ((r : Int) ≥ 3) = false := decide_eq_false (by omega)
 have a4 : 0 < a := ha0
 have qb : decide (0 < a) = true := decide_eq_true (by omega)
 have qc : decide ((a : Int) > 0) = true := decide_eq_true (by omega)
 have qa : decide ((0 : Int) < (a : Int)) = true := decide_eq_true (by omega)
 obtain ⟨cc, hcce⟩ : ∃ cc, cc = a - 1 := ⟨_, rfl⟩
 have a6 : (0 : Int) ≤ (cc : Int) := by omega
 have a7 : (cc : Int) < (n : Int) := by omega
 have a8 : wrap64 ((a : Int) - 1) = (cc : Int) := (Y0q _ (by omega) (by omega)).trans (by omega)
 have a9 : IntKind.i64.wrap ((a : Int) - 1) = (cc : Int) := by rw [IntKind.wrap_i64]; omega
 rw [← hcce] at HCP
 clear hcce
 have qy : ((y : Int) == (y : Int)) = true := by simp
 have HRES : Hid (Y0p l a = ((y, 0), 1)) := Lib.hid (by rw [HMARK.out, if_neg (fun h => hx0 h.1), if_neg (fun h => hx0 h.1), if_neg (fun h => h3 h.2.2)])
 have HWD : Hid (wideV (y) = 0) := Lib.hid (by unfold wideV; rw [if_neg (by omega), if_neg (by omega), if_neg (by omega)])
 clear HMARK
 go_enter Tryz.func148, Tryz.ntmps148
 go_wp2_with fail
 rw [← HWA.out]
 refine HRUN.out.mono ?_
 rintro e V ⟨rfl, hd⟩
 have hcc := HCA.out V hd
 have hp := HCP.out V hd a4
 have m0 := (HMK.out V hd).c0
 have m1 := (HMK.out V hd).c1
 have m2 := (HMK.out V hd).c2
 have mf := fun j => (HMK.out V hd).fz j
 have HD := Lib.hid hd
 clear hd HRUN
 go_wp2_with fail
 go_quiet (fail)
 have hd2 := Y29 HD.out (show Drawn V (V.drewN nq) from ⟨nq, rfl⟩)
 generalize V.drewN nq = V2 at hd2 ⊢
 have hc2 := HCA.out V2 hd2
 have n0 := (HMK.out V2 hd2).c0
 have n1 := (HMK.out V2 hd2).c1
 have n2 := (HMK.out V2 hd2).c2
 have nf := fun j => (HMK.out V2 hd2).fz j
 have HD2 := Lib.hid hd2
 clear hd2 m0 m1 m2 mf hcc
 go_wp2_with fail
 refine Y37 ((HMK.out _ HD2.out).put _ _ _) rfl rfl rfl ⟨?_, Y1n (HBV.out _ HD2.out) (Nat.le_refl _) _ _ _⟩
 rw [HRES.out]
 dsimp only
 rw [HWD.out]
 first | rfl | (congr 4 <;> (first | rfl | omega)) | (simp; omega)
set_option maxHeartbeats 1000000 in
theorem Yx7 (w wa : World) (b off n cap a : Nat) (l : List Nat) (x y r : Nat) (h : Nx w wa b off n cap a l x y r) (hx0 : x ≠ 0) (ha0 : 0 < a) (hy : y = x) (h3 : 3 ≤ r) : Calls Tryz.prog 148 #[.slice (some ⟨b, off, none⟩) n cap, .int .i64 (a : Int)] w (Y9d w l a) := by
 have HWA := Lib.hid h.hwa
 have HRUN := Lib.hid h.run
 have HCA := Lib.hid h.ca
 have HCP := Lib.hid h.cp
 have HMK := Lib.hid h.mk0
 have HBV := Lib.hid h.bv
 have HMARK := Lib.hid h.mark
 have hr2 := h.r2
 have hr3 := h.r3
 have hx15 := h.x15
 have hbl := h.bl
 have hn := h.hn
 have hc := h.hc
 have acm := h.cm
 have ha := h.ha
 have a0 : (0 : Int) ≤ (a : Int) := by omega
 have a1 : (a : Int) < (n : Int) := by omega
 have a2 : (a : Int) ≤ (cap : Int) := by omega
 have a3 : (a : Int) ≤ (n : Int) := by omega
 have acn : ¬ cap = a := by omega
 clear h
 subst hy
 have qx : ((y : Int) == 0) = false := by simp only [beq_eq_false_iff_ne]; omega
 have q3 : decide ((r : Int) ≥ 3) = true := decide_eq_true (by omega)
 have a4 : 0 < a := ha0
 have qb : decide (0 < a) = true := decide_eq_true (by omega)
 have qc : decide ((a : Int) > 0) = true := decide_eq_true (by omega)
 have qa : decide ((0 : Int) < (a : Int)) = true := decide_eq_true (by omega)
 obtain ⟨cc, hcce⟩ : ∃ cc, cc = a - 1 := ⟨_, rfl⟩
 have a6 : (0 : Int) ≤ (cc : Int) := by omega
 have a7 : (cc : Int) < (n : Int) := by omega
 have a8 : wrap64 ((a : Int) - 1) = (cc : Int) := (Y0q _ (by omega) (by omega)).trans (by omega)
 have a9 : IntKind.i64.wrap ((a : Int) - 1) = (cc : Int) := by rw [IntKind.wrap_i64]; omega
 rw [← hcce] at HCP
 clear hcce
 obtain ⟨mr, hmr⟩ : ∃ mr, mr = min r 6 := ⟨_, rfl⟩
 have hmz : min (r : Int) 6 = (mr : Int) := by omega
 have qy : ((y : Int) == (y : Int)) = true := by simp
 have hm3 : 3 ≤ mr := by omega
 have hms : ((mr - 3 : Nat) : Int) = (mr : Int) - 3 := by omega
 have hws : wrap64 ((mr : Int) - 3) = (mr : Int) - 3 := Y0q _ (by omega) (by omega)
 have hm2 : mr ≤ 6 := by omega
 have HRES : Hid (Y0p l a = ((16, mr - 3), mr)) := Lib.hid (by rw [HMARK.out, if_neg (fun h => hx0 h.1), if_neg (fun h => hx0 h.1), if_pos ⟨by omega, rfl, h3⟩, hmr])
 have HWD : Hid (wideV (16) = 2) := Lib.hid (rfl)
 clear HMARK
 go_enter Tryz.func148, Tryz.ntmps148
 go_wp2_with fail
 rw [← HWA.out]
 refine HRUN.out.mono ?_
 rintro e V ⟨rfl, hd⟩
 have hcc := HCA.out V hd
 have hp := HCP.out V hd a4
 have m0 := (HMK.out V hd).c0
 have m1 := (HMK.out V hd).c1
 have m2 := (HMK.out V hd).c2
 have mf := fun j => (HMK.out V hd).fz j
 have HD := Lib.hid hd
 clear hd HRUN
 go_wp2_with fail
 go_quiet (fail)
 have hd2 := Y29 HD.out (show Drawn V (V.drewN nq) from ⟨nq, rfl⟩)
 generalize V.drewN nq = V2 at hd2 ⊢
 have hc2 := HCA.out V2 hd2
 have n0 := (HMK.out V2 hd2).c0
 have n1 := (HMK.out V2 hd2).c1
 have n2 := (HMK.out V2 hd2).c2
 have nf := fun j => (HMK.out V2 hd2).fz j
 have HD2 := Lib.hid hd2
 clear hd2 m0 m1 m2 mf hcc
 go_wp2_with fail
 refine Y37 ((HMK.out _ HD2.out).put _ _ _) rfl rfl rfl ⟨?_, Y1n (HBV.out _ HD2.out) (Nat.le_refl _) _ _ _⟩
 rw [HRES.out]
 dsimp only
 rw [HWD.out]
 first | rfl | (congr 4 <;> (first | rfl | omega)) | (simp; omega)
theorem Ydb (w : World) (b off n cap a : Nat) (l : List Nat) (hr : VRow w w.heap.size (some ⟨b, off, none⟩) (ints (Y05 l))) (hx : l.length = n) (hn : n ≤ 1000) (hc : n ≤ cap) (hc2 : cap ≤ maxLen) (ha : a < n) (h15 : ∀ x ∈ l, x ≤ 15) :
  Calls Tryz.prog 148 #[.slice (some ⟨b, off, none⟩) n cap, .int .i64 (a : Int)] w (Y9d w l a) := by
 obtain ⟨wa, h⟩ := Yzd w b off n cap a l hr hx hn hc hc2 ha h15
 by_cases hx0 : l.getD a 0 = 0
 ·by_cases h11 : 11 ≤ runN (l.drop a)
  ·exact Yza _ _ _ _ _ _ _ _ _ _ _ h hx0 h11
  ·by_cases h3 : 3 ≤ runN (l.drop a)
   ·exact Yzb _ _ _ _ _ _ _ _ _ _ _ h hx0 h11 h3
   ·by_cases ha0 : a = 0
    ·exact Yx1 _ _ _ _ _ _ _ _ _ _ _ h hx0 h3 ha0
    ·by_cases hy : l.getD (a - 1) 0 = 0
     ·exact Yx3 _ _ _ _ _ _ _ _ _ _ _ h hx0 h3 (by omega) hy
     ·exact Yx2 _ _ _ _ _ _ _ _ _ _ _ h hx0 h3 (by omega) hy
 ·by_cases ha0 : a = 0
  ·exact Yx4 _ _ _ _ _ _ _ _ _ _ _ h hx0 ha0
  ·by_cases hy : l.getD (a - 1) 0 = l.getD a 0
   ·by_cases h3 : 3 ≤ runN (l.drop a)
    ·exact Yx7 _ _ _ _ _ _ _ _ _ _ _ h hx0 (by omega) hy h3
    ·exact Yx6 _ _ _ _ _ _ _ _ _ _ _ h hx0 (by omega) hy h3
   ·exact Yx5 _ _ _ _ _ _ _ _ _ _ _ h hx0 (by omega) hy
end Go.Proofs.YtkkfkmoikcmhoaaGreat.Df

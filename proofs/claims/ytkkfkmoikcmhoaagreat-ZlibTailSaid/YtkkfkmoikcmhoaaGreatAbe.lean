/- IgL, IgM: merged. -/
import Derived.Test.YtkkfkmoikcmhoaaGreatAaq
set_option linter.unusedVariables false
set_option linter.unusedSimpArgs false
namespace Go.Proofs.YtkkfkmoikcmhoaaGreat.Inf
open Go.RowKit Oct Bit Hf
set_option maxRecDepth 100000
theorem Bo.wide {w : World} {B C g B' C' : Nat} {W : List (List Bool)} (h : Bo w B C g W) (h1 : B' ≤ B) (h2 : C ≤ C') (h3 : C' ≤ w.heap.size) : Bo w B' C' g W := by
 obtain ⟨⟨hz, hg⟩, pw, cw, pm, cm, A, E, k1, k2, k3, k4⟩ := h
 refine ⟨⟨h3, by omega⟩, pw, cw, pm, cm, A, E, k1, k2, k3, fun w' hk => ?_⟩
 obtain ⟨t1, t2, t3⟩ := k4 w' fun k a b => hk k (by omega) (by omega)
 exact ⟨t1.mono h2, t2.mono h2, t3.mono h2⟩
theorem Bo.lt {w : World} {B C g : Nat} {W : List (List Bool)} (h : Bo w B C g W) : B < C := by
 obtain ⟨⟨hz, hg⟩, pw, cw, pm, cm, A, E, k1, k2, k3, k4⟩ := h
 obtain ⟨t1, _, _⟩ := k4 w fun _ _ _ => rfl
 have := (t1.lo _ _ _ t1.root).2
 omega
theorem Bo.below {w w' : World} {B C g : Nat} {W : List (List Bool)} (h : Bo w B C g W) (hb : Below w.heap.size w w') : Bo w' B C g W :=
 BoU.same h hb.size fun k _ h2 => hb.block k (by have := h.1.1; omega)
theorem Y6t {L : List Nat} (h : startN L 31 = 1073741824) (one : Bool) : Y1h L one = .ok (Y03 L) := by
 unfold Y1h; rw [if_pos (.inl h)]
theorem Ycg {L : List Nat} (h : startN L 31 ≠ 1073741824) : Y1h L false = .error 3 := by
 unfold Y1h; rw [if_neg (by rintro (h1 | ⟨_, h1, _⟩); exact h h1; cases h1)]
def CbP (w : World) (L : List Nat) (e : Ending) (w' : World) : Prop :=
 Below w.heap.size w w' ∧ ((startN L 31 ≠ 1073741824 ∧ e = .returned (.tuple #[.pointer none, .int .i64 3])) ∨
  (startN L 31 = 1073741824 ∧ ∃ B g, e = .returned (.tuple #[.pointer (some ⟨g, 0, none⟩), .int .i64 0]) ∧ w.heap.size ≤ B ∧ Bo w' B w'.heap.size g (Y03 L)))
theorem Y5g (p : Option Addr) (cap n : Nat) (L : List Nat) (w : World) (hr : VRow w w.heap.size p (ints (Y05 L))) (hn : L.length = n) (hL : ∀ m ∈ L, m ≤ 30) (hn3 : n ≤ 300) (hnil : p = none → cap = 0) :
  Calls Tryz.prog 120 #[.slice p n cap] w (CbP w L) := by
 have HNB := Lib.hid (Y6n p cap n L w hr hn hL hn3 hnil)
 clear hr hn hL hn3 hnil
 go_enter Tryz.func120, Tryz.ntmps120
 go_wp2_with fail
 refine HNB.out.mono ?_
 rintro e w1 ⟨hb, hres⟩
 have HB := Lib.hid hb
 clear hb
 rcases hres with ⟨hov, rfl⟩ | ⟨hov, B, g, rfl, hB, hbo⟩
 ·have HOV := Lib.hid hov
  clear hov
  go_wp2_with fail
  go_ret2
  exact ⟨HB.out, .inl ⟨fun e => HOV.out (by omega), rfl⟩⟩
 ·have HBO := Lib.hid hbo
  have HBL := Lib.hid hB
  clear hov hbo hB
  by_cases hf : startN L 31 = 1073741824
  ·rw [decide_eq_true hf]
   have HF := Lib.hid hf
   clear hf
   go_wp2_with fail
   go_ret2
   exact ⟨HB.out, .inr ⟨HF.out, B, g, rfl, HBL.out, HBO.out⟩⟩
  ·rw [decide_eq_false hf]
   have HF := Lib.hid hf
   clear hf
   go_wp2_with fail
   go_ret2
   exact ⟨HB.out, .inl ⟨HF.out, rfl⟩⟩
theorem Yt8 (L : List Nat) : lone L = decide (L.sum ≤ 1) := by
 have h1 : ∀ L : List Nat, L.countP (fun n => decide (0 < n)) ≤ L.sum ∧ (L.countP (fun n => decide (0 < n)) = 0 → L.sum = 0) := by
  intro L
  induction L with
  | nil => simp
  | cons x r ih =>
   obtain ⟨i1, i2⟩ := ih
   rw [List.countP_cons, List.sum_cons]
   by_cases hx : 0 < x
   ·have : (if decide (0 < x) = true then 1 else 0) = 1 := by simp [hx]
    rw [this]
    exact ⟨by omega, by omega⟩
   ·have : (if decide (0 < x) = true then 1 else 0) = 0 := by simp; omega
    rw [this]
    exact ⟨by omega, fun h => by have := i2 (by omega); omega⟩
 obtain ⟨h2, h3⟩ := h1 L
 unfold lone
 generalize L.countP (fun n => decide (0 < n)) = c at h2 h3 ⊢
 generalize L.sum = s at h2 h3 ⊢
 by_cases hs : s ≤ 1
 ·rw [decide_eq_true hs]
  rcases Nat.eq_zero_or_pos c with hc | hc
  ·simp [hc]
  ·have e1 : c = 1 := by omega
   have e2 : s = 1 := by omega
   subst e1; subst e2
   rfl
 ·rw [decide_eq_false hs]
  have hc : c ≠ 0 := fun e => hs (by rw [h3 e]; omega)
  have e2 : s ≠ 1 := by omega
  simp [hc, e2]
theorem Yuf (L : List Nat) (k : Nat) (h : k < L.length) : (L.take (k + 1)).sum = (L.take k).sum + L[k] := by
 rw [List.take_succ_eq_append_getElem h, List.sum_append]
 simp
theorem Yhk (p : Option Addr) (cap n : Nat) (L : List Nat) (w : World) (hr : VRow w w.heap.size p (ints (Y05 L))) (hn : L.length = n) (hL : ∀ m ∈ L, m ≤ 30) (hn3 : n ≤ 300) :
  Calls Tryz.prog 128 #[.slice p n cap] w fun e w' => e = .returned (.bool (lone L)) ∧ w = w' := by
 have HR := Lib.hid hr
 have HN := Lib.hid hn
 have HL := Lib.hid hL
 clear hr hn hL
 go_enter Tryz.func128, Tryz.ntmps128
 go_wp2_with fail
 go_loop [3, 5, 8] (fun s u i => ∃ k : Nat, k ≤ n ∧ i = .int .i64 (k : Int) ∧ s = .int .i64 (((L.take k).sum : Nat) : Int) ∧ (L.take k).sum ≤ 30 * k) (fun s u i => n - (intOf i).toNat)
 case atStart => exact ⟨0, by omega, rfl, rfl, by simp⟩
 case round =>
  obtain ⟨k, hk, rfl, rfl, hs⟩ := hrel
  by_cases hlt : k < n
  ·have ql : decide ((k : Int) < (n : Int)) = true := by simpa using hlt
   have i1 : (0 : Int) ≤ (k : Int) := by omega
   have i2 : (k : Int) < (n : Int) := by omega
   have hkL : k < L.length := by rw [HN.out]; exact hlt
   obtain ⟨b, off, rfl, hbl⟩ := HR.out.addr (by rw [Y06, Y02]; omega)
   have hc := HR.out.int k (by rw [Y02]; exact hkL)
   have hz : (Y05 L)[k]'(by rw [Y02]; exact hkL) = (L[k] : Int) := by simp [Y05]
   rw [hz] at hc
   have hst := Yuf L k hkL
   have h30 := HL.out _ (List.getElem_mem hkL)
   have HST := Lib.hid hst
   generalize hx : L[k] = x at hc h30 HST
   generalize (L.take k).sum = s at hs HST
   have ws : wrap64 ((s : Int) + (x : Int)) = ((s + x : Nat) : Int) := by unfold wrap64; omega
   clear hst hz hx
   go_wp2_with fail
   go_round
   case rel => exact ⟨k + 1, by omega, by go_num, by rw [HST.out]; first | rfl | (push_cast; rfl), by rw [HST.out]; omega⟩
   case measure => simp [intOf]; omega
  ·have hkn : k = n := by omega
   subst hkn
   have hfin : (L.take k).sum = L.sum := by rw [← HN.out, List.take_length]
   have ql : decide ((k : Int) < (k : Int)) = false := by simp
   rw [hfin] at hs ⊢
   have HLO := Lib.hid (Yt8 L)
   generalize L.sum = s at hs HLO ⊢
   clear hfin
   go_wp2_with fail
   go_ret
   refine ⟨?_, rfl⟩
   rw [HLO.out]
   by_cases h1 : s ≤ 1
   ·have h2 : (s : Int) ≤ 1 := by omega
    simp [h1, h2]
   ·have h2 : ¬ (s : Int) ≤ 1 := by omega
    simp [h1, h2]
def Y6x (LA LB : List Nat) : Prop := LA.getD 256 0 ≠ 0 ∧ startN LA 31 = 1073741824 ∧ (startN LB 31 = 1073741824 ∨ (startN LB 31 < 1073741824 ∧ lone LB = true))
def Yyj (w : World) (WA WB : List (List Bool)) (e : Ending) (w' : World) : Prop :=
 ∃ B ga gb, e = .returned (.tuple #[.agg #[.pointer (some ⟨ga, 0, none⟩), .pointer (some ⟨gb, 0, none⟩)], .int .i64 0]) ∧ w.heap.size ≤ B ∧ Bo w' B w'.heap.size ga WA ∧ Bo w' B w'.heap.size gb WB
def Yv9 (w : World) (LA LB : List Nat) (e : Ending) (w' : World) : Prop :=
 Below w.heap.size w w' ∧ ((¬ Y6x LA LB ∧ e = .returned (.tuple #[.agg #[.pointer none, .pointer none], .int .i64 3])) ∨ (Y6x LA LB ∧ Yyj w (Y03 LA) (Y03 LB) e w'))
theorem Ydw (F : World) (d : Nat) (x y u v : Value) (T : TypeId) (hb : F.heap[d]? = some (.cells #[x, y] T (0, 0))) : ((F.setCell ⟨d, 0, none⟩ u).setCell ⟨d, 1, none⟩ v).heap[d]? = some (.cells #[u, v] T (0, 0)) := by
 simp [World.setCell, Array.getElem?_modify, hb]
theorem Y0z {F : World} {d : Nat} {x y : Value} {T : TypeId} (hb : F.heap[d]? = some (.cells #[x, y] T (0, 0))) : F.cell? ⟨d, 0, none⟩ = some x ∧ F.cell? ⟨d, 1, none⟩ = some y ∧ F.frozen? ⟨d, 0, none⟩ = false ∧ F.frozen? ⟨d, 1, none⟩ = false := by
 simp [World.cell?, World.frozen?, hb]
theorem Bo.set {w : World} {B C g : Nat} {W : List (List Bool)} (h : Bo w B C g W) {d i : Nat} (hd : d < B) (u : Value) : Bo (w.setCell ⟨d, i, none⟩ u) B C g W :=
 h.same (S := (· = d)) (Only.setCell (S := (· = d)) (p := ⟨d, i, none⟩) (by rfl) _) fun k h1 h2 e => by omega
theorem Yyj.store {w V : World} {WA WB : List (List Bool)} {B ga gb d : Nat} (hd : d < w.heap.size + 1) (hB : w.heap.size + 1 ≤ B) (h1 : Bo V B V.heap.size ga WA) (h2 : Bo V B V.heap.size gb WB) (u v : Value) :
  Yyj w WA WB (.returned (.tuple #[.agg #[.pointer (some ⟨ga, 0, none⟩), .pointer (some ⟨gb, 0, none⟩)], .int .i64 0])) ((V.setCell ⟨d, 0, none⟩ u).setCell ⟨d, 1, none⟩ v) := by
 have hz : ((V.setCell ⟨d, 0, none⟩ u).setCell ⟨d, 1, none⟩ v).heap.size = V.heap.size := by simp [World.setCell]
 refine ⟨B, ga, gb, rfl, by omega, ?_, ?_⟩
 ·rw [hz]; exact (h1.set (by omega) _).set (by omega) _
 ·rw [hz]; exact (h2.set (by omega) _).set (by omega) _
theorem Ylb : ∀ m ∈ Y0l, m ≤ 30 := by decide +kernel
theorem Ylc : ∀ m ∈ Y0s, m ≤ 30 := by decide +kernel
theorem Yf2 : startN Y0l 31 = 1073741824 := by decide +kernel
theorem Yf3 : startN Y0s 31 ≤ 1073741824 := by decide +kernel
set_option maxHeartbeats 1000000 in
theorem Ybh (w : World) : Calls Tryz.prog 91 #[] w fun e w' => Below w.heap.size w w' ∧ Yyj w (Y03 Y0l) (Y03 Y0s) e w' := by
 obtain ⟨w0, hw0⟩ : ∃ w0, w0 = w.alloc (.cells #[.pointer none, .pointer none] 57) := ⟨_, rfl⟩
 have hb0 : Below w.heap.size w w0 := by rw [hw0]; exact (Below.refl _ w).alloc (Nat.le_refl _) _
 have hz0 : w0.heap.size = w.heap.size + 1 := by rw [hw0]; exact Array.size_push _
 have hblk : w0.heap[w.heap.size]? = some (.cells #[.pointer none, .pointer none] 57 (0, 0)) := by rw [hw0]; exact Array.getElem?_push_size
 have HB0 := Lib.hid hb0
 have HBLK := Lib.hid hblk
 have HW0 := Lib.hid hw0
 clear hb0 hblk hw0
 go_enter Tryz.func91, Tryz.ntmps91
 go_wp2_with fail
 rw [← HW0.out]
 refine (Yf4 w0).mono ?_
 rintro e w1 ⟨hb1, q, c, r, d, rfl, hq, hq0, hr, hr0⟩
 have HCB := Lib.hid (Y5g q c 288 Y0l w1 hq (by decide) Ylb (by omega) hq0)
 have HR := Lib.hid hr
 have HR0 := Lib.hid hr0
 have HB1 := Lib.hid hb1
 clear hb1 hq hq0 hr hr0
 go_wp2_with fail
 refine HCB.out.mono ?_
 rintro e w2 ⟨hb2, hres⟩
 rcases hres with ⟨hne, _⟩ | ⟨_, B, ga, rfl, hB, hbo⟩
 ·exact absurd Yf2 hne
 have HNB := Lib.hid (Y6n r d 30 Y0s w2 ((HR.out.below hb2 (Nat.le_refl _)).mono hb2.size) (by decide) Ylc (by omega) HR0.out)
 have HB2 := Lib.hid hb2
 have HBO := Lib.hid hbo
 have HBB := Lib.hid hB
 clear hb2 hbo hB HCB
 go_wp2_with fail
 refine HNB.out.mono ?_
 rintro e w3 ⟨hb3, hres⟩
 rcases hres with ⟨hne, _⟩ | ⟨_, B2, gb, rfl, hB2, hbo2⟩
 ·exact absurd Yf3 hne
 have hz1 := HB1.out.size
 have hz2 := HB2.out.size
 have hz3 := hb3.size
 have hBB := HBB.out
 have hbz := HBO.out.lt
 have hblk3 : w3.heap[w.heap.size]? = some (.cells #[.pointer none, .pointer none] 57 (0, 0)) := by
  rw [hb3.block _ (by omega), HB2.out.block _ (by omega), HB1.out.block _ (by omega)]
  exact HBLK.out
 obtain ⟨k0, k1, f0, f1⟩ := Y0z hblk3
 have HBO1 := Lib.hid ((HBO.out.below hb3).wide (Nat.le_refl _) hz3 (Nat.le_refl _))
 have HBO2 := Lib.hid (hbo2.wide (B' := B) (by omega) (Nat.le_refl _) (Nat.le_refl _))
 have HBE := Lib.hid (((HB0.out.trans (HB1.out.mono (by omega))).trans (HB2.out.mono (by omega))).trans (hb3.mono (by omega)))
 have HBLK3 := Lib.hid hblk3
 clear hb3 hbo2 hB2 hblk3 HNB
 generalize decide (startN Y0s 31 = 1073741824) = bb
 go_wp2_with fail
 have hbl2 := Ydw w3 w.heap.size _ _ (.pointer (some ⟨ga, 0, none⟩)) (.pointer (some ⟨gb, 0, none⟩)) _ HBLK3.out
 obtain ⟨q0, q1, _, _⟩ := Y0z hbl2
 refine bodyPost_ret (v := .tuple #[.agg #[.pointer (some ⟨ga, 0, none⟩), .pointer (some ⟨gb, 0, none⟩)], .int .i64 0]) ?_ rfl ⟨(HBE.out.setCell (p := ⟨w.heap.size, 0, none⟩) (Nat.le_refl _) _).setCell (p := ⟨w.heap.size, 1, none⟩) (Nat.le_refl _) _, Yyj.store (by omega) (by omega) HBO1.out HBO2.out _ _⟩
 simp [results, Tryz.results91, go_sem, q0, q1]
theorem Ytp {LA LB : List Nat} (h : LA.getD 256 0 = 0) : ¬ Y6x LA LB := fun e => e.1 h
set_option maxHeartbeats 4000000 in
theorem Yfv (p r : Option Addr) (c d n m : Nat) (LA LB : List Nat) (w : World) (hr : VRow w w.heap.size p (ints (Y05 LA))) (hn : LA.length = n) (hA : ∀ m ∈ LA, m ≤ 30) (hn3 : 257 ≤ n ∧ n ≤ 300) (hnil : p = none → c = 0)
  (hr2 : VRow w w.heap.size r (ints (Y05 LB))) (hm : LB.length = m) (hB : ∀ m ∈ LB, m ≤ 30) (hm3 : m ≤ 300) (hnil2 : r = none → d = 0) :
  Calls Tryz.prog 95 #[.slice p n c, .slice r m d] w (Yv9 w LA LB) := by
 obtain ⟨w0, hw0⟩ : ∃ w0, w0 = w.alloc (.cells #[.pointer none, .pointer none] 57) := ⟨_, rfl⟩
 have hb0 : Below w.heap.size w w0 := by rw [hw0]; exact (Below.refl _ w).alloc (Nat.le_refl _) _
 have hz0 : w0.heap.size = w.heap.size + 1 := by rw [hw0]; exact Array.size_push _
 have hblk : w0.heap[w.heap.size]? = some (.cells #[.pointer none, .pointer none] 57 (0, 0)) := by rw [hw0]; exact Array.getElem?_push_size
 have hra : VRow w0 w0.heap.size p (ints (Y05 LA)) := (hr.below hb0 (Nat.le_refl _)).mono hb0.size
 have hrb : VRow w0 w0.heap.size r (ints (Y05 LB)) := (hr2.below hb0 (Nat.le_refl _)).mono hb0.size
 obtain ⟨b, off, rfl, hbl⟩ := hra.addr (by rw [Y06, Y02]; omega)
 have hLA : 256 < LA.length := by omega
 have hc := hra.int 256 (by rw [Y02]; exact hLA)
 have hz : (Y05 LA)[256]'(by rw [Y02]; exact hLA) = (LA[256] : Int) := by simp [Y05]
 rw [hz] at hc
 have hx : LA.getD 256 0 = LA[256] := by rw [List.getD_eq_getElem?_getD, List.getElem?_eq_getElem hLA]; rfl
 have hx30 := hA _ (List.getElem_mem hLA)
 rw [← hx] at hc hx30
 obtain ⟨x, hxx⟩ : ∃ x, LA.getD 256 0 = x := ⟨_, rfl⟩
 rw [hxx] at hc hx30
 have HX := Lib.hid hxx
 have i2 : (256 : Int) < (n : Int) := by omega
 have HCB := Lib.hid (Y5g (some ⟨b, off, none⟩) c n LA w0 hra hn hA (by omega) hnil)
 have HRB := Lib.hid hrb
 have HB0 := Lib.hid hb0
 have HBLK := Lib.hid hblk
 have HW0 := Lib.hid hw0
 have HM := Lib.hid hm
 have HBM := Lib.hid hB
 have HN2 := Lib.hid hnil2
 obtain ⟨k0, k1, f0, f1⟩ := Y0z hblk
 have HFAIL0 : Hid (∀ V, Below w.heap.size w V → V.heap[w.heap.size]? = some (.cells #[.pointer none, .pointer none] 57 (0, 0)) → ¬ Y6x LA LB → ∀ tm : Array Value, tm[4]?.getD undef = .pointer (some ⟨w.heap.size, 0, none⟩) → tm[5]?.getD undef = .int .i64 3 →
   bodyPost Tryz.prog Tryz.f95 (Yv9 w LA LB) .ret { tmps := tm, defers := [] } V) := Lib.hid (by
  intro V hV hbV hno tm t4 t5
  obtain ⟨q0, q1, _, _⟩ := Y0z hbV
  refine bodyPost_ret (v := .tuple #[.agg #[.pointer none, .pointer none], .int .i64 3]) ?_ rfl ⟨hV, .inl ⟨hno, rfl⟩⟩
  simp [results, Tryz.results95, go_sem, q0, q1, t4, t5])
 have HFAIL : Hid (∀ V, Below w.heap.size w V → V.heap[w.heap.size]? = some (.cells #[.pointer none, .pointer none] 57 (0, 0)) → ¬ Y6x LA LB → ∀ tm : Array Value, tm[4]?.getD undef = .pointer (some ⟨w.heap.size, 0, none⟩) → tm[5]?.getD undef = .int .i64 3 →
   bodyPost Tryz.prog Tryz.f95 (Yv9 w LA LB) .ret { tmps := tm, defers := [] } ((V.setCell ⟨w.heap.size, 0, none⟩ (.pointer none)).setCell ⟨w.heap.size, 1, none⟩ (.pointer none))) := Lib.hid (by
  intro V hV hbV hno tm t4 t5
  exact HFAIL0.out _ ((hV.setCell (p := ⟨w.heap.size, 0, none⟩) (Nat.le_refl _) _).setCell (p := ⟨w.heap.size, 1, none⟩) (Nat.le_refl _) _) (Ydw V w.heap.size _ _ (.pointer none) (.pointer none) _ hbV) hno tm t4 t5)
 rw [hw0] at hc k0 k1 f0 f1
 clear hr hn hA hnil hr2 hm hB hnil2 hb0 hblk hw0 hra hrb hz hx hxx hLA
 by_cases hx0 : x = 0
 ·have hd0 : ((x : Int) == 0) = true := by simp; omega
  have HNO := Lib.hid (Ytp (LB := LB) (HX.out.trans hx0))
  clear hx0
  go_enter Tryz.func95, Tryz.ntmps95
  go_wp2_with fail
  rw [← HW0.out]
  refine HFAIL0.out w0 HB0.out HBLK.out HNO.out _ ?_ ?_ <;> rfl
 ·have hd0 : ((x : Int) == 0) = false := by simp; omega
  have HX0 := Lib.hid hx0
  clear hx0
  go_enter Tryz.func95, Tryz.ntmps95
  go_wp2_with fail
  rw [← HW0.out]
  clear hc k0 k1 f0 f1
  refine HCB.out.mono ?_
  rintro e w2 ⟨hb2, hres⟩
  have hz2 := hb2.size
  have hblk2 : w2.heap[w.heap.size]? = some (.cells #[.pointer none, .pointer none] 57 (0, 0)) := by
   rw [hb2.block _ (by omega)]
   exact HBLK.out
  obtain ⟨k0, k1, f0, f1⟩ := Y0z hblk2
  have HBE := Lib.hid (HB0.out.trans (hb2.mono (by omega)))
  have HBLK2 := Lib.hid hblk2
  rcases hres with ⟨hne, rfl⟩ | ⟨hfull, B, ga, rfl, hB, hbo⟩
  ·have HNO : Hid (¬ Y6x LA LB) := Lib.hid fun e => hne e.2.1
   clear hb2 hblk2 hne HCB
   go_wp2_with fail
   refine HFAIL.out w2 HBE.out HBLK2.out HNO.out _ ?_ ?_ <;> rfl
  ·have HRB2 := Lib.hid ((HRB.out.below hb2 (Nat.le_refl _)).mono hb2.size)
   have HNB := Lib.hid (Y6n r d m LB w2 HRB2.out HM.out HBM.out hm3 HN2.out)
   have HBO := Lib.hid hbo
   have HFU := Lib.hid hfull
   have hBz := hbo.lt
   clear hb2 hblk2 hbo hfull HCB k0 k1 f0 f1
   go_wp2_with fail
   refine HNB.out.mono ?_
   rintro e w3 ⟨hb3, hres⟩
   have hz3 := hb3.size
   have hblk3 : w3.heap[w.heap.size]? = some (.cells #[.pointer none, .pointer none] 57 (0, 0)) := by
    rw [hb3.block _ (by omega)]
    exact HBLK2.out
   obtain ⟨k0, k1, f0, f1⟩ := Y0z hblk3
   have HBE3 := Lib.hid (HBE.out.trans (hb3.mono (by omega)))
   have HBLK3 := Lib.hid hblk3
   rcases hres with ⟨hne, rfl⟩ | ⟨hle, B2, gb, rfl, hB2, hbo2⟩
   ·have HNO : Hid (¬ Y6x LA LB) := Lib.hid fun e => by
     rcases e.2.2 with e | e
     ·omega
     ·omega
    clear hb3 hblk3 hne HNB
    go_wp2_with fail
    refine HFAIL.out w3 HBE3.out HBLK3.out HNO.out _ ?_ ?_ <;> rfl
   ·have HBO1 := Lib.hid ((HBO.out.below hb3).wide (Nat.le_refl _) hz3 (Nat.le_refl _))
    have HBO2 := Lib.hid (hbo2.wide (B' := B) (by omega) (Nat.le_refl _) (Nat.le_refl _))
    have HSM := Lib.hid (Yhk r d m LB w3 ((HRB2.out.below hb3 (Nat.le_refl _)).mono hb3.size) HM.out HBM.out hm3)
    have HGOOD : Hid (Y6x LA LB → ∀ tm : Array Value, tm[4]?.getD undef = .pointer (some ⟨w.heap.size, 0, none⟩) → tm[5]?.getD undef = .int .i64 0 →
      bodyPost Tryz.prog Tryz.f95 (Yv9 w LA LB) .ret { tmps := tm, defers := [] } ((w3.setCell ⟨w.heap.size, 0, none⟩ (.pointer (some ⟨ga, 0, none⟩))).setCell ⟨w.heap.size, 1, none⟩ (.pointer (some ⟨gb, 0, none⟩)))) := Lib.hid (by
     intro hok tm t4 t5
     have hbl2 := Ydw w3 w.heap.size _ _ (.pointer (some ⟨ga, 0, none⟩)) (.pointer (some ⟨gb, 0, none⟩)) _ hblk3
     obtain ⟨q0, q1, _, _⟩ := Y0z hbl2
     refine bodyPost_ret (v := .tuple #[.agg #[.pointer (some ⟨ga, 0, none⟩), .pointer (some ⟨gb, 0, none⟩)], .int .i64 0]) ?_ rfl ⟨(HBE3.out.setCell (p := ⟨w.heap.size, 0, none⟩) (Nat.le_refl _) _).setCell (p := ⟨w.heap.size, 1, none⟩) (Nat.le_refl _) _, .inr ⟨hok, Yyj.store (by omega) (by omega) HBO1.out HBO2.out _ _⟩⟩
     simp [results, Tryz.results95, go_sem, q0, q1, t4, t5])
    by_cases hf : startN LB 31 = 1073741824
    ·rw [decide_eq_true hf]
     have HOK : Hid (Y6x LA LB) := Lib.hid ⟨by rw [HX.out]; exact HX0.out, HFU.out, .inl hf⟩
     clear hb3 hblk3 hle hbo2 hB2 HNB hf
     go_wp2_with fail
     refine HGOOD.out HOK.out _ ?_ ?_ <;> rfl
    ·rw [decide_eq_false hf]
     cases hlo : lone LB
     ·rw [hlo] at HSM
      have HNO : Hid (¬ Y6x LA LB) := Lib.hid fun e => by
       rcases e.2.2 with e | ⟨_, e⟩
       ·exact hf e
       ·rw [hlo] at e; cases e
      clear hb3 hblk3 hle hbo2 hB2 HNB hf hlo
      go_wp2_with fail
      refine HSM.out.mono ?_
      rintro e w4 ⟨rfl, rfl⟩
      go_wp2_with fail
      refine HFAIL.out w3 HBE3.out HBLK3.out HNO.out _ ?_ ?_ <;> rfl
     ·rw [hlo] at HSM
      have HOK : Hid (Y6x LA LB) := Lib.hid ⟨by rw [HX.out]; exact HX0.out, HFU.out, .inr ⟨by omega, hlo⟩⟩
      clear hb3 hblk3 hle hbo2 hB2 HNB hf hlo
      go_wp2_with fail
      refine HSM.out.mono ?_
      rintro e w4 ⟨rfl, rfl⟩
      go_wp2_with fail
      refine HGOOD.out HOK.out _ ?_ ?_ <;> rfl
end Go.Proofs.YtkkfkmoikcmhoaaGreat.Inf
namespace Go.Proofs.YtkkfkmoikcmhoaaGreat.Inf
open Go.RowKit Oct Bit Hf
set_option maxRecDepth 100000
theorem De.apart {w w' : World} {K : Kon} {a : Nat} {v : Value} {out : List UInt8} {F : Option Fix} {S : Nat → Prop} (h : De w K a v out F) (ho : Only S w w') (z : Nat) (hz : K.d < z) (hv : ∀ k, v.ownBlock = some k → k < z)
  (hf : ∀ f, F = some f → f.C ≤ z) (hS : ∀ k, S k → z ≤ k) : De w' K a v out F := by
 have h1 := h.lo
 refine ⟨(ho.2.2.2.2 K.d h.lt (fun e => by have := hS _ e; omega)).trans h.blk, Yaw h.rd ho (fun k hk e => by have := hS _ e; omega), Y5u h.own ho (fun k hk e => by have := hS _ e; have := hv k hk; omega), h.tbl.only ho (fun k h2 h3 e => by have := hS _ e; omega), h.lo, h.hv, h.om, h.sz, h.fx.only ho ?_, h.cl⟩
 intro f hf2 k h2 h3 e
 have := hf f hf2
 have := hS _ e
 omega
theorem Yam {S T : Nat → Prop} {w w1 w2 : World} (h : Only S w w1) (h2 : Only T w1 w2) (hT : ∀ k, T k → w.heap.size ≤ k) : Only S w w2 :=
 ⟨h2.1.trans h.1, h2.2.1.trans h.2.1, h2.2.2.1.trans h.2.2.1, Nat.le_trans h.2.2.2.1 h2.2.2.2.1, fun k hk hn =>
  (h2.2.2.2.2 k (by have := h.2.2.2.1; omega) (fun e => by have := hT k e; omega)).trans (h.2.2.2.2 k hk hn)⟩
structure Low (K : Kon) (v : Value) (F : Option Fix) (z : Nat) : Prop where
 d : K.d < z
 v : ∀ k, v.ownBlock = some k → k < z
 f : ∀ f, F = some f → f.C ≤ z
theorem De.low {w : World} {K : Kon} {a : Nat} {v : Value} {out : List UInt8} {F : Option Fix} (h : De w K a v out F) : Low K v F w.heap.size :=
 ⟨h.lt, h.own_lt, fun f hf => by have := h.fx; subst hf; exact this.2.1.1.1⟩
theorem De.later {w w' : World} {K : Kon} {a : Nat} {v : Value} {out : List UInt8} {F : Option Fix} {S : Nat → Prop} (h : De w K a v out F) (ho : Only S w w') {z : Nat} (hl : Low K v F z) (hS : ∀ k, S k → z ≤ k) : De w' K a v out F :=
 h.apart ho z hl.d hl.v hl.f hS
set_option maxHeartbeats 1000000 in
theorem Yi5 (s : Nat) (w : World) (hs : s ≤ 100000) : Calls Tryz.prog 126 #[.int .i64 (s : Int)] w fun e w' => e = .returned (.agg #[.int .i64 (timesV s : Int), .int .i64 (wideV s : Int)]) ∧ Below w.heap.size w w' := by
 have fin : ∀ (V : World) (x y : Int) (tm : Array Value), Below w.heap.size w V → V.heap[w.heap.size]? = some (.cells #[.int .i64 x, .int .i64 y] 102 (0, 0)) → tm[2]?.getD undef = .pointer (some ⟨w.heap.size, 0, none⟩) → x = timesV s → y = wideV s →
   bodyPost Tryz.prog Tryz.f126 (fun e w' => e = .returned (.agg #[.int .i64 (timesV s : Int), .int .i64 (wideV s : Int)]) ∧ Below w.heap.size w w') .ret { tmps := tm, defers := [] } V := by
  intro V x y tm hV hb t2 hx hy
  obtain ⟨q0, q1, _, _⟩ := Y0z hb
  refine bodyPost_ret (v := .agg #[.int .i64 (timesV s : Int), .int .i64 (wideV s : Int)]) ?_ rfl ⟨rfl, hV⟩
  simp [results, Tryz.results126, go_sem, q0, q1, t2, hx, hy]
 have hbA : ∀ x y : Int, Below w.heap.size w (w.alloc (.cells #[.int .i64 x, .int .i64 y] 102)) := fun x y => (Below.refl _ w).alloc (Nat.le_refl _) _
 have hcA : ∀ x y : Int, (w.alloc (.cells #[.int .i64 x, .int .i64 y] 102)).heap[w.heap.size]? = some (.cells #[.int .i64 x, .int .i64 y] 102 (0, 0)) := fun x y => Array.getElem?_push_size
 obtain ⟨k0, k1, f0, f1⟩ := Y0z (hcA 0 0)
 have FIN := Lib.hid fin
 have HBA := Lib.hid hbA
 have HCA := Lib.hid hcA
 clear fin hbA hcA
 by_cases h16 : s = 16
 ·subst h16
  clear hs
  go_enter Tryz.func126, Tryz.ntmps126
  go_wp2_with fail
  refine FIN.out _ _ _ _ (HBA.out _ _) (HCA.out _ _) ?_ ?_ ?_ <;> rfl
 ·have q16 : ((s : Int) == 16) = false := by simp; omega
  by_cases h17 : s = 17
  ·subst h17
   clear hs q16 h16
   go_enter Tryz.func126, Tryz.ntmps126
   go_wp2_with fail
   refine FIN.out _ _ _ _ (HBA.out _ _) (HCA.out _ _) ?_ ?_ ?_ <;> rfl
  ·have q17 : ((s : Int) == 17) = false := by simp; omega
   by_cases h18 : s = 18
   ·subst h18
    clear hs q16 q17 h16 h17
    go_enter Tryz.func126, Tryz.ntmps126
    go_wp2_with fail
    refine FIN.out _ _ _ _ (HBA.out _ _) (HCA.out _ _) ?_ ?_ ?_ <;> rfl
   ·have q18 : ((s : Int) == 18) = false := by simp; omega
    have e1 : timesV s = 1 := by unfold timesV; rw [if_neg h16, if_neg h17, if_neg h18]
    have e2 : wideV s = 0 := by unfold wideV; rw [if_neg h16, if_neg h17, if_neg h18]
    have E1 := Lib.hid e1
    have E2 := Lib.hid e2
    clear h16 h17 h18 hs e1 e2
    go_enter Tryz.func126, Tryz.ntmps126
    go_wp2_with fail
    exact FIN.out _ _ _ _ (HBA.out 1 0) (HCA.out 1 0) rfl (by rw [E1.out]; rfl) (by rw [E2.out]; rfl)
set_option maxHeartbeats 1000000 in
theorem Yfd (p : Option Addr) (c s : Nat) (all : List Nat) (w : World) (C : Nat) (hr : VRow w C p (ints (Y05 all))) (hs : s ≤ 100000) (hn : all.length ≤ 100000) (h16 : s = 16 → all ≠ []) :
  Calls Tryz.prog 127 #[.int .i64 (s : Int), .slice p all.length c] w fun e w' => e = .returned (.int .i64 (valueV s all : Int)) ∧ w = w' := by
 obtain ⟨V, hV⟩ : ∃ V, valueV s all = V := ⟨_, rfl⟩
 rw [hV]
 by_cases e16 : s = 16
 ·have hne := h16 e16
  have hpos : 0 < all.length := List.length_pos_iff.2 hne
  obtain ⟨b, off, rfl, hbl⟩ := hr.addr (by rw [Y06, Y02]; exact hpos)
  have hc := hr.int (all.length - 1) (by rw [Y02]; omega)
  have hz : (Y05 all)[all.length - 1]'(by rw [Y02]; omega) = (V : Int) := by
   rw [← hV]
   unfold valueV
   rw [if_pos e16]
   simp [Y05, List.getLastD_eq_getLast?, List.getLast?_eq_getElem?, List.getElem?_eq_getElem (show all.length - 1 < all.length by omega)]
  rw [hz] at hc
  obtain ⟨n, hn2⟩ : ∃ n, n = all.length - 1 := ⟨_, rfl⟩
  rw [← hn2] at hc
  have hl : all.length = n + 1 := by omega
  rw [hl]
  have i1 : (0 : Int) ≤ (n : Int) := by omega
  have e : ((n + 1 : Nat) : Int) - 1 = (n : Int) := by omega
  have ew : wrap64 (n : Int) = (n : Int) := by unfold wrap64; omega
  subst e16
  clear hr hz hV hne hpos h16 hn2 hl
  go_enter Tryz.func127, Tryz.ntmps127
  go_wp2_with fail
  go_ret
  exact ⟨rfl, rfl⟩
 ·have q16 : ((s : Int) == 16) = false := by simp; omega
  by_cases h17 : s = 17
  ·have : V = 0 := by rw [← hV]; unfold valueV; rw [if_neg e16, if_pos h17]
   subst this
   subst h17
   clear hr hV h16 hs hn e16 q16
   go_enter Tryz.func127, Tryz.ntmps127
   go_wp2_with fail
   go_ret
   exact ⟨rfl, rfl⟩
  ·have q17 : ((s : Int) == 17) = false := by simp; omega
   by_cases h18 : s = 18
   ·have : V = 0 := by rw [← hV]; unfold valueV; rw [if_neg e16, if_neg h17, if_pos h18]
    subst this
    subst h18
    clear hr hV h16 hs hn e16 q16 h17 q17
    go_enter Tryz.func127, Tryz.ntmps127
    go_wp2_with fail
    go_ret
    exact ⟨rfl, rfl⟩
   ·have q18 : ((s : Int) == 18) = false := by simp; omega
    have : V = s := by rw [← hV]; unfold valueV; rw [if_neg e16, if_neg h17, if_neg h18]
    subst this
    clear hr hV h16 hs hn e16 h17 h18
    go_enter Tryz.func127, Tryz.ntmps127
    go_wp2_with fail
    go_ret
    exact ⟨rfl, rfl⟩
def LcP (w : World) (K : Kon) (v : Value) (out : List UInt8) (F : Option Fix) (x : R (List Nat)) (e : Ending) (w' : World) : Prop :=
 Only (Y0x K v) w w' ∧ ((∃ c, x = .error c ∧ c ≠ 0 ∧ e = .returned (.tuple #[.pointer none, .int .i64 (c : Int)])) ∨
  (∃ l a, x = .ok (l, a) ∧ ((startN l 31 ≠ 1073741824 ∧ e = .returned (.tuple #[.pointer none, .int .i64 3])) ∨
   (startN l 31 = 1073741824 ∧ ∃ B g, e = .returned (.tuple #[.pointer (some ⟨g, 0, none⟩), .int .i64 0]) ∧ w.heap.size ≤ B ∧ De w' K a v out F ∧ Bo w' B w'.heap.size g (Y03 l)))))
theorem Ynv (L : List Nat) (i n : Nat) : (ints (Y05 L)).set i (.int .i64 (n : Int)) = ints (Y05 (L.set i n)) := by
 unfold ints Y05
 rw [List.map_set, List.map_set]
def MtSt (w : World) (K : Kon) (v : Value) (out : List UInt8) (F : Option Fix) (X : R (List Nat)) (H1 H2 k j : Nat) (wr : World) : Prop :=
 ∃ a l, De wr K a v out F ∧ Only (Y0x K v) w wr ∧ w.heap.size ≤ H1 ∧ H1 < H2 ∧ VRow wr H2 (some ⟨H1, 0, none⟩) (ints (Y05 order)) ∧ wr.heap[H2]? = some (.cells (ints (Y05 l)).toArray 3 (0, 0)) ∧ l.length = 19 ∧ (∀ m ∈ l, m ≤ 30) ∧ Y6m (Y01 true K.xs) (k - j) j a l = X
theorem Ydk : ∀ j, j < 19 → order.getD j 0 < 19 := by decide +kernel
theorem Ypu (j : Nat) (h : j < 19) : (Y05 order)[j]? = some ((order.getD j 0 : Nat) : Int) := by
 have : ∀ j, j < 19 → (Y05 order)[j]? = some ((order.getD j 0 : Nat) : Int) := by decide +kernel
 exact this j h
set_option maxHeartbeats 4000000 in
theorem Ybi (w : World) (K : Kon) (a : Nat) (v : Value) (out : List UInt8) (F : Option Fix) (k : Nat) (h : De w K a v out F) (hk : k ≤ 19) :
  Calls Tryz.prog 93 #[.pointer (some ⟨K.d, 0, none⟩), .int .i64 (k : Int)] w (LcP w K v out F (Y6m (Y01 true K.xs) k 0 a (List.replicate 19 0))) := by
 obtain ⟨i0, hi, hz0, hz1, hz2⟩ := info_parts Tryz.infoInt
 obtain ⟨X, hX⟩ : ∃ X, X = Y6m (Y01 true K.xs) k 0 a (List.replicate 19 0) := ⟨_, rfl⟩
 rw [← hX]
 have HLOW := Lib.hid h.low
 have HLO := Lib.hid h.lo
 have H := Lib.hid h
 have HX := Lib.hid hX
 clear h hX
 go_enter Tryz.func93, Tryz.ntmps93
 go_wp2_with fail
 refine (Yft w).mono ?_
 rintro e w1 ⟨rfl, hb1, hv1⟩
 have HB1 := Lib.hid hb1
 have HV1 := Lib.hid hv1
 clear hb1 hv1
 go_wp2_with (at_make; refine wpList_make_full _ rfl _ _ 74 rfl w1.heap.size 3 i0 (.int .i64 0) 1 Tryz.underlying74 hi hz0 hz1 .i64 .i64 19 19 19 rfl rfl rfl rfl ?c2 ?c3 ?c4 ?_)
 case c2 => rw [hz2]; omega
 case c3 => unfold maxLen; omega
 case c4 => omega
 intro w2 hown hgrow
 have hb2 : Below w1.heap.size w1 w2 := (Below.refl _ _).grown hgrow (Nat.le_refl _) (fun k hk => by cases hk)
 have hblk := Y2j hown
 have hmv : (madeCells #[Value.int .i64 0] 19).toList = ints (Y05 (List.replicate 19 0)) := by rw [Yad]; rfl
 rw [hmv] at hblk
 have hlt1 : w.heap.size < w1.heap.size := by
  obtain ⟨b, off, e, hlt⟩ := HV1.out.addr (by decide)
  cases e
  exact hlt
 have hST : MtSt w K v out F X w.heap.size w1.heap.size k 0 w2 := by
  have hb12 : Below w.heap.size w w2 := HB1.out.trans (hb2.mono (by omega))
  refine ⟨a, List.replicate 19 0, H.out.later (Only.of_below (S := fun k => w.heap.size ≤ k) hb12) HLOW.out (fun k h => h), Only.of_below hb12, Nat.le_refl _, hlt1, HV1.out.below hb2 (Nat.le_refl _), hblk, by simp, by decide, ?_⟩
  rw [Nat.sub_zero]
  exact HX.out.symm
 have HST := Lib.hid hST
 clear hown hgrow hb2 hblk hmv hST HV1 HB1
 generalize w1.heap.size = H2 at HST hlt1 ⊢
 clear hlt1
 generalize hH1 : w.heap.size = H1 at HST ⊢
 have k0 : (0 : Int) ≤ (k : Int) := by omega
 have k1 : (k : Int) ≤ 19 := by omega
 go_wp2_with fail
 go_loopw [9, 10, 11, 20] (fun _ _ _ i wr => ∃ j : Nat, j ≤ k ∧ i = .int .i64 (j : Int) ∧ Hid (MtSt w K v out F X H1 H2 k j wr)) (fun _ _ _ i _ => k - (intOf i).toNat)
 case atStart => exact ⟨0, by omega, rfl, HST⟩
 case round =>
  obtain ⟨j, hj, rfl, HB⟩ := hrel
  obtain ⟨a2, l, hD, ho, hwH, hHH, hvo, hblk, hll, hlm, hrun⟩ := HB.out
  by_cases hjk : j < k
  ·have ql : decide ((j : Int) < (k : Int)) = true := by simpa using hjk
   have j0 : (0 : Int) ≤ (j : Int) := by omega
   have j1 : (j : Int) < (k : Int) := by omega
   have j19 : j < 19 := by omega
   rw [show k - j = (k - (j + 1)) + 1 from by omega, Y6m] at hrun
   obtain ⟨s, hs⟩ : ∃ s, order.getD j 0 = s := ⟨_, rfl⟩
   have hs19 : s < 19 := by rw [← hs]; exact Ydk j j19
   have hoc : wr.cell? ⟨H1, j, none⟩ = some (.int .i64 (s : Int)) := by
    have hjl : j < (Y05 order).length := by rw [Y02]; exact j19
    have := hvo.int j hjl
    rw [Nat.zero_add] at this
    rw [this]
    have h2 := Ypu j j19
    rw [List.getElem?_eq_getElem hjl, hs] at h2
    injection h2 with h2
    rw [h2]
   rw [hs] at hrun
   have c0 := hD.c0
   have HD := Lib.hid hD
   have HO := Lib.hid ho
   rcases hx : Y36 (Y01 true K.xs) a2 3 with c | ⟨m, b⟩
   ·have HRD := Lib.hid (Y64 K.gr K.p K.cap K.xs a2 3 c (by omega) wr hD.rd hx)
    have hc2 := Ydf hx
    have HRES : Hid (∀ w3, Only (· = K.gr) wr w3 → LcP w K v out F X (.returned (.tuple #[.pointer none, .int .i64 2])) w3) := Lib.hid fun w3 ho3 =>
     ⟨ho.trans (Y0w ho3), .inl ⟨2, by rw [← hrun, hx, hc2]; rfl, by decide, rfl⟩⟩
    clear hx hrun hD ho hvo hblk hlm
    go_wp2_with fail
    refine HRD.out.mono ?_
    rintro e w3 ⟨rfl, ho3⟩
    have HRES2 := Lib.hid (HRES.out w3 ho3)
    clear ho3
    go_wp2_with fail
    go_ret2
    exact HRES2.out
   ·have HRD := Lib.hid (Y8f K.gr K.p K.cap K.xs a2 3 m b (by omega) wr hD.rd hx)
    obtain ⟨hm8, hb2⟩ := Y2b hx (by omega)
    have hm8 : m < 8 := hm8
    rw [hx, R.then_ok] at hrun
    have HRUN := Lib.hid hrun
    have hgrH : K.gr < w.heap.size := by have := HLOW.out.d; have := HLO.out; omega
    have HKEEP : Hid (∀ w3, Only (· = K.gr) wr w3 → w3.heap[H2]? = some (.cells (ints (Y05 l)).toArray 3 (0, 0)) ∧ VRow w3 H2 (some ⟨H1, 0, none⟩) (ints (Y05 order))) := Lib.hid (by
     intro w3 ho3
     have hlt : H2 < wr.heap.size := by
      rcases Nat.lt_or_ge H2 wr.heap.size with h | h
      ·exact h
      ·rw [Array.getElem?_eq_none h] at hblk; cases hblk
     refine ⟨(ho3.2.2.2.2 H2 hlt (by omega)).trans hblk, fun hp => ?_⟩
     obtain ⟨b, off, e, hbl, hc⟩ := hvo hp
     cases e
     exact ⟨_, _, rfl, hbl, fun i hi => (World.cell?_of_block (w := wr) (ho3.2.2.2.2 _ (by show H1 < _; omega) (by show H1 ≠ _; omega))).trans (hc i hi)⟩)
    have HNXT : Hid (∀ w3, Rd w3 K.gr K.p K.cap K.xs b true → Only (· = K.gr) wr w3 → MtSt w K v out F X H1 H2 k (j + 1) (w3.setCell ⟨H2, s, none⟩ (.int .i64 (m : Int)))) := Lib.hid (by
     intro w3 hr3 ho3
     obtain ⟨hb3, hv3⟩ := HKEEP.out w3 ho3
     have hD3 := hD.moved ho3 hr3
     have hset : Only (· = H2) w3 (w3.setCell ⟨H2, s, none⟩ (.int .i64 (m : Int))) := Only.setCell (S := (· = H2)) (p := ⟨H2, s, none⟩) (by rfl) _
     refine ⟨b, l.set s m, hD3.later hset HLOW.out (fun k hk => by omega), Yam (ho.trans (Y0w ho3)) hset (fun k hk => by omega), hwH, hHH, VRow.set_far hv3 _, ?_, by simp [hll], fun x hx2 => ?_, HRUN.out⟩
     ·rw [← Ynv]
      exact Yio hb3 s _
     ·rcases List.mem_or_eq_of_mem_set hx2 with h | h
      ·exact hlm x h
      ·omega)
    have hsl : (ints (Y05 l)).length = 19 := by rw [Y06, Y02, hll]
    have HCELL : Hid (∀ w3, Only (· = K.gr) wr w3 → (∃ u, w3.cell? ⟨H2, s, none⟩ = some u) ∧ w3.frozen? ⟨H2, s, none⟩ = false) := Lib.hid (by
     intro w3 ho3
     obtain ⟨hb3, _⟩ := HKEEP.out w3 ho3
     refine ⟨⟨(ints (Y05 l))[s]'(by omega), by simp [World.cell?, hb3, hsl, hs19]⟩, by simp [World.frozen?, hb3]⟩)
    have s0 : (0 : Int) ≤ (s : Int) := by omega
    have s1 : (s : Int) < 19 := by omega
    clear hx hrun hD ho hvo hblk hlm hb2 hs hsl HB HST
    go_wp2_with fail
    refine HRD.out.mono ?_
    rintro e w3 ⟨rfl, hr3, ho3⟩
    obtain ⟨⟨u, hu⟩, hfz⟩ := HCELL.out w3 ho3
    have HN := Lib.hid (HNXT.out w3 hr3 ho3)
    clear hr3 ho3
    go_wp2_with fail
    go_roundw
    case rel => exact ⟨j + 1, by omega, by first | rfl | (push_cast; rfl), HN⟩
    case measure => simp [intOf]; omega
  ·have hjk2 : j = k := by omega
   subst hjk2
   have ql : decide ((j : Int) < (j : Int)) = false := by simp
   rw [Nat.sub_self] at hrun
   have hHlt : H2 < wr.heap.size := by
    rcases Nat.lt_or_ge H2 wr.heap.size with h | h
    ·exact h
    ·rw [Array.getElem?_eq_none h] at hblk; cases hblk
   have HCB := Lib.hid (Y5g (some ⟨H2, 0, none⟩) 19 19 l wr (Y3a hblk hHlt) hll hlm (by omega) (fun h => by cases h))
   have HRUN : Hid (X = .ok (l, a2)) := Lib.hid hrun.symm
   have HD := Lib.hid hD
   have HO := Lib.hid ho
   clear hrun hD ho hvo hblk hlm HB HST
   go_wp2_with fail
   refine HCB.out.mono ?_
   rintro e w3 ⟨hb3, hres⟩
   have HO3 := Lib.hid (HO.out.trans (Only.of_below (S := Y0x K v) hb3))
   rcases hres with ⟨hne, rfl⟩ | ⟨hfull, B, g, rfl, hB, hbo⟩
   ·have HRES : Hid (LcP w K v out F X (.returned (.tuple #[.pointer none, .int .i64 3])) w3) := Lib.hid ⟨HO3.out, .inr ⟨l, a2, HRUN.out, .inl ⟨hne, rfl⟩⟩⟩
    clear hb3 hne
    go_wp2_with fail
    go_ret2
    exact HRES.out
   ·have hzz := HO.out.2.2.2.1
    have HRES : Hid (LcP w K v out F X (.returned (.tuple #[.pointer (some ⟨g, 0, none⟩), .int .i64 0])) w3) := Lib.hid ⟨HO3.out, .inr ⟨l, a2, HRUN.out, .inr ⟨hfull, B, g, rfl, by omega, HD.out.keep (Only.of_below hb3), hbo⟩⟩⟩
    clear hb3 hfull hB hbo
    go_wp2_with fail
    go_ret2
    exact HRES.out
end Go.Proofs.YtkkfkmoikcmhoaaGreat.Inf

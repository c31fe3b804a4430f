
/- The contracts of completeBook, isSmall, fixedCodes and ownCodes. -/
import Derived.Test.YtmcjhkdcbblnnaaIgK
import Derived.Laws.ResultCell
namespace Go.Proofs.Ytmcjhkdcbblnnaa.Inf
open Go.RowKit Go.Proofs.Ytmcjhkdcbblnnaa.Oct Go.Proofs.Ytmcjhkdcbblnnaa.Bit Go.Proofs.Ytmcjhkdcbblnnaa.Hf
set_option linter.unusedVariables false
set_option linter.unusedSimpArgs false
set_option maxRecDepth 100000

theorem Bo.wide {w : World} {B C g B' C' : Nat} {W : List (List Bool)} (h : Bo w B C g W) (h1 : B' ≤ B) (h2 : C ≤ C') (h3 : C' ≤ w.heap.size) : Bo w B' C' g W := by
  obtain ⟨⟨hz, hg⟩, pw, cw, pm, cm, A, E, k1, k2, k3, k4⟩ := h
  refine ⟨⟨h3, by omega⟩, pw, cw, pm, cm, A, E, k1, k2, k3, fun w' hk => ?_⟩
  obtain ⟨t1, t2, t3⟩ := k4 w' fun k a b => hk k (by omega) (by omega)
  exact ⟨t1.mono h2, t2.mono h2, t3.mono h2⟩
theorem Bo.lt {w : World} {B C g : Nat} {W : List (List Bool)} (h : Bo w B C g W) : B < C := by
  obtain ⟨⟨hz, hg⟩, pw, cw, pm, cm, A, E, k1, k2, k3, k4⟩ := h
  obtain ⟨t1, _, _⟩ := k4 w fun _ _ _ => rfl
  have := (t1.lo _ _ _ t1.root).2
  omega
theorem Bo.below {w w' : World} {B C g : Nat} {W : List (List Bool)} (h : Bo w B C g W) (hb : Below w.heap.size w w') : Bo w' B C g W :=
  BoU.same h hb.size fun k _ h2 => hb.block k (by have := h.1.1; omega)
theorem wordsR_full {L : List Nat} (h : startN L 31 = 1073741824) (one : Bool) : wordsR L one = .ok (canonW L) := by
  unfold wordsR; rw [if_pos (.inl h)]
theorem wordsR_not {L : List Nat} (h : startN L 31 ≠ 1073741824) : wordsR L false = .error 3 := by
  unfold wordsR; rw [if_neg (by rintro (h1 | ⟨_, h1, _⟩); exact h h1; cases h1)]
/-- what completeBook gives -/
def CbP (w : World) (L : List Nat) (e : Ending) (w' : World) : Prop :=
  Below w.heap.size w w' ∧ ((startN L 31 ≠ 1073741824 ∧ e = .returned (.tuple #[.pointer none, .int .i64 3])) ∨
    (startN L 31 = 1073741824 ∧ ∃ B g, e = .returned (.tuple #[.pointer (some ⟨g, 0, none⟩), .int .i64 0]) ∧ w.heap.size ≤ B ∧ Bo w' B w'.heap.size g (canonW L)))
theorem complete_any (p : Option Addr) (cap n : Nat) (L : List Nat) (w : World) (hr : VRow w w.heap.size p (ints (castZ L))) (hn : L.length = n) (hL : ∀ m ∈ L, m ≤ 30) (hn3 : n ≤ 300) (hnil : p = none → cap = 0) :
    Calls Try.prog 67 #[.slice p n cap] w (CbP w L) := by
  have HNB := Lib.hid (newBook_any p cap n L w hr hn hL hn3 hnil)
  clear hr hn hL hn3 hnil
  go_enter Try.func67, Try.ntmps67
  go_wp2_with fail
  refine HNB.out.mono ?_
  rintro e w1 ⟨hb, hres⟩
  have HB := Lib.hid hb
  clear hb
  rcases hres with ⟨hov, rfl⟩ | ⟨hov, B, g, rfl, hB, hbo⟩
  · have HOV := Lib.hid hov
    clear hov
    go_wp2_with fail
    go_ret2
    exact ⟨HB.out, .inl ⟨fun e => HOV.out (by omega), rfl⟩⟩
  · have HBO := Lib.hid hbo
    have HBL := Lib.hid hB
    clear hov hbo hB
    by_cases hf : startN L 31 = 1073741824
    · rw [decide_eq_true hf]
      have HF := Lib.hid hf
      clear hf
      go_wp2_with fail
      go_ret2
      exact ⟨HB.out, .inr ⟨HF.out, B, g, rfl, HBL.out, HBO.out⟩⟩
    · rw [decide_eq_false hf]
      have HF := Lib.hid hf
      clear hf
      go_wp2_with fail
      go_ret2
      exact ⟨HB.out, .inl ⟨HF.out, rfl⟩⟩
theorem lone_sum (L : List Nat) : lone L = decide (L.sum ≤ 1) := by
  have h1 : ∀ L : List Nat, L.countP (fun n => decide (0 < n)) ≤ L.sum ∧ (L.countP (fun n => decide (0 < n)) = 0 → L.sum = 0) := by
    intro L
    induction L with
    | nil => simp
    | cons x r ih =>
      obtain ⟨i1, i2⟩ := ih
      rw [List.countP_cons, List.sum_cons]
      by_cases hx : 0 < x
      · have : (if decide (0 < x) = true then 1 else 0) = 1 := by simp [hx]
        rw [this]
        exact ⟨by omega, by omega⟩
      · have : (if decide (0 < x) = true then 1 else 0) = 0 := by simp; omega
        rw [this]
        exact ⟨by omega, fun h => by have := i2 (by omega); omega⟩
  obtain ⟨h2, h3⟩ := h1 L
  unfold lone
  generalize L.countP (fun n => decide (0 < n)) = c at h2 h3 ⊢
  generalize L.sum = s at h2 h3 ⊢
  by_cases hs : s ≤ 1
  · rw [decide_eq_true hs]
    rcases Nat.eq_zero_or_pos c with hc | hc
    · simp [hc]
    · have e1 : c = 1 := by omega
      have e2 : s = 1 := by omega
      subst e1; subst e2
      rfl
  · rw [decide_eq_false hs]
    have hc : c ≠ 0 := fun e => hs (by rw [h3 e]; omega)
    have e2 : s ≠ 1 := by omega
    simp [hc, e2]
theorem sum_take (L : List Nat) (k : Nat) (h : k < L.length) : (L.take (k + 1)).sum = (L.take k).sum + L[k] := by
  rw [List.take_succ_eq_append_getElem h, List.sum_append]
  simp
theorem isSmall_any (p : Option Addr) (cap n : Nat) (L : List Nat) (w : World) (hr : VRow w w.heap.size p (ints (castZ L))) (hn : L.length = n) (hL : ∀ m ∈ L, m ≤ 30) (hn3 : n ≤ 300) :
    Calls Try.prog 74 #[.slice p n cap] w fun e w' => e = .returned (.bool (lone L)) ∧ w = w' := by
  have HR := Lib.hid hr
  have HN := Lib.hid hn
  have HL := Lib.hid hL
  clear hr hn hL
  go_enter Try.func74, Try.ntmps74
  go_wp2_with fail
  go_loop [3, 5, 8] (fun s u i => ∃ k : Nat, k ≤ n ∧ i = .int .i64 (k : Int) ∧ s = .int .i64 (((L.take k).sum : Nat) : Int) ∧ (L.take k).sum ≤ 30 * k) (fun s u i => n - (intOf i).toNat)
  case atStart => exact ⟨0, by omega, rfl, rfl, by simp⟩
  case round =>
    obtain ⟨k, hk, rfl, rfl, hs⟩ := hrel
    by_cases hlt : k < n
    · have ql : decide ((k : Int) < (n : Int)) = true := by simpa using hlt
      have i1 : (0 : Int) ≤ (k : Int) := by omega
      have i2 : (k : Int) < (n : Int) := by omega
      have hkL : k < L.length := by rw [HN.out]; exact hlt
      obtain ⟨b, off, rfl, hbl⟩ := HR.out.addr (by rw [ints_length, castZ_length]; omega)
      have hc := HR.out.int k (by rw [castZ_length]; exact hkL)
      have hz : (castZ L)[k]'(by rw [castZ_length]; exact hkL) = (L[k] : Int) := by simp [castZ]
      rw [hz] at hc
      have hst := sum_take L k hkL
      have h30 := HL.out _ (List.getElem_mem hkL)
      have HST := Lib.hid hst
      generalize hx : L[k] = x at hc h30 HST
      generalize (L.take k).sum = s at hs HST
      have ws : wrap64 ((s : Int) + (x : Int)) = ((s + x : Nat) : Int) := by unfold wrap64; omega
      clear hst hz hx
      go_wp2_with fail
      go_round
      case rel => exact ⟨k + 1, by omega, by go_num, by rw [HST.out]; first | rfl | (push_cast; rfl), by rw [HST.out]; omega⟩
      case measure => simp [intOf]; omega
    · have hkn : k = n := by omega
      subst hkn
      have hfin : (L.take k).sum = L.sum := by rw [← HN.out, List.take_length]
      have ql : decide ((k : Int) < (k : Int)) = false := by simp
      rw [hfin] at hs ⊢
      have HLO := Lib.hid (lone_sum L)
      generalize L.sum = s at hs HLO ⊢
      clear hfin
      go_wp2_with fail
      go_ret
      refine ⟨?_, rfl⟩
      rw [HLO.out]
      by_cases h1 : s ≤ 1
      · have h2 : (s : Int) ≤ 1 := by omega
        simp [h1, h2]
      · have h2 : ¬ (s : Int) ≤ 1 := by omega
        simp [h1, h2]
def OwnOk (LA LB : List Nat) : Prop := LA.getD 256 0 ≠ 0 ∧ startN LA 31 = 1073741824 ∧ (startN LB 31 = 1073741824 ∨ (startN LB 31 < 1073741824 ∧ lone LB = true))
/-- two books as a struct of two pointers, in blocks from B on -/
def TwoB (w : World) (WA WB : List (List Bool)) (e : Ending) (w' : World) : Prop :=
  ∃ B ga gb, e = .returned (.tuple #[.agg #[.pointer (some ⟨ga, 0, none⟩), .pointer (some ⟨gb, 0, none⟩)], .int .i64 0]) ∧ w.heap.size ≤ B ∧ Bo w' B w'.heap.size ga WA ∧ Bo w' B w'.heap.size gb WB
def OwnP (w : World) (LA LB : List Nat) (e : Ending) (w' : World) : Prop :=
  Below w.heap.size w w' ∧ ((¬ OwnOk LA LB ∧ e = .returned (.tuple #[.agg #[.pointer none, .pointer none], .int .i64 3])) ∨ (OwnOk LA LB ∧ TwoB w (canonW LA) (canonW LB) e w'))
theorem set_two (F : World) (d : Nat) (x y u v : Value) (T : TypeId) (hb : F.heap[d]? = some (.cells #[x, y] T (0, 0))) : ((F.setCell ⟨d, 0, none⟩ u).setCell ⟨d, 1, none⟩ v).heap[d]? = some (.cells #[u, v] T (0, 0)) := by
  simp [World.setCell, Array.getElem?_modify, hb]
theorem two_cells {F : World} {d : Nat} {x y : Value} {T : TypeId} (hb : F.heap[d]? = some (.cells #[x, y] T (0, 0))) : F.cell? ⟨d, 0, none⟩ = some x ∧ F.cell? ⟨d, 1, none⟩ = some y ∧ F.frozen? ⟨d, 0, none⟩ = false ∧ F.frozen? ⟨d, 1, none⟩ = false := by
  simp [World.cell?, World.frozen?, hb]
theorem Bo.set {w : World} {B C g : Nat} {W : List (List Bool)} (h : Bo w B C g W) {d i : Nat} (hd : d < B) (u : Value) : Bo (w.setCell ⟨d, i, none⟩ u) B C g W :=
  h.same (S := (· = d)) (Only.setCell (S := (· = d)) (p := ⟨d, i, none⟩) (by rfl) _) fun k h1 h2 e => by omega
theorem TwoB.store {w V : World} {WA WB : List (List Bool)} {B ga gb d : Nat} (hd : d < w.heap.size + 1) (hB : w.heap.size + 1 ≤ B) (h1 : Bo V B V.heap.size ga WA) (h2 : Bo V B V.heap.size gb WB) (u v : Value) :
    TwoB w WA WB (.returned (.tuple #[.agg #[.pointer (some ⟨ga, 0, none⟩), .pointer (some ⟨gb, 0, none⟩)], .int .i64 0])) ((V.setCell ⟨d, 0, none⟩ u).setCell ⟨d, 1, none⟩ v) := by
  have hz : ((V.setCell ⟨d, 0, none⟩ u).setCell ⟨d, 1, none⟩ v).heap.size = V.heap.size := by simp [World.setCell]
  refine ⟨B, ga, gb, rfl, by omega, ?_, ?_⟩
  · rw [hz]; exact (h1.set (by omega) _).set (by omega) _
  · rw [hz]; exact (h2.set (by omega) _).set (by omega) _
theorem fixedA_max : ∀ m ∈ fixedA, m ≤ 30 := by decide +kernel
theorem fixedB_max : ∀ m ∈ fixedB, m ≤ 30 := by decide +kernel
theorem fixedA_start : startN fixedA 31 = 1073741824 := by decide +kernel
theorem fixedB_start : startN fixedB 31 ≤ 1073741824 := by decide +kernel
set_option maxHeartbeats 1000000 in
theorem fixedCodes_any (w : World) : Calls Try.prog 54 #[] w fun e w' => Below w.heap.size w w' ∧ TwoB w (canonW fixedA) (canonW fixedB) e w' := by
  obtain ⟨w0, hw0⟩ : ∃ w0, w0 = w.alloc (.cells #[.pointer none, .pointer none] 56) := ⟨_, rfl⟩
  have hb0 : Below w.heap.size w w0 := by rw [hw0]; exact (Below.refl _ w).alloc (Nat.le_refl _) _
  have hz0 : w0.heap.size = w.heap.size + 1 := by rw [hw0]; exact Array.size_push _
  have hblk : w0.heap[w.heap.size]? = some (.cells #[.pointer none, .pointer none] 56 (0, 0)) := by rw [hw0]; exact Array.getElem?_push_size
  have HB0 := Lib.hid hb0
  have HBLK := Lib.hid hblk
  have HW0 := Lib.hid hw0
  clear hb0 hblk hw0
  go_enter Try.func54, Try.ntmps54
  go_wp2_with fail
  rw [← HW0.out]
  refine (fixed_any w0).mono ?_
  rintro e w1 ⟨hb1, q, c, r, d, rfl, hq, hq0, hr, hr0⟩
  have HCB := Lib.hid (complete_any q c 288 fixedA w1 hq (by decide) fixedA_max (by omega) hq0)
  have HR := Lib.hid hr
  have HR0 := Lib.hid hr0
  have HB1 := Lib.hid hb1
  clear hb1 hq hq0 hr hr0
  go_wp2_with fail
  refine HCB.out.mono ?_
  rintro e w2 ⟨hb2, hres⟩
  rcases hres with ⟨hne, _⟩ | ⟨_, B, ga, rfl, hB, hbo⟩
  · exact absurd fixedA_start hne
  have HNB := Lib.hid (newBook_any r d 30 fixedB w2 ((HR.out.below hb2 (Nat.le_refl _)).mono hb2.size) (by decide) fixedB_max (by omega) HR0.out)
  have HB2 := Lib.hid hb2
  have HBO := Lib.hid hbo
  have HBB := Lib.hid hB
  clear hb2 hbo hB HCB
  go_wp2_with fail
  refine HNB.out.mono ?_
  rintro e w3 ⟨hb3, hres⟩
  rcases hres with ⟨hne, _⟩ | ⟨_, B2, gb, rfl, hB2, hbo2⟩
  · exact absurd fixedB_start hne
  have hz1 := HB1.out.size
  have hz2 := HB2.out.size
  have hz3 := hb3.size
  have hBB := HBB.out
  have hbz := HBO.out.lt
  have hblk3 : w3.heap[w.heap.size]? = some (.cells #[.pointer none, .pointer none] 56 (0, 0)) := by
    rw [hb3.block _ (by omega), HB2.out.block _ (by omega), HB1.out.block _ (by omega)]
    exact HBLK.out
  obtain ⟨k0, k1, f0, f1⟩ := two_cells hblk3
  have HBO1 := Lib.hid ((HBO.out.below hb3).wide (Nat.le_refl _) hz3 (Nat.le_refl _))
  have HBO2 := Lib.hid (hbo2.wide (B' := B) (by omega) (Nat.le_refl _) (Nat.le_refl _))
  have HBE := Lib.hid (((HB0.out.trans (HB1.out.mono (by omega))).trans (HB2.out.mono (by omega))).trans (hb3.mono (by omega)))
  have HBLK3 := Lib.hid hblk3
  clear hb3 hbo2 hB2 hblk3 HNB
  generalize decide (startN fixedB 31 = 1073741824) = bb
  go_wp2_with fail
  have hbl2 := set_two w3 w.heap.size _ _ (.pointer (some ⟨ga, 0, none⟩)) (.pointer (some ⟨gb, 0, none⟩)) _ HBLK3.out
  obtain ⟨q0, q1, _, _⟩ := two_cells hbl2
  refine bodyPost_ret (v := .tuple #[.agg #[.pointer (some ⟨ga, 0, none⟩), .pointer (some ⟨gb, 0, none⟩)], .int .i64 0]) ?_ rfl ⟨(HBE.out.setCell (p := ⟨w.heap.size, 0, none⟩) (Nat.le_refl _) _).setCell (p := ⟨w.heap.size, 1, none⟩) (Nat.le_refl _) _, TwoB.store (by omega) (by omega) HBO1.out HBO2.out _ _⟩
  simp [results, Try.results54, go_sem, q0, q1]
theorem own_not1 {LA LB : List Nat} (h : LA.getD 256 0 = 0) : ¬ OwnOk LA LB := fun e => e.1 h
set_option maxHeartbeats 4000000 in
theorem ownCodes_any (p r : Option Addr) (c d n m : Nat) (LA LB : List Nat) (w : World) (hr : VRow w w.heap.size p (ints (castZ LA))) (hn : LA.length = n) (hA : ∀ m ∈ LA, m ≤ 30) (hn3 : 257 ≤ n ∧ n ≤ 300) (hnil : p = none → c = 0)
    (hr2 : VRow w w.heap.size r (ints (castZ LB))) (hm : LB.length = m) (hB : ∀ m ∈ LB, m ≤ 30) (hm3 : m ≤ 300) (hnil2 : r = none → d = 0) :
    Calls Try.prog 58 #[.slice p n c, .slice r m d] w (OwnP w LA LB) := by
  obtain ⟨w0, hw0⟩ : ∃ w0, w0 = w.alloc (.cells #[.pointer none, .pointer none] 56) := ⟨_, rfl⟩
  have hb0 : Below w.heap.size w w0 := by rw [hw0]; exact (Below.refl _ w).alloc (Nat.le_refl _) _
  have hz0 : w0.heap.size = w.heap.size + 1 := by rw [hw0]; exact Array.size_push _
  have hblk : w0.heap[w.heap.size]? = some (.cells #[.pointer none, .pointer none] 56 (0, 0)) := by rw [hw0]; exact Array.getElem?_push_size
  have hra : VRow w0 w0.heap.size p (ints (castZ LA)) := (hr.below hb0 (Nat.le_refl _)).mono hb0.size
  have hrb : VRow w0 w0.heap.size r (ints (castZ LB)) := (hr2.below hb0 (Nat.le_refl _)).mono hb0.size
  obtain ⟨b, off, rfl, hbl⟩ := hra.addr (by rw [ints_length, castZ_length]; omega)
  have hLA : 256 < LA.length := by omega
  have hc := hra.int 256 (by rw [castZ_length]; exact hLA)
  have hz : (castZ LA)[256]'(by rw [castZ_length]; exact hLA) = (LA[256] : Int) := by simp [castZ]
  rw [hz] at hc
  have hx : LA.getD 256 0 = LA[256] := by rw [List.getD_eq_getElem?_getD, List.getElem?_eq_getElem hLA]; rfl
  have hx30 := hA _ (List.getElem_mem hLA)
  rw [← hx] at hc hx30
  obtain ⟨x, hxx⟩ : ∃ x, LA.getD 256 0 = x := ⟨_, rfl⟩
  rw [hxx] at hc hx30
  have HX := Lib.hid hxx
  have i2 : (256 : Int) < (n : Int) := by omega
  have HCB := Lib.hid (complete_any (some ⟨b, off, none⟩) c n LA w0 hra hn hA (by omega) hnil)
  have HRB := Lib.hid hrb
  have HB0 := Lib.hid hb0
  have HBLK := Lib.hid hblk
  have HW0 := Lib.hid hw0
  have HM := Lib.hid hm
  have HBM := Lib.hid hB
  have HN2 := Lib.hid hnil2
  obtain ⟨k0, k1, f0, f1⟩ := two_cells hblk
  have HFAIL0 : Hid (∀ V, Below w.heap.size w V → V.heap[w.heap.size]? = some (.cells #[.pointer none, .pointer none] 56 (0, 0)) → ¬ OwnOk LA LB → ∀ tm : Array Value, tm[4]?.getD undef = .pointer (some ⟨w.heap.size, 0, none⟩) → tm[5]?.getD undef = .int .i64 3 →
      bodyPost Try.prog Try.f58 (OwnP w LA LB) .ret { tmps := tm, defers := [] } V) := Lib.hid (by
    intro V hV hbV hno tm t4 t5
    obtain ⟨q0, q1, _, _⟩ := two_cells hbV
    refine bodyPost_ret (v := .tuple #[.agg #[.pointer none, .pointer none], .int .i64 3]) ?_ rfl ⟨hV, .inl ⟨hno, rfl⟩⟩
    simp [results, Try.results58, go_sem, q0, q1, t4, t5])
  have HFAIL : Hid (∀ V, Below w.heap.size w V → V.heap[w.heap.size]? = some (.cells #[.pointer none, .pointer none] 56 (0, 0)) → ¬ OwnOk LA LB → ∀ tm : Array Value, tm[4]?.getD undef = .pointer (some ⟨w.heap.size, 0, none⟩) → tm[5]?.getD undef = .int .i64 3 →
      bodyPost Try.prog Try.f58 (OwnP w LA LB) .ret { tmps := tm, defers := [] } ((V.setCell ⟨w.heap.size, 0, none⟩ (.pointer none)).setCell ⟨w.heap.size, 1, none⟩ (.pointer none))) := Lib.hid (by
    intro V hV hbV hno tm t4 t5
    exact HFAIL0.out _ ((hV.setCell (p := ⟨w.heap.size, 0, none⟩) (Nat.le_refl _) _).setCell (p := ⟨w.heap.size, 1, none⟩) (Nat.le_refl _) _) (set_two V w.heap.size _ _ (.pointer none) (.pointer none) _ hbV) hno tm t4 t5)
  rw [hw0] at hc k0 k1 f0 f1
  clear hr hn hA hnil hr2 hm hB hnil2 hb0 hblk hw0 hra hrb hz hx hxx hLA
  by_cases hx0 : x = 0
  · have hd0 : ((x : Int) == 0) = true := by simp; omega
    have HNO := Lib.hid (own_not1 (LB := LB) (HX.out.trans hx0))
    clear hx0
    go_enter Try.func58, Try.ntmps58
    go_wp2_with fail
    rw [← HW0.out]
    refine HFAIL0.out w0 HB0.out HBLK.out HNO.out _ ?_ ?_ <;> rfl
  · have hd0 : ((x : Int) == 0) = false := by simp; omega
    have HX0 := Lib.hid hx0
    clear hx0
    go_enter Try.func58, Try.ntmps58
    go_wp2_with fail
    rw [← HW0.out]
    clear hc k0 k1 f0 f1
    refine HCB.out.mono ?_
    rintro e w2 ⟨hb2, hres⟩
    have hz2 := hb2.size
    have hblk2 : w2.heap[w.heap.size]? = some (.cells #[.pointer none, .pointer none] 56 (0, 0)) := by
      rw [hb2.block _ (by omega)]
      exact HBLK.out
    obtain ⟨k0, k1, f0, f1⟩ := two_cells hblk2
    have HBE := Lib.hid (HB0.out.trans (hb2.mono (by omega)))
    have HBLK2 := Lib.hid hblk2
    rcases hres with ⟨hne, rfl⟩ | ⟨hfull, B, ga, rfl, hB, hbo⟩
    · have HNO : Hid (¬ OwnOk LA LB) := Lib.hid fun e => hne e.2.1
      clear hb2 hblk2 hne HCB
      go_wp2_with fail
      refine HFAIL.out w2 HBE.out HBLK2.out HNO.out _ ?_ ?_ <;> rfl
    · have HRB2 := Lib.hid ((HRB.out.below hb2 (Nat.le_refl _)).mono hb2.size)
      have HNB := Lib.hid (newBook_any r d m LB w2 HRB2.out HM.out HBM.out hm3 HN2.out)
      have HBO := Lib.hid hbo
      have HFU := Lib.hid hfull
      have hBz := hbo.lt
      clear hb2 hblk2 hbo hfull HCB k0 k1 f0 f1
      go_wp2_with fail
      refine HNB.out.mono ?_
      rintro e w3 ⟨hb3, hres⟩
      have hz3 := hb3.size
      have hblk3 : w3.heap[w.heap.size]? = some (.cells #[.pointer none, .pointer none] 56 (0, 0)) := by
        rw [hb3.block _ (by omega)]
        exact HBLK2.out
      obtain ⟨k0, k1, f0, f1⟩ := two_cells hblk3
      have HBE3 := Lib.hid (HBE.out.trans (hb3.mono (by omega)))
      have HBLK3 := Lib.hid hblk3
      rcases hres with ⟨hne, rfl⟩ | ⟨hle, B2, gb, rfl, hB2, hbo2⟩
      · have HNO : Hid (¬ OwnOk LA LB) := Lib.hid fun e => by
          rcases e.2.2 with e | e
          · omega
          · omega
        clear hb3 hblk3 hne HNB
        go_wp2_with fail
        refine HFAIL.out w3 HBE3.out HBLK3.out HNO.out _ ?_ ?_ <;> rfl
      · have HBO1 := Lib.hid ((HBO.out.below hb3).wide (Nat.le_refl _) hz3 (Nat.le_refl _))
        have HBO2 := Lib.hid (hbo2.wide (B' := B) (by omega) (Nat.le_refl _) (Nat.le_refl _))
        have HSM := Lib.hid (isSmall_any r d m LB w3 ((HRB2.out.below hb3 (Nat.le_refl _)).mono hb3.size) HM.out HBM.out hm3)
        have HGOOD : Hid (OwnOk LA LB → ∀ tm : Array Value, tm[4]?.getD undef = .pointer (some ⟨w.heap.size, 0, none⟩) → tm[5]?.getD undef = .int .i64 0 →
            bodyPost Try.prog Try.f58 (OwnP w LA LB) .ret { tmps := tm, defers := [] } ((w3.setCell ⟨w.heap.size, 0, none⟩ (.pointer (some ⟨ga, 0, none⟩))).setCell ⟨w.heap.size, 1, none⟩ (.pointer (some ⟨gb, 0, none⟩)))) := Lib.hid (by
          intro hok tm t4 t5
          have hbl2 := set_two w3 w.heap.size _ _ (.pointer (some ⟨ga, 0, none⟩)) (.pointer (some ⟨gb, 0, none⟩)) _ hblk3
          obtain ⟨q0, q1, _, _⟩ := two_cells hbl2
          refine bodyPost_ret (v := .tuple #[.agg #[.pointer (some ⟨ga, 0, none⟩), .pointer (some ⟨gb, 0, none⟩)], .int .i64 0]) ?_ rfl ⟨(HBE3.out.setCell (p := ⟨w.heap.size, 0, none⟩) (Nat.le_refl _) _).setCell (p := ⟨w.heap.size, 1, none⟩) (Nat.le_refl _) _, .inr ⟨hok, TwoB.store (by omega) (by omega) HBO1.out HBO2.out _ _⟩⟩
          simp [results, Try.results58, go_sem, q0, q1, t4, t5])
        by_cases hf : startN LB 31 = 1073741824
        · rw [decide_eq_true hf]
          have HOK : Hid (OwnOk LA LB) := Lib.hid ⟨by rw [HX.out]; exact HX0.out, HFU.out, .inl hf⟩
          clear hb3 hblk3 hle hbo2 hB2 HNB hf
          go_wp2_with fail
          refine HGOOD.out HOK.out _ ?_ ?_ <;> rfl
        · rw [decide_eq_false hf]
          cases hlo : lone LB
          · rw [hlo] at HSM
            have HNO : Hid (¬ OwnOk LA LB) := Lib.hid fun e => by
              rcases e.2.2 with e | ⟨_, e⟩
              · exact hf e
              · rw [hlo] at e; cases e
            clear hb3 hblk3 hle hbo2 hB2 HNB hf hlo
            go_wp2_with fail
            refine HSM.out.mono ?_
            rintro e w4 ⟨rfl, rfl⟩
            go_wp2_with fail
            refine HFAIL.out w3 HBE3.out HBLK3.out HNO.out _ ?_ ?_ <;> rfl
          · rw [hlo] at HSM
            have HOK : Hid (OwnOk LA LB) := Lib.hid ⟨by rw [HX.out]; exact HX0.out, HFU.out, .inr ⟨by omega, hlo⟩⟩
            clear hb3 hblk3 hle hbo2 hB2 HNB hf hlo
            go_wp2_with fail
            refine HSM.out.mono ?_
            rintro e w4 ⟨rfl, rfl⟩
            go_wp2_with fail
            refine HGOOD.out HOK.out _ ?_ ?_ <;> rfl
end Go.Proofs.Ytmcjhkdcbblnnaa.Inf

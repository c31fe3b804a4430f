/- HfP, HfQ, BitW: merged. -/
import Derived.Test.YtkkfkmoikcmhoaaGreatAaj
set_option linter.unusedVariables false
set_option linter.unusedSimpArgs false
namespace Go.Proofs.YtkkfkmoikcmhoaaGreat.Hf
open Go.RowKit Oct Bit
set_option maxRecDepth 100000
structure St (ws : List (List UInt8)) (k : Nat) (A : List Bool → Option (Nat × Nat)) (E : List Bool → Option Nat) : Prop where
 e1 : ∀ q i, E q = some i → i < k ∧ q ≠ [] ∧ ws[i]? = some (q.map dig)
 e2 : ∀ i s, i < k → ws[i]? = some s → s = [] ∨ ∃ q, s = q.map dig ∧ q ≠ [] ∧ E q = some i
 a1 : ∀ q, A q ≠ none → q = [] ∨ ∃ r, E r ≠ none ∧ q <+: r
 a2 : ∀ q r, E r ≠ none → q <+: r → A q ≠ none
 lf : ∀ q r, E q ≠ none → E r ≠ none → q <+: r → q = r
def Good (ws : List (List UInt8)) : Prop :=
 (∀ s ∈ ws, Y6s s = true) ∧ ∀ (i j : Nat) (s t : List UInt8), ws[i]? = some s → ws[j]? = some t → i ≠ j → s ≠ [] → t ≠ [] → ¬ s <+: t
section
variable {ws : List (List UInt8)} {k : Nat} {A A' : List Bool → Option (Nat × Nat)} {E : List Bool → Option Nat}
theorem St.zero (ws : List (List UInt8)) (g : Nat) : St ws 0 (fun q => if q = [] then some (g, 2) else none) (fun _ => none) := by
 refine ⟨fun q i h => by simp at h, fun i s h => by omega, fun q h => ?_, fun q r h => by simp at h, fun q r h => by simp at h⟩
 by_cases hq : q = []
 ·exact .inl hq
 ·simp [hq] at h
theorem St.skip (h : St ws k A E) (hk : ws[k]? = some []) : St ws (k + 1) A E := by
 refine ⟨fun q i e => ?_, fun i s hi e => ?_, h.a1, h.a2, h.lf⟩
 ·obtain ⟨h1, h2⟩ := h.e1 q i e
  exact ⟨by omega, h2⟩
 ·by_cases hik : i = k
  ·subst hik
   rw [hk] at e
   injection e with e
   exact .inl e.symm
  ·exact h.e2 i s (by omega) e
theorem St.add {m : List Bool} (h : St ws k A E) (hk : ws[k]? = some (m.map dig)) (hm : m ≠ []) (hn : ∀ q, q <+: m → E q = none) (hx : ∀ x, A (m ++ [x]) = none) (hd : ∀ q, A' q ≠ none ↔ A q ≠ none ∨ q <+: m) :
  St ws (k + 1) A' (Yrb E m k) := by
 have hne : ∀ q, Yrb E m k q ≠ none ↔ E q ≠ none ∨ q = m := by
  intro q
  unfold Yrb
  by_cases hq : q = m
  ·rw [if_pos hq]; simp [hq]
  ·rw [if_neg hq]; simp [hq]
 refine ⟨fun q i e => ?_, fun i s hi e => ?_, fun q hq => ?_, fun q r hr hq => ?_, fun q r hq hr hqr => ?_⟩
 ·unfold Yrb at e
  by_cases hq : q = m
  ·rw [if_pos hq] at e
   injection e with e
   subst e
   subst hq
   exact ⟨by omega, hm, hk⟩
  ·rw [if_neg hq] at e
   obtain ⟨h1, h2⟩ := h.e1 q i e
   exact ⟨by omega, h2⟩
 ·by_cases hik : i = k
  ·subst hik
   rw [hk] at e
   injection e with e
   exact .inr ⟨m, e.symm, hm, by unfold Yrb; rw [if_pos rfl]⟩
  ·rcases h.e2 i s (by omega) e with e0 | ⟨q, h1, h2, h3⟩
   ·exact .inl e0
   ·refine .inr ⟨q, h1, h2, ?_⟩
    unfold Yrb
    rw [if_neg, h3]
    intro hqm
    subst hqm
    rw [hn q (List.prefix_refl _)] at h3
    cases h3
 ·rcases (hd q).1 hq with hq | hq
  ·rcases h.a1 q hq with e | ⟨r, hr, hqr⟩
   ·exact .inl e
   ·exact .inr ⟨r, (hne r).2 (.inl hr), hqr⟩
  ·exact .inr ⟨m, (hne m).2 (.inr rfl), hq⟩
 ·rcases (hne r).1 hr with hr | rfl
  ·exact (hd q).2 (.inl (h.a2 q r hr hq))
  ·exact (hd q).2 (.inr hq)
 ·rcases (hne q).1 hq with hq' | rfl
  ·rcases (hne r).1 hr with hr' | rfl
   ·exact h.lf q r hq' hr' hqr
   ·exact absurd (hn q hqr) hq'
  ·rcases (hne r).1 hr with hr | rfl
   ·obtain ⟨t, rfl⟩ := hqr
    rcases t with _ | ⟨x, t⟩
    ·simp
    ·exact absurd (hx x) (h.a2 (q ++ [x]) _ hr ⟨t, by simp⟩)
   ·rfl
theorem Ybv {a b : List Bool} (h : a <+: b) : a.map dig <+: b.map dig := by
 obtain ⟨t, rfl⟩ := h
 exact ⟨t.map dig, by simp⟩
theorem St.bad {s : List UInt8} (h : St ws k A E) (hk : ws[k]? = some s) (hs : s ≠ []) (hb : Bad A E s) : ¬ Good ws := by
 rintro ⟨hg1, hg2⟩
 have key : ∀ q, E q ≠ none → ∃ i, i < k ∧ q ≠ [] ∧ ws[i]? = some (q.map dig) := by
  intro q hq
  rcases he : E q with _ | i
  ·exact absurd he hq
  ·exact ⟨i, h.e1 q i he⟩
 rcases hb with hb | ⟨m, rfl, ⟨q, hqm, hq⟩ | ⟨x, hx⟩⟩
 ·rw [hg1 s (List.mem_of_getElem? hk)] at hb
  cases hb
 ·obtain ⟨i, hi, hq0, he⟩ := key q hq
  exact hg2 i k _ _ he hk (by omega) (by simpa using hq0) hs (Ybv hqm)
 ·rcases h.a1 _ hx with e | ⟨r, hr, hmr⟩
  ·simp at e
  ·obtain ⟨i, hi, hr0, he⟩ := key r hr
   exact hg2 k i _ _ hk he (by omega) hs (by simpa using hr0) (Ybv (List.IsPrefix.trans ⟨[x], rfl⟩ hmr))
end
def Bk (w : World) (C g : Nat) (ws : List (List UInt8)) (ms : List Value) : Prop :=
 ∃ pw cw pm cm A E, Tr w C g (.slice pw ws.length cw) (.slice pm ms.length cm) A E ∧ St ws ws.length A E ∧ VRow w C pw (strs ws) ∧ VRow w C pm ms ∧ ws.length ≤ cw ∧ ms.length ≤ cm
theorem Tr.keep {w w' : World} {C g : Nat} {v0 v1 : Value} {A : List Bool → Option (Nat × Nat)} {E : List Bool → Option Nat} (h : Tr w C g v0 v1 A E) (hk : ∀ k, g ≤ k → k < C → w'.heap[k]? = w.heap[k]?) : Tr w' C g v0 v1 A E := by
 have hg : g < C := (h.lo _ _ _ h.root).2
 have key : ∀ b i, g ≤ b → b < C → w'.cell? ⟨b, i, none⟩ = w.cell? ⟨b, i, none⟩ := fun b i h1 h2 => World.cell?_of_block (hk b h1 h2)
 refine ⟨h.root, h.lo, fun p b o e => ?_, fun p b o e => ?_, fun p b o e => ?_, fun p b o e => ?_, fun p b o e i => ?_, h.o2, h.inj, h.up, h.en, ?_, ?_⟩
 ·rw [key _ _ (h.lo p b o e).1 (h.lo p b o e).2]; exact h.n0 p b o e
 ·rw [key _ _ (h.lo p b o e).1 (h.lo p b o e).2]; exact h.n1 p b o e
 ·rw [key _ _ (h.lo p b o e).1 (h.lo p b o e).2]; exact h.ne p b o e
 ·rw [key _ _ (h.lo p b o e).1 (h.lo p b o e).2]; exact h.ni p b o e
 ·have := hk b (h.lo p b o e).1 (h.lo p b o e).2
  rw [← h.fz p b o e i]
  simp [World.frozen?, this]
 ·rw [key _ _ (Nat.le_refl _) hg]; exact h.h0
 ·rw [key _ _ (Nat.le_refl _) hg]; exact h.h1
theorem VRow.keep {w w' : World} {B C : Nat} {p : Option Addr} {vs : List Value} (h : VRow w C p vs) (hlo : ∀ a, p = some a → B ≤ a.block) (hk : ∀ k, B ≤ k → k < C → w'.heap[k]? = w.heap[k]?) : VRow w' C p vs := by
 intro hp
 obtain ⟨b, off, rfl, hlt, hc⟩ := h hp
 have hb : B ≤ b := hlo _ rfl
 exact ⟨b, off, rfl, hlt, fun i hi => (World.cell?_of_block (hk b hb hlt)).trans (hc i hi)⟩
def BkK (w : World) (B g : Nat) (ws : List (List UInt8)) (ms : List Value) : Prop :=
 ∃ pw cw pm cm A E, St ws ws.length A E ∧ ws.length ≤ cw ∧ ms.length ≤ cm ∧ ∀ w' : World, (∀ k, B ≤ k → k < w.heap.size → w'.heap[k]? = w.heap[k]?) →
  Tr w' w.heap.size g (.slice pw ws.length cw) (.slice pm ms.length cm) A E ∧ VRow w' w.heap.size pw (strs ws) ∧ VRow w' w.heap.size pm ms
theorem BkK.at {w : World} {B g : Nat} {ws : List (List UInt8)} {ms : List Value} (h : BkK w B g ws ms) (w' : World) (hk : ∀ k, B ≤ k → k < w.heap.size → w'.heap[k]? = w.heap[k]?) : Bk w' w.heap.size g ws ms := by
 obtain ⟨pw, cw, pm, cm, A, E, h1, h2, h3, h4⟩ := h
 obtain ⟨h5, h6, h7⟩ := h4 w' hk
 exact ⟨pw, cw, pm, cm, A, E, h5, h1, h6, h7, h2, h3⟩
def NewP (w : World) (ws : List (List UInt8)) (ms : List Value) (e : Ending) (w' : World) : Prop :=
 Below w.heap.size w w' ∧ ((∃ c : Int, c ≠ 0 ∧ e = .returned (.tuple #[.pointer none, .int .i64 c]) ∧ ¬ Good ws) ∨
  ∃ g, e = .returned (.tuple #[.pointer (some ⟨g, 0, none⟩), .int .i64 0]) ∧ w.heap.size ≤ g ∧ g < w'.heap.size ∧ BkK w' w.heap.size g ws ms)
def Y9l (u v : Value) : Array Value := #[u, v, .pointer none, .pointer none, .bool false, .int .i64 0]
theorem Yvh (w : World) (u v : Value) (T : TypeId) : Tr (w.alloc (.cells (Y9l u v) T)) (w.heap.size + 1) w.heap.size u v (fun q => if q = [] then some (w.heap.size, 2) else none) (fun _ => none) := by
 have hc : ∀ i, (w.alloc (.cells (Y9l u v) T)).cell? ⟨w.heap.size, i, none⟩ = (Y9l u v)[i]? := by intro i; simp
 have key : ∀ (q : List Bool) (b o : Nat), (if q = [] then some (w.heap.size, 2) else none) = some (b, o) → q = [] ∧ b = w.heap.size ∧ o = 2 := by
  intro q b o h
  split at h
  ·rename_i hq
   injection h with h
   injection h with h1 h2
   exact ⟨hq, h1.symm, h2.symm⟩
  ·cases h
 refine ⟨rfl, fun q b o h => ?_, fun q b o h => ?_, fun q b o h => ?_, fun q b o h => ?_, fun q b o h => ?_, fun q b o h i => ?_, fun q o h => (key q _ o h).2.2, fun p q b o o' h h' => ?_, fun p x h => ?_, fun p h => by simp at h, ?_, ?_⟩
 ·obtain ⟨_, rfl, _⟩ := key q b o h; omega
 ·obtain ⟨rfl, rfl, rfl⟩ := key q b o h; rw [hc]; rfl
 ·obtain ⟨rfl, rfl, rfl⟩ := key q b o h; rw [hc]; rfl
 ·obtain ⟨rfl, rfl, rfl⟩ := key q b o h; rw [hc]; rfl
 ·obtain ⟨rfl, rfl, rfl⟩ := key q b o h; rw [hc]; rfl
 ·obtain ⟨rfl, rfl, rfl⟩ := key q b o h; simp
 ·obtain ⟨rfl, _, _⟩ := key p b o h
  obtain ⟨rfl, _, _⟩ := key q b o' h'
  rfl
 ·simp at h
 ·rw [hc]; rfl
 ·rw [hc]; rfl
theorem Yip (s : List UInt8) : (bs s).toList.isEmpty = s.isEmpty := by rw [Yek]
set_option maxHeartbeats 2000000 in
theorem Yte (p q : Option Addr) (len cap cap2 : Nat) (ws : List (List UInt8)) (ms : List Value) (w : World) (hr : VRow w w.heap.size p (strs ws)) (hx : ws.length = len) (hnil : p = none → cap = 0)
  (hr2 : VRow w w.heap.size q ms) (hx2 : ms.length = len) (hnil2 : q = none → cap2 = 0) (hl : len ≤ 100000) (h1 : ∀ u ∈ ms, u.oneCell' = true) (hw : ∀ s ∈ ws, s.length ≤ 1000000) :
  Calls Tryz.prog 149 #[.slice p len cap, .slice q len cap2] w (NewP w ws ms) := by
 have HC1 := Lib.hid (Y81 p len cap (strs ws) w hr (by rw [Y14]; exact hx) hnil hl (by exact Ydz))
 have HX := Lib.hid hx
 have HX2 := Lib.hid hx2
 have HR := Lib.hid hr
 have HR2 := Lib.hid hr2
 have HN2 := Lib.hid hnil2
 have H1 := Lib.hid h1
 have HW := Lib.hid hw
 clear hr hx hnil hr2 hx2 hnil2 h1 hw
 go_enter Tryz.func149, Tryz.ntmps149
 go_wp2_with fail
 refine HC1.out.mono ?_
 rintro e w1 ⟨hb1, q1, c1, rfl, hv1, hc1, hm1, hq1, hg1⟩
 rw [Y14, HX.out] at hc1 ⊢
 have HV1 := Lib.hid hv1
 have HB1 := Lib.hid hb1
 have HC1' := Lib.hid hc1
 have HG1 := Lib.hid hg1
 have HZ01 := Lib.hid hb1.size
 clear hv1 hc1 hm1 hq1 hg1
 have HC2 := Lib.hid (Yky q len cap2 ms w1 ((HR2.out.below hb1 (Nat.le_refl _)).mono hb1.size) HX2.out HN2.out hl H1.out)
 clear hb1
 go_wp2_with fail
 refine HC2.out.mono ?_
 rintro e w2 ⟨hb2, q2, c2, rfl, hv2, hc2, hm2, hq2, hg2⟩
 rw [HX2.out] at hc2 ⊢
 have HV2 := Lib.hid hv2
 have HC2' := Lib.hid hc2
 have hT := Yvh w2 (.slice q1 len c1) (.slice q2 len c2) 228
 have hb3 : Below w.heap.size w (w2.alloc (.cells (Y9l (.slice q1 len c1) (.slice q2 len c2)) 228)) := (HB1.out.trans (hb2.mono HB1.out.size)).alloc (Nat.le_trans HB1.out.size hb2.size) _
 have hvw : VRow (w2.alloc (.cells (Y9l (.slice q1 len c1) (.slice q2 len c2)) 228)) w2.heap.size q1 (strs ws) := ((HV1.out.below hb2 (Nat.le_refl _)).mono hb2.size).below ((Below.refl _ w2).alloc (Nat.le_refl _) _) (Nat.le_refl _)
 have hvm : VRow (w2.alloc (.cells (Y9l (.slice q1 len c1) (.slice q2 len c2)) 228)) w2.heap.size q2 ms := HV2.out.below ((Below.refl _ w2).alloc (Nat.le_refl _) _) (Nat.le_refl _)
 unfold Y9l at hT hb3 hvw hvm
 have HG := Lib.hid (Nat.le_trans HB1.out.size hb2.size)
 have HG2 := Lib.hid (show ∀ a, q2 = some a → w.heap.size ≤ a.block from fun a h => Nat.le_trans HZ01.out (hg2 a h))
 have HT := Lib.hid hT
 have HB3 := Lib.hid hb3
 have HVW := Lib.hid hvw
 have HVM := Lib.hid hvm
 clear hT hb3 hvw hvm hv2 hc2 hm2 hq2 hg2 hb2 HV1 HV2 HB1 HC1 HC2
 go_wp2_with fail
 obtain ⟨w3, hw3⟩ : ∃ w3, w3 = w2.alloc (.cells #[.slice q1 len c1, .slice q2 len c2, .pointer none, .pointer none, .bool false, .int .i64 0] 228) := ⟨_, rfl⟩
 have hz3 : w3.heap.size = w2.heap.size + 1 := by rw [hw3]; simp
 rw [← hw3] at HT HB3 HVW HVM ⊢
 rw [← hz3] at HT
 generalize hge : w2.heap.size = g at *
 have hgl : g < w3.heap.size := by omega
 clear hw3 hz3
 go_loopw [7, 8, 9, 23] (fun u s e i wr => ∃ (k : Nat) (A : List Bool → Option (Nat × Nat)) (E : List Bool → Option Nat), k ≤ len ∧ i = .int .i64 (k : Int) ∧ Hid (Tr wr wr.heap.size g (.slice q1 len c1) (.slice q2 len c2) A E) ∧ Hid (St ws k A E) ∧ Hid (Below g w3 wr)) (fun _ _ _ i _ => len - (intOf i).toNat)
 case atStart => exact ⟨0, _, _, by omega, rfl, HT, Lib.hid (St.zero ws g), Lib.hid (Below.refl _ _)⟩
 case round =>
  obtain ⟨k, A, E, hk, rfl, HTr, HSt, HB⟩ := hrel
  by_cases hlt : k < len
  ·have hkz : k < ws.length := by rw [HX.out]; exact hlt
   obtain ⟨b, off, hp, hbl⟩ := HR.out.addr (by rw [Y14]; omega)
   subst hp
   have hgw := HG.out
   have hc := (HB.out.cell (p := ⟨b, off + k, none⟩) (by show b < g; omega)).trans ((HB3.out.cell (p := ⟨b, off + k, none⟩) hbl).trans (HR.out.str k hkz))
   have hget : ws[k]? = some ws[k] := List.getElem?_eq_getElem hkz
   have hsl := HW.out ws[k] (List.getElem_mem hkz)
   have hem := Yip ws[k]
   generalize ws[k] = s at hc hget hsl hem
   have HGET := Lib.hid hget
   have hd : decide ((k : Int) < (len : Int)) = true := by simp; omega
   have i1 : (0 : Int) ≤ (k : Int) := by omega
   have i2 : (k : Int) < (len : Int) := by omega
   clear hget hgw
   by_cases hs : s = []
   ·subst hs
    have HS2 := Lib.hid (HSt.out.skip HGET.out)
    have hem : (bs []).toList.isEmpty = true := hem
    generalize bs [] = sb at hc hem
    go_wp2_with fail
    go_roundw
    case rel => exact ⟨k + 1, A, E, by omega, by go_num, HTr, HS2, HB⟩
    case measure => simp [intOf]; omega
   ·have hem : (bs s).toList.isEmpty = false := by
     rw [hem]
     cases s
     ·exact absurd rfl hs
     ·rfl
    have HADD := Lib.hid (Yik wr g (.slice q1 len c1) (.slice q2 len c2) A E s k HTr.out hsl trivial)
    have HS := Lib.hid hs
    clear hs
    generalize hsb : bs s = sb at hc hem HADD
    clear hsb
    go_wp2_with fail
    refine HADD.out.mono ?_
    rintro e w4 ⟨hb4, hres⟩
    have HB4 := Lib.hid (HB.out.trans hb4)
    clear hb4
    rcases hres with ⟨m, hm, rfl, hq1, hq2, A', hT', hdom⟩ | ⟨c, hc0, rfl, hbad⟩
    ·have HT' := Lib.hid hT'
     have HS' := Lib.hid (HSt.out.add (by rw [← hm]; exact HGET.out) (by intro e; exact HS.out (by rw [hm, e]; rfl)) hq1 hq2 hdom)
     clear hm hq1 hq2 hT' hdom
     go_wp2_with fail
     go_roundw
     case rel => exact ⟨k + 1, A', _, by omega, by go_num, HT', HS', HB4⟩
     case measure => simp [intOf]; omega
    ·have HBAD := Lib.hid (HSt.out.bad HGET.out HS.out hbad)
     have hcb : (c != 0) = true := by simpa using hc0
     have HC0 := Lib.hid hc0
     clear hbad hc0
     go_wp2_with fail
     go_ret2
     exact ⟨HB3.out.trans (HB4.out.mono HG.out), .inl ⟨c, HC0.out, rfl, HBAD.out⟩⟩
  ·have hke : k = len := by omega
   subst hke
   have hd : decide ((k : Int) < (k : Int)) = false := by simp
   have hzr := HB.out.size
   have hBk : BkK wr w.heap.size g ws ms := ⟨q1, c1, q2, c2, A, E, by rw [HX.out]; exact HSt.out, by rw [HX.out]; exact HC1'.out, by rw [HX2.out]; exact HC2'.out, fun wq hkq => ⟨by rw [HX.out, HX2.out]; exact HTr.out.keep (fun k h1 h2 => hkq k (Nat.le_trans HG.out h1) h2), ((HVW.out.below HB.out (Nat.le_refl _)).mono (by omega)).keep HG1.out hkq, ((HVM.out.below HB.out (Nat.le_refl _)).mono (by omega)).keep HG2.out hkq⟩⟩
   have HBK := Lib.hid hBk
   clear hBk
   go_wp2_with fail
   go_ret2
   exact ⟨HB3.out.trans (HB.out.mono HG.out), .inr ⟨g, rfl, HG.out, by omega, HBK.out⟩⟩
set_option maxHeartbeats 2000000 in
theorem Ytf (p q : Option Addr) (len cap cap2 : Nat) (ws : List (List UInt8)) (ms : List Value) (w : World) (hr : VRow w w.heap.size p (strs ws)) (hx : ws.length = len) (hnil : p = none → cap = 0)
  (hr2 : VRow w w.heap.size q ms) (hx2 : ms.length = len) (hnil2 : q = none → cap2 = 0) (hl : len ≤ 100000) (h1 : ∀ u ∈ ms, u.oneCell' = true) (hw : ∀ s ∈ ws, s.length ≤ 1000000) :
  Calls Tryz.prog 107 #[.slice p len cap, .slice q len cap2] w (NewP w ws ms) := by
 have HC1 := Lib.hid (Y81 p len cap (strs ws) w hr (by rw [Y14]; exact hx) hnil hl (by exact Ydz))
 have HX := Lib.hid hx
 have HX2 := Lib.hid hx2
 have HR := Lib.hid hr
 have HR2 := Lib.hid hr2
 have HN2 := Lib.hid hnil2
 have H1 := Lib.hid h1
 have HW := Lib.hid hw
 clear hr hx hnil hr2 hx2 hnil2 h1 hw
 go_enter Tryz.func107, Tryz.ntmps107
 go_wp2_with fail
 refine HC1.out.mono ?_
 rintro e w1 ⟨hb1, q1, c1, rfl, hv1, hc1, hm1, hq1, hg1⟩
 rw [Y14, HX.out] at hc1 ⊢
 have HV1 := Lib.hid hv1
 have HB1 := Lib.hid hb1
 have HC1' := Lib.hid hc1
 have HG1 := Lib.hid hg1
 have HZ01 := Lib.hid hb1.size
 clear hv1 hc1 hm1 hq1 hg1
 have HC2 := Lib.hid (Y81 q len cap2 ms w1 ((HR2.out.below hb1 (Nat.le_refl _)).mono hb1.size) HX2.out HN2.out hl H1.out)
 clear hb1
 go_wp2_with fail
 refine HC2.out.mono ?_
 rintro e w2 ⟨hb2, q2, c2, rfl, hv2, hc2, hm2, hq2, hg2⟩
 rw [HX2.out] at hc2 ⊢
 have HV2 := Lib.hid hv2
 have HC2' := Lib.hid hc2
 have hT := Yvh w2 (.slice q1 len c1) (.slice q2 len c2) 213
 have hb3 : Below w.heap.size w (w2.alloc (.cells (Y9l (.slice q1 len c1) (.slice q2 len c2)) 213)) := (HB1.out.trans (hb2.mono HB1.out.size)).alloc (Nat.le_trans HB1.out.size hb2.size) _
 have hvw : VRow (w2.alloc (.cells (Y9l (.slice q1 len c1) (.slice q2 len c2)) 213)) w2.heap.size q1 (strs ws) := ((HV1.out.below hb2 (Nat.le_refl _)).mono hb2.size).below ((Below.refl _ w2).alloc (Nat.le_refl _) _) (Nat.le_refl _)
 have hvm : VRow (w2.alloc (.cells (Y9l (.slice q1 len c1) (.slice q2 len c2)) 213)) w2.heap.size q2 ms := HV2.out.below ((Below.refl _ w2).alloc (Nat.le_refl _) _) (Nat.le_refl _)
 unfold Y9l at hT hb3 hvw hvm
 have HG := Lib.hid (Nat.le_trans HB1.out.size hb2.size)
 have HG2 := Lib.hid (show ∀ a, q2 = some a → w.heap.size ≤ a.block from fun a h => Nat.le_trans HZ01.out (hg2 a h))
 have HT := Lib.hid hT
 have HB3 := Lib.hid hb3
 have HVW := Lib.hid hvw
 have HVM := Lib.hid hvm
 clear hT hb3 hvw hvm hv2 hc2 hm2 hq2 hg2 hb2 HV1 HV2 HB1 HC1 HC2
 go_wp2_with fail
 obtain ⟨w3, hw3⟩ : ∃ w3, w3 = w2.alloc (.cells #[.slice q1 len c1, .slice q2 len c2, .pointer none, .pointer none, .bool false, .int .i64 0] 213) := ⟨_, rfl⟩
 have hz3 : w3.heap.size = w2.heap.size + 1 := by rw [hw3]; simp
 rw [← hw3] at HT HB3 HVW HVM ⊢
 rw [← hz3] at HT
 generalize hge : w2.heap.size = g at *
 have hgl : g < w3.heap.size := by omega
 clear hw3 hz3
 go_loopw [7, 8, 9, 23] (fun u s e i wr => ∃ (k : Nat) (A : List Bool → Option (Nat × Nat)) (E : List Bool → Option Nat), k ≤ len ∧ i = .int .i64 (k : Int) ∧ Hid (Tr wr wr.heap.size g (.slice q1 len c1) (.slice q2 len c2) A E) ∧ Hid (St ws k A E) ∧ Hid (Below g w3 wr)) (fun _ _ _ i _ => len - (intOf i).toNat)
 case atStart => exact ⟨0, _, _, by omega, rfl, HT, Lib.hid (St.zero ws g), Lib.hid (Below.refl _ _)⟩
 case round =>
  obtain ⟨k, A, E, hk, rfl, HTr, HSt, HB⟩ := hrel
  by_cases hlt : k < len
  ·have hkz : k < ws.length := by rw [HX.out]; exact hlt
   obtain ⟨b, off, hp, hbl⟩ := HR.out.addr (by rw [Y14]; omega)
   subst hp
   have hgw := HG.out
   have hc := (HB.out.cell (p := ⟨b, off + k, none⟩) (by show b < g; omega)).trans ((HB3.out.cell (p := ⟨b, off + k, none⟩) hbl).trans (HR.out.str k hkz))
   have hget : ws[k]? = some ws[k] := List.getElem?_eq_getElem hkz
   have hsl := HW.out ws[k] (List.getElem_mem hkz)
   have hem := Yip ws[k]
   generalize ws[k] = s at hc hget hsl hem
   have HGET := Lib.hid hget
   have hd : decide ((k : Int) < (len : Int)) = true := by simp; omega
   have i1 : (0 : Int) ≤ (k : Int) := by omega
   have i2 : (k : Int) < (len : Int) := by omega
   clear hget hgw
   by_cases hs : s = []
   ·subst hs
    have HS2 := Lib.hid (HSt.out.skip HGET.out)
    have hem : (bs []).toList.isEmpty = true := hem
    generalize bs [] = sb at hc hem
    go_wp2_with fail
    go_roundw
    case rel => exact ⟨k + 1, A, E, by omega, by go_num, HTr, HS2, HB⟩
    case measure => simp [intOf]; omega
   ·have hem : (bs s).toList.isEmpty = false := by
     rw [hem]
     cases s
     ·exact absurd rfl hs
     ·rfl
    have HADD := Lib.hid (Yik wr g (.slice q1 len c1) (.slice q2 len c2) A E s k HTr.out hsl trivial)
    have HS := Lib.hid hs
    clear hs
    generalize hsb : bs s = sb at hc hem HADD
    clear hsb
    go_wp2_with fail
    refine HADD.out.mono ?_
    rintro e w4 ⟨hb4, hres⟩
    have HB4 := Lib.hid (HB.out.trans hb4)
    clear hb4
    rcases hres with ⟨m, hm, rfl, hq1, hq2, A', hT', hdom⟩ | ⟨c, hc0, rfl, hbad⟩
    ·have HT' := Lib.hid hT'
     have HS' := Lib.hid (HSt.out.add (by rw [← hm]; exact HGET.out) (by intro e; exact HS.out (by rw [hm, e]; rfl)) hq1 hq2 hdom)
     clear hm hq1 hq2 hT' hdom
     go_wp2_with fail
     go_roundw
     case rel => exact ⟨k + 1, A', _, by omega, by go_num, HT', HS', HB4⟩
     case measure => simp [intOf]; omega
    ·have HBAD := Lib.hid (HSt.out.bad HGET.out HS.out hbad)
     have hcb : (c != 0) = true := by simpa using hc0
     have HC0 := Lib.hid hc0
     clear hbad hc0
     go_wp2_with fail
     go_ret2
     exact ⟨HB3.out.trans (HB4.out.mono HG.out), .inl ⟨c, HC0.out, rfl, HBAD.out⟩⟩
  ·have hke : k = len := by omega
   subst hke
   have hd : decide ((k : Int) < (k : Int)) = false := by simp
   have hzr := HB.out.size
   have hBk : BkK wr w.heap.size g ws ms := ⟨q1, c1, q2, c2, A, E, by rw [HX.out]; exact HSt.out, by rw [HX.out]; exact HC1'.out, by rw [HX2.out]; exact HC2'.out, fun wq hkq => ⟨by rw [HX.out, HX2.out]; exact HTr.out.keep (fun k h1 h2 => hkq k (Nat.le_trans HG.out h1) h2), ((HVW.out.below HB.out (Nat.le_refl _)).mono (by omega)).keep HG1.out hkq, ((HVM.out.below HB.out (Nat.le_refl _)).mono (by omega)).keep HG2.out hkq⟩⟩
   have HBK := Lib.hid hBk
   clear hBk
   go_wp2_with fail
   go_ret2
   exact ⟨HB3.out.trans (HB.out.mono HG.out), .inr ⟨g, rfl, HG.out, by omega, HBK.out⟩⟩
end Go.Proofs.YtkkfkmoikcmhoaaGreat.Hf
namespace Go.Proofs.YtkkfkmoikcmhoaaGreat.Hf
open Go.RowKit Oct Bit
set_option maxRecDepth 100000
theorem Ys5 {low : Bool} {xs : List UInt8} {a : Nat} {b : Bool} {rest : List Bool} (h : (Y01 low xs).drop a = b :: rest) :
  Y8e 1 low xs a = (b.toNat : Int) ∧ Y8d 1 (8 * xs.length) a = 0 ∧ Y8c 1 (8 * xs.length) a = a + 1 := by
 have hl := congrArg List.length h
 rw [List.length_drop, Y04, List.length_cons] at hl
 have ho : okR 1 (8 * xs.length) a = true := by unfold okR Ybe; simp; omega
 refine ⟨?_, ?_, ?_⟩
 ·unfold Y8e
  rw [ho, if_pos rfl]
  show ((nextV low xs a 1 : Nat) : Int) = _
  unfold nextV Yq5
  rw [h, List.cons_append]
  show ((Y38 low [b] : Nat) : Int) = _
  cases low <;> simp [Y38, num]
 ·unfold Y8d; rw [ho]; rfl
 ·unfold Y8c; rw [ho]; rfl
def rdAt (gr : Nat) (W : World) : Nat :=
 match W.cell? ⟨gr, 1, none⟩ with
 | some (.int _ z) => z.toNat
 | _ => 0
theorem Ydt {W : World} {gr : Nat} {p : Option Addr} {cap : Nat} {xs : List UInt8} {a : Nat} {low : Bool} (h : Rd W gr p cap xs a low) : rdAt gr W = a := by
 unfold rdAt
 rw [h.c1]
 simp
theorem Ykf {w : World} {C : Nat} {p : Option Addr} {vs : List Value} {i : Nat} {v : Value} (h : VRow w C p vs) (hv : vs[i]? = some v) : ∃ b off, p = some ⟨b, off, none⟩ ∧ b < C ∧ w.cell? ⟨b, off + i, none⟩ = some v := by
 obtain ⟨hi, he⟩ := List.getElem?_eq_some_iff.1 hv
 obtain ⟨b, off, hp, hb, hc⟩ := h (by omega)
 exact ⟨b, off, hp, hb, by rw [hc i hi, he]⟩
end Go.Proofs.YtkkfkmoikcmhoaaGreat.Hf
namespace Go.Proofs.YtkkfkmoikcmhoaaGreat.Bit
open Go.RowKit Oct
set_option maxRecDepth 20000
theorem Ydm {S : Nat → Prop} {w w' : World} {e n : Nat} {v : Value} {cs : List Value} (h : w.ownsRow 0 e 1 v n cs) (ho : Only S w w') (hv : ∀ k, v.ownBlock = some k → ¬ S k) : w'.ownsRow 0 e 1 v n cs := by
 refine ⟨h.1, ?_⟩
 rcases h.2 with hn | ⟨g, cap, cur, rfl, hb, hh, r⟩
 ·exact .inl hn
 ·refine .inr ⟨g, cap, cur, rfl, hb, ?_, r⟩
  have hlt : g < w.heap.size := by
   rcases Nat.lt_or_ge g w.heap.size with hlt | hge
   ·exact hlt
   ·rw [Array.getElem?_eq_none hge] at hh; cases hh
  rw [ho.2.2.2.2 g hlt (hv g rfl)]
  exact hh
def Wr (w : World) (g : Nat) (v : Value) (xs : List UInt8) (n : Nat) (low : Bool) : Prop :=
 w.heap[g]? = some (.cells #[v, .int .i64 (n : Int), .bool low] 121 (0, 0)) ∧ w.ownsRow 0 5 1 v xs.length (cellsOf xs) ∧ v.ownBlock ≠ some g
section
variable {w w' : World} {g n : Nat} {v : Value} {xs : List UInt8} {low : Bool}
theorem Wr.c0 (h : Wr w g v xs n low) : w.cell? ⟨g, 0, none⟩ = some v := by simp [World.cell?, h.1]
theorem Wr.c1 (h : Wr w g v xs n low) : w.cell? ⟨g, 1, none⟩ = some (.int .i64 (n : Int)) := by simp [World.cell?, h.1]
theorem Wr.c2 (h : Wr w g v xs n low) : w.cell? ⟨g, 2, none⟩ = some (.bool low) := by simp [World.cell?, h.1]
theorem Wr.fz (h : Wr w g v xs n low) (i : Nat) : w.frozen? ⟨g, i, none⟩ = false := by simp [World.frozen?, h.1]
theorem Wr.lt (h : Wr w g v xs n low) : g < w.heap.size := by
 rcases Nat.lt_or_ge g w.heap.size with hlt | hge
 ·exact hlt
 ·have := h.1; rw [Array.getElem?_eq_none hge] at this; cases this
theorem Wr.only {S : Nat → Prop} (h : Wr w g v xs n low) (ho : Only S w w') (hg : ¬ S g) (hv : ∀ k, v.ownBlock = some k → ¬ S k) : Wr w' g v xs n low :=
 ⟨(ho.2.2.2.2 g h.lt hg).trans h.1, Ydm h.2.1 ho hv, h.2.2⟩
theorem Wr.form (h : Wr w g v xs n low) : (v = .slice none 0 0 ∧ xs = []) ∨ ∃ r cap, v = .slice (some ⟨r, 0, none⟩) xs.length cap ∧ xs.length ≤ cap ∧ cap ≤ maxLen ∧ r < w.heap.size ∧ r ≠ g ∧ Row w (some ⟨r, 0, none⟩) xs := by
 by_cases hv : v = .slice none 0 0
 ·left
  refine ⟨hv, ?_⟩
  rcases h.2.1.2 with ⟨_, h0⟩ | ⟨r, cap, cur, he, _⟩
  ·exact List.eq_nil_of_length_eq_zero h0
  ·rw [hv] at he; cases he
 ·right
  obtain ⟨r, cap, rfl, h1, h2, _, h4, h5⟩ := Ydl h.2.1 hv
  exact ⟨r, cap, rfl, h1, h2, h4, fun e => h.2.2 (by rw [e]; rfl), h5⟩
theorem Wr.setLen (h : Wr w g v xs n low) (m : Nat) : Wr (w.setCell ⟨g, 1, none⟩ (.int .i64 (m : Int))) g v xs m low := by
 refine ⟨?_, Ydm h.2.1 (Only.setCell (S := (· = g)) (p := ⟨g, 1, none⟩) (by rfl) _) (fun k hk e => h.2.2 (by rw [hk, e])), h.2.2⟩
 have := h.1
 simp [World.setCell, Array.getElem?_modify, this]
theorem Yxi {r i cap : Nat} (h : w.ownsRow 0 5 1 (.slice (some ⟨r, 0, none⟩) xs.length cap) xs.length (cellsOf xs)) (c : UInt8) :
  (w.setCell ⟨r, i, none⟩ (.int .u8 (c.toNat : Int))).ownsRow 0 5 1 (.slice (some ⟨r, 0, none⟩) (xs.set i c).length cap) (xs.set i c).length (cellsOf (xs.set i c)) := by
 obtain ⟨h1, h2⟩ := h
 refine ⟨by simp [cellsOf], .inr ?_⟩
 rcases h2 with ⟨hv, _⟩ | ⟨g', cap', cur, hv, hb, hh, hl, hm, hs, ht⟩
 ·cases hv
 ·injection hv with e1 _ e3
  injection e1 with e1
  injection e1 with e1
  subst e1
  subst e3
  refine ⟨r, cap, cur.setIfInBounds i (.int .u8 (c.toNat : Int)), by simp, hb, ?_, by simpa using hl, hm, by simpa using hs, ?_⟩
  ·simp [World.setCell, Array.getElem?_modify, hh]
  ·simp only [List.length_set, Array.toList_setIfInBounds, List.take_set]
   rw [ht]
   simp [cellsOf, List.map_set]
end
theorem Only.grown {w w' : World} {row : Option Nat} (hg : w.grownBy w' row) : Only (fun k => row = some k) w w' :=
 ⟨hg.os, hg.tape, hg.output, hg.size, fun k hk hs => hg.block k hk (fun e => hs e.symm)⟩
def Mine (g : Nat) (v : Value) (k : Nat) : Prop := k = g ∨ v.ownBlock = some k
def Yvo (w : World) (g : Nat) (v : Value) (ys : List UInt8) (n : Nat) (low : Bool) (e : Ending) (w' : World) : Prop :=
 e = .returned (.tuple #[]) ∧ ∃ v', Wr w' g v' ys n low ∧ Only (Mine g v) w w' ∧ ∀ k, v'.ownBlock = some k → v.ownBlock = some k ∨ w.heap.size ≤ k
theorem Ysq (w : World) (g : Nat) (v : Value) (xs : List UInt8) (n : Nat) (low : Bool) (c : UInt8) (hW : Wr w g v xs n low) (hl : xs.length ≤ 2000000) :
  Calls Tryz.prog 151 #[.pointer (some ⟨g, 0, none⟩), .int .i64 (xs.length : Int), .int .u8 (c.toNat : Int)] w (Yvo w g v (xs ++ [c]) n low) := by
 obtain ⟨i0, hi, hz0, hz1, hz2⟩ := info_parts Tryz.infoByte
 have c0 := hW.c0
 have hlt := hW.lt
 have hA : Only (fun _ => False) w (w.alloc (.cells #[.int .u8 (c.toNat : Int)] 5)) := Only.of_below ((Below.refl _ w).alloc (Nat.le_refl _) _)
 have hWA := hW.only hA (fun h => h) (fun _ _ h => h)
 have hrow := Yxu w c 5
 have hcell : (w.alloc (.cells #[.int .u8 (c.toNat : Int)] 5)).cell? ⟨w.heap.size, 0, none⟩ = some (.int .u8 (c.toNat : Int)) := by simp
 obtain ⟨len, cap, p, hv⟩ : ∃ len cap p, v = .slice p len cap ∧ len = xs.length := by
  rcases hW.form with ⟨rfl, rfl⟩ | ⟨r, cap, rfl, _⟩
  ·exact ⟨0, 0, none, rfl, rfl⟩
  ·exact ⟨_, _, _, rfl, rfl⟩
 obtain ⟨rfl, rfl⟩ := hv
 have HWA := Lib.hid hWA
 have HC := Lib.hid hcell
 have HW := Lib.hid hW
 clear hWA hrow hA hcell hW
 go_enter Tryz.func151, Tryz.ntmps151
 go_wp2_with (at_builtin; refine wpList_append_lies _ rfl _ _ 22 rfl 0 5 i0 (.int .u8 0) 1 1 Tryz.underlying22 hi hz0 hz1 hz2 rfl (by decide) _ xs.length (cellsOf xs) rfl HWA.out.2.1 ⟨w.heap.size, 0, none⟩ 1 1 (cellsOf [c]) rfl rfl ?d1 Y4r (by decide) ?d2 ?d3 (Nat.zero_le _) (w.heap.size + 1) (by simp) ?_)
 case d1 =>
  intro j u hj
  obtain ⟨hj', rfl⟩ := Y6g hj
  have : j = 0 := by simpa using hj'
  subst this
  exact HC.out
 case d2 => unfold maxLen; omega
 case d3 => omega
 intro g' cap' w1 hown1 hgrow hdich hlt1
 have hne := HW.out.2.2
 have hG := Only.grown hgrow
 have hWg := HWA.out.1
 have hg1 : w1.heap[g]? = some (.cells #[.slice p xs.length cap, .int .i64 (n : Int), .bool low] 121 (0, 0)) := (hG.2.2.2.2 g (by simp; omega) hne).trans hWg
 have hgg : g' ≠ g := by
  rcases hdich with h | h
  ·intro e; exact hne (by rw [h, e])
  ·omega
 have c1 : w1.cell? ⟨g, 0, none⟩ = some (.slice p xs.length cap) := by simp [World.cell?, hg1]
 have f1 : w1.frozen? ⟨g, 0, none⟩ = false := by simp [World.frozen?, hg1]
 have HO := Lib.hid hown1
 have HG := Lib.hid hG
 have HG1 := Lib.hid hg1
 have HD := Lib.hid hdich
 clear hown1 hG hWg hg1 hgrow hdich
 go_wp2_with fail
 go_end0
 refine ⟨rfl, .slice (some ⟨g', 0, none⟩) (xs.length + 1) cap', ⟨?_, ?_, ?_⟩, ?_, ?_⟩
 ·have := HG1.out
  simp [World.setCell, Array.getElem?_modify, this]
 ·have h1 := Ydm HO.out (Only.setCell (S := (· = g)) (p := ⟨g, 0, none⟩) (by rfl) (.slice (some ⟨g', 0, none⟩) (xs.length + 1) cap')) (fun k hk e => by injection hk with hk; exact hgg (hk.trans e))
  rw [← Y46] at h1
  simpa using h1
 ·intro e
  injection e with e
  exact hgg e
 ·have hA : Only (Mine g (.slice p xs.length cap)) w (w.alloc (.cells #[.int .u8 (c.toNat : Int)] 5)) := Only.of_below ((Below.refl _ w).alloc (Nat.le_refl _) _)
  exact (hA.trans (HG.out.mono (fun k _ h => .inr h))).trans (Only.setCell (p := ⟨g, 0, none⟩) (.inl rfl) _)
 ·intro k hk
  injection hk with hk
  subst hk
  rcases HD.out with h | h
  ·exact .inl h
  ·exact .inr (by show w.heap.size ≤ g'; omega)
theorem or_u8 (a b : UInt8) : bits .or .u8 (a.toNat : Int) (b.toNat : Int) = (((a ||| b).toNat : Nat) : Int) := by
 rw [u8_or_nat _ _ a.toNat_lt b.toNat_lt, UInt8.toNat_or]
theorem Ywe (w : World) (g : Nat) (v : Value) (xs : List UInt8) (n : Nat) (low : Bool) (i : Nat) (c : UInt8) (hW : Wr w g v xs n low) (hl : xs.length ≤ 2000000) (hi : i < xs.length) :
  Calls Tryz.prog 151 #[.pointer (some ⟨g, 0, none⟩), .int .i64 (i : Int), .int .u8 (c.toNat : Int)] w (Yvo w g v (xs.set i (xs[i] ||| c)) n low) := by
 have c0 := hW.c0
 rcases hW.form with ⟨_, h0⟩ | ⟨r, cap, rfl, hlc, hcm, hr, hrg, hrow⟩
 ·subst h0; simp at hi
 obtain ⟨b, off, he, _, hc⟩ := hrow (by omega)
 injection he with he
 injection he with e1 e2
 subst e1
 subst e2
 have hci := hc i hi
 rw [Nat.zero_add] at hci
 have hfz : w.frozen? ⟨r, i, none⟩ = false := by
  rcases hW.2.1.2 with ⟨hv, _⟩ | ⟨g', cap', cur, hv, _, hh, _⟩
  ·cases hv
  ·injection hv with e1
   injection e1 with e1
   injection e1 with e1
   subst e1
   simp [World.frozen?, hh]
 have hx : xs[i].toNat < 256 := xs[i].toNat_lt
 have hcb : c.toNat < 256 := c.toNat_lt
 have hor := or_u8 xs[i] c
 have hne : ((i : Int) == (xs.length : Int)) = false := by simp; omega
 have HW := Lib.hid hW
 have HOR := Lib.hid hor
 clear hor hW hc hrow
 go_enter Tryz.func151, Tryz.ntmps151
 go_wp2_with fail
 go_end0
 rw [HOR.out]
 have hO := Only.setCell (S := Mine g (.slice (some ⟨r, 0, none⟩) xs.length cap)) (w := w) (p := ⟨r, i, none⟩) (.inr rfl) (.int .u8 (((xs[i] ||| c).toNat : Nat) : Int))
 refine ⟨rfl, .slice (some ⟨r, 0, none⟩) xs.length cap, ⟨?_, ?_, HW.out.2.2⟩, hO, fun k hk => .inl hk⟩
 ·rw [Below.heap_setCell _ _ _ _ (by show g ≠ r; omega)]
  exact HW.out.1
 ·have := Yxi (i := i) HW.out.2.1 (xs[i] ||| c)
  simpa using this
end Go.Proofs.YtkkfkmoikcmhoaaGreat.Bit

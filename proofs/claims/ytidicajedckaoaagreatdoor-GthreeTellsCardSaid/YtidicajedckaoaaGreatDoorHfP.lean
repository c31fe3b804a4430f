
/- A book in memory; the contracts of New over numbers and over strings. -/
import Derived.Test.YtidicajedckaoaaGreatDoorHfO
namespace Go.Proofs.YtidicajedckaoaaGreatDoor.Hf
open Go.RowKit Go.Proofs.YtidicajedckaoaaGreatDoor.Oct Go.Proofs.YtidicajedckaoaaGreatDoor.Bit
set_option linter.unusedVariables false
set_option linter.unusedSimpArgs false
set_option maxRecDepth 100000

/-- which words stand in a tree, of the first k -/
structure St (ws : List (List UInt8)) (k : Nat) (A : List Bool → Option (Nat × Nat)) (E : List Bool → Option Nat) : Prop where
  e1 : ∀ q i, E q = some i → i < k ∧ q ≠ [] ∧ ws[i]? = some (q.map dig)
  e2 : ∀ i s, i < k → ws[i]? = some s → s = [] ∨ ∃ q, s = q.map dig ∧ q ≠ [] ∧ E q = some i
  a1 : ∀ q, A q ≠ none → q = [] ∨ ∃ r, E r ≠ none ∧ q <+: r
  a2 : ∀ q r, E r ≠ none → q <+: r → A q ≠ none
  lf : ∀ q r, E q ≠ none → E r ≠ none → q <+: r → q = r
def Good (ws : List (List UInt8)) : Prop :=
  (∀ s ∈ ws, wordB s = true) ∧ ∀ (i j : Nat) (s t : List UInt8), ws[i]? = some s → ws[j]? = some t → i ≠ j → s ≠ [] → t ≠ [] → ¬ s <+: t
section
variable {ws : List (List UInt8)} {k : Nat} {A A' : List Bool → Option (Nat × Nat)} {E : List Bool → Option Nat}
theorem St.zero (ws : List (List UInt8)) (g : Nat) : St ws 0 (fun q => if q = [] then some (g, 2) else none) (fun _ => none) := by
  refine ⟨fun q i h => by simp at h, fun i s h => by omega, fun q h => ?_, fun q r h => by simp at h, fun q r h => by simp at h⟩
  by_cases hq : q = []
  · exact .inl hq
  · simp [hq] at h
theorem St.skip (h : St ws k A E) (hk : ws[k]? = some []) : St ws (k + 1) A E := by
  refine ⟨fun q i e => ?_, fun i s hi e => ?_, h.a1, h.a2, h.lf⟩
  · obtain ⟨h1, h2⟩ := h.e1 q i e
    exact ⟨by omega, h2⟩
  · by_cases hik : i = k
    · subst hik
      rw [hk] at e
      injection e with e
      exact .inl e.symm
    · exact h.e2 i s (by omega) e
theorem St.add {m : List Bool} (h : St ws k A E) (hk : ws[k]? = some (m.map dig)) (hm : m ≠ []) (hn : ∀ q, q <+: m → E q = none) (hx : ∀ x, A (m ++ [x]) = none) (hd : ∀ q, A' q ≠ none ↔ A q ≠ none ∨ q <+: m) :
    St ws (k + 1) A' (updE E m k) := by
  have hne : ∀ q, updE E m k q ≠ none ↔ E q ≠ none ∨ q = m := by
    intro q
    unfold updE
    by_cases hq : q = m
    · rw [if_pos hq]; simp [hq]
    · rw [if_neg hq]; simp [hq]
  refine ⟨fun q i e => ?_, fun i s hi e => ?_, fun q hq => ?_, fun q r hr hq => ?_, fun q r hq hr hqr => ?_⟩
  · unfold updE at e
    by_cases hq : q = m
    · rw [if_pos hq] at e
      injection e with e
      subst e
      subst hq
      exact ⟨by omega, hm, hk⟩
    · rw [if_neg hq] at e
      obtain ⟨h1, h2⟩ := h.e1 q i e
      exact ⟨by omega, h2⟩
  · by_cases hik : i = k
    · subst hik
      rw [hk] at e
      injection e with e
      exact .inr ⟨m, e.symm, hm, by unfold updE; rw [if_pos rfl]⟩
    · rcases h.e2 i s (by omega) e with e0 | ⟨q, h1, h2, h3⟩
      · exact .inl e0
      · refine .inr ⟨q, h1, h2, ?_⟩
        unfold updE
        rw [if_neg, h3]
        intro hqm
        subst hqm
        rw [hn q (List.prefix_refl _)] at h3
        cases h3
  · rcases (hd q).1 hq with hq | hq
    · rcases h.a1 q hq with e | ⟨r, hr, hqr⟩
      · exact .inl e
      · exact .inr ⟨r, (hne r).2 (.inl hr), hqr⟩
    · exact .inr ⟨m, (hne m).2 (.inr rfl), hq⟩
  · rcases (hne r).1 hr with hr | rfl
    · exact (hd q).2 (.inl (h.a2 q r hr hq))
    · exact (hd q).2 (.inr hq)
  · rcases (hne q).1 hq with hq' | rfl
    · rcases (hne r).1 hr with hr' | rfl
      · exact h.lf q r hq' hr' hqr
      · exact absurd (hn q hqr) hq'
    · rcases (hne r).1 hr with hr | rfl
      · obtain ⟨t, rfl⟩ := hqr
        rcases t with _ | ⟨x, t⟩
        · simp
        · exact absurd (hx x) (h.a2 (q ++ [x]) _ hr ⟨t, by simp⟩)
      · rfl
theorem map_prefix {a b : List Bool} (h : a <+: b) : a.map dig <+: b.map dig := by
  obtain ⟨t, rfl⟩ := h
  exact ⟨t.map dig, by simp⟩
theorem St.bad {s : List UInt8} (h : St ws k A E) (hk : ws[k]? = some s) (hs : s ≠ []) (hb : Bad A E s) : ¬ Good ws := by
  rintro ⟨hg1, hg2⟩
  have key : ∀ q, E q ≠ none → ∃ i, i < k ∧ q ≠ [] ∧ ws[i]? = some (q.map dig) := by
    intro q hq
    rcases he : E q with _ | i
    · exact absurd he hq
    · exact ⟨i, h.e1 q i he⟩
  rcases hb with hb | ⟨m, rfl, ⟨q, hqm, hq⟩ | ⟨x, hx⟩⟩
  · rw [hg1 s (List.mem_of_getElem? hk)] at hb
    cases hb
  · obtain ⟨i, hi, hq0, he⟩ := key q hq
    exact hg2 i k _ _ he hk (by omega) (by simpa using hq0) hs (map_prefix hqm)
  · rcases h.a1 _ hx with e | ⟨r, hr, hmr⟩
    · simp at e
    · obtain ⟨i, hi, hr0, he⟩ := key r hr
      exact hg2 k i _ _ hk he (by omega) hs (by simpa using hr0) (map_prefix (List.IsPrefix.trans ⟨[x], rfl⟩ hmr))
end
/-- a book in memory, all of it below C -/
def Bk (w : World) (C g : Nat) (ws : List (List UInt8)) (ms : List Value) : Prop :=
  ∃ pw cw pm cm A E, Tr w C g (.slice pw ws.length cw) (.slice pm ms.length cm) A E ∧ St ws ws.length A E ∧ VRow w C pw (strs ws) ∧ VRow w C pm ms ∧ ws.length ≤ cw ∧ ms.length ≤ cm
theorem Bk.below {w w' : World} {C g : Nat} {ws : List (List UInt8)} {ms : List Value} (h : Bk w C g ws ms) (hb : Below C w w') : Bk w' C g ws ms := by
  obtain ⟨pw, cw, pm, cm, A, E, h1, h2, h3, h4, h5⟩ := h
  exact ⟨pw, cw, pm, cm, A, E, h1.below hb, h2, h3.below hb (Nat.le_refl _), h4.below hb (Nat.le_refl _), h5⟩
theorem Tr.keep {w w' : World} {C g : Nat} {v0 v1 : Value} {A : List Bool → Option (Nat × Nat)} {E : List Bool → Option Nat} (h : Tr w C g v0 v1 A E) (hk : ∀ k, g ≤ k → k < C → w'.heap[k]? = w.heap[k]?) : Tr w' C g v0 v1 A E := by
  have hg : g < C := (h.lo _ _ _ h.root).2
  have key : ∀ b i, g ≤ b → b < C → w'.cell? ⟨b, i, none⟩ = w.cell? ⟨b, i, none⟩ := fun b i h1 h2 => World.cell?_of_block (hk b h1 h2)
  refine ⟨h.root, h.lo, fun p b o e => ?_, fun p b o e => ?_, fun p b o e => ?_, fun p b o e => ?_, fun p b o e i => ?_, h.o2, h.inj, h.up, h.en, ?_, ?_⟩
  · rw [key _ _ (h.lo p b o e).1 (h.lo p b o e).2]; exact h.n0 p b o e
  · rw [key _ _ (h.lo p b o e).1 (h.lo p b o e).2]; exact h.n1 p b o e
  · rw [key _ _ (h.lo p b o e).1 (h.lo p b o e).2]; exact h.ne p b o e
  · rw [key _ _ (h.lo p b o e).1 (h.lo p b o e).2]; exact h.ni p b o e
  · have := hk b (h.lo p b o e).1 (h.lo p b o e).2
    rw [← h.fz p b o e i]
    simp [World.frozen?, this]
  · rw [key _ _ (Nat.le_refl _) hg]; exact h.h0
  · rw [key _ _ (Nat.le_refl _) hg]; exact h.h1
theorem VRow.keep {w w' : World} {B C : Nat} {p : Option Addr} {vs : List Value} (h : VRow w C p vs) (hlo : ∀ a, p = some a → B ≤ a.block) (hk : ∀ k, B ≤ k → k < C → w'.heap[k]? = w.heap[k]?) : VRow w' C p vs := by
  intro hp
  obtain ⟨b, off, rfl, hlt, hc⟩ := h hp
  have hb : B ≤ b := hlo _ rfl
  exact ⟨b, off, rfl, hlt, fun i hi => (World.cell?_of_block (hk b hb hlt)).trans (hc i hi)⟩
/-- a book, and whatever leaves its blocks alone leaves it a book -/
def BkK (w : World) (B g : Nat) (ws : List (List UInt8)) (ms : List Value) : Prop :=
  ∃ pw cw pm cm A E, St ws ws.length A E ∧ ws.length ≤ cw ∧ ms.length ≤ cm ∧ ∀ w' : World, (∀ k, B ≤ k → k < w.heap.size → w'.heap[k]? = w.heap[k]?) →
    Tr w' w.heap.size g (.slice pw ws.length cw) (.slice pm ms.length cm) A E ∧ VRow w' w.heap.size pw (strs ws) ∧ VRow w' w.heap.size pm ms
theorem BkK.at {w : World} {B g : Nat} {ws : List (List UInt8)} {ms : List Value} (h : BkK w B g ws ms) (w' : World) (hk : ∀ k, B ≤ k → k < w.heap.size → w'.heap[k]? = w.heap[k]?) : Bk w' w.heap.size g ws ms := by
  obtain ⟨pw, cw, pm, cm, A, E, h1, h2, h3, h4⟩ := h
  obtain ⟨h5, h6, h7⟩ := h4 w' hk
  exact ⟨pw, cw, pm, cm, A, E, h5, h1, h6, h7, h2, h3⟩
theorem BkK.bk {w : World} {B g : Nat} {ws : List (List UInt8)} {ms : List Value} (h : BkK w B g ws ms) : Bk w w.heap.size g ws ms := h.at w (fun _ _ _ => rfl)
def NewP (w : World) (ws : List (List UInt8)) (ms : List Value) (e : Ending) (w' : World) : Prop :=
  Below w.heap.size w w' ∧ ((∃ c : Int, c ≠ 0 ∧ e = .returned (.tuple #[.pointer none, .int .i64 c]) ∧ ¬ Good ws) ∨
    ∃ g, e = .returned (.tuple #[.pointer (some ⟨g, 0, none⟩), .int .i64 0]) ∧ w.heap.size ≤ g ∧ g < w'.heap.size ∧ BkK w' w.heap.size g ws ms)
def bookC (u v : Value) : Array Value := #[u, v, .pointer none, .pointer none, .bool false, .int .i64 0]
theorem tr_new (w : World) (u v : Value) (T : TypeId) : Tr (w.alloc (.cells (bookC u v) T)) (w.heap.size + 1) w.heap.size u v (fun q => if q = [] then some (w.heap.size, 2) else none) (fun _ => none) := by
  have hc : ∀ i, (w.alloc (.cells (bookC u v) T)).cell? ⟨w.heap.size, i, none⟩ = (bookC u v)[i]? := by intro i; simp
  have key : ∀ (q : List Bool) (b o : Nat), (if q = [] then some (w.heap.size, 2) else none) = some (b, o) → q = [] ∧ b = w.heap.size ∧ o = 2 := by
    intro q b o h
    split at h
    · rename_i hq
      injection h with h
      injection h with h1 h2
      exact ⟨hq, h1.symm, h2.symm⟩
    · cases h
  refine ⟨rfl, fun q b o h => ?_, fun q b o h => ?_, fun q b o h => ?_, fun q b o h => ?_, fun q b o h => ?_, fun q b o h i => ?_, fun q o h => (key q _ o h).2.2, fun p q b o o' h h' => ?_, fun p x h => ?_, fun p h => by simp at h, ?_, ?_⟩
  · obtain ⟨_, rfl, _⟩ := key q b o h; omega
  · obtain ⟨rfl, rfl, rfl⟩ := key q b o h; rw [hc]; rfl
  · obtain ⟨rfl, rfl, rfl⟩ := key q b o h; rw [hc]; rfl
  · obtain ⟨rfl, rfl, rfl⟩ := key q b o h; rw [hc]; rfl
  · obtain ⟨rfl, rfl, rfl⟩ := key q b o h; rw [hc]; rfl
  · obtain ⟨rfl, rfl, rfl⟩ := key q b o h; simp
  · obtain ⟨rfl, _, _⟩ := key p b o h
    obtain ⟨rfl, _, _⟩ := key q b o' h'
    rfl
  · simp at h
  · rw [hc]; rfl
  · rw [hc]; rfl
theorem bs_empty (s : List UInt8) : (bs s).toList.isEmpty = s.isEmpty := by rw [bs_toList]
set_option maxHeartbeats 2000000 in
theorem newI_any (p q : Option Addr) (len cap cap2 : Nat) (ws : List (List UInt8)) (ms : List Value) (w : World) (hr : VRow w w.heap.size p (strs ws)) (hx : ws.length = len) (hnil : p = none → cap = 0)
    (hr2 : VRow w w.heap.size q ms) (hx2 : ms.length = len) (hnil2 : q = none → cap2 = 0) (hl : len ≤ 100000) (h1 : ∀ u ∈ ms, u.oneCell' = true) (hw : ∀ s ∈ ws, s.length ≤ 1000000) :
    Calls Tryz.prog 32 #[.slice p len cap, .slice q len cap2] w (NewP w ws ms) := by
  have HC1 := Lib.hid (cloneS_any p len cap (strs ws) w hr (by rw [strs_length]; exact hx) hnil hl (by exact strs_one))
  have HX := Lib.hid hx
  have HX2 := Lib.hid hx2
  have HR := Lib.hid hr
  have HR2 := Lib.hid hr2
  have HN2 := Lib.hid hnil2
  have H1 := Lib.hid h1
  have HW := Lib.hid hw
  clear hr hx hnil hr2 hx2 hnil2 h1 hw
  go_enter Tryz.func32, Tryz.ntmps32
  go_wp2_with fail
  refine HC1.out.mono ?_
  rintro e w1 ⟨hb1, q1, c1, rfl, hv1, hc1, hm1, hq1, hg1⟩
  rw [strs_length, HX.out] at hc1 ⊢
  have HV1 := Lib.hid hv1
  have HB1 := Lib.hid hb1
  have HC1' := Lib.hid hc1
  have HG1 := Lib.hid hg1
  have HZ01 := Lib.hid hb1.size
  clear hv1 hc1 hm1 hq1 hg1
  have HC2 := Lib.hid (cloneI_any q len cap2 ms w1 ((HR2.out.below hb1 (Nat.le_refl _)).mono hb1.size) HX2.out HN2.out hl H1.out)
  clear hb1
  go_wp2_with fail
  refine HC2.out.mono ?_
  rintro e w2 ⟨hb2, q2, c2, rfl, hv2, hc2, hm2, hq2, hg2⟩
  rw [HX2.out] at hc2 ⊢
  have HV2 := Lib.hid hv2
  have HC2' := Lib.hid hc2
  have hT := tr_new w2 (.slice q1 len c1) (.slice q2 len c2) 118
  have hb3 : Below w.heap.size w (w2.alloc (.cells (bookC (.slice q1 len c1) (.slice q2 len c2)) 118)) := (HB1.out.trans (hb2.mono HB1.out.size)).alloc (Nat.le_trans HB1.out.size hb2.size) _
  have hvw : VRow (w2.alloc (.cells (bookC (.slice q1 len c1) (.slice q2 len c2)) 118)) w2.heap.size q1 (strs ws) := ((HV1.out.below hb2 (Nat.le_refl _)).mono hb2.size).below ((Below.refl _ w2).alloc (Nat.le_refl _) _) (Nat.le_refl _)
  have hvm : VRow (w2.alloc (.cells (bookC (.slice q1 len c1) (.slice q2 len c2)) 118)) w2.heap.size q2 ms := HV2.out.below ((Below.refl _ w2).alloc (Nat.le_refl _) _) (Nat.le_refl _)
  unfold bookC at hT hb3 hvw hvm
  have HG := Lib.hid (Nat.le_trans HB1.out.size hb2.size)
  have HG2 := Lib.hid (show ∀ a, q2 = some a → w.heap.size ≤ a.block from fun a h => Nat.le_trans HZ01.out (hg2 a h))
  have HT := Lib.hid hT
  have HB3 := Lib.hid hb3
  have HVW := Lib.hid hvw
  have HVM := Lib.hid hvm
  clear hT hb3 hvw hvm hv2 hc2 hm2 hq2 hg2 hb2 HV1 HV2 HB1 HC1 HC2
  go_wp2_with fail
  obtain ⟨w3, hw3⟩ : ∃ w3, w3 = w2.alloc (.cells #[.slice q1 len c1, .slice q2 len c2, .pointer none, .pointer none, .bool false, .int .i64 0] 118) := ⟨_, rfl⟩
  have hz3 : w3.heap.size = w2.heap.size + 1 := by rw [hw3]; simp
  rw [← hw3] at HT HB3 HVW HVM ⊢
  rw [← hz3] at HT
  generalize hge : w2.heap.size = g at *
  have hgl : g < w3.heap.size := by omega
  clear hw3 hz3
  go_loopw [7, 8, 9, 23] (fun u s e i wr => ∃ (k : Nat) (A : List Bool → Option (Nat × Nat)) (E : List Bool → Option Nat), k ≤ len ∧ i = .int .i64 (k : Int) ∧ Hid (Tr wr wr.heap.size g (.slice q1 len c1) (.slice q2 len c2) A E) ∧ Hid (St ws k A E) ∧ Hid (Below g w3 wr)) (fun _ _ _ i _ => len - (intOf i).toNat)
  case atStart => exact ⟨0, _, _, by omega, rfl, HT, Lib.hid (St.zero ws g), Lib.hid (Below.refl _ _)⟩
  case round =>
    obtain ⟨k, A, E, hk, rfl, HTr, HSt, HB⟩ := hrel
    by_cases hlt : k < len
    · have hkz : k < ws.length := by rw [HX.out]; exact hlt
      obtain ⟨b, off, hp, hbl⟩ := HR.out.addr (by rw [strs_length]; omega)
      subst hp
      have hgw := HG.out
      have hc := (HB.out.cell (p := ⟨b, off + k, none⟩) (by show b < g; omega)).trans ((HB3.out.cell (p := ⟨b, off + k, none⟩) hbl).trans (HR.out.str k hkz))
      have hget : ws[k]? = some ws[k] := List.getElem?_eq_getElem hkz
      have hsl := HW.out ws[k] (List.getElem_mem hkz)
      have hem := bs_empty ws[k]
      generalize ws[k] = s at hc hget hsl hem
      have HGET := Lib.hid hget
      have hd : decide ((k : Int) < (len : Int)) = true := by simp; omega
      have i1 : (0 : Int) ≤ (k : Int) := by omega
      have i2 : (k : Int) < (len : Int) := by omega
      clear hget hgw
      by_cases hs : s = []
      · subst hs
        have HS2 := Lib.hid (HSt.out.skip HGET.out)
        have hem : (bs []).toList.isEmpty = true := hem
        generalize bs [] = sb at hc hem
        go_wp2_with fail
        go_roundw
        case rel => exact ⟨k + 1, A, E, by omega, by go_num, HTr, HS2, HB⟩
        case measure => simp [intOf]; omega
      · have hem : (bs s).toList.isEmpty = false := by
          rw [hem]
          cases s
          · exact absurd rfl hs
          · rfl
        have HADD := Lib.hid (add_node wr g (.slice q1 len c1) (.slice q2 len c2) A E s k HTr.out hsl trivial)
        have HS := Lib.hid hs
        clear hs
        generalize hsb : bs s = sb at hc hem HADD
        clear hsb
        go_wp2_with fail
        refine HADD.out.mono ?_
        rintro e w4 ⟨hb4, hres⟩
        have HB4 := Lib.hid (HB.out.trans hb4)
        clear hb4
        rcases hres with ⟨m, hm, rfl, hq1, hq2, A', hT', hdom⟩ | ⟨c, hc0, rfl, hbad⟩
        · have HT' := Lib.hid hT'
          have HS' := Lib.hid (HSt.out.add (by rw [← hm]; exact HGET.out) (by intro e; exact HS.out (by rw [hm, e]; rfl)) hq1 hq2 hdom)
          clear hm hq1 hq2 hT' hdom
          go_wp2_with fail
          go_roundw
          case rel => exact ⟨k + 1, A', _, by omega, by go_num, HT', HS', HB4⟩
          case measure => simp [intOf]; omega
        · have HBAD := Lib.hid (HSt.out.bad HGET.out HS.out hbad)
          have hcb : (c != 0) = true := by simpa using hc0
          have HC0 := Lib.hid hc0
          clear hbad hc0
          go_wp2_with fail
          go_ret2
          exact ⟨HB3.out.trans (HB4.out.mono HG.out), .inl ⟨c, HC0.out, rfl, HBAD.out⟩⟩
    · have hke : k = len := by omega
      subst hke
      have hd : decide ((k : Int) < (k : Int)) = false := by simp
      have hzr := HB.out.size
      have hBk : BkK wr w.heap.size g ws ms := ⟨q1, c1, q2, c2, A, E, by rw [HX.out]; exact HSt.out, by rw [HX.out]; exact HC1'.out, by rw [HX2.out]; exact HC2'.out, fun wq hkq => ⟨by rw [HX.out, HX2.out]; exact HTr.out.keep (fun k h1 h2 => hkq k (Nat.le_trans HG.out h1) h2), ((HVW.out.below HB.out (Nat.le_refl _)).mono (by omega)).keep HG1.out hkq, ((HVM.out.below HB.out (Nat.le_refl _)).mono (by omega)).keep HG2.out hkq⟩⟩
      have HBK := Lib.hid hBk
      clear hBk
      go_wp2_with fail
      go_ret2
      exact ⟨HB3.out.trans (HB.out.mono HG.out), .inr ⟨g, rfl, HG.out, by omega, HBK.out⟩⟩
end Go.Proofs.YtidicajedckaoaaGreatDoor.Hf

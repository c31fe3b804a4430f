
/- A book in memory; the contracts of New over numbers and over strings. -/
import Derived.Test.YtmbfgejephgojaaGreatDoorHfO
import Derived.Deep.QuietTactic
import Derived.Test.YtmbfgejephgojaaGreatDoorIfO
namespace Go.Proofs.YtmbfgejephgojaaGreatDoor.Hf
open Go.RowKit Go.Proofs.YtmbfgejephgojaaGreatDoor.Oct Go.Proofs.YtmbfgejephgojaaGreatDoor.Bit
set_option linter.unusedVariables false
set_option linter.unusedSimpArgs false
set_option maxRecDepth 100000

/-- which words stand in a tree, of the first k -/
structure St (ws : List (List UInt8)) (k : Nat) (A : List Bool → Option (Nat × Nat)) (E : List Bool → Option Nat) : Prop where
  e1 : ∀ q i, E q = some i → i < k ∧ q ≠ [] ∧ ws[i]? = some (q.map dig)
  e2 : ∀ i s, i < k → ws[i]? = some s → s = [] ∨ ∃ q, s = q.map dig ∧ q ≠ [] ∧ E q = some i
  a1 : ∀ q, A q ≠ none → q = [] ∨ ∃ r, E r ≠ none ∧ q <+: r
  a2 : ∀ q r, E r ≠ none → q <+: r → A q ≠ none
  lf : ∀ q r, E q ≠ none → E r ≠ none → q <+: r → q = r
def Good (ws : List (List UInt8)) : Prop :=
  (∀ s ∈ ws, wordB s = true) ∧ ∀ (i j : Nat) (s t : List UInt8), ws[i]? = some s → ws[j]? = some t → i ≠ j → s ≠ [] → t ≠ [] → ¬ s <+: t
section
variable {ws : List (List UInt8)} {k : Nat} {A A' : List Bool → Option (Nat × Nat)} {E : List Bool → Option Nat}
theorem St.zero (ws : List (List UInt8)) (g : Nat) : St ws 0 (fun q => if q = [] then some (g, 2) else none) (fun _ => none) := by
  refine ⟨fun q i h => by simp at h, fun i s h => by omega, fun q h => ?_, fun q r h => by simp at h, fun q r h => by simp at h⟩
  by_cases hq : q = []
  · exact .inl hq
  · simp [hq] at h
theorem St.skip (h : St ws k A E) (hk : ws[k]? = some []) : St ws (k + 1) A E := by
  refine ⟨fun q i e => ?_, fun i s hi e => ?_, h.a1, h.a2, h.lf⟩
  · obtain ⟨h1, h2⟩ := h.e1 q i e
    exact ⟨by omega, h2⟩
  · by_cases hik : i = k
    · subst hik
      rw [hk] at e
      injection e with e
      exact .inl e.symm
    · exact h.e2 i s (by omega) e
theorem St.add {m : List Bool} (h : St ws k A E) (hk : ws[k]? = some (m.map dig)) (hm : m ≠ []) (hn : ∀ q, q <+: m → E q = none) (hx : ∀ x, A (m ++ [x]) = none) (hd : ∀ q, A' q ≠ none ↔ A q ≠ none ∨ q <+: m) :
    St ws (k + 1) A' (updE E m k) := by
  have hne : ∀ q, updE E m k q ≠ none ↔ E q ≠ none ∨ q = m := by
    intro q
    unfold updE
    by_cases hq : q = m
    · rw [if_pos hq]; simp [hq]
    · rw [if_neg hq]; simp [hq]
  refine ⟨fun q i e => ?_, fun i s hi e => ?_, fun q hq => ?_, fun q r hr hq => ?_, fun q r hq hr hqr => ?_⟩
  · unfold updE at e
    by_cases hq : q = m
    · rw [if_pos hq] at e
      injection e with e
      subst e
      subst hq
      exact ⟨by omega, hm, hk⟩
    · rw [if_neg hq] at e
      obtain ⟨h1, h2⟩ := h.e1 q i e
      exact ⟨by omega, h2⟩
  · by_cases hik : i = k
    · subst hik
      rw [hk] at e
      injection e with e
      exact .inr ⟨m, e.symm, hm, by unfold updE; rw [if_pos rfl]⟩
    · rcases h.e2 i s (by omega) e with e0 | ⟨q, h1, h2, h3⟩
      · exact .inl e0
      · refine .inr ⟨q, h1, h2, ?_⟩
        unfold updE
        rw [if_neg, h3]
        intro hqm
        subst hqm
        rw [hn q (List.prefix_refl _)] at h3
        cases h3
  · rcases (hd q).1 hq with hq | hq
    · rcases h.a1 q hq with e | ⟨r, hr, hqr⟩
      · exact .inl e
      · exact .inr ⟨r, (hne r).2 (.inl hr), hqr⟩
    · exact .inr ⟨m, (hne m).2 (.inr rfl), hq⟩
  · rcases (hne r).1 hr with hr | rfl
    · exact (hd q).2 (.inl (h.a2 q r hr hq))
    · exact (hd q).2 (.inr hq)
  · rcases (hne q).1 hq with hq' | rfl
    · rcases (hne r).1 hr with hr' | rfl
      · exact h.lf q r hq' hr' hqr
      · exact absurd (hn q hqr) hq'
    · rcases (hne r).1 hr with hr | rfl
      · obtain ⟨t, rfl⟩ := hqr
        rcases t with _ | ⟨x, t⟩
        · simp
        · exact absurd (hx x) (h.a2 (q ++ [x]) _ hr ⟨t, by simp⟩)
      · rfl
theorem map_prefix {a b : List Bool} (h : a <+: b) : a.map dig <+: b.map dig := by
  obtain ⟨t, rfl⟩ := h
  exact ⟨t.map dig, by simp⟩
theorem St.bad {s : List UInt8} (h : St ws k A E) (hk : ws[k]? = some s) (hs : s ≠ []) (hb : Bad A E s) : ¬ Good ws := by
  rintro ⟨hg1, hg2⟩
  have key : ∀ q, E q ≠ none → ∃ i, i < k ∧ q ≠ [] ∧ ws[i]? = some (q.map dig) := by
    intro q hq
    rcases he : E q with _ | i
    · exact absurd he hq
    · exact ⟨i, h.e1 q i he⟩
  rcases hb with hb | ⟨m, rfl, ⟨q, hqm, hq⟩ | ⟨x, hx⟩⟩
  · rw [hg1 s (List.mem_of_getElem? hk)] at hb
    cases hb
  · obtain ⟨i, hi, hq0, he⟩ := key q hq
    exact hg2 i k _ _ he hk (by omega) (by simpa using hq0) hs (map_prefix hqm)
  · rcases h.a1 _ hx with e | ⟨r, hr, hmr⟩
    · simp at e
    · obtain ⟨i, hi, hr0, he⟩ := key r hr
      exact hg2 k i _ _ hk he (by omega) hs (by simpa using hr0) (map_prefix (List.IsPrefix.trans ⟨[x], rfl⟩ hmr))
end
/-- a book in memory, all of it below C -/
def Bk (w : World) (C g : Nat) (ws : List (List UInt8)) (ms : List Value) : Prop :=
  ∃ pw cw pm cm A E, Tr w C g (.slice pw ws.length cw) (.slice pm ms.length cm) A E ∧ St ws ws.length A E ∧ VRow w C pw (strs ws) ∧ VRow w C pm ms ∧ ws.length ≤ cw ∧ ms.length ≤ cm
theorem Bk.below {w w' : World} {C g : Nat} {ws : List (List UInt8)} {ms : List Value} (h : Bk w C g ws ms) (hb : Below C w w') : Bk w' C g ws ms := by
  obtain ⟨pw, cw, pm, cm, A, E, h1, h2, h3, h4, h5⟩ := h
  exact ⟨pw, cw, pm, cm, A, E, h1.below hb, h2, h3.below hb (Nat.le_refl _), h4.below hb (Nat.le_refl _), h5⟩
theorem Tr.keep {w w' : World} {C g : Nat} {v0 v1 : Value} {A : List Bool → Option (Nat × Nat)} {E : List Bool → Option Nat} (h : Tr w C g v0 v1 A E) (hk : ∀ k, g ≤ k → k < C → w'.heap[k]? = w.heap[k]?) : Tr w' C g v0 v1 A E := by
  have hg : g < C := (h.lo _ _ _ h.root).2
  have key : ∀ b i, g ≤ b → b < C → w'.cell? ⟨b, i, none⟩ = w.cell? ⟨b, i, none⟩ := fun b i h1 h2 => World.cell?_of_block (hk b h1 h2)
  refine ⟨h.root, h.lo, fun p b o e => ?_, fun p b o e => ?_, fun p b o e => ?_, fun p b o e => ?_, fun p b o e i => ?_, h.o2, h.inj, h.up, h.en, ?_, ?_⟩
  · rw [key _ _ (h.lo p b o e).1 (h.lo p b o e).2]; exact h.n0 p b o e
  · rw [key _ _ (h.lo p b o e).1 (h.lo p b o e).2]; exact h.n1 p b o e
  · rw [key _ _ (h.lo p b o e).1 (h.lo p b o e).2]; exact h.ne p b o e
  · rw [key _ _ (h.lo p b o e).1 (h.lo p b o e).2]; exact h.ni p b o e
  · have := hk b (h.lo p b o e).1 (h.lo p b o e).2
    rw [← h.fz p b o e i]
    simp [World.frozen?, this]
  · rw [key _ _ (Nat.le_refl _) hg]; exact h.h0
  · rw [key _ _ (Nat.le_refl _) hg]; exact h.h1
theorem VRow.keep {w w' : World} {B C : Nat} {p : Option Addr} {vs : List Value} (h : VRow w C p vs) (hlo : ∀ a, p = some a → B ≤ a.block) (hk : ∀ k, B ≤ k → k < C → w'.heap[k]? = w.heap[k]?) : VRow w' C p vs := by
  intro hp
  obtain ⟨b, off, rfl, hlt, hc⟩ := h hp
  have hb : B ≤ b := hlo _ rfl
  exact ⟨b, off, rfl, hlt, fun i hi => (World.cell?_of_block (hk b hb hlt)).trans (hc i hi)⟩
/-- a book, and whatever leaves its blocks alone leaves it a book -/
def BkK (w : World) (B g : Nat) (ws : List (List UInt8)) (ms : List Value) : Prop :=
  ∃ pw cw pm cm A E, St ws ws.length A E ∧ ws.length ≤ cw ∧ ms.length ≤ cm ∧ ∀ w' : World, (∀ k, B ≤ k → k < w.heap.size → w'.heap[k]? = w.heap[k]?) →
    Tr w' w.heap.size g (.slice pw ws.length cw) (.slice pm ms.length cm) A E ∧ VRow w' w.heap.size pw (strs ws) ∧ VRow w' w.heap.size pm ms
theorem BkK.at {w : World} {B g : Nat} {ws : List (List UInt8)} {ms : List Value} (h : BkK w B g ws ms) (w' : World) (hk : ∀ k, B ≤ k → k < w.heap.size → w'.heap[k]? = w.heap[k]?) : Bk w' w.heap.size g ws ms := by
  obtain ⟨pw, cw, pm, cm, A, E, h1, h2, h3, h4⟩ := h
  obtain ⟨h5, h6, h7⟩ := h4 w' hk
  exact ⟨pw, cw, pm, cm, A, E, h5, h1, h6, h7, h2, h3⟩
theorem BkK.bk {w : World} {B g : Nat} {ws : List (List UInt8)} {ms : List Value} (h : BkK w B g ws ms) : Bk w w.heap.size g ws ms := h.at w (fun _ _ _ => rfl)
def NewP (w : World) (ws : List (List UInt8)) (ms : List Value) (e : Ending) (w' : World) : Prop :=
  Below w.heap.size w w' ∧ ((∃ c : Int, c ≠ 0 ∧ e = .returned (.tuple #[.pointer none, .int .i64 c]) ∧ ¬ Good ws) ∨
    ∃ g, e = .returned (.tuple #[.pointer (some ⟨g, 0, none⟩), .int .i64 0]) ∧ w.heap.size ≤ g ∧ g < w'.heap.size ∧ BkK w' w.heap.size g ws ms)
def bookC (u v : Value) : Array Value := #[u, v, .pointer none, .pointer none, .bool false, .int .i64 0]
theorem tr_new (w : World) (u v : Value) (T : TypeId) : Tr (w.alloc (.cells (bookC u v) T)) (w.heap.size + 1) w.heap.size u v (fun q => if q = [] then some (w.heap.size, 2) else none) (fun _ => none) := by
  have hc : ∀ i, (w.alloc (.cells (bookC u v) T)).cell? ⟨w.heap.size, i, none⟩ = (bookC u v)[i]? := by intro i; simp
  have key : ∀ (q : List Bool) (b o : Nat), (if q = [] then some (w.heap.size, 2) else none) = some (b, o) → q = [] ∧ b = w.heap.size ∧ o = 2 := by
    intro q b o h
    split at h
    · rename_i hq
      injection h with h
      injection h with h1 h2
      exact ⟨hq, h1.symm, h2.symm⟩
    · cases h
  refine ⟨rfl, fun q b o h => ?_, fun q b o h => ?_, fun q b o h => ?_, fun q b o h => ?_, fun q b o h => ?_, fun q b o h i => ?_, fun q o h => (key q _ o h).2.2, fun p q b o o' h h' => ?_, fun p x h => ?_, fun p h => by simp at h, ?_, ?_⟩
  · obtain ⟨_, rfl, _⟩ := key q b o h; omega
  · obtain ⟨rfl, rfl, rfl⟩ := key q b o h; rw [hc]; rfl
  · obtain ⟨rfl, rfl, rfl⟩ := key q b o h; rw [hc]; rfl
  · obtain ⟨rfl, rfl, rfl⟩ := key q b o h; rw [hc]; rfl
  · obtain ⟨rfl, rfl, rfl⟩ := key q b o h; rw [hc]; rfl
  · obtain ⟨rfl, rfl, rfl⟩ := key q b o h; simp
  · obtain ⟨rfl, _, _⟩ := key p b o h
    obtain ⟨rfl, _, _⟩ := key q b o' h'
    rfl
  · simp at h
  · rw [hc]; rfl
  · rw [hc]; rfl
theorem bs_empty (s : List UInt8) : (bs s).toList.isEmpty = s.isEmpty := by rw [bs_toList]
set_option maxHeartbeats 2000000 in
theorem newI_any (p q : Option Addr) (len cap cap2 : Nat) (ws : List (List UInt8)) (ms : List Value) (w : World) (hr : VRow w w.heap.size p (strs ws)) (hx : ws.length = len) (hnil : p = none → cap = 0)
    (hr2 : VRow w w.heap.size q ms) (hx2 : ms.length = len) (hnil2 : q = none → cap2 = 0) (hl : len ≤ 100000) (h1 : ∀ u ∈ ms, u.oneCell' = true) (hw : ∀ s ∈ ws, s.length ≤ 1000000) :
    Calls Tryz.prog 34 #[.slice p len cap, .slice q len cap2] w (NewP w ws ms) := by
  have HC1 := Lib.hid (cloneS_any p len cap (strs ws) w hr (by rw [strs_length]; exact hx) hnil hl (by exact strs_one))
  have HX := Lib.hid hx
  have HX2 := Lib.hid hx2
  have HR := Lib.hid hr
  have HR2 := Lib.hid hr2
  have HN2 := Lib.hid hnil2
  have H1 := Lib.hid h1
  have HW := Lib.hid hw
  clear hr hx hnil hr2 hx2 hnil2 h1 hw
  go_enter Tryz.func34, Tryz.ntmps34
  go_wp2_with fail
  refine HC1.out.mono ?_
  rintro e w1 ⟨hb1, q1, c1, rfl, hv1, hc1, hm1, hq1, hg1⟩
  rw [strs_length, HX.out] at hc1 ⊢
  have HV1 := Lib.hid hv1
  have HB1 := Lib.hid hb1
  have HC1' := Lib.hid hc1
  have HG1 := Lib.hid hg1
  have HZ01 := Lib.hid hb1.size
  clear hv1 hc1 hm1 hq1 hg1
  have HC2 := Lib.hid (cloneI_any q len cap2 ms w1 ((HR2.out.below hb1 (Nat.le_refl _)).mono hb1.size) HX2.out HN2.out hl H1.out)
  clear hb1
  go_wp2_with fail
  refine HC2.out.mono ?_
  rintro e w2 ⟨hb2, q2, c2, rfl, hv2, hc2, hm2, hq2, hg2⟩
  rw [HX2.out] at hc2 ⊢
  have HV2 := Lib.hid hv2
  have HC2' := Lib.hid hc2
  have hT := tr_new w2 (.slice q1 len c1) (.slice q2 len c2) 108
  have hb3 : Below w.heap.size w (w2.alloc (.cells (bookC (.slice q1 len c1) (.slice q2 len c2)) 108)) := (HB1.out.trans (hb2.mono HB1.out.size)).alloc (Nat.le_trans HB1.out.size hb2.size) _
  have hvw : VRow (w2.alloc (.cells (bookC (.slice q1 len c1) (.slice q2 len c2)) 108)) w2.heap.size q1 (strs ws) := ((HV1.out.below hb2 (Nat.le_refl _)).mono hb2.size).below ((Below.refl _ w2).alloc (Nat.le_refl _) _) (Nat.le_refl _)
  have hvm : VRow (w2.alloc (.cells (bookC (.slice q1 len c1) (.slice q2 len c2)) 108)) w2.heap.size q2 ms := HV2.out.below ((Below.refl _ w2).alloc (Nat.le_refl _) _) (Nat.le_refl _)
  unfold bookC at hT hb3 hvw hvm
  have HG := Lib.hid (Nat.le_trans HB1.out.size hb2.size)
  have HG2 := Lib.hid (show ∀ a, q2 = some a → w.heap.size ≤ a.block from fun a h => Nat.le_trans HZ01.out (hg2 a h))
  have HT := Lib.hid hT
  have HB3 := Lib.hid hb3
  have HVW := Lib.hid hvw
  have HVM := Lib.hid hvm
  clear hT hb3 hvw hvm hv2 hc2 hm2 hq2 hg2 hb2 HV1 HV2 HB1 HC1 HC2
  go_wp2_with fail
  obtain ⟨w3, hw3⟩ : ∃ w3, w3 = w2.alloc (.cells #[.slice q1 len c1, .slice q2 len c2, .pointer none, .pointer none, .bool false, .int .i64 0] 108) := ⟨_, rfl⟩
  have hz3 : w3.heap.size = w2.heap.size + 1 := by rw [hw3]; simp
  rw [← hw3] at HT HB3 HVW HVM ⊢
  rw [← hz3] at HT
  generalize hge : w2.heap.size = g at *
  have hgl : g < w3.heap.size := by omega
  clear hw3 hz3
  go_loopw [7, 8, 9, 23] (fun u s e i wr => ∃ (k : Nat) (A : List Bool → Option (Nat × Nat)) (E : List Bool → Option Nat), k ≤ len ∧ i = .int .i64 (k : Int) ∧ Hid (Tr wr wr.heap.size g (.slice q1 len c1) (.slice q2 len c2) A E) ∧ Hid (St ws k A E) ∧ Hid (Below g w3 wr)) (fun _ _ _ i _ => len - (intOf i).toNat)
  case atStart => exact ⟨0, _, _, by omega, rfl, HT, Lib.hid (St.zero ws g), Lib.hid (Below.refl _ _)⟩
  case round =>
    obtain ⟨k, A, E, hk, rfl, HTr, HSt, HB⟩ := hrel
    by_cases hlt : k < len
    · have hkz : k < ws.length := by rw [HX.out]; exact hlt
      obtain ⟨b, off, hp, hbl⟩ := HR.out.addr (by rw [strs_length]; omega)
      subst hp
      have hgw := HG.out
      have hc := (HB.out.cell (p := ⟨b, off + k, none⟩) (by show b < g; omega)).trans ((HB3.out.cell (p := ⟨b, off + k, none⟩) hbl).trans (HR.out.str k hkz))
      have hget : ws[k]? = some ws[k] := List.getElem?_eq_getElem hkz
      have hsl := HW.out ws[k] (List.getElem_mem hkz)
      have hem := bs_empty ws[k]
      generalize ws[k] = s at hc hget hsl hem
      have HGET := Lib.hid hget
      have hd : decide ((k : Int) < (len : Int)) = true := by simp; omega
      have i1 : (0 : Int) ≤ (k : Int) := by omega
      have i2 : (k : Int) < (len : Int) := by omega
      clear hget hgw
      by_cases hs : s = []
      · subst hs
        have HS2 := Lib.hid (HSt.out.skip HGET.out)
        have hem : (bs []).toList.isEmpty = true := hem
        generalize bs [] = sb at hc hem
        go_wp2_with fail
        go_roundw
        case rel => exact ⟨k + 1, A, E, by omega, by go_num, HTr, HS2, HB⟩
        case measure => simp [intOf]; omega
      · have hem : (bs s).toList.isEmpty = false := by
          rw [hem]
          cases s
          · exact absurd rfl hs
          · rfl
        have HADD := Lib.hid (add_node wr g (.slice q1 len c1) (.slice q2 len c2) A E s k HTr.out hsl trivial)
        have HS := Lib.hid hs
        clear hs
        generalize hsb : bs s = sb at hc hem HADD
        clear hsb
        go_wp2_with fail
        refine HADD.out.mono ?_
        rintro e w4 ⟨hb4, hres⟩
        have HB4 := Lib.hid (HB.out.trans hb4)
        clear hb4
        rcases hres with ⟨m, hm, rfl, hq1, hq2, A', hT', hdom⟩ | ⟨c, hc0, rfl, hbad⟩
        · have HT' := Lib.hid hT'
          have HS' := Lib.hid (HSt.out.add (by rw [← hm]; exact HGET.out) (by intro e; exact HS.out (by rw [hm, e]; rfl)) hq1 hq2 hdom)
          clear hm hq1 hq2 hT' hdom
          go_wp2_with fail
          go_roundw
          case rel => exact ⟨k + 1, A', _, by omega, by go_num, HT', HS', HB4⟩
          case measure => simp [intOf]; omega
        · have HBAD := Lib.hid (HSt.out.bad HGET.out HS.out hbad)
          have hcb : (c != 0) = true := by simpa using hc0
          have HC0 := Lib.hid hc0
          clear hbad hc0
          go_wp2_with fail
          go_ret2
          exact ⟨HB3.out.trans (HB4.out.mono HG.out), .inl ⟨c, HC0.out, rfl, HBAD.out⟩⟩
    · have hke : k = len := by omega
      subst hke
      have hd : decide ((k : Int) < (k : Int)) = false := by simp
      have hzr := HB.out.size
      have hBk : BkK wr w.heap.size g ws ms := ⟨q1, c1, q2, c2, A, E, by rw [HX.out]; exact HSt.out, by rw [HX.out]; exact HC1'.out, by rw [HX2.out]; exact HC2'.out, fun wq hkq => ⟨by rw [HX.out, HX2.out]; exact HTr.out.keep (fun k h1 h2 => hkq k (Nat.le_trans HG.out h1) h2), ((HVW.out.below HB.out (Nat.le_refl _)).mono (by omega)).keep HG1.out hkq, ((HVM.out.below HB.out (Nat.le_refl _)).mono (by omega)).keep HG2.out hkq⟩⟩
      have HBK := Lib.hid hBk
      clear hBk
      go_wp2_with fail
      go_ret2
      exact ⟨HB3.out.trans (HB.out.mono HG.out), .inr ⟨g, rfl, HG.out, by omega, HBK.out⟩⟩
end Go.Proofs.YtmbfgejephgojaaGreatDoor.Hf
/- The contracts of a book's Read, where the bits go on with one of its words. -/
namespace Go.Proofs.YtmbfgejephgojaaGreatDoor.Hf
open Go.RowKit Go.Proofs.YtmbfgejephgojaaGreatDoor.Oct Go.Proofs.YtmbfgejephgojaaGreatDoor.Bit
set_option linter.unusedVariables false
set_option linter.unusedSimpArgs false
set_option maxRecDepth 100000

theorem bit_read {low : Bool} {xs : List UInt8} {a : Nat} {b : Bool} {rest : List Bool} (h : (bitsOf low xs).drop a = b :: rest) :
    readV 1 low xs a = (b.toNat : Int) ∧ readE 1 (8 * xs.length) a = 0 ∧ readA 1 (8 * xs.length) a = a + 1 := by
  have hl := congrArg List.length h
  rw [List.length_drop, bitsOf_length, List.length_cons] at hl
  have ho : okR 1 (8 * xs.length) a = true := by unfold okR cntB; simp; omega
  refine ⟨?_, ?_, ?_⟩
  · unfold readV
    rw [ho, if_pos rfl]
    show ((nextV low xs a 1 : Nat) : Int) = _
    unfold nextV peekV
    rw [h, List.cons_append]
    show ((numE low [b] : Nat) : Int) = _
    cases low <;> simp [numE, num]
  · unfold readE; rw [ho]; rfl
  · unfold readA; rw [ho]; rfl
/-- where a reader stands -/
def rdAt (gr : Nat) (W : World) : Nat :=
  match W.cell? ⟨gr, 1, none⟩ with
  | some (.int _ z) => z.toNat
  | _ => 0
theorem rdAt_of {W : World} {gr : Nat} {p : Option Addr} {cap : Nat} {xs : List UInt8} {a : Nat} {low : Bool} (h : Rd W gr p cap xs a low) : rdAt gr W = a := by
  unfold rdAt
  rw [h.c1]
  simp
def ReadB (w : World) (gr : Nat) (p : Option Addr) (cap : Nat) (xs : List UInt8) (a : Nat) (low : Bool) (v : Value) (m : List Bool) (e : Ending) (w' : World) : Prop :=
  e = .returned (.tuple #[v, .int .i64 0]) ∧ Rd w' gr p cap xs (a + m.length) low ∧ Only (· = gr) w w' ∧ w'.heap.size = w.heap.size
theorem vrow_get {w : World} {C : Nat} {p : Option Addr} {vs : List Value} {i : Nat} {v : Value} (h : VRow w C p vs) (hv : vs[i]? = some v) : ∃ b off, p = some ⟨b, off, none⟩ ∧ b < C ∧ w.cell? ⟨b, off + i, none⟩ = some v := by
  obtain ⟨hi, he⟩ := List.getElem?_eq_some_iff.1 hv
  obtain ⟨b, off, hp, hb, hc⟩ := h (by omega)
  exact ⟨b, off, hp, hb, by rw [hc i hi, he]⟩
set_option maxHeartbeats 2000000 in
theorem readI_any (w : World) (C g : Nat) (ws : List (List UInt8)) (ms : List Value) (gr : Nat) (p : Option Addr) (cap : Nat) (xs : List UInt8) (a : Nat) (low : Bool) (i : Nat) (m rest : List Bool) (v : Value)
    (hB : Bk w C g ws ms) (hC : C ≤ gr) (hR : Rd w gr p cap xs a low) (hi : ws[i]? = some (m.map dig)) (hm : m ≠ []) (hv : ms[i]? = some v) (hd : (bitsOf low xs).drop a = m ++ rest) :
    Calls Tryz.prog 92 #[.pointer (some ⟨g, 0, none⟩), .pointer (some ⟨gr, 0, none⟩)] w (ReadB w gr p cap xs a low v m) := by
  obtain ⟨pw, cw, pm, cm, A, E, hT, hS, hvw, hvm, hlw, hlm⟩ := hB
  have hEm : E m = some i := by
    obtain ⟨hil, _⟩ := List.getElem?_eq_some_iff.1 hi
    rcases hS.e2 i _ hil hi with e | ⟨q, hq, _, hE⟩
    · exact absurd (by simpa using e) hm
    · have hinj : ∀ a b : Bool, dig a = dig b → a = b := by intro a b; cases a <;> cases b <;> simp [dig]
      have : m = q := (List.map_inj_right (f := dig) (fun a b => hinj a b)).1 hq
      rw [this]; exact hE
  have hgw := hR.lt
  have hApre : ∀ j, A (m.take j) ≠ none := fun j => hS.a2 _ m (by rw [hEm]; simp) (List.take_prefix _ _)
  have hEpre : ∀ j, j < m.length → E (m.take j) = none := by
    intro j hj
    rcases he : E (m.take j) with _ | k
    · rfl
    · have := hS.lf (m.take j) m (by rw [he]; simp) (by rw [hEm]; simp) (List.take_prefix _ _)
      have := congrArg List.length this
      rw [List.length_take] at this
      omega
  have HTw := Lib.hid hT
  have HAP := Lib.hid hApre
  have HEP := Lib.hid hEpre
  have HEM := Lib.hid hEm
  have HR0 := Lib.hid hR
  have HD := Lib.hid hd
  obtain ⟨bm, om, hpm, hbm, hcm⟩ := vrow_get hvm hv
  subst hpm
  have hil : i < ms.length := (List.getElem?_eq_some_iff.1 hv).1
  have HCM := Lib.hid hcm
  have HIL := Lib.hid hil
  clear hT hS hvw hvm hApre hEpre hEm hR hd hi hv hm hcm
  go_enter Tryz.func92, Tryz.ntmps92
  go_wp2_with fail
  go_loopw [7, 8, 9] (fun q u s wr => ∃ (j b o : Nat), j ≤ m.length ∧ A (m.take j) = some (b, o) ∧ q = .pointer (some ⟨b, o, none⟩) ∧ Hid (Rd wr gr p cap xs (a + j) low) ∧ Hid (Only (· = gr) w wr) ∧ Hid (wr.heap.size = w.heap.size)) (fun _ _ _ wr => a + m.length - rdAt gr wr)
  case atStart => exact ⟨0, g, 2, by omega, HTw.out.root, rfl, HR0, Lib.hid (Only.refl _ _), Lib.hid rfl⟩
  case round =>
    obtain ⟨j, b, o, hj, hA, rfl, HR, HO, HZ⟩ := hrel
    have hBel := HO.out.below (B := C) (by omega) (fun k hk e => by omega)
    have HT := Lib.hid (HTw.out.below hBel)
    have HBEL := Lib.hid hBel
    have hbC := (HT.out.lo _ b o hA).2
    have hne := HT.out.ne _ b o hA
    clear hBel
    by_cases hlt : j < m.length
    · rw [HEP.out j hlt] at hne
      have hne : wr.cell? ⟨b, o + 2, none⟩ = some (.bool false) := hne
      obtain ⟨x, hx⟩ : ∃ x, x = m[j] := ⟨_, rfl⟩
      have htk : m.take (j + 1) = m.take j ++ [x] := by rw [hx, List.take_succ_eq_append_getElem hlt]
      have hdr : (bitsOf low xs).drop (a + j) = x :: (m.drop (j + 1) ++ rest) := by
        rw [← List.drop_drop, HD.out, List.drop_append_of_le_length (by omega), List.drop_eq_getElem_cons hlt, hx]
        rfl
      obtain ⟨hv1, he1, ha1⟩ := bit_read hdr
      have HV := Lib.hid hv1
      have HE := Lib.hid he1
      have HA1 := Lib.hid ha1
      have HRD := Lib.hid (read_any gr p cap xs (a + j) low wr 1 HR.out)
      rcases hk : A (m.take (j + 1)) with _ | ⟨b2, o2⟩
      · exact absurd hk (HAP.out (j + 1))
      · have HK := Lib.hid hk
        rw [htk] at hk
        clear hx hdr hv1 he1 ha1 htk
        cases x
        · have hn : wr.cell? ⟨b, o, none⟩ = some (.pointer (some ⟨b2, o2, none⟩)) := by
            have := HT.out.n0 (m.take j) b o hA
            rw [hk] at this
            exact this
          go_wp2_with fail
          refine HRD.out.mono ?_
          rintro e w4 ⟨rfl, hr4, ho4, hz4⟩
          rw [HV.out, HE.out]
          have HR4 := Lib.hid hr4
          have HO4 := Lib.hid (HO.out.trans ho4)
          have HZ4 := Lib.hid (hz4.trans HZ.out)
          have hn4 : w4.cell? ⟨b, o, none⟩ = some (.pointer (some ⟨b2, o2, none⟩)) := by
            rw [← hn]
            exact (Only.below (B := C) ho4 (by have := HZ.out; omega) (fun k hk e => by omega)).cell (p := ⟨b, o, none⟩) hbC
          clear hr4 ho4 hz4 hn
          go_wp2_with fail
          go_roundw
          case rel => exact ⟨j + 1, b2, o2, by omega, HK.out, rfl, Lib.hid (by have := HR4.out; rwa [HA1.out, Nat.add_assoc] at this), HO4, HZ4⟩
          case measure => rw [rdAt_of HR.out, rdAt_of HR4.out, HA1.out]; omega
        · have hn : wr.cell? ⟨b, o + 1, none⟩ = some (.pointer (some ⟨b2, o2, none⟩)) := by
            have := HT.out.n1 (m.take j) b o hA
            rw [hk] at this
            exact this
          go_wp2_with fail
          refine HRD.out.mono ?_
          rintro e w4 ⟨rfl, hr4, ho4, hz4⟩
          rw [HV.out, HE.out]
          have HR4 := Lib.hid hr4
          have HO4 := Lib.hid (HO.out.trans ho4)
          have HZ4 := Lib.hid (hz4.trans HZ.out)
          have hn4 : w4.cell? ⟨b, o + 1, none⟩ = some (.pointer (some ⟨b2, o2, none⟩)) := by
            rw [← hn]
            exact (Only.below (B := C) ho4 (by have := HZ.out; omega) (fun k hk e => by omega)).cell (p := ⟨b, o + 1, none⟩) hbC
          clear hr4 ho4 hz4 hn
          go_wp2_with fail
          go_roundw
          case rel => exact ⟨j + 1, b2, o2, by omega, HK.out, rfl, Lib.hid (by have := HR4.out; rwa [HA1.out, Nat.add_assoc] at this), HO4, HZ4⟩
          case measure => rw [rdAt_of HR.out, rdAt_of HR4.out, HA1.out]; omega
    · have hje : j = m.length := by omega
      subst hje
      rw [List.take_length] at hA hne
      rw [HEM.out] at hne
      have hne : wr.cell? ⟨b, o + 2, none⟩ = some (.bool true) := hne
      have hni := HT.out.ni _ b o hA
      rw [HEM.out] at hni
      have hni : wr.cell? ⟨b, o + 3, none⟩ = some (.int .i64 (i : Int)) := hni
      have h1 := HT.out.h1
      have hcm := (HBEL.out.cell (p := ⟨bm, om + i, none⟩) hbm).trans HCM.out
      have j0 : (0 : Int) ≤ (i : Int) := by omega
      have j1 : (i : Int) < (ms.length : Int) := by have := HIL.out; omega
      generalize ms.length = ml at h1 j1
      go_wp2_with fail
      go_quiet (fail)
      go_wp2_with fail
      go_ret2
      exact ⟨rfl, HR.out.drawn ⟨_, rfl⟩, HO.out.trans (Only.drawn _ ⟨_, rfl⟩), HZ.out⟩
end Go.Proofs.YtmbfgejephgojaaGreatDoor.Hf
/- The contract of a book's Read over numbers, whatever the bits are. -/
namespace Go.Proofs.YtmbfgejephgojaaGreatDoor.Hf
open Go.RowKit Go.Proofs.YtmbfgejephgojaaGreatDoor.Oct Go.Proofs.YtmbfgejephgojaaGreatDoor.Bit Go.Proofs.YtmbfgejephgojaaGreatDoor.Inf
set_option linter.unusedVariables false
set_option linter.unusedSimpArgs false
set_option maxRecDepth 100000

def wordsU (W : List (List Bool)) : List (List UInt8) := W.map fun m => m.map dig
theorem wordsU_length (W : List (List Bool)) : (wordsU W).length = W.length := by simp [wordsU]
theorem dig_inj {a b : List Bool} (h : a.map dig = b.map dig) : a = b := by
  have hinj : ∀ a b : Bool, dig a = dig b → a = b := by intro a b; cases a <;> cases b <;> simp [dig]
  exact (List.map_inj_right (f := dig) (fun a b => hinj a b)).1 h
theorem wordsU_get {W : List (List Bool)} {i : Nat} {m : List Bool} : (wordsU W)[i]? = some (m.map dig) ↔ W[i]? = some m := by
  unfold wordsU
  rw [List.getElem?_map]
  cases W[i]? with
  | none => simp
  | some x =>
    simp only [Option.map_some, Option.some.injEq]
    exact ⟨dig_inj, fun e => by rw [e]⟩
section
variable {W : List (List Bool)} {A : List Bool → Option (Nat × Nat)} {E : List Bool → Option Nat}
theorem St.mem (h : St (wordsU W) (wordsU W).length A E) {q : List Bool} (hq : q ≠ []) {i : Nat} : E q = some i ↔ W[i]? = some q := by
  constructor
  · intro e
    exact wordsU_get.1 (h.e1 q i e).2.2
  · intro e
    have hi : i < W.length := (List.getElem?_eq_some_iff.1 e).1
    rcases h.e2 i _ (by rw [wordsU_length]; exact hi) (wordsU_get.2 e) with e' | ⟨r, hr, _, hE⟩
    · exact absurd (by simpa using e') hq
    · rw [dig_inj hr]; exact hE
theorem look_ends (h : St (wordsU W) (wordsU W).length A E) {p t : List Bool} {x : Bool} {i : Nat} (he : E (p ++ [x]) = some i) : lookW W p (x :: t) = .ok (i, p.length + 1) := by
  have hm := (h.mem (by simp)).1 he
  have hmem : p ++ [x] ∈ W := List.mem_of_getElem? hm
  have hl := List.idxOf_lt_length_of_mem hmem
  have hj := (h.mem (q := p ++ [x]) (by simp) (i := W.idxOf (p ++ [x]))).2 (by rw [List.getElem?_eq_getElem hl, List.getElem_idxOf])
  rw [he] at hj
  injection hj with hj
  rw [lookW, if_pos hmem, ← hj]
theorem look_none (h : St (wordsU W) (wordsU W).length A E) {p t : List Bool} {x : Bool} (ha : A (p ++ [x]) = none) : lookW W p (x :: t) = .error 6 := by
  have key : ∀ r, r ∈ W → r ≠ [] → ¬ p ++ [x] <+: r := by
    intro r hr hne hp
    obtain ⟨j, hj⟩ := List.mem_iff_getElem?.1 hr
    have := (h.mem hne).2 hj
    exact h.a2 _ r (by rw [this]; simp) hp ha
  rw [lookW, if_neg fun hm => key _ hm (by simp) (List.prefix_refl _), if_neg]
  intro hany
  obtain ⟨r, hr, hb⟩ := List.any_eq_true.1 hany
  rw [Bool.and_eq_true] at hb
  exact key r hr (by have := hb.1; intro e; rw [e] at this; simp at this) (List.isPrefixOf_iff_prefix.1 hb.2)
theorem look_on (h : St (wordsU W) (wordsU W).length A E) {p t : List Bool} {x : Bool} (ha : A (p ++ [x]) ≠ none) (he : E (p ++ [x]) = none) : lookW W p (x :: t) = lookW W (p ++ [x]) t := by
  have hm : p ++ [x] ∉ W := by
    intro hm
    obtain ⟨j, hj⟩ := List.mem_iff_getElem?.1 hm
    have := (h.mem (by simp)).2 hj
    rw [he] at this
    cases this
  rw [lookW, if_neg hm, if_pos]
  rcases h.a1 _ ha with e | ⟨r, hr, hp⟩
  · exact absurd e (by simp)
  · rcases hk : E r with _ | i
    · exact absurd hk hr
    · have hne : r ≠ [] := (h.e1 r i hk).2.1
      refine List.any_eq_true.2 ⟨r, List.mem_of_getElem? ((h.mem hne).1 hk), ?_⟩
      rw [Bool.and_eq_true]
      exact ⟨by simpa using hne, List.isPrefixOf_iff_prefix.2 hp⟩
end
theorem bit_none {low : Bool} {xs : List UInt8} {a : Nat} (h : (bitsOf low xs).drop a = []) :
    readV 1 low xs a = 0 ∧ readE 1 (8 * xs.length) a = 2 ∧ readA 1 (8 * xs.length) a = a := by
  have hl := congrArg List.length h
  rw [List.length_drop, bitsOf_length, List.length_nil] at hl
  have ho : okR 1 (8 * xs.length) a = false := by unfold okR cntB; simp; omega
  refine ⟨?_, ?_, ?_⟩
  · unfold readV; rw [ho]; rfl
  · unfold readE; rw [ho]; rfl
  · unfold readA; rw [ho]; rfl
def ReadL (w : World) (gr : Nat) (p : Option Addr) (cap : Nat) (xs : List UInt8) (a : Nat) (low : Bool) (W : List (List Bool)) (ms : List Value) (z : Value) (e : Ending) (w' : World) : Prop :=
  ((∃ i k v, lookW W [] ((bitsOf low xs).drop a) = .ok (i, k) ∧ ms[i]? = some v ∧ e = .returned (.tuple #[v, .int .i64 0]) ∧ Rd w' gr p cap xs (a + k) low) ∨
    ∃ c b, lookW W [] ((bitsOf low xs).drop a) = .error c ∧ e = .returned (.tuple #[z, .int .i64 (c : Int)]) ∧ Rd w' gr p cap xs b low) ∧ Only (· = gr) w w' ∧ w'.heap.size = w.heap.size
/-- what is known of the bits read so far -/
def Known (W : List (List Bool)) (E : List Bool → Option Nat) (l : List Bool) (j : Nat) : Prop :=
  j ≤ l.length ∧ (∀ i, E (l.take j) = some i → lookW W [] l = .ok (i, j)) ∧ (E (l.take j) = none → lookW W [] l = lookW W (l.take j) (l.drop j))
theorem Known.on {W : List (List Bool)} {A : List Bool → Option (Nat × Nat)} {E : List Bool → Option Nat} (h : St (wordsU W) (wordsU W).length A E) {l t : List Bool} {j : Nat} {x : Bool} (hk : Known W E l j) (he : E (l.take j) = none) (hd : l.drop j = x :: t)
    (ha : A (l.take j ++ [x]) ≠ none) : l.take (j + 1) = l.take j ++ [x] ∧ Known W E l (j + 1) := by
  have hj : j < l.length := by
    have := congrArg List.length hd
    simp at this
    omega
  have hx : l[j] = x ∧ l.drop (j + 1) = t := by
    rw [List.drop_eq_getElem_cons hj] at hd
    injection hd with h1 h2
    exact ⟨h1, h2⟩
  have ht : l.take (j + 1) = l.take j ++ [x] := by rw [List.take_succ_eq_append_getElem hj, hx.1]
  have hs := hk.2.2 he
  have hlen : (l.take j).length = j := by rw [List.length_take]; omega
  refine ⟨ht, by omega, fun i hi => ?_, fun hn => ?_⟩
  · rw [hs, hd, look_ends h (by rw [← ht]; exact hi), hlen]
  · rw [hs, hd, look_on h ha (by rw [← ht]; exact hn), ht, hx.2]
/-- a book in the blocks from B up to C: it stands whatever else turns -/
def BoU (w : World) (B C g : Nat) (ws : List (List UInt8)) (ms : List Value) : Prop :=
  (C ≤ w.heap.size ∧ B ≤ g) ∧ ∃ pw cw pm cm A E, St ws ws.length A E ∧ ws.length ≤ cw ∧ ms.length ≤ cm ∧ ∀ w' : World, (∀ k, B ≤ k → k < C → w'.heap[k]? = w.heap[k]?) →
    Tr w' C g (.slice pw ws.length cw) (.slice pm ms.length cm) A E ∧ VRow w' C pw (strs ws) ∧ VRow w' C pm ms
theorem BkK.boU {w : World} {B g : Nat} {ws : List (List UInt8)} {ms : List Value} (h : BkK w B g ws ms) (hg : B ≤ g) : BoU w B w.heap.size g ws ms := ⟨⟨Nat.le_refl _, hg⟩, h⟩
theorem BoU.same {w w' : World} {B C g : Nat} {ws : List (List UInt8)} {ms : List Value} (h : BoU w B C g ws ms) (hz : w.heap.size ≤ w'.heap.size) (hs : ∀ k, B ≤ k → k < C → w'.heap[k]? = w.heap[k]?) : BoU w' B C g ws ms := by
  obtain ⟨h0, pw, cw, pm, cm, A, E, h1, h2, h3, h4⟩ := h
  exact ⟨⟨Nat.le_trans h0.1 hz, h0.2⟩, pw, cw, pm, cm, A, E, h1, h2, h3, fun w2 hk => h4 w2 fun k a b => (hk k a b).trans (hs k a b)⟩
set_option maxHeartbeats 4000000 in
theorem readI_look (w : World) (B C g : Nat) (W : List (List Bool)) (ms : List Value) (gr : Nat) (p : Option Addr) (cap : Nat) (xs : List UInt8) (a : Nat) (low : Bool)
    (hB : BoU w B C g (wordsU W) ms) (hC : gr < B) (hR : Rd w gr p cap xs a low) (hlen : ms.length = W.length) :
    Calls Tryz.prog 92 #[.pointer (some ⟨g, 0, none⟩), .pointer (some ⟨gr, 0, none⟩)] w (ReadL w gr p cap xs a low W ms (.int .i64 0)) := by
  obtain ⟨⟨hCz, hBg⟩, pw, cw, pm, cm, A, E, hS, hlw, hlm, hAll⟩ := hB
  obtain ⟨hT, hvw, hvm⟩ := hAll w (fun _ _ _ => rfl)
  have HALL : Hid (∀ wr, Only (· = gr) w wr → Tr wr C g (.slice pw (wordsU W).length cw) (.slice pm ms.length cm) A E ∧ VRow wr C pw (strs (wordsU W)) ∧ VRow wr C pm ms) := Lib.hid fun wr ho => hAll wr fun k h1 h2 => ho.2.2.2.2 k (by omega) (fun e => by omega)
  have hgw := hR.lt
  have HTw := Lib.hid hT
  have HS := Lib.hid hS
  have HR0 := Lib.hid hR
  have HVM := Lib.hid hvm
  have HL := Lib.hid hlen
  obtain ⟨l, hl⟩ : ∃ l, l = (bitsOf low xs).drop a := ⟨_, rfl⟩
  have HBL := Lib.hid hl
  have HK0 : Hid (Known W E l 0) := Lib.hid ⟨by omega, fun i hi => absurd rfl ((hS.e1 _ i hi).2.1), fun _ => rfl⟩
  clear hT hS hvw hvm hR hlen hl hAll
  go_enter Tryz.func92, Tryz.ntmps92
  go_wp2_with fail
  go_loopw [7, 8, 9] (fun q u s wr => ∃ (j b o : Nat), A (l.take j) = some (b, o) ∧ q = .pointer (some ⟨b, o, none⟩) ∧ Hid (Known W E l j) ∧ Hid (Rd wr gr p cap xs (a + j) low) ∧ Hid (Only (· = gr) w wr) ∧ Hid (wr.heap.size = w.heap.size)) (fun _ _ _ wr => a + l.length + 1 - rdAt gr wr)
  case atStart => exact ⟨0, g, 2, HTw.out.root, rfl, HK0, HR0, Lib.hid (Only.refl _ _), Lib.hid rfl⟩
  case round =>
    obtain ⟨j, b, o, hA, rfl, HK, HR, HO, HZ⟩ := hrel
    have HT := Lib.hid (HALL.out wr HO.out).1
    have HVMr := Lib.hid (HALL.out wr HO.out).2.2
    have hbC := (HT.out.lo _ b o hA).2
    have hgb := (HT.out.lo _ b o hA).1
    have hne := HT.out.ne _ b o hA
    cases hE : E (l.take j) with
    | some i =>
      have HEQ := Lib.hid (HK.out.2.1 i hE)
      have hil : i < ms.length := by
        have := (HS.out.e1 _ i hE).1
        rw [wordsU_length, ← HL.out] at this
        exact this
      obtain ⟨v, hv⟩ : ∃ v, ms[i]? = some v := ⟨_, List.getElem?_eq_getElem hil⟩
      obtain ⟨bm, om, hpm, hbm, hcm⟩ := vrow_get HVMr.out hv
      have HVV := Lib.hid hv
      subst hpm
      rw [hE] at hne
      have hne : wr.cell? ⟨b, o + 2, none⟩ = some (.bool true) := hne
      have hni := HT.out.ni _ b o hA
      rw [hE] at hni
      have hni : wr.cell? ⟨b, o + 3, none⟩ = some (.int .i64 (i : Int)) := hni
      have h1 := HT.out.h1
      have j0 : (0 : Int) ≤ (i : Int) := by omega
      have j1 : (i : Int) < (ms.length : Int) := by omega
      clear hE hv
      generalize ms.length = ml at h1 j1
      go_wp2_with fail
      go_quiet (fail)
      go_wp2_with fail
      go_ret2
      exact ⟨.inl ⟨i, j, v, HBL.out ▸ HEQ.out, HVV.out, rfl, HR.out.drawn ⟨_, rfl⟩⟩, HO.out.trans (Only.drawn _ ⟨_, rfl⟩), HZ.out⟩
    | none =>
      rw [hE] at hne
      have hne : wr.cell? ⟨b, o + 2, none⟩ = some (.bool false) := hne
      have HEN := Lib.hid hE
      have HRD := Lib.hid (read_any gr p cap xs (a + j) low wr 1 HR.out)
      have hdr : (bitsOf low xs).drop (a + j) = l.drop j := by rw [← List.drop_drop, ← HBL.out]
      rcases hd : l.drop j with _ | ⟨x, t⟩
      · obtain ⟨hv1, he1, ha1⟩ := bit_none (hdr.trans hd)
        have HEQ : Hid (lookW W [] l = .error 2) := Lib.hid (by rw [HK.out.2.2 hE, hd]; rfl)
        have HV := Lib.hid hv1
        have HE := Lib.hid he1
        clear hE hdr hd hv1 he1 ha1
        go_wp2_with fail
        refine HRD.out.mono ?_
        rintro e w4 ⟨rfl, hr4, ho4, hz4⟩
        rw [HV.out, HE.out]
        have HR4 := Lib.hid hr4
        have HO4 := Lib.hid (HO.out.trans ho4)
        have HZ4 := Lib.hid (hz4.trans HZ.out)
        clear hr4 ho4 hz4
        go_wp2_with fail
        go_ret2
        exact ⟨.inr ⟨2, _, HBL.out ▸ HEQ.out, rfl, HR4.out⟩, HO4.out, HZ4.out⟩
      · obtain ⟨hv1, he1, ha1⟩ := bit_read (hdr.trans hd)
        have HV := Lib.hid hv1
        have HE := Lib.hid he1
        have HA1 := Lib.hid ha1
        rcases hk : A (l.take j ++ [x]) with _ | ⟨b2, o2⟩
        · have HEQ : Hid (lookW W [] l = .error 6) := Lib.hid (by rw [HK.out.2.2 hE, hd]; exact look_none HS.out hk)
          have HKN := Lib.hid hk
          clear hE hdr hd hv1 he1 ha1
          cases x
          · have hn : wr.cell? ⟨b, o, none⟩ = some (.pointer none) := by
              have := HT.out.n0 _ b o hA
              rw [hk] at this
              exact this
            clear hk
            go_wp2_with fail
            refine HRD.out.mono ?_
            rintro e w4 ⟨rfl, hr4, ho4, hz4⟩
            rw [HV.out, HE.out]
            have HR4 := Lib.hid hr4
            have HO4 := Lib.hid (HO.out.trans ho4)
            have HZ4 := Lib.hid (hz4.trans HZ.out)
            have hn4 : w4.cell? ⟨b, o, none⟩ = some (.pointer none) := by
              rw [← hn]
              exact World.cell?_of_block (ho4.2.2.2.2 b (by have := HZ.out; omega) (by omega))
            clear hr4 ho4 hz4 hn
            go_wp2_with fail
            go_ret2
            exact ⟨.inr ⟨6, _, HBL.out ▸ HEQ.out, rfl, HR4.out⟩, HO4.out, HZ4.out⟩
          · have hn : wr.cell? ⟨b, o + 1, none⟩ = some (.pointer none) := by
              have := HT.out.n1 _ b o hA
              rw [hk] at this
              exact this
            clear hk
            go_wp2_with fail
            refine HRD.out.mono ?_
            rintro e w4 ⟨rfl, hr4, ho4, hz4⟩
            rw [HV.out, HE.out]
            have HR4 := Lib.hid hr4
            have HO4 := Lib.hid (HO.out.trans ho4)
            have HZ4 := Lib.hid (hz4.trans HZ.out)
            have hn4 : w4.cell? ⟨b, o + 1, none⟩ = some (.pointer none) := by
              rw [← hn]
              exact World.cell?_of_block (ho4.2.2.2.2 b (by have := HZ.out; omega) (by omega))
            clear hr4 ho4 hz4 hn
            go_wp2_with fail
            go_ret2
            exact ⟨.inr ⟨6, _, HBL.out ▸ HEQ.out, rfl, HR4.out⟩, HO4.out, HZ4.out⟩
        · obtain ⟨htk, hkn⟩ := HK.out.on HS.out hE hd (by rw [hk]; simp)
          have HK2 : Hid (A (l.take (j + 1)) = some (b2, o2)) := Lib.hid (by rw [htk]; exact hk)
          have HKN := Lib.hid hkn
          clear hE hdr hd hv1 he1 ha1 htk hkn
          cases x
          · have hn : wr.cell? ⟨b, o, none⟩ = some (.pointer (some ⟨b2, o2, none⟩)) := by
              have := HT.out.n0 _ b o hA
              rw [hk] at this
              exact this
            clear hk
            go_wp2_with fail
            refine HRD.out.mono ?_
            rintro e w4 ⟨rfl, hr4, ho4, hz4⟩
            rw [HV.out, HE.out]
            have HR4 := Lib.hid hr4
            have HO4 := Lib.hid (HO.out.trans ho4)
            have HZ4 := Lib.hid (hz4.trans HZ.out)
            have hn4 : w4.cell? ⟨b, o, none⟩ = some (.pointer (some ⟨b2, o2, none⟩)) := by
              rw [← hn]
              exact World.cell?_of_block (ho4.2.2.2.2 b (by have := HZ.out; omega) (by omega))
            clear hr4 ho4 hz4 hn
            go_wp2_with fail
            go_roundw
            case rel => exact ⟨j + 1, b2, o2, HK2.out, rfl, HKN, Lib.hid (by have := HR4.out; rwa [HA1.out, Nat.add_assoc] at this), HO4, HZ4⟩
            case measure => rw [rdAt_of HR.out, rdAt_of HR4.out, HA1.out]; have := HK.out.1; omega
          · have hn : wr.cell? ⟨b, o + 1, none⟩ = some (.pointer (some ⟨b2, o2, none⟩)) := by
              have := HT.out.n1 _ b o hA
              rw [hk] at this
              exact this
            clear hk
            go_wp2_with fail
            refine HRD.out.mono ?_
            rintro e w4 ⟨rfl, hr4, ho4, hz4⟩
            rw [HV.out, HE.out]
            have HR4 := Lib.hid hr4
            have HO4 := Lib.hid (HO.out.trans ho4)
            have HZ4 := Lib.hid (hz4.trans HZ.out)
            have hn4 : w4.cell? ⟨b, o + 1, none⟩ = some (.pointer (some ⟨b2, o2, none⟩)) := by
              rw [← hn]
              exact World.cell?_of_block (ho4.2.2.2.2 b (by have := HZ.out; omega) (by omega))
            clear hr4 ho4 hz4 hn
            go_wp2_with fail
            go_roundw
            case rel => exact ⟨j + 1, b2, o2, HK2.out, rfl, HKN, Lib.hid (by have := HR4.out; rwa [HA1.out, Nat.add_assoc] at this), HO4, HZ4⟩
            case measure => rw [rdAt_of HR.out, rdAt_of HR4.out, HA1.out]; have := HK.out.1; omega
end Go.Proofs.YtmbfgejephgojaaGreatDoor.Hf

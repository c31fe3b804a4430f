/- HfP, HfQ, BitW, BitX: merged. -/
import Derived.Laws.BitsAllLaws
import Derived.Laws.Strings
import Derived.Laws.BytesArg
import Derived.Test.YtjafcjnkefioeaaRows
import Derived.WalkKit
import Derived.ProofKit
import Derived.WalkLawsBesides
import Derived.Lib.Hide
import Derived.Deep.QuietTactic
import Derived.BigQuiet
import Derived.Outline
import Derived.Laws.NewBlocks
import Derived.Laws.CopyOwn
import Derived.Laws.Concat
import Derived.Laws.Strings2
import Derived.WalkSpells
import Derived.Laws.AppendOwnNone
import Derived.OpenShut
import Derived.Lib.SliceRun
import Derived.ChangeKeysEq
import Derived.Laws.Pointers
import Derived.Deep.AppendLies
import Derived.Deep.RegionHeld3
import Derived.Test.YtjafcjnkefioeaaRaf
import Derived.Test.YtjafcjnkefioeaaRag
set_option linter.unusedVariables false
set_option linter.unusedSimpArgs false
/- A book in memory; the contracts of New over numbers and over strings. -/
namespace Go.Proofs.Ytjafcjnkefioeaa.Hf
open Go.RowKit Go.Proofs.Ytjafcjnkefioeaa.Oct Go.Proofs.Ytjafcjnkefioeaa.Bit
set_option maxRecDepth 100000
structure St (ws : List (List UInt8)) (k : Nat) (A : List Bool → Option (Nat × Nat)) (E : List Bool → Option Nat) : Prop where
  e1 : ∀ q i, E q = some i → i < k ∧ q ≠ [] ∧ ws[i]? = some (q.map dig)
  e2 : ∀ i s, i < k → ws[i]? = some s → s = [] ∨ ∃ q, s = q.map dig ∧ q ≠ [] ∧ E q = some i
  a1 : ∀ q, A q ≠ none → q = [] ∨ ∃ r, E r ≠ none ∧ q <+: r
  a2 : ∀ q r, E r ≠ none → q <+: r → A q ≠ none
  lf : ∀ q r, E q ≠ none → E r ≠ none → q <+: r → q = r
def Good (ws : List (List UInt8)) : Prop :=
  (∀ s ∈ ws, wordB s = true) ∧ ∀ (i j : Nat) (s t : List UInt8), ws[i]? = some s → ws[j]? = some t → i ≠ j → s ≠ [] → t ≠ [] → ¬ s <+: t
section
variable {ws : List (List UInt8)} {k : Nat} {A A' : List Bool → Option (Nat × Nat)} {E : List Bool → Option Nat}
theorem St.zero (ws : List (List UInt8)) (g : Nat) : St ws 0 (fun q => if q = [] then some (g, 2) else none) (fun _ => none) := by
  refine ⟨fun q i h => by simp at h, fun i s h => by omega, fun q h => ?_, fun q r h => by simp at h, fun q r h => by simp at h⟩
  by_cases hq : q = []
  · exact .inl hq
  · simp [hq] at h
theorem St.skip (h : St ws k A E) (hk : ws[k]? = some []) : St ws (k + 1) A E := by
  refine ⟨fun q i e => ?_, fun i s hi e => ?_, h.a1, h.a2, h.lf⟩
  · obtain ⟨h1, h2⟩ := h.e1 q i e
    exact ⟨by omega, h2⟩
  · by_cases hik : i = k
    · subst hik
      rw [hk] at e
      injection e with e
      exact .inl e.symm
    · exact h.e2 i s (by omega) e
theorem St.add {m : List Bool} (h : St ws k A E) (hk : ws[k]? = some (m.map dig)) (hm : m ≠ []) (hn : ∀ q, q <+: m → E q = none) (hx : ∀ x, A (m ++ [x]) = none) (hd : ∀ q, A' q ≠ none ↔ A q ≠ none ∨ q <+: m) :
    St ws (k + 1) A' (updE E m k) := by
  have hne : ∀ q, updE E m k q ≠ none ↔ E q ≠ none ∨ q = m := by
    intro q
    unfold updE
    by_cases hq : q = m
    · rw [if_pos hq]; simp [hq]
    · rw [if_neg hq]; simp [hq]
  refine ⟨fun q i e => ?_, fun i s hi e => ?_, fun q hq => ?_, fun q r hr hq => ?_, fun q r hq hr hqr => ?_⟩
  · unfold updE at e
    by_cases hq : q = m
    · rw [if_pos hq] at e
      injection e with e
      subst e
      subst hq
      exact ⟨by omega, hm, hk⟩
    · rw [if_neg hq] at e
      obtain ⟨h1, h2⟩ := h.e1 q i e
      exact ⟨by omega, h2⟩
  · by_cases hik : i = k
    · subst hik
      rw [hk] at e
      injection e with e
      exact .inr ⟨m, e.symm, hm, by unfold updE; rw [if_pos rfl]⟩
    · rcases h.e2 i s (by omega) e with e0 | ⟨q, h1, h2, h3⟩
      · exact .inl e0
      · refine .inr ⟨q, h1, h2, ?_⟩
        unfold updE
        rw [if_neg, h3]
        intro hqm
        subst hqm
        rw [hn q (List.prefix_refl _)] at h3
        cases h3
  · rcases (hd q).1 hq with hq | hq
    · rcases h.a1 q hq with e | ⟨r, hr, hqr⟩
      · exact .inl e
      · exact .inr ⟨r, (hne r).2 (.inl hr), hqr⟩
    · exact .inr ⟨m, (hne m).2 (.inr rfl), hq⟩
  · rcases (hne r).1 hr with hr | rfl
    · exact (hd q).2 (.inl (h.a2 q r hr hq))
    · exact (hd q).2 (.inr hq)
  · rcases (hne q).1 hq with hq' | rfl
    · rcases (hne r).1 hr with hr' | rfl
      · exact h.lf q r hq' hr' hqr
      · exact absurd (hn q hqr) hq'
    · rcases (hne r).1 hr with hr | rfl
      · obtain ⟨t, rfl⟩ := hqr
        rcases t with _ | ⟨x, t⟩
        · simp
        · exact absurd (hx x) (h.a2 (q ++ [x]) _ hr ⟨t, by simp⟩)
      · rfl
theorem map_prefix {a b : List Bool} (h : a <+: b) : a.map dig <+: b.map dig := by
  obtain ⟨t, rfl⟩ := h
  exact ⟨t.map dig, by simp⟩
theorem St.bad {s : List UInt8} (h : St ws k A E) (hk : ws[k]? = some s) (hs : s ≠ []) (hb : Bad A E s) : ¬ Good ws := by
  rintro ⟨hg1, hg2⟩
  have key : ∀ q, E q ≠ none → ∃ i, i < k ∧ q ≠ [] ∧ ws[i]? = some (q.map dig) := by
    intro q hq
    rcases he : E q with _ | i
    · exact absurd he hq
    · exact ⟨i, h.e1 q i he⟩
  rcases hb with hb | ⟨m, rfl, ⟨q, hqm, hq⟩ | ⟨x, hx⟩⟩
  · rw [hg1 s (List.mem_of_getElem? hk)] at hb
    cases hb
  · obtain ⟨i, hi, hq0, he⟩ := key q hq
    exact hg2 i k _ _ he hk (by omega) (by simpa using hq0) hs (map_prefix hqm)
  · rcases h.a1 _ hx with e | ⟨r, hr, hmr⟩
    · simp at e
    · obtain ⟨i, hi, hr0, he⟩ := key r hr
      exact hg2 k i _ _ hk he (by omega) hs (by simpa using hr0) (map_prefix (List.IsPrefix.trans ⟨[x], rfl⟩ hmr))
end
def Bk (w : World) (C g : Nat) (ws : List (List UInt8)) (ms : List Value) : Prop :=
  ∃ pw cw pm cm A E, Tr w C g (.slice pw ws.length cw) (.slice pm ms.length cm) A E ∧ St ws ws.length A E ∧ VRow w C pw (strs ws) ∧ VRow w C pm ms ∧ ws.length ≤ cw ∧ ms.length ≤ cm
theorem Tr.keep {w w' : World} {C g : Nat} {v0 v1 : Value} {A : List Bool → Option (Nat × Nat)} {E : List Bool → Option Nat} (h : Tr w C g v0 v1 A E) (hk : ∀ k, g ≤ k → k < C → w'.heap[k]? = w.heap[k]?) : Tr w' C g v0 v1 A E := by
  have hg : g < C := (h.lo _ _ _ h.root).2
  have key : ∀ b i, g ≤ b → b < C → w'.cell? ⟨b, i, none⟩ = w.cell? ⟨b, i, none⟩ := fun b i h1 h2 => World.cell?_of_block (hk b h1 h2)
  refine ⟨h.root, h.lo, fun p b o e => ?_, fun p b o e => ?_, fun p b o e => ?_, fun p b o e => ?_, fun p b o e i => ?_, h.o2, h.inj, h.up, h.en, ?_, ?_⟩
  · rw [key _ _ (h.lo p b o e).1 (h.lo p b o e).2]; exact h.n0 p b o e
  · rw [key _ _ (h.lo p b o e).1 (h.lo p b o e).2]; exact h.n1 p b o e
  · rw [key _ _ (h.lo p b o e).1 (h.lo p b o e).2]; exact h.ne p b o e
  · rw [key _ _ (h.lo p b o e).1 (h.lo p b o e).2]; exact h.ni p b o e
  · have := hk b (h.lo p b o e).1 (h.lo p b o e).2
    rw [← h.fz p b o e i]
    simp [World.frozen?, this]
  · rw [key _ _ (Nat.le_refl _) hg]; exact h.h0
  · rw [key _ _ (Nat.le_refl _) hg]; exact h.h1
theorem VRow.keep {w w' : World} {B C : Nat} {p : Option Addr} {vs : List Value} (h : VRow w C p vs) (hlo : ∀ a, p = some a → B ≤ a.block) (hk : ∀ k, B ≤ k → k < C → w'.heap[k]? = w.heap[k]?) : VRow w' C p vs := by
  intro hp
  obtain ⟨b, off, rfl, hlt, hc⟩ := h hp
  have hb : B ≤ b := hlo _ rfl
  exact ⟨b, off, rfl, hlt, fun i hi => (World.cell?_of_block (hk b hb hlt)).trans (hc i hi)⟩
def BkK (w : World) (B g : Nat) (ws : List (List UInt8)) (ms : List Value) : Prop :=
  ∃ pw cw pm cm A E, St ws ws.length A E ∧ ws.length ≤ cw ∧ ms.length ≤ cm ∧ ∀ w' : World, (∀ k, B ≤ k → k < w.heap.size → w'.heap[k]? = w.heap[k]?) →
    Tr w' w.heap.size g (.slice pw ws.length cw) (.slice pm ms.length cm) A E ∧ VRow w' w.heap.size pw (strs ws) ∧ VRow w' w.heap.size pm ms
theorem BkK.at {w : World} {B g : Nat} {ws : List (List UInt8)} {ms : List Value} (h : BkK w B g ws ms) (w' : World) (hk : ∀ k, B ≤ k → k < w.heap.size → w'.heap[k]? = w.heap[k]?) : Bk w' w.heap.size g ws ms := by
  obtain ⟨pw, cw, pm, cm, A, E, h1, h2, h3, h4⟩ := h
  obtain ⟨h5, h6, h7⟩ := h4 w' hk
  exact ⟨pw, cw, pm, cm, A, E, h5, h1, h6, h7, h2, h3⟩
def NewP (w : World) (ws : List (List UInt8)) (ms : List Value) (e : Ending) (w' : World) : Prop :=
  Below w.heap.size w w' ∧ ((∃ c : Int, c ≠ 0 ∧ e = .returned (.tuple #[.pointer none, .int .i64 c]) ∧ ¬ Good ws) ∨
    ∃ g, e = .returned (.tuple #[.pointer (some ⟨g, 0, none⟩), .int .i64 0]) ∧ w.heap.size ≤ g ∧ g < w'.heap.size ∧ BkK w' w.heap.size g ws ms)
def bookC (u v : Value) : Array Value := #[u, v, .pointer none, .pointer none, .bool false, .int .i64 0]
theorem tr_new (w : World) (u v : Value) (T : TypeId) : Tr (w.alloc (.cells (bookC u v) T)) (w.heap.size + 1) w.heap.size u v (fun q => if q = [] then some (w.heap.size, 2) else none) (fun _ => none) := by
  have hc : ∀ i, (w.alloc (.cells (bookC u v) T)).cell? ⟨w.heap.size, i, none⟩ = (bookC u v)[i]? := by intro i; simp
  have key : ∀ (q : List Bool) (b o : Nat), (if q = [] then some (w.heap.size, 2) else none) = some (b, o) → q = [] ∧ b = w.heap.size ∧ o = 2 := by
    intro q b o h
    split at h
    · rename_i hq
      injection h with h
      injection h with h1 h2
      exact ⟨hq, h1.symm, h2.symm⟩
    · cases h
  refine ⟨rfl, fun q b o h => ?_, fun q b o h => ?_, fun q b o h => ?_, fun q b o h => ?_, fun q b o h => ?_, fun q b o h i => ?_, fun q o h => (key q _ o h).2.2, fun p q b o o' h h' => ?_, fun p x h => ?_, fun p h => by simp at h, ?_, ?_⟩
  · obtain ⟨_, rfl, _⟩ := key q b o h; omega
  · obtain ⟨rfl, rfl, rfl⟩ := key q b o h; rw [hc]; rfl
  · obtain ⟨rfl, rfl, rfl⟩ := key q b o h; rw [hc]; rfl
  · obtain ⟨rfl, rfl, rfl⟩ := key q b o h; rw [hc]; rfl
  · obtain ⟨rfl, rfl, rfl⟩ := key q b o h; rw [hc]; rfl
  · obtain ⟨rfl, rfl, rfl⟩ := key q b o h; simp
  · obtain ⟨rfl, _, _⟩ := key p b o h
    obtain ⟨rfl, _, _⟩ := key q b o' h'
    rfl
  · simp at h
  · rw [hc]; rfl
  · rw [hc]; rfl
theorem bs_empty (s : List UInt8) : (bs s).toList.isEmpty = s.isEmpty := by rw [bs_toList]
set_option maxHeartbeats 2000000 in
theorem newS_any (p q : Option Addr) (len cap cap2 : Nat) (ws : List (List UInt8)) (ms : List Value) (w : World) (hr : VRow w w.heap.size p (strs ws)) (hx : ws.length = len) (hnil : p = none → cap = 0)
    (hr2 : VRow w w.heap.size q ms) (hx2 : ms.length = len) (hnil2 : q = none → cap2 = 0) (hl : len ≤ 100000) (h1 : ∀ u ∈ ms, u.oneCell' = true) (hw : ∀ s ∈ ws, s.length ≤ 1000000) :
    Calls Try.prog 40 #[.slice p len cap, .slice q len cap2] w (NewP w ws ms) := by
  have HC1 := Lib.hid (cloneS_any p len cap (strs ws) w hr (by rw [strs_length]; exact hx) hnil hl (by exact strs_one))
  have HX := Lib.hid hx
  have HX2 := Lib.hid hx2
  have HR := Lib.hid hr
  have HR2 := Lib.hid hr2
  have HN2 := Lib.hid hnil2
  have H1 := Lib.hid h1
  have HW := Lib.hid hw
  clear hr hx hnil hr2 hx2 hnil2 h1 hw
  go_enter Try.func40, Try.ntmps40
  go_wp2_with fail
  refine HC1.out.mono ?_
  rintro e w1 ⟨hb1, q1, c1, rfl, hv1, hc1, hm1, hq1, hg1⟩
  rw [strs_length, HX.out] at hc1 ⊢
  have HV1 := Lib.hid hv1
  have HB1 := Lib.hid hb1
  have HC1' := Lib.hid hc1
  have HG1 := Lib.hid hg1
  have HZ01 := Lib.hid hb1.size
  clear hv1 hc1 hm1 hq1 hg1
  have HC2 := Lib.hid (cloneS_any q len cap2 ms w1 ((HR2.out.below hb1 (Nat.le_refl _)).mono hb1.size) HX2.out HN2.out hl H1.out)
  clear hb1
  go_wp2_with fail
  refine HC2.out.mono ?_
  rintro e w2 ⟨hb2, q2, c2, rfl, hv2, hc2, hm2, hq2, hg2⟩
  rw [HX2.out] at hc2 ⊢
  have HV2 := Lib.hid hv2
  have HC2' := Lib.hid hc2
  have hT := tr_new w2 (.slice q1 len c1) (.slice q2 len c2) 119
  have hb3 : Below w.heap.size w (w2.alloc (.cells (bookC (.slice q1 len c1) (.slice q2 len c2)) 119)) := (HB1.out.trans (hb2.mono HB1.out.size)).alloc (Nat.le_trans HB1.out.size hb2.size) _
  have hvw : VRow (w2.alloc (.cells (bookC (.slice q1 len c1) (.slice q2 len c2)) 119)) w2.heap.size q1 (strs ws) := ((HV1.out.below hb2 (Nat.le_refl _)).mono hb2.size).below ((Below.refl _ w2).alloc (Nat.le_refl _) _) (Nat.le_refl _)
  have hvm : VRow (w2.alloc (.cells (bookC (.slice q1 len c1) (.slice q2 len c2)) 119)) w2.heap.size q2 ms := HV2.out.below ((Below.refl _ w2).alloc (Nat.le_refl _) _) (Nat.le_refl _)
  unfold bookC at hT hb3 hvw hvm
  have HG := Lib.hid (Nat.le_trans HB1.out.size hb2.size)
  have HG2 := Lib.hid (show ∀ a, q2 = some a → w.heap.size ≤ a.block from fun a h => Nat.le_trans HZ01.out (hg2 a h))
  have HT := Lib.hid hT
  have HB3 := Lib.hid hb3
  have HVW := Lib.hid hvw
  have HVM := Lib.hid hvm
  clear hT hb3 hvw hvm hv2 hc2 hm2 hq2 hg2 hb2 HV1 HV2 HB1 HC1 HC2
  go_wp2_with fail
  obtain ⟨w3, hw3⟩ : ∃ w3, w3 = w2.alloc (.cells #[.slice q1 len c1, .slice q2 len c2, .pointer none, .pointer none, .bool false, .int .i64 0] 119) := ⟨_, rfl⟩
  have hz3 : w3.heap.size = w2.heap.size + 1 := by rw [hw3]; simp
  rw [← hw3] at HT HB3 HVW HVM ⊢
  rw [← hz3] at HT
  generalize hge : w2.heap.size = g at *
  have hgl : g < w3.heap.size := by omega
  clear hw3 hz3
  go_loopw [7, 8, 9, 23] (fun u s e i wr => ∃ (k : Nat) (A : List Bool → Option (Nat × Nat)) (E : List Bool → Option Nat), k ≤ len ∧ i = .int .i64 (k : Int) ∧ Hid (Tr wr wr.heap.size g (.slice q1 len c1) (.slice q2 len c2) A E) ∧ Hid (St ws k A E) ∧ Hid (Below g w3 wr)) (fun _ _ _ i _ => len - (intOf i).toNat)
  case atStart => exact ⟨0, _, _, by omega, rfl, HT, Lib.hid (St.zero ws g), Lib.hid (Below.refl _ _)⟩
  case round =>
    obtain ⟨k, A, E, hk, rfl, HTr, HSt, HB⟩ := hrel
    by_cases hlt : k < len
    · have hkz : k < ws.length := by rw [HX.out]; exact hlt
      obtain ⟨b, off, hp, hbl⟩ := HR.out.addr (by rw [strs_length]; omega)
      subst hp
      have hgw := HG.out
      have hc := (HB.out.cell (p := ⟨b, off + k, none⟩) (by show b < g; omega)).trans ((HB3.out.cell (p := ⟨b, off + k, none⟩) hbl).trans (HR.out.str k hkz))
      have hget : ws[k]? = some ws[k] := List.getElem?_eq_getElem hkz
      have hsl := HW.out ws[k] (List.getElem_mem hkz)
      have hem := bs_empty ws[k]
      generalize ws[k] = s at hc hget hsl hem
      have HGET := Lib.hid hget
      have hd : decide ((k : Int) < (len : Int)) = true := by simp; omega
      have i1 : (0 : Int) ≤ (k : Int) := by omega
      have i2 : (k : Int) < (len : Int) := by omega
      clear hget hgw
      by_cases hs : s = []
      · subst hs
        have HS2 := Lib.hid (HSt.out.skip HGET.out)
        have hem : (bs []).toList.isEmpty = true := hem
        generalize bs [] = sb at hc hem
        go_wp2_with fail
        go_roundw
        case rel => exact ⟨k + 1, A, E, by omega, by go_num, HTr, HS2, HB⟩
        case measure => simp [intOf]; omega
      · have hem : (bs s).toList.isEmpty = false := by
          rw [hem]
          cases s
          · exact absurd rfl hs
          · rfl
        have HADD := Lib.hid (add_node wr g (.slice q1 len c1) (.slice q2 len c2) A E s k HTr.out hsl trivial)
        have HS := Lib.hid hs
        clear hs
        generalize hsb : bs s = sb at hc hem HADD
        clear hsb
        go_wp2_with fail
        refine HADD.out.mono ?_
        rintro e w4 ⟨hb4, hres⟩
        have HB4 := Lib.hid (HB.out.trans hb4)
        clear hb4
        rcases hres with ⟨m, hm, rfl, hq1, hq2, A', hT', hdom⟩ | ⟨c, hc0, rfl, hbad⟩
        · have HT' := Lib.hid hT'
          have HS' := Lib.hid (HSt.out.add (by rw [← hm]; exact HGET.out) (by intro e; exact HS.out (by rw [hm, e]; rfl)) hq1 hq2 hdom)
          clear hm hq1 hq2 hT' hdom
          go_wp2_with fail
          go_roundw
          case rel => exact ⟨k + 1, A', _, by omega, by go_num, HT', HS', HB4⟩
          case measure => simp [intOf]; omega
        · have HBAD := Lib.hid (HSt.out.bad HGET.out HS.out hbad)
          have hcb : (c != 0) = true := by simpa using hc0
          have HC0 := Lib.hid hc0
          clear hbad hc0
          go_wp2_with fail
          go_ret2
          exact ⟨HB3.out.trans (HB4.out.mono HG.out), .inl ⟨c, HC0.out, rfl, HBAD.out⟩⟩
    · have hke : k = len := by omega
      subst hke
      have hd : decide ((k : Int) < (k : Int)) = false := by simp
      have hzr := HB.out.size
      have hBk : BkK wr w.heap.size g ws ms := ⟨q1, c1, q2, c2, A, E, by rw [HX.out]; exact HSt.out, by rw [HX.out]; exact HC1'.out, by rw [HX2.out]; exact HC2'.out, fun wq hkq => ⟨by rw [HX.out, HX2.out]; exact HTr.out.keep (fun k h1 h2 => hkq k (Nat.le_trans HG.out h1) h2), ((HVW.out.below HB.out (Nat.le_refl _)).mono (by omega)).keep HG1.out hkq, ((HVM.out.below HB.out (Nat.le_refl _)).mono (by omega)).keep HG2.out hkq⟩⟩
      have HBK := Lib.hid hBk
      clear hBk
      go_wp2_with fail
      go_ret2
      exact ⟨HB3.out.trans (HB.out.mono HG.out), .inr ⟨g, rfl, HG.out, by omega, HBK.out⟩⟩
end Go.Proofs.Ytjafcjnkefioeaa.Hf
/- The contracts of a book's Read, where the bits go on with one of its words. -/
namespace Go.Proofs.Ytjafcjnkefioeaa.Hf
open Go.RowKit Go.Proofs.Ytjafcjnkefioeaa.Oct Go.Proofs.Ytjafcjnkefioeaa.Bit
set_option maxRecDepth 100000
theorem vrow_get {w : World} {C : Nat} {p : Option Addr} {vs : List Value} {i : Nat} {v : Value} (h : VRow w C p vs) (hv : vs[i]? = some v) : ∃ b off, p = some ⟨b, off, none⟩ ∧ b < C ∧ w.cell? ⟨b, off + i, none⟩ = some v := by
  obtain ⟨hi, he⟩ := List.getElem?_eq_some_iff.1 hv
  obtain ⟨b, off, hp, hb, hc⟩ := h (by omega)
  exact ⟨b, off, hp, hb, by rw [hc i hi, he]⟩
end Go.Proofs.Ytjafcjnkefioeaa.Hf
/- A writer in memory; the contracts of fill, NewWriter, Len, Bytes and Align. -/
namespace Go.Proofs.Ytjafcjnkefioeaa.Bit
open Go.RowKit Go.Proofs.Ytjafcjnkefioeaa.Oct
set_option maxRecDepth 20000
theorem own_only {S : Nat → Prop} {w w' : World} {e n : Nat} {v : Value} {cs : List Value} (h : w.ownsRow 0 e 1 v n cs) (ho : Only S w w') (hv : ∀ k, v.ownBlock = some k → ¬ S k) : w'.ownsRow 0 e 1 v n cs := by
  refine ⟨h.1, ?_⟩
  rcases h.2 with hn | ⟨g, cap, cur, rfl, hb, hh, r⟩
  · exact .inl hn
  · refine .inr ⟨g, cap, cur, rfl, hb, ?_, r⟩
    have hlt : g < w.heap.size := by
      rcases Nat.lt_or_ge g w.heap.size with hlt | hge
      · exact hlt
      · rw [Array.getElem?_eq_none hge] at hh; cases hh
    rw [ho.2.2.2.2 g hlt (hv g rfl)]
    exact hh
def Wr (w : World) (g : Nat) (v : Value) (xs : List UInt8) (n : Nat) (low : Bool) : Prop :=
  w.heap[g]? = some (.cells #[v, .int .i64 (n : Int), .bool low] 42 (0, 0)) ∧ w.ownsRow 0 5 1 v xs.length (cellsOf xs) ∧ v.ownBlock ≠ some g
section
variable {w w' : World} {g n : Nat} {v : Value} {xs : List UInt8} {low : Bool}
theorem Wr.c0 (h : Wr w g v xs n low) : w.cell? ⟨g, 0, none⟩ = some v := by simp [World.cell?, h.1]
theorem Wr.c1 (h : Wr w g v xs n low) : w.cell? ⟨g, 1, none⟩ = some (.int .i64 (n : Int)) := by simp [World.cell?, h.1]
theorem Wr.c2 (h : Wr w g v xs n low) : w.cell? ⟨g, 2, none⟩ = some (.bool low) := by simp [World.cell?, h.1]
theorem Wr.fz (h : Wr w g v xs n low) (i : Nat) : w.frozen? ⟨g, i, none⟩ = false := by simp [World.frozen?, h.1]
theorem Wr.lt (h : Wr w g v xs n low) : g < w.heap.size := by
  rcases Nat.lt_or_ge g w.heap.size with hlt | hge
  · exact hlt
  · have := h.1; rw [Array.getElem?_eq_none hge] at this; cases this
theorem Wr.only {S : Nat → Prop} (h : Wr w g v xs n low) (ho : Only S w w') (hg : ¬ S g) (hv : ∀ k, v.ownBlock = some k → ¬ S k) : Wr w' g v xs n low :=
  ⟨(ho.2.2.2.2 g h.lt hg).trans h.1, own_only h.2.1 ho hv, h.2.2⟩
theorem Wr.form (h : Wr w g v xs n low) : (v = .slice none 0 0 ∧ xs = []) ∨ ∃ r cap, v = .slice (some ⟨r, 0, none⟩) xs.length cap ∧ xs.length ≤ cap ∧ cap ≤ maxLen ∧ r < w.heap.size ∧ r ≠ g ∧ Row w (some ⟨r, 0, none⟩) xs := by
  by_cases hv : v = .slice none 0 0
  · left
    refine ⟨hv, ?_⟩
    rcases h.2.1.2 with ⟨_, h0⟩ | ⟨r, cap, cur, he, _⟩
    · exact List.eq_nil_of_length_eq_zero h0
    · rw [hv] at he; cases he
  · right
    obtain ⟨r, cap, rfl, h1, h2, _, h4, h5⟩ := own_form h.2.1 hv
    exact ⟨r, cap, rfl, h1, h2, h4, fun e => h.2.2 (by rw [e]; rfl), h5⟩
theorem Wr.setLen (h : Wr w g v xs n low) (m : Nat) : Wr (w.setCell ⟨g, 1, none⟩ (.int .i64 (m : Int))) g v xs m low := by
  refine ⟨?_, own_only h.2.1 (Only.setCell (S := (· = g)) (p := ⟨g, 1, none⟩) (by rfl) _) (fun k hk e => h.2.2 (by rw [hk, e])), h.2.2⟩
  have := h.1
  simp [World.setCell, Array.getElem?_modify, this]
theorem own_set {r i cap : Nat} (h : w.ownsRow 0 5 1 (.slice (some ⟨r, 0, none⟩) xs.length cap) xs.length (cellsOf xs)) (c : UInt8) :
    (w.setCell ⟨r, i, none⟩ (.int .u8 (c.toNat : Int))).ownsRow 0 5 1 (.slice (some ⟨r, 0, none⟩) (xs.set i c).length cap) (xs.set i c).length (cellsOf (xs.set i c)) := by
  obtain ⟨h1, h2⟩ := h
  refine ⟨by simp [cellsOf], .inr ?_⟩
  rcases h2 with ⟨hv, _⟩ | ⟨g', cap', cur, hv, hb, hh, hl, hm, hs, ht⟩
  · cases hv
  · injection hv with e1 _ e3
    injection e1 with e1
    injection e1 with e1
    subst e1
    subst e3
    refine ⟨r, cap, cur.setIfInBounds i (.int .u8 (c.toNat : Int)), by simp, hb, ?_, by simpa using hl, hm, by simpa using hs, ?_⟩
    · simp [World.setCell, Array.getElem?_modify, hh]
    · simp only [List.length_set, Array.toList_setIfInBounds, List.take_set]
      rw [ht]
      simp [cellsOf, List.map_set]
end
theorem Only.grown {w w' : World} {row : Option Nat} (hg : w.grownBy w' row) : Only (fun k => row = some k) w w' :=
  ⟨hg.os, hg.tape, hg.output, hg.size, fun k hk hs => hg.block k hk (fun e => hs e.symm)⟩
def Mine (g : Nat) (v : Value) (k : Nat) : Prop := k = g ∨ v.ownBlock = some k
def FillP (w : World) (g : Nat) (v : Value) (ys : List UInt8) (n : Nat) (low : Bool) (e : Ending) (w' : World) : Prop :=
  e = .returned (.tuple #[]) ∧ ∃ v', Wr w' g v' ys n low ∧ Only (Mine g v) w w' ∧ ∀ k, v'.ownBlock = some k → v.ownBlock = some k ∨ w.heap.size ≤ k
theorem fill_new (w : World) (g : Nat) (v : Value) (xs : List UInt8) (n : Nat) (low : Bool) (c : UInt8) (hW : Wr w g v xs n low) (hl : xs.length ≤ 2000000) :
    Calls Try.prog 73 #[.pointer (some ⟨g, 0, none⟩), .int .i64 (xs.length : Int), .int .u8 (c.toNat : Int)] w (FillP w g v (xs ++ [c]) n low) := by
  obtain ⟨i0, hi, hz0, hz1, hz2⟩ := info_parts Try.infoByte
  have c0 := hW.c0
  have hlt := hW.lt
  have hA : Only (fun _ => False) w (w.alloc (.cells #[.int .u8 (c.toNat : Int)] 5)) := Only.of_below ((Below.refl _ w).alloc (Nat.le_refl _) _)
  have hWA := hW.only hA (fun h => h) (fun _ _ h => h)
  have hrow := row_one w c 5
  have hcell : (w.alloc (.cells #[.int .u8 (c.toNat : Int)] 5)).cell? ⟨w.heap.size, 0, none⟩ = some (.int .u8 (c.toNat : Int)) := by simp
  obtain ⟨len, cap, p, hv⟩ : ∃ len cap p, v = .slice p len cap ∧ len = xs.length := by
    rcases hW.form with ⟨rfl, rfl⟩ | ⟨r, cap, rfl, _⟩
    · exact ⟨0, 0, none, rfl, rfl⟩
    · exact ⟨_, _, _, rfl, rfl⟩
  obtain ⟨rfl, rfl⟩ := hv
  have HWA := Lib.hid hWA
  have HC := Lib.hid hcell
  have HW := Lib.hid hW
  clear hWA hrow hA hcell hW
  go_enter Try.func73, Try.ntmps73
  go_wp2_with (at_builtin; refine wpList_append_lies _ rfl _ _ 22 rfl 0 5 i0 (.int .u8 0) 1 1 Try.underlying22 hi hz0 hz1 hz2 rfl (by decide) _ xs.length (cellsOf xs) rfl HWA.out.2.1 ⟨w.heap.size, 0, none⟩ 1 1 (cellsOf [c]) rfl rfl ?d1 cellsOf_one (by decide) ?d2 ?d3 (Nat.zero_le _) (w.heap.size + 1) (by simp) ?_)
  case d1 =>
    intro j u hj
    obtain ⟨hj', rfl⟩ := cellsOf_get hj
    have : j = 0 := by simpa using hj'
    subst this
    exact HC.out
  case d2 => unfold maxLen; omega
  case d3 => omega
  intro g' cap' w1 hown1 hgrow hdich hlt1
  have hne := HW.out.2.2
  have hG := Only.grown hgrow
  have hWg := HWA.out.1
  have hg1 : w1.heap[g]? = some (.cells #[.slice p xs.length cap, .int .i64 (n : Int), .bool low] 42 (0, 0)) := (hG.2.2.2.2 g (by simp; omega) hne).trans hWg
  have hgg : g' ≠ g := by
    rcases hdich with h | h
    · intro e; exact hne (by rw [h, e])
    · omega
  have c1 : w1.cell? ⟨g, 0, none⟩ = some (.slice p xs.length cap) := by simp [World.cell?, hg1]
  have f1 : w1.frozen? ⟨g, 0, none⟩ = false := by simp [World.frozen?, hg1]
  have HO := Lib.hid hown1
  have HG := Lib.hid hG
  have HG1 := Lib.hid hg1
  have HD := Lib.hid hdich
  clear hown1 hG hWg hg1 hgrow hdich
  go_wp2_with fail
  go_end0
  refine ⟨rfl, .slice (some ⟨g', 0, none⟩) (xs.length + 1) cap', ⟨?_, ?_, ?_⟩, ?_, ?_⟩
  · have := HG1.out
    simp [World.setCell, Array.getElem?_modify, this]
  · have h1 := own_only HO.out (Only.setCell (S := (· = g)) (p := ⟨g, 0, none⟩) (by rfl) (.slice (some ⟨g', 0, none⟩) (xs.length + 1) cap')) (fun k hk e => by injection hk with hk; exact hgg (hk.trans e))
    rw [← cellsOf_append] at h1
    simpa using h1
  · intro e
    injection e with e
    exact hgg e
  · have hA : Only (Mine g (.slice p xs.length cap)) w (w.alloc (.cells #[.int .u8 (c.toNat : Int)] 5)) := Only.of_below ((Below.refl _ w).alloc (Nat.le_refl _) _)
    exact (hA.trans (HG.out.mono (fun k _ h => .inr h))).trans (Only.setCell (p := ⟨g, 0, none⟩) (.inl rfl) _)
  · intro k hk
    injection hk with hk
    subst hk
    rcases HD.out with h | h
    · exact .inl h
    · exact .inr (by show w.heap.size ≤ g'; omega)
theorem or_u8 (a b : UInt8) : bits .or .u8 (a.toNat : Int) (b.toNat : Int) = (((a ||| b).toNat : Nat) : Int) := by
  rw [u8_or_nat _ _ a.toNat_lt b.toNat_lt, UInt8.toNat_or]
theorem fill_or (w : World) (g : Nat) (v : Value) (xs : List UInt8) (n : Nat) (low : Bool) (i : Nat) (c : UInt8) (hW : Wr w g v xs n low) (hl : xs.length ≤ 2000000) (hi : i < xs.length) :
    Calls Try.prog 73 #[.pointer (some ⟨g, 0, none⟩), .int .i64 (i : Int), .int .u8 (c.toNat : Int)] w (FillP w g v (xs.set i (xs[i] ||| c)) n low) := by
  have c0 := hW.c0
  rcases hW.form with ⟨_, h0⟩ | ⟨r, cap, rfl, hlc, hcm, hr, hrg, hrow⟩
  · subst h0; simp at hi
  obtain ⟨b, off, he, _, hc⟩ := hrow (by omega)
  injection he with he
  injection he with e1 e2
  subst e1
  subst e2
  have hci := hc i hi
  rw [Nat.zero_add] at hci
  have hfz : w.frozen? ⟨r, i, none⟩ = false := by
    rcases hW.2.1.2 with ⟨hv, _⟩ | ⟨g', cap', cur, hv, _, hh, _⟩
    · cases hv
    · injection hv with e1
      injection e1 with e1
      injection e1 with e1
      subst e1
      simp [World.frozen?, hh]
  have hx : xs[i].toNat < 256 := xs[i].toNat_lt
  have hcb : c.toNat < 256 := c.toNat_lt
  have hor := or_u8 xs[i] c
  have hne : ((i : Int) == (xs.length : Int)) = false := by simp; omega
  have HW := Lib.hid hW
  have HOR := Lib.hid hor
  clear hor hW hc hrow
  go_enter Try.func73, Try.ntmps73
  go_wp2_with fail
  go_end0
  rw [HOR.out]
  have hO := Only.setCell (S := Mine g (.slice (some ⟨r, 0, none⟩) xs.length cap)) (w := w) (p := ⟨r, i, none⟩) (.inr rfl) (.int .u8 (((xs[i] ||| c).toNat : Nat) : Int))
  refine ⟨rfl, .slice (some ⟨r, 0, none⟩) xs.length cap, ⟨?_, ?_, HW.out.2.2⟩, hO, fun k hk => .inl hk⟩
  · rw [Below.heap_setCell _ _ _ _ (by show g ≠ r; omega)]
    exact HW.out.1
  · have := own_set (i := i) HW.out.2.1 (xs[i] ||| c)
    simpa using this
end Go.Proofs.Ytjafcjnkefioeaa.Bit
/- The contract of a writer's add: the bits of a number behind those that were written. -/
namespace Go.Proofs.Ytjafcjnkefioeaa.Bit
open Go.RowKit Go.Proofs.Ytjafcjnkefioeaa.Oct
set_option maxRecDepth 20000
def WrT (w : World) (g : Nat) (v : Value) (xs : List UInt8) (n : Nat) (low : Bool) (w' : World) : Prop :=
  ∃ v', Wr w' g v' xs n low ∧ Only (Mine g v) w w' ∧ ∀ k, v'.ownBlock = some k → v.ownBlock = some k ∨ w.heap.size ≤ k
theorem WrT.refl {w : World} {g : Nat} {v : Value} {xs : List UInt8} {n : Nat} {low : Bool} (h : Wr w g v xs n low) : WrT w g v xs n low w := ⟨v, h, Only.refl _ _, fun _ h => .inl h⟩
theorem WrT.more {w w1 w2 : World} {g : Nat} {v v1 : Value} {ys : List UInt8} {m : Nat} {low : Bool} (ho : Only (Mine g v) w w1) (hd : ∀ k, v1.ownBlock = some k → v.ownBlock = some k ∨ w.heap.size ≤ k)
    (h : WrT w1 g v1 ys m low w2) : WrT w g v ys m low w2 := by
  obtain ⟨v2, hW, ho2, hd2⟩ := h
  have hz := ho.2.2.2.1
  refine ⟨v2, hW, ⟨ho2.1.trans ho.1, ho2.2.1.trans ho.2.1, ho2.2.2.1.trans ho.2.2.1, Nat.le_trans hz ho2.2.2.2.1, fun k hk hn => ?_⟩, fun k hk => ?_⟩
  · refine (ho2.2.2.2.2 k (by omega) (fun hm => hn ?_)).trans (ho.2.2.2.2 k hk hn)
    rcases hm with h | h
    · exact .inl h
    · rcases hd k h with h | h
      · exact .inr h
      · omega
  · rcases hd2 k hk with h | h
    · exact hd k h
    · exact .inr (by omega)
def AddP (w : World) (g : Nat) (v : Value) (l : List Bool) (low : Bool) (e : Ending) (w' : World) : Prop := e = .returned (.tuple #[]) ∧ WrT w g v (packB low l) l.length low w'
theorem gsh_lt (low : Bool) (used n : Nat) (hu : used < 8) (hn : n ≤ 32) : gsh low used n (8 * cnt used n) ≤ 40 := by
  have : cnt used n ≤ 5 := by unfold cnt; omega
  cases low <;> simp [gsh] <;> omega
theorem grp_val (low : Bool) (used n v : Nat) (hv : v < 2 ^ n) (hn : n ≤ 32) (hu : used < 8) :
    IntKind.u64.wrap ((v : Int) * 2 ^ min (gsh low used n (8 * cnt used n)) 64) = ((grpN low used n v : Nat) : Int) := by
  have h1 := gsh_lt low used n hu hn
  have h2 := grpN_lt low used n v hv hn hu
  rw [Nat.min_eq_left (by omega)]
  have e : ((v : Int) * 2 ^ gsh low used n (8 * cnt used n)) = ((grpN low used n v : Nat) : Int) := by unfold grpN; push_cast; rfl
  rw [e, IntWalk.u64_in _ (by omega)]
theorem addC_val (low : Bool) (used n v i : Nat) (hn : n ≤ 32) (hu : used < 8) (hi : i < cnt used n) :
    ((grpN low used n v : Nat) : Int) / 2 ^ min (gsh low (8 * i) 8 (8 * cnt used n)) 64 % 256 = (((addC low used n v i).toNat : Nat) : Int) := by
  have h1 : gsh low (8 * i) 8 (8 * cnt used n) ≤ 40 := by
    have : cnt used n ≤ 5 := by unfold cnt; omega
    cases low <;> simp [gsh] <;> omega
  rw [Nat.min_eq_left (by omega)]
  unfold addC
  generalize grpN low used n v = G
  generalize gsh low (8 * i) 8 (8 * cnt used n) = s
  have hb : G / 2 ^ s % 256 < 256 := Nat.mod_lt _ (by omega)
  have e2 : ((G : Int) / 2 ^ s) = ((G / 2 ^ s : Nat) : Int) := by push_cast; rfl
  rw [UInt8.toNat_ofNat', Nat.mod_eq_of_lt hb, e2]
  omega
theorem fill_step (w : World) (g : Nat) (v : Value) (l : List Bool) (low : Bool) (m n j : Nat) (hv : m < 2 ^ n) (hj : j < cnt (l.length % 8) n) (hl : l.length ≤ 2000000) (hn : n ≤ 32)
    (hW : Wr w g v (fillF low l (wordE low m n) j) l.length low) :
    Calls Try.prog 73 #[.pointer (some ⟨g, 0, none⟩), .int .i64 ((l.length / 8 + j : Nat) : Int), .int .u8 (((addC low (l.length % 8) n m j).toNat : Nat) : Int)] w (FillP w g v (fillF low l (wordE low m n) (j + 1)) l.length low) := by
  have hwl := wordE_length low m n
  by_cases hc : 1 ≤ j ∨ l.length % 8 = 0
  · have hlen := fillF_len low l (wordE low m n) n j hwl (by omega) hc
    have h1 := fill_new w g v _ l.length low (addC low (l.length % 8) n m j) hW (by rw [hlen]; unfold cnt at hj; omega)
    rw [hlen, fillF_new low l m n j hv hj hc] at h1
    exact h1
  · have hj0 : j = 0 := by omega
    subst hj0
    have hlen := packB_length low l
    rw [fillF_zero] at hW
    have hq : l.length / 8 < (packB low l).length := by rw [hlen]; omega
    have h1 := fill_or w g v _ l.length low (l.length / 8) (addC low (l.length % 8) n m 0) hW (by rw [hlen]; omega) hq
    rw [fillF_or low l m n hv (by omega) hq] at h1
    exact h1
set_option maxHeartbeats 1000000 in
theorem add_any (w : World) (g : Nat) (v : Value) (l : List Bool) (low : Bool) (m n : Nat) (hv : m < 2 ^ n) (hn : n ≤ 32) (hl : l.length ≤ 2000000) (hW : Wr w g v (packB low l) l.length low) :
    Calls Try.prog 53 #[.pointer (some ⟨g, 0, none⟩), .int .u32 (m : Int), .int .i64 (n : Int)] w (AddP w g v (l ++ wordE low m n) low) := by
  have c1 := hW.c1
  have c2 := hW.c2
  have hm32 : m < 4294967296 := by
    have h1 : (2 : Nat) ^ n ≤ 2 ^ 32 := Nat.pow_le_pow_right (by omega) hn
    omega
  have hgv := grp_val low (l.length % 8) n m hv hn (by omega)
  obtain ⟨c, hc⟩ : ∃ c, c = cnt (l.length % 8) n := ⟨_, rfl⟩
  have hc5 : c ≤ 5 := by rw [hc]; unfold cnt; omega
  have HGV := Lib.hid hgv
  have HC := Lib.hid hc
  have HW := Lib.hid hW
  clear hgv hc hW
  go_enter Try.func53, Try.ntmps53
  go_wp2_with fail
  have e2 : ((l.length : Int) % 8) + (n : Int) = ((l.length % 8 + n : Nat) : Int) := by omega
  rw [e2]
  refine (bytesFor_any _ _ (by omega)).mono ?_
  rintro e w' ⟨rfl, rfl⟩
  rw [show (l.length % 8 + n + 7) / 8 = c from HC.out.symm]
  clear e2
  have e3 : (l.length : Int) % 8 = ((l.length % 8 : Nat) : Int) := by omega
  have E3 := Lib.hid e3
  clear e3
  go_wp2_with fail
  rw [E3.out]
  refine (groupShift_any _ _ _ _ (by omega) hn).mono ?_
  rintro e w' ⟨rfl, rfl⟩
  go_wp2_with fail
  rw [HGV.out]
  go_loopw [9, 30] (fun u i wr => ∃ j : Nat, j ≤ c ∧ i = .int .i64 (j : Int) ∧ WrT w g v (fillF low l (wordE low m n) j) l.length low wr) (fun _ i _ => c - (intOf i).toNat)
  case atStart => exact ⟨0, by omega, rfl, WrT.refl HW.out⟩
  case round =>
    obtain ⟨j, hj, rfl, hT⟩ := hrel
    obtain ⟨v1, hW1, ho1, hd1⟩ := hT
    have k1 := hW1.c1
    have k2 := hW1.c2
    by_cases hlt : j < c
    · have hav := addC_val low (l.length % 8) n m j hn (by omega) (by rw [← HC.out]; exact hlt)
      rw [← HC.out] at hav
      have s1 : IntKind.i64.wrap ((l.length : Int) / 8 + (j : Int)) = (l.length : Int) / 8 + (j : Int) := IntWalk.i64_in _ (by omega)
      have s2 : ((l.length : Int) / 8 + (j : Int)) = ((l.length / 8 + j : Nat) : Int) := by omega
      have s0 : IntKind.i64.wrap ((l.length : Int) / 8) = (l.length : Int) / 8 := IntWalk.i64_in _ (by omega)
      have S0 := Lib.hid s0
      have S1 := Lib.hid s1
      clear s0 s1
      have S2 := Lib.hid s2
      have HAV := Lib.hid hav
      clear s2 hav
      have hfs := fill_step wr.drew g v1 l low m n j hv (by rw [← HC.out]; exact hlt) hl hn (by exact hW1)
      have HFS := Lib.hid hfs
      clear hfs
      go_wp2_with fail
      have kd1 : wr.drew.cell? ⟨g, 1, none⟩ = some (.int .i64 (l.length : Int)) := k1
      have kd2 : wr.drew.cell? ⟨g, 2, none⟩ = some (.bool low) := k2
      refine wp_region_held_drew (S := (fun w' => w'.cell? ⟨g, 1, none⟩ = some (.int .i64 (l.length : Int)) ∧ w'.cell? ⟨g, 2, none⟩ = some (.bool low))) (by kernel_rfl) ⟨kd1, kd2⟩ (fun hHeld => ?_)
      refine wpAnyH_take (i := 0) (v := ?v1) rfl (by kernel_rfl) (by kernel_rfl) (by kernel_rfl) (fun _ _ _ h => h) (Or.inl ⟨by rfl, fun w hSw => ?y1⟩) hHeld ?r1
      case y1 => (try dsimp only at hSw); first | (go_simp; done) | (go_simp; with_reducible rfl)
      try simp only [Act.put, List.setIfInBounds_toArray, List.set_cons_zero, List.set_cons_succ, List.getElem_toArray, List.getElem_cons_zero, List.getElem_cons_succ]
      refine wpAnyH_take (i := 1) (v := ?v2) rfl (by kernel_rfl) (by kernel_rfl) (by kernel_rfl) (fun _ _ _ h => h) (Or.inl ⟨by rfl, fun w hSw => ?y2⟩) hHeld ?r2
      case y2 => (try dsimp only at hSw); first | (go_simp; done) | (go_simp; with_reducible rfl)
      try simp only [Act.put, List.setIfInBounds_toArray, List.set_cons_zero, List.set_cons_succ, List.getElem_toArray, List.getElem_cons_zero, List.getElem_cons_succ]
      refine wpAnyH_take (i := 2) (v := ?v3) rfl (by kernel_rfl) (by kernel_rfl) (by kernel_rfl) (fun _ _ _ h => h) (Or.inl ⟨by rfl, fun w hSw => ?y3⟩) hHeld ?r3
      case y3 => (try dsimp only at hSw); first | (go_simp; done) | (go_simp; with_reducible rfl)
      try simp only [Act.put, List.setIfInBounds_toArray, List.set_cons_zero, List.set_cons_succ, List.getElem_toArray, List.getElem_cons_zero, List.getElem_cons_succ]
      refine wpAnyH_take (i := 3) (v := ?v4) rfl (by kernel_rfl) (by kernel_rfl) (by kernel_rfl) (fun _ _ _ h => h) (Or.inl ⟨by rfl, fun w hSw => ?y4⟩) hHeld ?r4
      case y4 => (try dsimp only at hSw); first | (go_simp; done) | (go_simp; with_reducible rfl)
      try simp only [Act.put, List.setIfInBounds_toArray, List.set_cons_zero, List.set_cons_succ, List.getElem_toArray, List.getElem_cons_zero, List.getElem_cons_succ]
      refine wpAnyH_take (i := 4) (v := ?v5) rfl (by kernel_rfl) (by kernel_rfl) (by kernel_rfl) (fun _ _ _ h => h) (Or.inl ⟨by rfl, fun w hSw => ?y5⟩) hHeld ?r5
      case y5 => (try dsimp only at hSw); first | (go_simp; done) | (go_simp; with_reducible rfl)
      try simp only [Act.put, List.setIfInBounds_toArray, List.set_cons_zero, List.set_cons_succ, List.getElem_toArray, List.getElem_cons_zero, List.getElem_cons_succ]
      refine wpAnyH_take (i := 5) (v := ?v6) rfl (by kernel_rfl) (by kernel_rfl) (by kernel_rfl) (fun _ _ _ h => h) (Or.inl ⟨by rfl, fun w hSw => ?y6⟩) hHeld ?r6
      case y6 => (try dsimp only at hSw); first | (go_simp; done) | (go_simp; with_reducible rfl)
      try simp only [Act.put, List.setIfInBounds_toArray, List.set_cons_zero, List.set_cons_succ, List.getElem_toArray, List.getElem_cons_zero, List.getElem_cons_succ]
      refine wpAnyH_take (i := 6) (v := ?v7) rfl (by kernel_rfl) (by kernel_rfl) (by kernel_rfl) (fun _ _ _ h => h) (Or.inl ⟨by rfl, fun w hSw => ?y7⟩) hHeld ?r7
      case y7 => (try dsimp only at hSw); first | (go_simp; done) | (go_simp; with_reducible rfl)
      try simp only [Act.put, List.setIfInBounds_toArray, List.set_cons_zero, List.set_cons_succ, List.getElem_toArray, List.getElem_cons_zero, List.getElem_cons_succ]
      refine wpAnyH_take (i := 7) (v := ?v8) rfl (by kernel_rfl) (by kernel_rfl) (by kernel_rfl) (fun _ _ _ h => h) (Or.inl ⟨by rfl, fun w hSw => ?y8⟩) hHeld ?r8
      case y8 => (try dsimp only at hSw); first | (go_simp; done) | (go_simp; with_reducible rfl)
      try simp only [Act.put, List.setIfInBounds_toArray, List.set_cons_zero, List.set_cons_succ, List.getElem_toArray, List.getElem_cons_zero, List.getElem_cons_succ]
      refine wpAnyH_take (i := 8) (v := ?v9) rfl (by kernel_rfl) (by kernel_rfl) (by kernel_rfl) (fun _ _ _ h => h) (Or.inl ⟨by rfl, fun w hSw => ?y9⟩) hHeld ?r9
      case y9 => (try dsimp only at hSw); first | (go_simp; done) | (go_simp; with_reducible rfl)
      try simp only [Act.put, List.setIfInBounds_toArray, List.set_cons_zero, List.set_cons_succ, List.getElem_toArray, List.getElem_cons_zero, List.getElem_cons_succ]
      refine wpAnyH_take (i := 9) (v := ?v10) rfl (by kernel_rfl) (by kernel_rfl) (by kernel_rfl) (fun _ _ _ h => h) (Or.inl ⟨by rfl, fun w hSw => ?y10⟩) hHeld ?r10
      case y10 => (try dsimp only at hSw); first | (go_simp; done) | (go_simp; with_reducible rfl)
      try simp only [Act.put, List.setIfInBounds_toArray, List.set_cons_zero, List.set_cons_succ, List.getElem_toArray, List.getElem_cons_zero, List.getElem_cons_succ]
      refine wpAnyH_take (i := 10) (v := ?v11) rfl (by kernel_rfl) (by kernel_rfl) (by kernel_rfl) (fun _ _ _ h => h) (Or.inl ⟨by rfl, fun w hSw => ?y11⟩) hHeld ?r11
      case y11 => (try dsimp only at hSw); first | (go_simp; done) | (go_simp; with_reducible rfl)
      try simp only [Act.put, List.setIfInBounds_toArray, List.set_cons_zero, List.set_cons_succ, List.getElem_toArray, List.getElem_cons_zero, List.getElem_cons_succ]
      refine wpAnyH_take (i := 11) (v := ?v12) rfl (by kernel_rfl) (by kernel_rfl) (by kernel_rfl) (fun _ _ _ h => h) (Or.inl ⟨by rfl, fun w hSw => ?y12⟩) hHeld ?r12
      case y12 => (try dsimp only at hSw); first | (go_simp; done) | (go_simp; with_reducible rfl)
      try simp only [Act.put, List.setIfInBounds_toArray, List.set_cons_zero, List.set_cons_succ, List.getElem_toArray, List.getElem_cons_zero, List.getElem_cons_succ]
      refine wpAnyH_take (i := 12) (v := ?v13) rfl (by kernel_rfl) (by kernel_rfl) (by kernel_rfl) (fun _ _ _ h => h) (Or.inl ⟨by rfl, fun w hSw => ?y13⟩) hHeld ?r13
      case y13 => (try dsimp only at hSw); first | (go_simp; done) | (go_simp; with_reducible rfl)
      try simp only [Act.put, List.setIfInBounds_toArray, List.set_cons_zero, List.set_cons_succ, List.getElem_toArray, List.getElem_cons_zero, List.getElem_cons_succ]
      refine wpAnyH_take (i := 13) (v := ?v14) rfl (by kernel_rfl) (by kernel_rfl) (by kernel_rfl) (fun _ _ _ h => h) (Or.inl ⟨by rfl, fun w hSw => ?y14⟩) hHeld ?r14
      case y14 => (try dsimp only at hSw); first | (go_simp; done) | (go_simp; with_reducible rfl)
      try simp only [Act.put, List.setIfInBounds_toArray, List.set_cons_zero, List.set_cons_succ, List.getElem_toArray, List.getElem_cons_zero, List.getElem_cons_succ]
      refine wpAnyH_take (i := 14) (v := ?v15) rfl (by kernel_rfl) (by kernel_rfl) (by kernel_rfl) (fun _ _ _ h => h) (Or.inl ⟨by rfl, fun w hSw => ?y15⟩) hHeld ?r15
      case y15 => (try dsimp only at hSw); first | (go_simp; done) | (go_simp; with_reducible rfl)
      try simp only [Act.put, List.setIfInBounds_toArray, List.set_cons_zero, List.set_cons_succ, List.getElem_toArray, List.getElem_cons_zero, List.getElem_cons_succ]
      refine wpAnyH_ready (rs := [15]) (by kernel_rfl) (by simp) ?_
      refine AllReadyH.cons rfl (fun K hK => ?_) AllReadyH.nil
      go_simp
      refine (byteShift_any _ _ _ _ hlt hc5).mono ?_
      rintro e w' ⟨rfl, rfl⟩
      go_wp2_with fail
      refine hK.out _ _ hHeld (fun hHeld1 => ?_)
      clear hK K
      try simp only [Act.put, List.setIfInBounds_toArray, List.set_cons_zero, List.set_cons_succ, List.getElem_toArray, List.getElem_cons_zero, List.getElem_cons_succ]
      refine wpAnyH_take (i := 16) (v := ?v16) rfl (by kernel_rfl) (by kernel_rfl) (by kernel_rfl) (fun _ _ _ h => h) (Or.inl ⟨by rfl, fun w hSw => ?y16⟩) hHeld ?r16
      case y16 => (try dsimp only at hSw); first | (go_simp; done) | (go_simp; with_reducible rfl)
      try simp only [Act.put, List.setIfInBounds_toArray, List.set_cons_zero, List.set_cons_succ, List.getElem_toArray, List.getElem_cons_zero, List.getElem_cons_succ]
      refine wpAnyH_take (i := 17) (v := ?v17) rfl (by kernel_rfl) (by kernel_rfl) (by kernel_rfl) (fun _ _ _ h => h) (Or.inl ⟨by rfl, fun w hSw => ?y17⟩) hHeld ?r17
      case y17 => (try dsimp only at hSw); first | (go_simp; done) | (go_simp; with_reducible rfl)
      try simp only [Act.put, List.setIfInBounds_toArray, List.set_cons_zero, List.set_cons_succ, List.getElem_toArray, List.getElem_cons_zero, List.getElem_cons_succ]
      refine wpAnyH_ready (rs := [18]) (by kernel_rfl) (by simp) ?_
      refine AllReadyH.cons rfl (fun K hK => ?_) AllReadyH.nil
      go_simp
      first | rw [S0.out, S1.out, S2.out] | rw [S1.out, S2.out] | rw [S2.out]
      first | rw [HAV.out] | rw [IntKind.wrap_u8, HAV.out]
      refine HFS.out.mono ?_
      rintro e w2 ⟨rfl, v2, hW2, ho2, hd2⟩
      go_wp2_with fail
      refine hK.out _ _ ⟨hW2.c1, hW2.c2⟩ (fun hHeld2 => ?_)
      clear hK K
      try simp only [Act.put, List.setIfInBounds_toArray, List.set_cons_zero, List.set_cons_succ, List.getElem_toArray, List.getElem_cons_zero, List.getElem_cons_succ]
      refine wpAnyH_done (by kernel_rfl) ?_ _
      go_wp2_with fail
      go_roundw
      case rel => exact ⟨j + 1, by omega, by go_num, WrT.more (ho1.trans (Only.drawn _ ⟨1, rfl⟩)) hd1 ⟨v2, hW2, ho2, hd2⟩⟩
      case measure => simp [intOf]; omega
    · have hjc : j = c := by omega
      subst hjc
      have hall := fillF_all low l (wordE low m n) n (wordE_length low m n)
      rw [← HC.out] at hall
      rw [hall] at hW1
      have hWS := hW1.setLen (l.length + n)
      have hO2 : Only (Mine g v1) wr (wr.setCell ⟨g, 1, none⟩ (.int .i64 ((l.length + n : Nat) : Int))) := Only.setCell (p := ⟨g, 1, none⟩) (.inl rfl) _
      have hfz := hW1.fz 1
      rw [show (((l.length + n : Nat)) : Int) = (l.length : Int) + (n : Int) by omega] at hWS hO2
      have HWS := Lib.hid hWS
      have HO2 := Lib.hid hO2
      clear hWS hO2 hall
      go_wp2_with fail
      go_end0
      have hlen : (l ++ wordE low m n).length = l.length + n := by rw [List.length_append, wordE_length]
      refine ⟨rfl, ?_⟩
      rw [hlen]
      exact WrT.more ho1 hd1 ⟨v1, HWS.out, HO2.out, fun _ h => .inl h⟩
end Go.Proofs.Ytjafcjnkefioeaa.Bit

/- HfR, IfA, IgA: merged. -/
import Derived.Laws.BitsAllLaws
import Derived.Laws.Strings
import Derived.Laws.BytesArg
import Derived.Test.YtjafcjnkefioeaaGreatRows
import Derived.WalkKit
import Derived.ProofKit
import Derived.WalkLawsBesides
import Derived.Lib.Hide
import Derived.Deep.QuietTactic
import Derived.BigQuiet
import Derived.Outline
import Derived.Laws.NewBlocks
import Derived.Laws.CopyOwn
import Derived.Laws.Concat
import Derived.Laws.Strings2
import Derived.WalkSpells
import Derived.Laws.AppendOwnNone
import Derived.OpenShut
import Derived.Lib.SliceRun
import Derived.ChangeKeysEq
import Derived.Laws.Pointers
import Derived.Deep.RegionLaw
import Derived.Deep.DeepCutAuto
import Derived.BigRegion
import Derived.Deep.AppendLies
import Derived.Test.YtjafcjnkefioeaaGreatPah
import Derived.Test.YtjafcjnkefioeaaGreatPaj
import Derived.Test.YtjafcjnkefioeaaGreatPak
set_option linter.unusedVariables false
set_option linter.unusedSimpArgs false
/- The contract of a book's Read over numbers, whatever the bits are. -/
namespace Go.Proofs.YtjafcjnkefioeaaGreat.Hf
open Go.RowKit Go.Proofs.YtjafcjnkefioeaaGreat.Oct Go.Proofs.YtjafcjnkefioeaaGreat.Bit Go.Proofs.YtjafcjnkefioeaaGreat.Inf
set_option maxRecDepth 100000
def wordsU (W : List (List Bool)) : List (List UInt8) := W.map fun m => m.map dig
theorem wordsU_length (W : List (List Bool)) : (wordsU W).length = W.length := by simp [wordsU]
theorem dig_inj {a b : List Bool} (h : a.map dig = b.map dig) : a = b := by
  have hinj : ∀ a b : Bool, dig a = dig b → a = b := by intro a b; cases a <;> cases b <;> simp [dig]
  exact (List.map_inj_right (f := dig) (fun a b => hinj a b)).1 h
theorem wordsU_get {W : List (List Bool)} {i : Nat} {m : List Bool} : (wordsU W)[i]? = some (m.map dig) ↔ W[i]? = some m := by
  unfold wordsU
  rw [List.getElem?_map]
  cases W[i]? with
  | none => simp
  | some x =>
    simp only [Option.map_some, Option.some.injEq]
    exact ⟨dig_inj, fun e => by rw [e]⟩
section
variable {W : List (List Bool)} {A : List Bool → Option (Nat × Nat)} {E : List Bool → Option Nat}
theorem St.mem (h : St (wordsU W) (wordsU W).length A E) {q : List Bool} (hq : q ≠ []) {i : Nat} : E q = some i ↔ W[i]? = some q := by
  constructor
  · intro e
    exact wordsU_get.1 (h.e1 q i e).2.2
  · intro e
    have hi : i < W.length := (List.getElem?_eq_some_iff.1 e).1
    rcases h.e2 i _ (by rw [wordsU_length]; exact hi) (wordsU_get.2 e) with e' | ⟨r, hr, _, hE⟩
    · exact absurd (by simpa using e') hq
    · rw [dig_inj hr]; exact hE
theorem look_ends (h : St (wordsU W) (wordsU W).length A E) {p t : List Bool} {x : Bool} {i : Nat} (he : E (p ++ [x]) = some i) : lookW W p (x :: t) = .ok (i, p.length + 1) := by
  have hm := (h.mem (by simp)).1 he
  have hmem : p ++ [x] ∈ W := List.mem_of_getElem? hm
  have hl := List.idxOf_lt_length_of_mem hmem
  have hj := (h.mem (q := p ++ [x]) (by simp) (i := W.idxOf (p ++ [x]))).2 (by rw [List.getElem?_eq_getElem hl, List.getElem_idxOf])
  rw [he] at hj
  injection hj with hj
  rw [lookW, if_pos hmem, ← hj]
theorem look_none (h : St (wordsU W) (wordsU W).length A E) {p t : List Bool} {x : Bool} (ha : A (p ++ [x]) = none) : lookW W p (x :: t) = .error 6 := by
  have key : ∀ r, r ∈ W → r ≠ [] → ¬ p ++ [x] <+: r := by
    intro r hr hne hp
    obtain ⟨j, hj⟩ := List.mem_iff_getElem?.1 hr
    have := (h.mem hne).2 hj
    exact h.a2 _ r (by rw [this]; simp) hp ha
  rw [lookW, if_neg fun hm => key _ hm (by simp) (List.prefix_refl _), if_neg]
  intro hany
  obtain ⟨r, hr, hb⟩ := List.any_eq_true.1 hany
  rw [Bool.and_eq_true] at hb
  exact key r hr (by have := hb.1; intro e; rw [e] at this; simp at this) (List.isPrefixOf_iff_prefix.1 hb.2)
theorem look_on (h : St (wordsU W) (wordsU W).length A E) {p t : List Bool} {x : Bool} (ha : A (p ++ [x]) ≠ none) (he : E (p ++ [x]) = none) : lookW W p (x :: t) = lookW W (p ++ [x]) t := by
  have hm : p ++ [x] ∉ W := by
    intro hm
    obtain ⟨j, hj⟩ := List.mem_iff_getElem?.1 hm
    have := (h.mem (by simp)).2 hj
    rw [he] at this
    cases this
  rw [lookW, if_neg hm, if_pos]
  rcases h.a1 _ ha with e | ⟨r, hr, hp⟩
  · exact absurd e (by simp)
  · rcases hk : E r with _ | i
    · exact absurd hk hr
    · have hne : r ≠ [] := (h.e1 r i hk).2.1
      refine List.any_eq_true.2 ⟨r, List.mem_of_getElem? ((h.mem hne).1 hk), ?_⟩
      rw [Bool.and_eq_true]
      exact ⟨by simpa using hne, List.isPrefixOf_iff_prefix.2 hp⟩
end
theorem bit_none {low : Bool} {xs : List UInt8} {a : Nat} (h : (bitsOf low xs).drop a = []) :
    readV 1 low xs a = 0 ∧ readE 1 (8 * xs.length) a = 2 ∧ readA 1 (8 * xs.length) a = a := by
  have hl := congrArg List.length h
  rw [List.length_drop, bitsOf_length, List.length_nil] at hl
  have ho : okR 1 (8 * xs.length) a = false := by unfold okR cntB; simp; omega
  refine ⟨?_, ?_, ?_⟩
  · unfold readV; rw [ho]; rfl
  · unfold readE; rw [ho]; rfl
  · unfold readA; rw [ho]; rfl
def ReadL (w : World) (gr : Nat) (p : Option Addr) (cap : Nat) (xs : List UInt8) (a : Nat) (low : Bool) (W : List (List Bool)) (ms : List Value) (z : Value) (e : Ending) (w' : World) : Prop :=
  ((∃ i k v, lookW W [] ((bitsOf low xs).drop a) = .ok (i, k) ∧ ms[i]? = some v ∧ e = .returned (.tuple #[v, .int .i64 0]) ∧ Rd w' gr p cap xs (a + k) low) ∨
    ∃ c b, lookW W [] ((bitsOf low xs).drop a) = .error c ∧ e = .returned (.tuple #[z, .int .i64 (c : Int)]) ∧ Rd w' gr p cap xs b low) ∧ Only (· = gr) w w' ∧ w'.heap.size = w.heap.size
def Known (W : List (List Bool)) (E : List Bool → Option Nat) (l : List Bool) (j : Nat) : Prop :=
  j ≤ l.length ∧ (∀ i, E (l.take j) = some i → lookW W [] l = .ok (i, j)) ∧ (E (l.take j) = none → lookW W [] l = lookW W (l.take j) (l.drop j))
theorem Known.on {W : List (List Bool)} {A : List Bool → Option (Nat × Nat)} {E : List Bool → Option Nat} (h : St (wordsU W) (wordsU W).length A E) {l t : List Bool} {j : Nat} {x : Bool} (hk : Known W E l j) (he : E (l.take j) = none) (hd : l.drop j = x :: t)
    (ha : A (l.take j ++ [x]) ≠ none) : l.take (j + 1) = l.take j ++ [x] ∧ Known W E l (j + 1) := by
  have hj : j < l.length := by
    have := congrArg List.length hd
    simp at this
    omega
  have hx : l[j] = x ∧ l.drop (j + 1) = t := by
    rw [List.drop_eq_getElem_cons hj] at hd
    injection hd with h1 h2
    exact ⟨h1, h2⟩
  have ht : l.take (j + 1) = l.take j ++ [x] := by rw [List.take_succ_eq_append_getElem hj, hx.1]
  have hs := hk.2.2 he
  have hlen : (l.take j).length = j := by rw [List.length_take]; omega
  refine ⟨ht, by omega, fun i hi => ?_, fun hn => ?_⟩
  · rw [hs, hd, look_ends h (by rw [← ht]; exact hi), hlen]
  · rw [hs, hd, look_on h ha (by rw [← ht]; exact hn), ht, hx.2]
def BoU (w : World) (B C g : Nat) (ws : List (List UInt8)) (ms : List Value) : Prop :=
  (C ≤ w.heap.size ∧ B ≤ g) ∧ ∃ pw cw pm cm A E, St ws ws.length A E ∧ ws.length ≤ cw ∧ ms.length ≤ cm ∧ ∀ w' : World, (∀ k, B ≤ k → k < C → w'.heap[k]? = w.heap[k]?) →
    Tr w' C g (.slice pw ws.length cw) (.slice pm ms.length cm) A E ∧ VRow w' C pw (strs ws) ∧ VRow w' C pm ms
theorem BkK.boU {w : World} {B g : Nat} {ws : List (List UInt8)} {ms : List Value} (h : BkK w B g ws ms) (hg : B ≤ g) : BoU w B w.heap.size g ws ms := ⟨⟨Nat.le_refl _, hg⟩, h⟩
theorem BoU.same {w w' : World} {B C g : Nat} {ws : List (List UInt8)} {ms : List Value} (h : BoU w B C g ws ms) (hz : w.heap.size ≤ w'.heap.size) (hs : ∀ k, B ≤ k → k < C → w'.heap[k]? = w.heap[k]?) : BoU w' B C g ws ms := by
  obtain ⟨h0, pw, cw, pm, cm, A, E, h1, h2, h3, h4⟩ := h
  exact ⟨⟨Nat.le_trans h0.1 hz, h0.2⟩, pw, cw, pm, cm, A, E, h1, h2, h3, fun w2 hk => h4 w2 fun k a b => (hk k a b).trans (hs k a b)⟩
set_option maxHeartbeats 4000000 in
theorem readI_look (w : World) (B C g : Nat) (W : List (List Bool)) (ms : List Value) (gr : Nat) (p : Option Addr) (cap : Nat) (xs : List UInt8) (a : Nat) (low : Bool)
    (hB : BoU w B C g (wordsU W) ms) (hC : gr < B) (hR : Rd w gr p cap xs a low) (hlen : ms.length = W.length) :
    Calls Tryz.prog 119 #[.pointer (some ⟨g, 0, none⟩), .pointer (some ⟨gr, 0, none⟩)] w (ReadL w gr p cap xs a low W ms (.int .i64 0)) := by
  obtain ⟨⟨hCz, hBg⟩, pw, cw, pm, cm, A, E, hS, hlw, hlm, hAll⟩ := hB
  obtain ⟨hT, hvw, hvm⟩ := hAll w (fun _ _ _ => rfl)
  have HALL : Hid (∀ wr, Only (· = gr) w wr → Tr wr C g (.slice pw (wordsU W).length cw) (.slice pm ms.length cm) A E ∧ VRow wr C pw (strs (wordsU W)) ∧ VRow wr C pm ms) := Lib.hid fun wr ho => hAll wr fun k h1 h2 => ho.2.2.2.2 k (by omega) (fun e => by omega)
  have hgw := hR.lt
  have HTw := Lib.hid hT
  have HS := Lib.hid hS
  have HR0 := Lib.hid hR
  have HVM := Lib.hid hvm
  have HL := Lib.hid hlen
  obtain ⟨l, hl⟩ : ∃ l, l = (bitsOf low xs).drop a := ⟨_, rfl⟩
  have HBL := Lib.hid hl
  have HK0 : Hid (Known W E l 0) := Lib.hid ⟨by omega, fun i hi => absurd rfl ((hS.e1 _ i hi).2.1), fun _ => rfl⟩
  clear hT hS hvw hvm hR hlen hl hAll
  go_enter Tryz.func119, Tryz.ntmps119
  go_wp2_with fail
  go_loopw [7, 8, 9] (fun q u s wr => ∃ (j b o : Nat), A (l.take j) = some (b, o) ∧ q = .pointer (some ⟨b, o, none⟩) ∧ Hid (Known W E l j) ∧ Hid (Rd wr gr p cap xs (a + j) low) ∧ Hid (Only (· = gr) w wr) ∧ Hid (wr.heap.size = w.heap.size)) (fun _ _ _ wr => a + l.length + 1 - rdAt gr wr)
  case atStart => exact ⟨0, g, 2, HTw.out.root, rfl, HK0, HR0, Lib.hid (Only.refl _ _), Lib.hid rfl⟩
  case round =>
    obtain ⟨j, b, o, hA, rfl, HK, HR, HO, HZ⟩ := hrel
    have HT := Lib.hid (HALL.out wr HO.out).1
    have HVMr := Lib.hid (HALL.out wr HO.out).2.2
    have hbC := (HT.out.lo _ b o hA).2
    have hgb := (HT.out.lo _ b o hA).1
    have hne := HT.out.ne _ b o hA
    cases hE : E (l.take j) with
    | some i =>
      have HEQ := Lib.hid (HK.out.2.1 i hE)
      have hil : i < ms.length := by
        have := (HS.out.e1 _ i hE).1
        rw [wordsU_length, ← HL.out] at this
        exact this
      obtain ⟨v, hv⟩ : ∃ v, ms[i]? = some v := ⟨_, List.getElem?_eq_getElem hil⟩
      obtain ⟨bm, om, hpm, hbm, hcm⟩ := vrow_get HVMr.out hv
      have HVV := Lib.hid hv
      subst hpm
      rw [hE] at hne
      have hne : wr.cell? ⟨b, o + 2, none⟩ = some (.bool true) := hne
      have hni := HT.out.ni _ b o hA
      rw [hE] at hni
      have hni : wr.cell? ⟨b, o + 3, none⟩ = some (.int .i64 (i : Int)) := hni
      have h1 := HT.out.h1
      have j0 : (0 : Int) ≤ (i : Int) := by omega
      have j1 : (i : Int) < (ms.length : Int) := by omega
      clear hE hv
      generalize ms.length = ml at h1 j1
      go_wp2_with fail
      go_quiet (fail)
      go_wp2_with fail
      go_ret2
      exact ⟨.inl ⟨i, j, v, HBL.out ▸ HEQ.out, HVV.out, rfl, HR.out.drawn ⟨_, rfl⟩⟩, HO.out.trans (Only.drawn _ ⟨_, rfl⟩), HZ.out⟩
    | none =>
      rw [hE] at hne
      have hne : wr.cell? ⟨b, o + 2, none⟩ = some (.bool false) := hne
      have HEN := Lib.hid hE
      have HRD := Lib.hid (read_any gr p cap xs (a + j) low wr 1 HR.out)
      have hdr : (bitsOf low xs).drop (a + j) = l.drop j := by rw [← List.drop_drop, ← HBL.out]
      rcases hd : l.drop j with _ | ⟨x, t⟩
      · obtain ⟨hv1, he1, ha1⟩ := bit_none (hdr.trans hd)
        have HEQ : Hid (lookW W [] l = .error 2) := Lib.hid (by rw [HK.out.2.2 hE, hd]; rfl)
        have HV := Lib.hid hv1
        have HE := Lib.hid he1
        clear hE hdr hd hv1 he1 ha1
        go_wp2_with fail
        refine HRD.out.mono ?_
        rintro e w4 ⟨rfl, hr4, ho4, hz4⟩
        rw [HV.out, HE.out]
        have HR4 := Lib.hid hr4
        have HO4 := Lib.hid (HO.out.trans ho4)
        have HZ4 := Lib.hid (hz4.trans HZ.out)
        clear hr4 ho4 hz4
        go_wp2_with fail
        go_ret2
        exact ⟨.inr ⟨2, _, HBL.out ▸ HEQ.out, rfl, HR4.out⟩, HO4.out, HZ4.out⟩
      · obtain ⟨hv1, he1, ha1⟩ := bit_read (hdr.trans hd)
        have HV := Lib.hid hv1
        have HE := Lib.hid he1
        have HA1 := Lib.hid ha1
        rcases hk : A (l.take j ++ [x]) with _ | ⟨b2, o2⟩
        · have HEQ : Hid (lookW W [] l = .error 6) := Lib.hid (by rw [HK.out.2.2 hE, hd]; exact look_none HS.out hk)
          have HKN := Lib.hid hk
          clear hE hdr hd hv1 he1 ha1
          cases x
          · have hn : wr.cell? ⟨b, o, none⟩ = some (.pointer none) := by
              have := HT.out.n0 _ b o hA
              rw [hk] at this
              exact this
            clear hk
            go_wp2_with fail
            refine HRD.out.mono ?_
            rintro e w4 ⟨rfl, hr4, ho4, hz4⟩
            rw [HV.out, HE.out]
            have HR4 := Lib.hid hr4
            have HO4 := Lib.hid (HO.out.trans ho4)
            have HZ4 := Lib.hid (hz4.trans HZ.out)
            have hn4 : w4.cell? ⟨b, o, none⟩ = some (.pointer none) := by
              rw [← hn]
              exact World.cell?_of_block (ho4.2.2.2.2 b (by have := HZ.out; omega) (by omega))
            clear hr4 ho4 hz4 hn
            go_wp2_with fail
            go_ret2
            exact ⟨.inr ⟨6, _, HBL.out ▸ HEQ.out, rfl, HR4.out⟩, HO4.out, HZ4.out⟩
          · have hn : wr.cell? ⟨b, o + 1, none⟩ = some (.pointer none) := by
              have := HT.out.n1 _ b o hA
              rw [hk] at this
              exact this
            clear hk
            go_wp2_with fail
            refine HRD.out.mono ?_
            rintro e w4 ⟨rfl, hr4, ho4, hz4⟩
            rw [HV.out, HE.out]
            have HR4 := Lib.hid hr4
            have HO4 := Lib.hid (HO.out.trans ho4)
            have HZ4 := Lib.hid (hz4.trans HZ.out)
            have hn4 : w4.cell? ⟨b, o + 1, none⟩ = some (.pointer none) := by
              rw [← hn]
              exact World.cell?_of_block (ho4.2.2.2.2 b (by have := HZ.out; omega) (by omega))
            clear hr4 ho4 hz4 hn
            go_wp2_with fail
            go_ret2
            exact ⟨.inr ⟨6, _, HBL.out ▸ HEQ.out, rfl, HR4.out⟩, HO4.out, HZ4.out⟩
        · obtain ⟨htk, hkn⟩ := HK.out.on HS.out hE hd (by rw [hk]; simp)
          have HK2 : Hid (A (l.take (j + 1)) = some (b2, o2)) := Lib.hid (by rw [htk]; exact hk)
          have HKN := Lib.hid hkn
          clear hE hdr hd hv1 he1 ha1 htk hkn
          cases x
          · have hn : wr.cell? ⟨b, o, none⟩ = some (.pointer (some ⟨b2, o2, none⟩)) := by
              have := HT.out.n0 _ b o hA
              rw [hk] at this
              exact this
            clear hk
            go_wp2_with fail
            refine HRD.out.mono ?_
            rintro e w4 ⟨rfl, hr4, ho4, hz4⟩
            rw [HV.out, HE.out]
            have HR4 := Lib.hid hr4
            have HO4 := Lib.hid (HO.out.trans ho4)
            have HZ4 := Lib.hid (hz4.trans HZ.out)
            have hn4 : w4.cell? ⟨b, o, none⟩ = some (.pointer (some ⟨b2, o2, none⟩)) := by
              rw [← hn]
              exact World.cell?_of_block (ho4.2.2.2.2 b (by have := HZ.out; omega) (by omega))
            clear hr4 ho4 hz4 hn
            go_wp2_with fail
            go_roundw
            case rel => exact ⟨j + 1, b2, o2, HK2.out, rfl, HKN, Lib.hid (by have := HR4.out; rwa [HA1.out, Nat.add_assoc] at this), HO4, HZ4⟩
            case measure => rw [rdAt_of HR.out, rdAt_of HR4.out, HA1.out]; have := HK.out.1; omega
          · have hn : wr.cell? ⟨b, o + 1, none⟩ = some (.pointer (some ⟨b2, o2, none⟩)) := by
              have := HT.out.n1 _ b o hA
              rw [hk] at this
              exact this
            clear hk
            go_wp2_with fail
            refine HRD.out.mono ?_
            rintro e w4 ⟨rfl, hr4, ho4, hz4⟩
            rw [HV.out, HE.out]
            have HR4 := Lib.hid hr4
            have HO4 := Lib.hid (HO.out.trans ho4)
            have HZ4 := Lib.hid (hz4.trans HZ.out)
            have hn4 : w4.cell? ⟨b, o + 1, none⟩ = some (.pointer (some ⟨b2, o2, none⟩)) := by
              rw [← hn]
              exact World.cell?_of_block (ho4.2.2.2.2 b (by have := HZ.out; omega) (by omega))
            clear hr4 ho4 hz4 hn
            go_wp2_with fail
            go_roundw
            case rel => exact ⟨j + 1, b2, o2, HK2.out, rfl, HKN, Lib.hid (by have := HR4.out; rwa [HA1.out, Nat.add_assoc] at this), HO4, HZ4⟩
            case measure => rw [rdAt_of HR.out, rdAt_of HR4.out, HA1.out]; have := HK.out.1; omega
end Go.Proofs.YtjafcjnkefioeaaGreat.Hf
/- Read, Peek of a number of bits, against the plain words; which word is the first. -/
namespace Go.Proofs.YtjafcjnkefioeaaGreat.Inf
open Go.RowKit Go.Proofs.YtjafcjnkefioeaaGreat.Oct Go.Proofs.YtjafcjnkefioeaaGreat.Bit Go.Proofs.YtjafcjnkefioeaaGreat.Hf
set_option maxRecDepth 100000
theorem num_ok {xs : List UInt8} {a n : Nat} (h : a + n ≤ 8 * xs.length) (hn : n ≤ 32) : numR (bitsOf true xs) a n = .ok (nextV true xs a n, a + n) := by
  unfold numR nextV peekV
  rw [bitsOf_length, if_pos h, List.take_append_of_le_length (by rw [List.length_drop, bitsOf_length]; omega)]
theorem num_bad {xs : List UInt8} {a n : Nat} (h : ¬ a + n ≤ 8 * xs.length) : numR (bitsOf true xs) a n = .error 2 := by
  unfold numR
  rw [bitsOf_length, if_neg h]
def ReadN (w : World) (gr : Nat) (p : Option Addr) (cap : Nat) (xs : List UInt8) (a n : Nat) (e : Ending) (w' : World) : Prop :=
  ((∃ v, numR (bitsOf true xs) a n = .ok (v, a + n) ∧ v < 2 ^ n ∧ e = .returned (.tuple #[.int .u32 (v : Int), .int .i64 0]) ∧ Rd w' gr p cap xs (a + n) true) ∨
    (numR (bitsOf true xs) a n = .error 2 ∧ e = .returned (.tuple #[.int .u32 0, .int .i64 2]) ∧ Rd w' gr p cap xs a true)) ∧ Only (· = gr) w w' ∧ w'.heap.size = w.heap.size
theorem read_num (g : Nat) (p : Option Addr) (cap : Nat) (xs : List UInt8) (a n : Nat) (hn : n ≤ 32) (w : World) (hR : Rd w g p cap xs a true) :
    Calls Tryz.prog 50 #[.pointer (some ⟨g, 0, none⟩), .int .i64 (n : Int)] w (ReadN w g p cap xs a n) := by
  refine (read_any g p cap xs a true w n hR).mono ?_
  rintro e w' ⟨rfl, hr, ho, hz⟩
  refine ⟨?_, ho, hz⟩
  have hc : cntB (n : Int) = true := by unfold cntB; simp; omega
  by_cases h : a + n ≤ 8 * xs.length
  · have hk : okR (n : Int) (8 * xs.length) a = true := by unfold okR; rw [hc]; simp; omega
    left
    refine ⟨nextV true xs a n, num_ok h hn, nextV_lt true xs a n hn, ?_, ?_⟩
    · unfold readV readE
      rw [hk]
      rfl
    · unfold readA at hr
      rw [hk] at hr
      simpa using hr
  · have hk : okR (n : Int) (8 * xs.length) a = false := by unfold okR; rw [hc]; simp; omega
    right
    refine ⟨num_bad h, ?_, ?_⟩
    · unfold readV readE
      rw [hk, hc]
      rfl
    · unfold readA at hr
      rw [hk] at hr
      simpa using hr
end Go.Proofs.YtjafcjnkefioeaaGreat.Inf
/- A decoder of blocks in memory; the contract of literal. -/
namespace Go.Proofs.YtjafcjnkefioeaaGreat.Inf
open Go.RowKit Go.Proofs.YtjafcjnkefioeaaGreat.Oct Go.Proofs.YtjafcjnkefioeaaGreat.Bit Go.Proofs.YtjafcjnkefioeaaGreat.Hf
set_option maxRecDepth 100000
def Kept (B C : Nat) (P : World → Prop) (w : World) : Prop := C ≤ w.heap.size ∧ ∀ w' : World, C ≤ w'.heap.size → (∀ k, B ≤ k → k < C → w'.heap[k]? = w.heap[k]?) → P w'
theorem Kept.now {B C : Nat} {P : World → Prop} {w : World} (h : Kept B C P w) : P w := h.2 w h.1 fun _ _ _ => rfl
theorem Kept.same {B C : Nat} {P : World → Prop} {w w' : World} (h : Kept B C P w) (hz : w.heap.size ≤ w'.heap.size) (hs : ∀ k, B ≤ k → k < C → w'.heap[k]? = w.heap[k]?) : Kept B C P w' :=
  ⟨Nat.le_trans h.1 hz, fun w2 h2 hk => h.2 w2 h2 fun k a b => (hk k a b).trans (hs k a b)⟩
theorem Kept.only {B C : Nat} {P : World → Prop} {S : Nat → Prop} {w w' : World} (h : Kept B C P w) (ho : Only S w w') (hS : ∀ k, B ≤ k → k < C → ¬ S k) : Kept B C P w' :=
  h.same ho.2.2.2.1 fun k a b => ho.2.2.2.2 k (by have := h.1; omega) (hS k a b)
theorem own_only8 {S : Nat → Prop} {w w' : World} {e n : Nat} {v : Value} {cs : List Value} (h : w.ownsRow 0 e 1 v n cs) (ho : Only S w w') (hv : ∀ k, v.ownBlock = some k → ¬ S k) : w'.ownsRow 0 e 1 v n cs := by
  refine ⟨h.1, ?_⟩
  rcases h.2 with hn | ⟨g, cap, cur, rfl, hb, hh, r⟩
  · exact .inl hn
  · refine .inr ⟨g, cap, cur, rfl, hb, ?_, r⟩
    have hlt : g < w.heap.size := by
      rcases Nat.lt_or_ge g w.heap.size with hlt | hge
      · exact hlt
      · rw [Array.getElem?_eq_none hge] at hh; cases hh
    rw [ho.2.2.2.2 g hlt (hv g rfl)]
    exact hh
theorem only_grown {w w' : World} {row : Option Nat} (hg : w.grownBy w' row) : Only (fun k => row = some k) w w' :=
  ⟨hg.os, hg.tape, hg.output, hg.size, fun k hk hs => hg.block k hk (fun e => hs e.symm)⟩
def places (n : Nat) : List Value := ints ((List.range n).map fun i : Nat => (i : Int))
def Bo (w : World) (B C g : Nat) (W : List (List Bool)) : Prop := BoU w B C g (wordsU W) (places W.length)
theorem Bo.same {B C g : Nat} {W : List (List Bool)} {S : Nat → Prop} {w w' : World} (h : Bo w B C g W) (ho : Only S w w') (hS : ∀ k, B ≤ k → k < C → ¬ S k) : Bo w' B C g W :=
  BoU.same h ho.2.2.2.1 fun k a b => ho.2.2.2.2 k (by have := h.1.1; omega) (hS k a b)
structure Kon where
  d : Nat
  gr : Nat
  p : Option Addr
  cap : Nat
  xs : List UInt8
  most : Nat
  bl : Nat
  cl : Nat
  bd : Nat
  cd : Nat
structure Fix where
  B : Nat
  C : Nat
  ga : Nat
  gb : Nat
def Clr (K : Kon) (v : Value) (B C : Nat) : Prop := K.d < B ∧ ∀ k, v.ownBlock = some k → ¬ (B ≤ k ∧ k < C)
def fixL (F : Option Fix) : Value := .pointer (F.map fun f => ⟨f.ga, 0, none⟩)
def fixR (F : Option Fix) : Value := .pointer (F.map fun f => ⟨f.gb, 0, none⟩)
def FixS (w : World) (K : Kon) (v : Value) : Option Fix → Prop
  | none => True
  | some f => Clr K v f.B f.C ∧ Bo w f.B f.C f.ga (canonW fixedA) ∧ Bo w f.B f.C f.gb (canonW fixedB)
def TabR (w : World) (b : Nat) (far : Bool) : Prop := ∀ i, i < (froms far).length →
  w.cell? ⟨b, i * 2, none⟩ = some (.int .i64 (((froms far).getD i 0 : Nat) : Int)) ∧ w.cell? ⟨b, i * 2 + 1, none⟩ = some (.int .i64 (((extras far).getD i 0 : Nat) : Int))
def Tabs (K : Kon) (w : World) : Prop := TabR w K.bl false ∧ TabR w K.bd true
structure De (w : World) (K : Kon) (a : Nat) (v : Value) (out : List UInt8) (F : Option Fix) : Prop where
  blk : w.heap[K.d]? = some (.cells #[.pointer (some ⟨K.gr, 0, none⟩), v, .int .i64 (K.most : Int), .slice (some ⟨K.bl, 0, none⟩) 29 K.cl, .slice (some ⟨K.bd, 0, none⟩) 30 K.cd, fixL F, fixR F] 55 (0, 0))
  rd : Rd w K.gr K.p K.cap K.xs a true
  own : w.ownsRow 0 5 1 v out.length (cellsOf out)
  tbl : Kept (K.gr + 1) K.d (Tabs K) w
  lo : K.gr < K.d
  hv : ∀ k, v.ownBlock = some k → K.d < k
  om : out.length ≤ K.most
  sz : K.most ≤ 200000
  fx : FixS w K v F
  cl : 29 ≤ K.cl ∧ 30 ≤ K.cd
section
variable {w w' : World} {K : Kon} {a : Nat} {v : Value} {out : List UInt8} {F : Option Fix}
theorem De.c0 (h : De w K a v out F) : w.cell? ⟨K.d, 0, none⟩ = some (.pointer (some ⟨K.gr, 0, none⟩)) := by simp [World.cell?, h.blk]
theorem De.c1 (h : De w K a v out F) : w.cell? ⟨K.d, 1, none⟩ = some v := by simp [World.cell?, h.blk]
theorem De.c2 (h : De w K a v out F) : w.cell? ⟨K.d, 2, none⟩ = some (.int .i64 (K.most : Int)) := by simp [World.cell?, h.blk]
theorem De.c3 (h : De w K a v out F) : w.cell? ⟨K.d, 3, none⟩ = some (.slice (some ⟨K.bl, 0, none⟩) 29 K.cl) := by simp [World.cell?, h.blk]
theorem De.c4 (h : De w K a v out F) : w.cell? ⟨K.d, 4, none⟩ = some (.slice (some ⟨K.bd, 0, none⟩) 30 K.cd) := by simp [World.cell?, h.blk]
theorem De.c5 (h : De w K a v out F) : w.cell? ⟨K.d, 5, none⟩ = some (fixL F) := by simp [World.cell?, h.blk]
theorem De.c6 (h : De w K a v out F) : w.cell? ⟨K.d, 6, none⟩ = some (fixR F) := by simp [World.cell?, h.blk]
theorem De.fz (h : De w K a v out F) (i : Nat) : w.frozen? ⟨K.d, i, none⟩ = false := by simp [World.frozen?, h.blk]
theorem De.lt (h : De w K a v out F) : K.d < w.heap.size := by
  rcases Nat.lt_or_ge K.d w.heap.size with hlt | hge
  · exact hlt
  · have := h.blk; rw [Array.getElem?_eq_none hge] at this; cases this
theorem rd_only {S : Nat → Prop} {g : Nat} {p : Option Addr} {cap : Nat} {xs : List UInt8} {at_ : Nat} {low : Bool} (h : Rd w g p cap xs at_ low) (ho : Only S w w') (hg : ∀ k, k ≤ g → ¬ S k) : Rd w' g p cap xs at_ low := by
  have hlt := h.lt
  refine ⟨(ho.2.2.2.2 g hlt (hg g (Nat.le_refl _))).trans h.1, fun h0 => ?_, h.2.2⟩
  obtain ⟨b, off, e, hb, hc⟩ := h.2.1 h0
  refine ⟨b, off, e, hb, fun i hi => ?_⟩
  rw [← hc i hi]
  exact World.cell?_of_block (w := w) (ho.2.2.2.2 b (by omega) (hg b (by omega)))
theorem FixS.only {S : Nat → Prop} (h : FixS w K v F) (ho : Only S w w') (hS : ∀ f, F = some f → ∀ k, f.B ≤ k → k < f.C → ¬ S k) : FixS w' K v F := by
  rcases F with _ | f
  · trivial
  · exact ⟨h.1, h.2.1.same ho (hS f rfl), h.2.2.same ho (hS f rfl)⟩
theorem De.keep (h : De w K a v out F) (ho : Only (fun _ => False) w w') : De w' K a v out F :=
  ⟨(ho.2.2.2.2 K.d h.lt (fun e => e)).trans h.blk, rd_only h.rd ho (fun _ _ e => e), own_only8 h.own ho (fun _ _ e => e), h.tbl.only ho (fun _ _ _ e => e), h.lo, h.hv, h.om, h.sz, h.fx.only ho (fun _ _ _ _ _ e => e), h.cl⟩
theorem De.drawn (h : De w K a v out F) (hd : Drawn w w') : De w' K a v out F := h.keep (Only.drawn _ hd)
theorem De.moved {b : Nat} (h : De w K a v out F) (ho : Only (· = K.gr) w w') (hr : Rd w' K.gr K.p K.cap K.xs b true) : De w' K b v out F := by
  have h1 := h.lo
  refine ⟨(ho.2.2.2.2 K.d h.lt (fun e => by omega)).trans h.blk, hr, own_only8 h.own ho (fun k hk e => by have := h.hv k hk; omega), h.tbl.only ho (fun k h2 _ e => by omega), h.lo, h.hv, h.om, h.sz, h.fx.only ho ?_, h.cl⟩
  intro f hf k h2 _ e
  subst hf
  have := h.fx.1.1
  omega
theorem De.form (h : De w K a v out F) : ∃ p cap, v = .slice p out.length cap ∧ out.length ≤ cap ∧ cap ≤ maxLen ∧ (p = none → cap = 0) ∧ Row w p out := by
  obtain ⟨q, c, h1, h2, h3, h4, h5⟩ := own_shape h.own rfl
  exact ⟨q, c, h1, h3, h4, h2, h5⟩
theorem De.plain {v' : Value} {out' : List UInt8} (h : De w K a v out F) (ho : Only (fun k => v.ownBlock = some k) w w') (hown : w'.ownsRow 0 5 1 v' out'.length (cellsOf out')) (hv : ∀ k, v'.ownBlock = some k → v.ownBlock = some k ∨ w.heap.size ≤ k) (hm : out'.length ≤ K.most) :
    De (w'.setCell ⟨K.d, 1, none⟩ v') K a v' out' F := by
  have hlo := h.lo
  have hhv := h.hv
  have hlt := h.lt
  have hd : ∀ k, v'.ownBlock = some k → K.d < k := fun k e => by
    rcases hv k e with h1 | h1
    · exact hhv k h1
    · omega
  have hb := (ho.2.2.2.2 K.d hlt (fun e => by have := hhv _ e; omega)).trans h.blk
  have ho2 : Only (· = K.d) w' (w'.setCell ⟨K.d, 1, none⟩ v') := Only.setCell (S := (· = K.d)) (p := ⟨K.d, 1, none⟩) (by rfl) _
  refine ⟨?_, rd_only (rd_only h.rd ho (fun k hk e => by have := hhv _ e; omega)) ho2 (fun k hk e => by omega), own_only8 hown ho2 (fun k hk e => by have := hd k hk; omega), (h.tbl.only ho (fun k _ h2 e => by have := hhv _ e; omega)).only ho2 (fun k _ h2 e => by omega), hlo, hd, hm, h.sz, ?_, h.cl⟩
  · simp [World.setCell, Array.getElem?_modify, hb]
  · have hfx := h.fx
    rcases F with _ | f
    · trivial
    · obtain ⟨⟨h1, h2⟩, h3, h4⟩ := hfx
      have h5 : ∀ k, f.B ≤ k → k < f.C → ¬ v.ownBlock = some k := fun k a b e => h2 k e ⟨a, b⟩
      have h6 : ∀ k, f.B ≤ k → k < f.C → ¬ k = K.d := fun k a b e => by omega
      refine ⟨⟨h1, fun k hk hh => ?_⟩, (h3.same ho h5).same ho2 h6, (h4.same ho h5).same ho2 h6⟩
      rcases hv k hk with e | e
      · exact h2 k e hh
      · have := h3.1.1; omega
end
def MineE (K : Kon) (v : Value) (k : Nat) : Prop := k = K.d ∨ k = K.gr ∨ v.ownBlock = some k
def DeT (w : World) (K : Kon) (v : Value) (a : Nat) (out : List UInt8) (F : Option Fix) (w' : World) : Prop :=
  ∃ v', De w' K a v' out F ∧ Only (MineE K v) w w' ∧ ∀ k, v'.ownBlock = some k → v.ownBlock = some k ∨ w.heap.size ≤ k
theorem only_more {K : Kon} {w w1 w2 : World} {v v1 : Value} (ho : Only (MineE K v) w w1) (hd : ∀ k, v1.ownBlock = some k → v.ownBlock = some k ∨ w.heap.size ≤ k) (ho2 : Only (MineE K v1) w1 w2) : Only (MineE K v) w w2 := by
  have hz := ho.2.2.2.1
  refine ⟨ho2.1.trans ho.1, ho2.2.1.trans ho.2.1, ho2.2.2.1.trans ho.2.2.1, Nat.le_trans hz ho2.2.2.2.1, fun k hk hn => ?_⟩
  refine (ho2.2.2.2.2 k (by omega) (fun hm => hn ?_)).trans (ho.2.2.2.2 k hk hn)
  rcases hm with h | h | h
  · exact .inl h
  · exact .inr (.inl h)
  · rcases hd k h with h | h
    · exact .inr (.inr h)
    · omega
theorem DeT.more {K : Kon} {w w1 w2 : World} {v v1 : Value} {a : Nat} {out : List UInt8} {F : Option Fix} (ho : Only (MineE K v) w w1) (hd : ∀ k, v1.ownBlock = some k → v.ownBlock = some k ∨ w.heap.size ≤ k)
    (h : DeT w1 K v1 a out F w2) : DeT w K v a out F w2 := by
  obtain ⟨v2, hW, ho2, hd2⟩ := h
  have hz := ho.2.2.2.1
  refine ⟨v2, hW, only_more ho hd ho2, fun k hk => ?_⟩
  rcases hd2 k hk with h | h
  · exact hd k h
  · exact .inr (by omega)
theorem Bo.only {K : Kon} {w w' : World} {v : Value} {B C g : Nat} {W : List (List Bool)} (h : Bo w B C g W) (hc : Clr K v B C) (hlo : K.gr < K.d) (ho : Only (MineE K v) w w') : Bo w' B C g W :=
  h.same ho fun k h1 h2 e => by
    rcases e with e | e | e
    · have := hc.1; omega
    · have := hc.1; omega
    · exact hc.2 k e ⟨h1, h2⟩
theorem Clr.on {K : Kon} {w w' : World} {v v' : Value} {B C g : Nat} {W : List (List Bool)} (h : Clr K v B C) (hb : Bo w B C g W) (hd : ∀ k, v'.ownBlock = some k → v.ownBlock = some k ∨ w.heap.size ≤ k) : Clr K v' B C :=
  ⟨h.1, fun k hk hh => by
    rcases hd k hk with e | e
    · exact h.2 k e hh
    · have := hb.1.1; omega⟩
theorem De.one {w wd : World} {K : Kon} {a : Nat} {v : Value} {out : List UInt8} {F : Option Fix} (h : De w K a v out F) (x : UInt8) (hm : out.length + 1 ≤ K.most) (ho : Only (fun _ => False) w wd) :
    ∀ g1 cap1 w1, w1.ownsRow 0 5 1 (.slice (some ⟨g1, 0, none⟩) (out.length + 1) cap1) (out.length + 1) (cellsOf out ++ cellsOf [x]) → wd.grownBy w1 v.ownBlock → (v.ownBlock = some g1 ∨ g1 = wd.heap.size) →
      (w1.frozen? ⟨K.d, 1, none⟩ = false ∧ w1.cell? ⟨K.d, 1, none⟩ = some v) ∧ DeT w K v a (out ++ [x]) F (w1.setCell ⟨K.d, 1, none⟩ (.slice (some ⟨g1, 0, none⟩) (out.length + 1) cap1)) := by
  intro g1 cap1 w1 hown hgrow hat
  have hD := h.keep ho
  have hne : some K.d ≠ v.ownBlock := fun e => Nat.lt_irrefl _ (hD.hv K.d e.symm)
  have hon : Only (fun k => v.ownBlock = some k) wd w1 := only_grown hgrow
  have hv1 : ∀ k, (Value.slice (some ⟨g1, 0, none⟩) (out.length + 1) cap1).ownBlock = some k → v.ownBlock = some k ∨ wd.heap.size ≤ k := by
    intro k hk
    injection hk with hk
    subst hk
    exact hat.imp id (fun e => Nat.le_of_eq e.symm)
  refine ⟨⟨(hgrow.frozen_far ⟨K.d, 1, none⟩ hD.lt hne).trans (hD.fz 1), (hgrow.cell_far ⟨K.d, 1, none⟩ hD.lt hne).trans hD.c1⟩, ?_⟩
  have hown2 : w1.ownsRow 0 5 1 (.slice (some ⟨g1, 0, none⟩) (out.length + 1) cap1) (out ++ [x]).length (cellsOf (out ++ [x])) := by
    rw [cellsOf_append, List.length_append]
    exact hown
  exact DeT.more (ho.mono fun _ _ e => e.elim) (fun k hk => .inl hk)
    ⟨_, hD.plain hon hown2 hv1 (by simpa using hm), (hon.mono (fun k _ h => .inr (.inr h))).trans (Only.setCell (p := ⟨K.d, 1, none⟩) (.inl rfl) _), hv1⟩
theorem news8 (w : World) (x : UInt8) : ∀ j u, (cellsOf [x])[j]? = some u → (w.alloc (.cells #[.int .u8 (x.toNat : Int)] 5)).cell? ((⟨w.heap.size, 0, none⟩ : Addr).add j) = some u := by
  intro j u hj
  obtain ⟨hj', rfl⟩ := cellsOf_get hj
  have : j = 0 := by simpa using hj'
  subst this
  rw [add_plain]
  simp
def LitP (w : World) (K : Kon) (a : Nat) (v : Value) (out t : List UInt8) (F : Option Fix) (e : Ending) (w' : World) : Prop :=
  if K.most < out.length + t.length then e = .returned (.int .i64 8) ∧ Only (MineE K v) w w' else e = .returned (.int .i64 0) ∧ DeT w K v a (out ++ t) F w'
set_option maxHeartbeats 1000000 in
theorem literal_any (w : World) (K : Kon) (a : Nat) (v : Value) (out : List UInt8) (F : Option Fix) (x : UInt8) (h : De w K a v out F) :
    Calls Tryz.prog 85 #[.pointer (some ⟨K.d, 0, none⟩), .int .u8 (x.toNat : Int)] w (LitP w K a v out [x] F) := by
  obtain ⟨i0, hi, hz0, hz1, hz2⟩ := info_parts Tryz.infoByte
  obtain ⟨p, cap, hv, hc1, hc2, hnil, hrow⟩ := h.form
  have k1 := h.c1
  have k2 := h.c2
  rw [hv] at k1
  have hom := h.om
  have hsz := h.sz
  by_cases hfull : K.most ≤ out.length
  · have hres : ∀ e w', (e = .returned (.int .i64 8) ∧ Drawn w w') → LitP w K a v out [x] F e w' := by
      intro e w' hh
      unfold LitP
      rw [if_pos (by simp; omega)]
      exact ⟨hh.1, Only.drawn _ hh.2⟩
    have HR := Lib.hid hres
    have hd0 : decide ((out.length : Int) ≥ (K.most : Int)) = true := by simp; omega
    clear hres h hrow hnil
    go_enter Tryz.func85, Tryz.ntmps85
    go_wp2_with fail
    go_quiet (fail)
    go_wp2_with fail
    go_ret
    exact HR.out _ _ ⟨rfl, ⟨_, rfl⟩⟩
  · have hd0 : decide ((out.length : Int) ≥ (K.most : Int)) = false := by simp; omega
    have H := Lib.hid h
    have HV := Lib.hid hv
    clear h hrow
    go_enter Tryz.func85, Tryz.ntmps85
    go_wp2_with fail
    go_quiet (fail)
    have hab : Only (fun _ => False) w ((w.drewN nq).alloc (.cells #[.int .u8 (x.toNat : Int)] 5)) :=
      (Only.drawn (fun _ => False) (w := w) (w' := w.drewN nq) ⟨nq, rfl⟩).trans (Only.of_below ((Below.refl _ (w.drewN nq)).alloc (Nat.le_refl _) _))
    have HA := Lib.hid (H.out.keep hab)
    have HNW := Lib.hid (news8 (w.drewN nq) x)
    have HON := Lib.hid (H.out.one x (by omega) hab)
    unfold maxLen at hc2
    clear hab
    go_wp2_with (at_builtin; refine wpList_append_lies _ rfl _ _ 22 rfl 0 5 i0 (.int .u8 0) 1 1 Tryz.underlying22 hi hz0 hz1 hz2 rfl (by decide) v out.length (cellsOf out) (by rw [HV.out]; rfl) HA.out.own ⟨w.heap.size, 0, none⟩ 1 1 (cellsOf [x]) rfl rfl HNW.out cellsOf_one (by decide) (by unfold maxLen; omega) (by omega) (Nat.zero_le _) _ rfl ?_)
    intro g1 cap1 w1 hown1 hgrow1 hat1 _
    obtain ⟨⟨f1, k3⟩, hT⟩ := HON.out g1 cap1 w1 hown1 (by rw [HV.out]; exact hgrow1) (by rw [HV.out]; simpa using hat1)
    have HT := Lib.hid hT
    clear hown1 hgrow1 hat1 hT
    go_wp2_with fail
    go_ret
    unfold LitP
    rw [if_neg (by simp; omega)]
    exact ⟨rfl, HT.out⟩
end Go.Proofs.YtjafcjnkefioeaaGreat.Inf


/- The contract of a book's Read over numbers, whatever the bits are. -/
import Derived.Test.YtidicajedckaoaaGreatDoorHfQ
import Derived.Test.YtidicajedckaoaaGreatDoorIfO
namespace Go.Proofs.YtidicajedckaoaaGreatDoor.Hf
open Go.RowKit Go.Proofs.YtidicajedckaoaaGreatDoor.Oct Go.Proofs.YtidicajedckaoaaGreatDoor.Bit Go.Proofs.YtidicajedckaoaaGreatDoor.Inf
set_option linter.unusedVariables false
set_option linter.unusedSimpArgs false
set_option maxRecDepth 100000

def wordsU (W : List (List Bool)) : List (List UInt8) := W.map fun m => m.map dig
theorem wordsU_length (W : List (List Bool)) : (wordsU W).length = W.length := by simp [wordsU]
theorem dig_inj {a b : List Bool} (h : a.map dig = b.map dig) : a = b := by
  have hinj : ∀ a b : Bool, dig a = dig b → a = b := by intro a b; cases a <;> cases b <;> simp [dig]
  exact (List.map_inj_right (f := dig) (fun a b => hinj a b)).1 h
theorem wordsU_get {W : List (List Bool)} {i : Nat} {m : List Bool} : (wordsU W)[i]? = some (m.map dig) ↔ W[i]? = some m := by
  unfold wordsU
  rw [List.getElem?_map]
  cases W[i]? with
  | none => simp
  | some x =>
    simp only [Option.map_some, Option.some.injEq]
    exact ⟨dig_inj, fun e => by rw [e]⟩
section
variable {W : List (List Bool)} {A : List Bool → Option (Nat × Nat)} {E : List Bool → Option Nat}
theorem St.mem (h : St (wordsU W) (wordsU W).length A E) {q : List Bool} (hq : q ≠ []) {i : Nat} : E q = some i ↔ W[i]? = some q := by
  constructor
  · intro e
    exact wordsU_get.1 (h.e1 q i e).2.2
  · intro e
    have hi : i < W.length := (List.getElem?_eq_some_iff.1 e).1
    rcases h.e2 i _ (by rw [wordsU_length]; exact hi) (wordsU_get.2 e) with e' | ⟨r, hr, _, hE⟩
    · exact absurd (by simpa using e') hq
    · rw [dig_inj hr]; exact hE
theorem look_ends (h : St (wordsU W) (wordsU W).length A E) {p t : List Bool} {x : Bool} {i : Nat} (he : E (p ++ [x]) = some i) : lookW W p (x :: t) = .ok (i, p.length + 1) := by
  have hm := (h.mem (by simp)).1 he
  have hmem : p ++ [x] ∈ W := List.mem_of_getElem? hm
  have hl := List.idxOf_lt_length_of_mem hmem
  have hj := (h.mem (q := p ++ [x]) (by simp) (i := W.idxOf (p ++ [x]))).2 (by rw [List.getElem?_eq_getElem hl, List.getElem_idxOf])
  rw [he] at hj
  injection hj with hj
  rw [lookW, if_pos hmem, ← hj]
theorem look_none (h : St (wordsU W) (wordsU W).length A E) {p t : List Bool} {x : Bool} (ha : A (p ++ [x]) = none) : lookW W p (x :: t) = .error 6 := by
  have key : ∀ r, r ∈ W → r ≠ [] → ¬ p ++ [x] <+: r := by
    intro r hr hne hp
    obtain ⟨j, hj⟩ := List.mem_iff_getElem?.1 hr
    have := (h.mem hne).2 hj
    exact h.a2 _ r (by rw [this]; simp) hp ha
  rw [lookW, if_neg fun hm => key _ hm (by simp) (List.prefix_refl _), if_neg]
  intro hany
  obtain ⟨r, hr, hb⟩ := List.any_eq_true.1 hany
  rw [Bool.and_eq_true] at hb
  exact key r hr (by have := hb.1; intro e; rw [e] at this; simp at this) (List.isPrefixOf_iff_prefix.1 hb.2)
theorem look_on (h : St (wordsU W) (wordsU W).length A E) {p t : List Bool} {x : Bool} (ha : A (p ++ [x]) ≠ none) (he : E (p ++ [x]) = none) : lookW W p (x :: t) = lookW W (p ++ [x]) t := by
  have hm : p ++ [x] ∉ W := by
    intro hm
    obtain ⟨j, hj⟩ := List.mem_iff_getElem?.1 hm
    have := (h.mem (by simp)).2 hj
    rw [he] at this
    cases this
  rw [lookW, if_neg hm, if_pos]
  rcases h.a1 _ ha with e | ⟨r, hr, hp⟩
  · exact absurd e (by simp)
  · rcases hk : E r with _ | i
    · exact absurd hk hr
    · have hne : r ≠ [] := (h.e1 r i hk).2.1
      refine List.any_eq_true.2 ⟨r, List.mem_of_getElem? ((h.mem hne).1 hk), ?_⟩
      rw [Bool.and_eq_true]
      exact ⟨by simpa using hne, List.isPrefixOf_iff_prefix.2 hp⟩
end
theorem bit_none {low : Bool} {xs : List UInt8} {a : Nat} (h : (bitsOf low xs).drop a = []) :
    readV 1 low xs a = 0 ∧ readE 1 (8 * xs.length) a = 2 ∧ readA 1 (8 * xs.length) a = a := by
  have hl := congrArg List.length h
  rw [List.length_drop, bitsOf_length, List.length_nil] at hl
  have ho : okR 1 (8 * xs.length) a = false := by unfold okR cntB; simp; omega
  refine ⟨?_, ?_, ?_⟩
  · unfold readV; rw [ho]; rfl
  · unfold readE; rw [ho]; rfl
  · unfold readA; rw [ho]; rfl
def ReadL (w : World) (gr : Nat) (p : Option Addr) (cap : Nat) (xs : List UInt8) (a : Nat) (low : Bool) (W : List (List Bool)) (ms : List Value) (z : Value) (e : Ending) (w' : World) : Prop :=
  ((∃ i k v, lookW W [] ((bitsOf low xs).drop a) = .ok (i, k) ∧ ms[i]? = some v ∧ e = .returned (.tuple #[v, .int .i64 0]) ∧ Rd w' gr p cap xs (a + k) low) ∨
    ∃ c b, lookW W [] ((bitsOf low xs).drop a) = .error c ∧ e = .returned (.tuple #[z, .int .i64 (c : Int)]) ∧ Rd w' gr p cap xs b low) ∧ Only (· = gr) w w' ∧ w'.heap.size = w.heap.size
/-- what is known of the bits read so far -/
def Known (W : List (List Bool)) (E : List Bool → Option Nat) (l : List Bool) (j : Nat) : Prop :=
  j ≤ l.length ∧ (∀ i, E (l.take j) = some i → lookW W [] l = .ok (i, j)) ∧ (E (l.take j) = none → lookW W [] l = lookW W (l.take j) (l.drop j))
theorem Known.on {W : List (List Bool)} {A : List Bool → Option (Nat × Nat)} {E : List Bool → Option Nat} (h : St (wordsU W) (wordsU W).length A E) {l t : List Bool} {j : Nat} {x : Bool} (hk : Known W E l j) (he : E (l.take j) = none) (hd : l.drop j = x :: t)
    (ha : A (l.take j ++ [x]) ≠ none) : l.take (j + 1) = l.take j ++ [x] ∧ Known W E l (j + 1) := by
  have hj : j < l.length := by
    have := congrArg List.length hd
    simp at this
    omega
  have hx : l[j] = x ∧ l.drop (j + 1) = t := by
    rw [List.drop_eq_getElem_cons hj] at hd
    injection hd with h1 h2
    exact ⟨h1, h2⟩
  have ht : l.take (j + 1) = l.take j ++ [x] := by rw [List.take_succ_eq_append_getElem hj, hx.1]
  have hs := hk.2.2 he
  have hlen : (l.take j).length = j := by rw [List.length_take]; omega
  refine ⟨ht, by omega, fun i hi => ?_, fun hn => ?_⟩
  · rw [hs, hd, look_ends h (by rw [← ht]; exact hi), hlen]
  · rw [hs, hd, look_on h ha (by rw [← ht]; exact hn), ht, hx.2]
/-- a book in the blocks from B up to C: it stands whatever else turns -/
def BoU (w : World) (B C g : Nat) (ws : List (List UInt8)) (ms : List Value) : Prop :=
  (C ≤ w.heap.size ∧ B ≤ g) ∧ ∃ pw cw pm cm A E, St ws ws.length A E ∧ ws.length ≤ cw ∧ ms.length ≤ cm ∧ ∀ w' : World, (∀ k, B ≤ k → k < C → w'.heap[k]? = w.heap[k]?) →
    Tr w' C g (.slice pw ws.length cw) (.slice pm ms.length cm) A E ∧ VRow w' C pw (strs ws) ∧ VRow w' C pm ms
theorem BkK.boU {w : World} {B g : Nat} {ws : List (List UInt8)} {ms : List Value} (h : BkK w B g ws ms) (hg : B ≤ g) : BoU w B w.heap.size g ws ms := ⟨⟨Nat.le_refl _, hg⟩, h⟩
theorem BoU.same {w w' : World} {B C g : Nat} {ws : List (List UInt8)} {ms : List Value} (h : BoU w B C g ws ms) (hz : w.heap.size ≤ w'.heap.size) (hs : ∀ k, B ≤ k → k < C → w'.heap[k]? = w.heap[k]?) : BoU w' B C g ws ms := by
  obtain ⟨h0, pw, cw, pm, cm, A, E, h1, h2, h3, h4⟩ := h
  exact ⟨⟨Nat.le_trans h0.1 hz, h0.2⟩, pw, cw, pm, cm, A, E, h1, h2, h3, fun w2 hk => h4 w2 fun k a b => (hk k a b).trans (hs k a b)⟩
set_option maxHeartbeats 4000000 in
theorem readI_look (w : World) (B C g : Nat) (W : List (List Bool)) (ms : List Value) (gr : Nat) (p : Option Addr) (cap : Nat) (xs : List UInt8) (a : Nat) (low : Bool)
    (hB : BoU w B C g (wordsU W) ms) (hC : gr < B) (hR : Rd w gr p cap xs a low) (hlen : ms.length = W.length) :
    Calls Tryz.prog 119 #[.pointer (some ⟨g, 0, none⟩), .pointer (some ⟨gr, 0, none⟩)] w (ReadL w gr p cap xs a low W ms (.int .i64 0)) := by
  obtain ⟨⟨hCz, hBg⟩, pw, cw, pm, cm, A, E, hS, hlw, hlm, hAll⟩ := hB
  obtain ⟨hT, hvw, hvm⟩ := hAll w (fun _ _ _ => rfl)
  have HALL : Hid (∀ wr, Only (· = gr) w wr → Tr wr C g (.slice pw (wordsU W).length cw) (.slice pm ms.length cm) A E ∧ VRow wr C pw (strs (wordsU W)) ∧ VRow wr C pm ms) := Lib.hid fun wr ho => hAll wr fun k h1 h2 => ho.2.2.2.2 k (by omega) (fun e => by omega)
  have hgw := hR.lt
  have HTw := Lib.hid hT
  have HS := Lib.hid hS
  have HR0 := Lib.hid hR
  have HVM := Lib.hid hvm
  have HL := Lib.hid hlen
  obtain ⟨l, hl⟩ : ∃ l, l = (bitsOf low xs).drop a := ⟨_, rfl⟩
  have HBL := Lib.hid hl
  have HK0 : Hid (Known W E l 0) := Lib.hid ⟨by omega, fun i hi => absurd rfl ((hS.e1 _ i hi).2.1), fun _ => rfl⟩
  clear hT hS hvw hvm hR hlen hl hAll
  go_enter Tryz.func119, Tryz.ntmps119
  go_wp2_with fail
  go_loopw [7, 8, 9] (fun q u s wr => ∃ (j b o : Nat), A (l.take j) = some (b, o) ∧ q = .pointer (some ⟨b, o, none⟩) ∧ Hid (Known W E l j) ∧ Hid (Rd wr gr p cap xs (a + j) low) ∧ Hid (Only (· = gr) w wr) ∧ Hid (wr.heap.size = w.heap.size)) (fun _ _ _ wr => a + l.length + 1 - rdAt gr wr)
  case atStart => exact ⟨0, g, 2, HTw.out.root, rfl, HK0, HR0, Lib.hid (Only.refl _ _), Lib.hid rfl⟩
  case round =>
    obtain ⟨j, b, o, hA, rfl, HK, HR, HO, HZ⟩ := hrel
    have HT := Lib.hid (HALL.out wr HO.out).1
    have HVMr := Lib.hid (HALL.out wr HO.out).2.2
    have hbC := (HT.out.lo _ b o hA).2
    have hgb := (HT.out.lo _ b o hA).1
    have hne := HT.out.ne _ b o hA
    cases hE : E (l.take j) with
    | some i =>
      have HEQ := Lib.hid (HK.out.2.1 i hE)
      have hil : i < ms.length := by
        have := (HS.out.e1 _ i hE).1
        rw [wordsU_length, ← HL.out] at this
        exact this
      obtain ⟨v, hv⟩ : ∃ v, ms[i]? = some v := ⟨_, List.getElem?_eq_getElem hil⟩
      obtain ⟨bm, om, hpm, hbm, hcm⟩ := vrow_get HVMr.out hv
      have HVV := Lib.hid hv
      subst hpm
      rw [hE] at hne
      have hne : wr.cell? ⟨b, o + 2, none⟩ = some (.bool true) := hne
      have hni := HT.out.ni _ b o hA
      rw [hE] at hni
      have hni : wr.cell? ⟨b, o + 3, none⟩ = some (.int .i64 (i : Int)) := hni
      have h1 := HT.out.h1
      have j0 : (0 : Int) ≤ (i : Int) := by omega
      have j1 : (i : Int) < (ms.length : Int) := by omega
      clear hE hv
      generalize ms.length = ml at h1 j1
      go_wp2_with fail
      go_quiet (fail)
      go_wp2_with fail
      go_ret2
      exact ⟨.inl ⟨i, j, v, HBL.out ▸ HEQ.out, HVV.out, rfl, HR.out.drawn ⟨_, rfl⟩⟩, HO.out.trans (Only.drawn _ ⟨_, rfl⟩), HZ.out⟩
    | none =>
      rw [hE] at hne
      have hne : wr.cell? ⟨b, o + 2, none⟩ = some (.bool false) := hne
      have HEN := Lib.hid hE
      have HRD := Lib.hid (read_any gr p cap xs (a + j) low wr 1 HR.out)
      have hdr : (bitsOf low xs).drop (a + j) = l.drop j := by rw [← List.drop_drop, ← HBL.out]
      rcases hd : l.drop j with _ | ⟨x, t⟩
      · obtain ⟨hv1, he1, ha1⟩ := bit_none (hdr.trans hd)
        have HEQ : Hid (lookW W [] l = .error 2) := Lib.hid (by rw [HK.out.2.2 hE, hd]; rfl)
        have HV := Lib.hid hv1
        have HE := Lib.hid he1
        clear hE hdr hd hv1 he1 ha1
        go_wp2_with fail
        refine HRD.out.mono ?_
        rintro e w4 ⟨rfl, hr4, ho4, hz4⟩
        rw [HV.out, HE.out]
        have HR4 := Lib.hid hr4
        have HO4 := Lib.hid (HO.out.trans ho4)
        have HZ4 := Lib.hid (hz4.trans HZ.out)
        clear hr4 ho4 hz4
        go_wp2_with fail
        go_ret2
        exact ⟨.inr ⟨2, _, HBL.out ▸ HEQ.out, rfl, HR4.out⟩, HO4.out, HZ4.out⟩
      · obtain ⟨hv1, he1, ha1⟩ := bit_read (hdr.trans hd)
        have HV := Lib.hid hv1
        have HE := Lib.hid he1
        have HA1 := Lib.hid ha1
        rcases hk : A (l.take j ++ [x]) with _ | ⟨b2, o2⟩
        · have HEQ : Hid (lookW W [] l = .error 6) := Lib.hid (by rw [HK.out.2.2 hE, hd]; exact look_none HS.out hk)
          have HKN := Lib.hid hk
          clear hE hdr hd hv1 he1 ha1
          cases x
          · have hn : wr.cell? ⟨b, o, none⟩ = some (.pointer none) := by
              have := HT.out.n0 _ b o hA
              rw [hk] at this
              exact this
            clear hk
            go_wp2_with fail
            refine HRD.out.mono ?_
            rintro e w4 ⟨rfl, hr4, ho4, hz4⟩
            rw [HV.out, HE.out]
            have HR4 := Lib.hid hr4
            have HO4 := Lib.hid (HO.out.trans ho4)
            have HZ4 := Lib.hid (hz4.trans HZ.out)
            have hn4 : w4.cell? ⟨b, o, none⟩ = some (.pointer none) := by
              rw [← hn]
              exact World.cell?_of_block (ho4.2.2.2.2 b (by have := HZ.out; omega) (by omega))
            clear hr4 ho4 hz4 hn
            go_wp2_with fail
            go_ret2
            exact ⟨.inr ⟨6, _, HBL.out ▸ HEQ.out, rfl, HR4.out⟩, HO4.out, HZ4.out⟩
          · have hn : wr.cell? ⟨b, o + 1, none⟩ = some (.pointer none) := by
              have := HT.out.n1 _ b o hA
              rw [hk] at this
              exact this
            clear hk
            go_wp2_with fail
            refine HRD.out.mono ?_
            rintro e w4 ⟨rfl, hr4, ho4, hz4⟩
            rw [HV.out, HE.out]
            have HR4 := Lib.hid hr4
            have HO4 := Lib.hid (HO.out.trans ho4)
            have HZ4 := Lib.hid (hz4.trans HZ.out)
            have hn4 : w4.cell? ⟨b, o + 1, none⟩ = some (.pointer none) := by
              rw [← hn]
              exact World.cell?_of_block (ho4.2.2.2.2 b (by have := HZ.out; omega) (by omega))
            clear hr4 ho4 hz4 hn
            go_wp2_with fail
            go_ret2
            exact ⟨.inr ⟨6, _, HBL.out ▸ HEQ.out, rfl, HR4.out⟩, HO4.out, HZ4.out⟩
        · obtain ⟨htk, hkn⟩ := HK.out.on HS.out hE hd (by rw [hk]; simp)
          have HK2 : Hid (A (l.take (j + 1)) = some (b2, o2)) := Lib.hid (by rw [htk]; exact hk)
          have HKN := Lib.hid hkn
          clear hE hdr hd hv1 he1 ha1 htk hkn
          cases x
          · have hn : wr.cell? ⟨b, o, none⟩ = some (.pointer (some ⟨b2, o2, none⟩)) := by
              have := HT.out.n0 _ b o hA
              rw [hk] at this
              exact this
            clear hk
            go_wp2_with fail
            refine HRD.out.mono ?_
            rintro e w4 ⟨rfl, hr4, ho4, hz4⟩
            rw [HV.out, HE.out]
            have HR4 := Lib.hid hr4
            have HO4 := Lib.hid (HO.out.trans ho4)
            have HZ4 := Lib.hid (hz4.trans HZ.out)
            have hn4 : w4.cell? ⟨b, o, none⟩ = some (.pointer (some ⟨b2, o2, none⟩)) := by
              rw [← hn]
              exact World.cell?_of_block (ho4.2.2.2.2 b (by have := HZ.out; omega) (by omega))
            clear hr4 ho4 hz4 hn
            go_wp2_with fail
            go_roundw
            case rel => exact ⟨j + 1, b2, o2, HK2.out, rfl, HKN, Lib.hid (by have := HR4.out; rwa [HA1.out, Nat.add_assoc] at this), HO4, HZ4⟩
            case measure => rw [rdAt_of HR.out, rdAt_of HR4.out, HA1.out]; have := HK.out.1; omega
          · have hn : wr.cell? ⟨b, o + 1, none⟩ = some (.pointer (some ⟨b2, o2, none⟩)) := by
              have := HT.out.n1 _ b o hA
              rw [hk] at this
              exact this
            clear hk
            go_wp2_with fail
            refine HRD.out.mono ?_
            rintro e w4 ⟨rfl, hr4, ho4, hz4⟩
            rw [HV.out, HE.out]
            have HR4 := Lib.hid hr4
            have HO4 := Lib.hid (HO.out.trans ho4)
            have HZ4 := Lib.hid (hz4.trans HZ.out)
            have hn4 : w4.cell? ⟨b, o + 1, none⟩ = some (.pointer (some ⟨b2, o2, none⟩)) := by
              rw [← hn]
              exact World.cell?_of_block (ho4.2.2.2.2 b (by have := HZ.out; omega) (by omega))
            clear hr4 ho4 hz4 hn
            go_wp2_with fail
            go_roundw
            case rel => exact ⟨j + 1, b2, o2, HK2.out, rfl, HKN, Lib.hid (by have := HR4.out; rwa [HA1.out, Nat.add_assoc] at this), HO4, HZ4⟩
            case measure => rw [rdAt_of HR.out, rdAt_of HR4.out, HA1.out]; have := HK.out.1; omega
end Go.Proofs.YtidicajedckaoaaGreatDoor.Hf

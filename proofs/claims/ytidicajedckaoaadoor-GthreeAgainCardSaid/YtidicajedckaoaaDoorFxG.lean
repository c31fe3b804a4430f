
/- The contract of a book's Read over numbers, whatever the bits are, with the place behind, also on an error. -/
import Derived.Test.YtidicajedckaoaaDoorHfR
import Derived.Test.YtidicajedckaoaaDoorFxM
import Derived.Test.YtidicajedckaoaaDoorBitE
import Derived.LoopTactic
namespace Go.Proofs.YtidicajedckaoaaDoor.Fx
open Go.RowKit Go.Proofs.YtidicajedckaoaaDoor.Oct Go.Proofs.YtidicajedckaoaaDoor.Bit Go.Proofs.YtidicajedckaoaaDoor.Hf Go.Proofs.YtidicajedckaoaaDoor.Inf
set_option linter.unusedVariables false
set_option linter.unusedSimpArgs false
set_option maxRecDepth 100000

section
variable {W : List (List Bool)} {A : List Bool → Option (Nat × Nat)} {E : List Bool → Option Nat}
theorem lookP_ends (h : St (wordsU W) (wordsU W).length A E) {p t : List Bool} {x : Bool} {i : Nat} (he : E (p ++ [x]) = some i) : lookP W p (x :: t) = (p.length + 1, .ok i) := by
  have hl := look_ends h (t := t) he
  rw [lookP_look] at hl
  rcases hx : lookP W p (x :: t) with ⟨k, v⟩
  rw [hx] at hl
  rcases v with c | j
  · cases hl
  · injection hl with hl
    injection hl with e1 e2
    simp only at e1 e2
    rw [e1, e2]
theorem lookP_none (h : St (wordsU W) (wordsU W).length A E) {p t : List Bool} {x : Bool} (ha : A (p ++ [x]) = none) : lookP W p (x :: t) = (p.length + 1, .error 6) := by
  have hl := look_none h (t := t) ha
  rw [lookW] at hl
  rw [lookP]
  split at hl
  · cases hl
  · rename_i h1
    rw [if_neg h1]
    split at hl
    · rename_i h2
      exfalso
      have key : ∀ r, r ∈ W → r ≠ [] → ¬ p ++ [x] <+: r := by
        intro r hr hne hp
        obtain ⟨j, hj⟩ := List.mem_iff_getElem?.1 hr
        have := (h.mem hne).2 hj
        exact h.a2 _ r (by rw [this]; simp) hp ha
      obtain ⟨r, hr, hb⟩ := List.any_eq_true.1 h2
      rw [Bool.and_eq_true] at hb
      exact key r hr (by have := hb.1; intro e; rw [e] at this; simp at this) (List.isPrefixOf_iff_prefix.1 hb.2)
    · rename_i h2
      rw [if_neg h2]
theorem lookP_on (h : St (wordsU W) (wordsU W).length A E) {p t : List Bool} {x : Bool} (ha : A (p ++ [x]) ≠ none) (he : E (p ++ [x]) = none) : lookP W p (x :: t) = lookP W (p ++ [x]) t := by
  have hm : p ++ [x] ∉ W := by
    intro hm
    obtain ⟨j, hj⟩ := List.mem_iff_getElem?.1 hm
    have := (h.mem (by simp)).2 hj
    rw [he] at this
    cases this
  rw [lookP, if_neg hm, if_pos]
  rcases h.a1 _ ha with e | ⟨r, hr, hp⟩
  · exact absurd e (by simp)
  · rcases hk : E r with _ | i
    · exact absurd hk hr
    · have hne : r ≠ [] := (h.e1 r i hk).2.1
      refine List.any_eq_true.2 ⟨r, List.mem_of_getElem? ((h.mem hne).1 hk), ?_⟩
      rw [Bool.and_eq_true]
      exact ⟨by simpa using hne, List.isPrefixOf_iff_prefix.2 hp⟩
end
/-- what is read, and where the reader stands then -/
def ReadP (w : World) (gr : Nat) (p : Option Addr) (cap : Nat) (xs : List UInt8) (a : Nat) (low : Bool) (W : List (List Bool)) (ms : List Value) (z : Value) (e : Ending) (w' : World) : Prop :=
  ((∃ i k v, lookP W [] ((bitsOf low xs).drop a) = (k, .ok i) ∧ ms[i]? = some v ∧ e = .returned (.tuple #[v, .int .i64 0]) ∧ Rd w' gr p cap xs (a + k) low) ∨
    ∃ c k, lookP W [] ((bitsOf low xs).drop a) = (k, .error c) ∧ e = .returned (.tuple #[z, .int .i64 (c : Int)]) ∧ Rd w' gr p cap xs (a + k) low) ∧ Only (· = gr) w w' ∧ w'.heap.size = w.heap.size
/-- what is known of the bits read so far -/
def KnownP (W : List (List Bool)) (E : List Bool → Option Nat) (l : List Bool) (j : Nat) : Prop :=
  j ≤ l.length ∧ (∀ i, E (l.take j) = some i → lookP W [] l = (j, .ok i)) ∧ (E (l.take j) = none → lookP W [] l = lookP W (l.take j) (l.drop j))
theorem KnownP.on {W : List (List Bool)} {A : List Bool → Option (Nat × Nat)} {E : List Bool → Option Nat} (h : St (wordsU W) (wordsU W).length A E) {l t : List Bool} {j : Nat} {x : Bool} (hk : KnownP W E l j) (he : E (l.take j) = none) (hd : l.drop j = x :: t)
    (ha : A (l.take j ++ [x]) ≠ none) : l.take (j + 1) = l.take j ++ [x] ∧ KnownP W E l (j + 1) := by
  have hj : j < l.length := by
    have := congrArg List.length hd
    simp at this
    omega
  have hx : l[j] = x ∧ l.drop (j + 1) = t := by
    rw [List.drop_eq_getElem_cons hj] at hd
    injection hd with h1 h2
    exact ⟨h1, h2⟩
  have ht : l.take (j + 1) = l.take j ++ [x] := by rw [List.take_succ_eq_append_getElem hj, hx.1]
  have hs := hk.2.2 he
  have hlen : (l.take j).length = j := by rw [List.length_take]; omega
  refine ⟨ht, by omega, fun i hi => ?_, fun hn => ?_⟩
  · rw [hs, hd, lookP_ends h (by rw [← ht]; exact hi), hlen]
  · rw [hs, hd, lookP_on h ha (by rw [← ht]; exact hn), ht, hx.2]
set_option maxHeartbeats 4000000 in
theorem readI_pos (w : World) (B C g : Nat) (W : List (List Bool)) (ms : List Value) (gr : Nat) (p : Option Addr) (cap : Nat) (xs : List UInt8) (a : Nat) (low : Bool)
    (hB : BoU w B C g (wordsU W) ms) (hC : gr < B) (hR : Rd w gr p cap xs a low) (hlen : ms.length = W.length) :
    Calls Tryd.prog 91 #[.pointer (some ⟨g, 0, none⟩), .pointer (some ⟨gr, 0, none⟩)] w (ReadP w gr p cap xs a low W ms (.int .i64 0)) := by
  obtain ⟨⟨hCz, hBg⟩, pw, cw, pm, cm, A, E, hS, hlw, hlm, hAll⟩ := hB
  obtain ⟨hT, hvw, hvm⟩ := hAll w (fun _ _ _ => rfl)
  have HALL : Hid (∀ wr, Only (· = gr) w wr → Tr wr C g (.slice pw (wordsU W).length cw) (.slice pm ms.length cm) A E ∧ VRow wr C pw (strs (wordsU W)) ∧ VRow wr C pm ms) := Lib.hid fun wr ho => hAll wr fun k h1 h2 => ho.2.2.2.2 k (by omega) (fun e => by omega)
  have hgw := hR.lt
  have HTw := Lib.hid hT
  have HS := Lib.hid hS
  have HR0 := Lib.hid hR
  have HVM := Lib.hid hvm
  have HL := Lib.hid hlen
  obtain ⟨l, hl⟩ : ∃ l, l = (bitsOf low xs).drop a := ⟨_, rfl⟩
  have HBL := Lib.hid hl
  have HK0 : Hid (KnownP W E l 0) := Lib.hid ⟨by omega, fun i hi => absurd rfl ((hS.e1 _ i hi).2.1), fun _ => rfl⟩
  clear hT hS hvw hvm hR hlen hl hAll
  go_enter Tryd.func91, Tryd.ntmps91
  go_wp2_with fail
  go_loopw [7, 8, 9] (fun q u s wr => ∃ (j b o : Nat), A (l.take j) = some (b, o) ∧ q = .pointer (some ⟨b, o, none⟩) ∧ Hid (KnownP W E l j) ∧ Hid (Rd wr gr p cap xs (a + j) low) ∧ Hid (Only (· = gr) w wr) ∧ Hid (wr.heap.size = w.heap.size)) (fun _ _ _ wr => a + l.length + 1 - rdAt gr wr)
  case atStart => exact ⟨0, g, 2, HTw.out.root, rfl, HK0, HR0, Lib.hid (Only.refl _ _), Lib.hid rfl⟩
  case round =>
    obtain ⟨j, b, o, hA, rfl, HK, HR, HO, HZ⟩ := hrel
    have HT := Lib.hid (HALL.out wr HO.out).1
    have HVMr := Lib.hid (HALL.out wr HO.out).2.2
    have hbC := (HT.out.lo _ b o hA).2
    have hgb := (HT.out.lo _ b o hA).1
    have hne := HT.out.ne _ b o hA
    cases hE : E (l.take j) with
    | some i =>
      have HEQ := Lib.hid (HK.out.2.1 i hE)
      have hil : i < ms.length := by
        have := (HS.out.e1 _ i hE).1
        rw [wordsU_length, ← HL.out] at this
        exact this
      obtain ⟨v, hv⟩ : ∃ v, ms[i]? = some v := ⟨_, List.getElem?_eq_getElem hil⟩
      obtain ⟨bm, om, hpm, hbm, hcm⟩ := vrow_get HVMr.out hv
      have HVV := Lib.hid hv
      subst hpm
      rw [hE] at hne
      have hne : wr.cell? ⟨b, o + 2, none⟩ = some (.bool true) := hne
      have hni := HT.out.ni _ b o hA
      rw [hE] at hni
      have hni : wr.cell? ⟨b, o + 3, none⟩ = some (.int .i64 (i : Int)) := hni
      have h1 := HT.out.h1
      have j0 : (0 : Int) ≤ (i : Int) := by omega
      have j1 : (i : Int) < (ms.length : Int) := by omega
      clear hE hv
      generalize ms.length = ml at h1 j1
      go_wp2_with fail
      go_quiet (fail)
      go_wp2_with fail
      go_ret2
      exact ⟨.inl ⟨i, j, v, HBL.out ▸ HEQ.out, HVV.out, rfl, HR.out.drawn ⟨_, rfl⟩⟩, HO.out.trans (Only.drawn _ ⟨_, rfl⟩), HZ.out⟩
    | none =>
      rw [hE] at hne
      have hne : wr.cell? ⟨b, o + 2, none⟩ = some (.bool false) := hne
      have HEN := Lib.hid hE
      have HRD := Lib.hid (read_any gr p cap xs (a + j) low wr 1 HR.out)
      have hdr : (bitsOf low xs).drop (a + j) = l.drop j := by rw [← List.drop_drop, ← HBL.out]
      rcases hd : l.drop j with _ | ⟨x, t⟩
      · obtain ⟨hv1, he1, ha1⟩ := bit_none (hdr.trans hd)
        have hjl : j ≤ l.length := HK.out.1
        have HEQ : Hid (lookP W [] l = (j, .error 2)) := Lib.hid (by rw [HK.out.2.2 hE, hd, lookP, List.length_take, Nat.min_eq_left hjl])
        have HAE := Lib.hid ha1
        have HV := Lib.hid hv1
        have HE := Lib.hid he1
        clear hE hdr hd hv1 he1 ha1
        go_wp2_with fail
        refine HRD.out.mono ?_
        rintro e w4 ⟨rfl, hr4, ho4, hz4⟩
        rw [HV.out, HE.out]
        have HR4 := Lib.hid hr4
        have HO4 := Lib.hid (HO.out.trans ho4)
        have HZ4 := Lib.hid (hz4.trans HZ.out)
        clear hr4 ho4 hz4
        go_wp2_with fail
        go_ret2
        exact ⟨.inr ⟨2, j, HBL.out ▸ HEQ.out, rfl, by have := HR4.out; rwa [HAE.out] at this⟩, HO4.out, HZ4.out⟩
      · obtain ⟨hv1, he1, ha1⟩ := bit_read (hdr.trans hd)
        have HV := Lib.hid hv1
        have HE := Lib.hid he1
        have HA1 := Lib.hid ha1
        rcases hk : A (l.take j ++ [x]) with _ | ⟨b2, o2⟩
        · have hjl : j ≤ l.length := HK.out.1
          have HEQ : Hid (lookP W [] l = (j + 1, .error 6)) := Lib.hid (by rw [HK.out.2.2 hE, hd, lookP_none HS.out hk, List.length_take, Nat.min_eq_left hjl])
          have HKN := Lib.hid hk
          clear hE hdr hd hv1 he1 ha1
          cases x
          · have hn : wr.cell? ⟨b, o, none⟩ = some (.pointer none) := by
              have := HT.out.n0 _ b o hA
              rw [hk] at this
              exact this
            clear hk
            go_wp2_with fail
            refine HRD.out.mono ?_
            rintro e w4 ⟨rfl, hr4, ho4, hz4⟩
            rw [HV.out, HE.out]
            have HR4 := Lib.hid hr4
            have HO4 := Lib.hid (HO.out.trans ho4)
            have HZ4 := Lib.hid (hz4.trans HZ.out)
            have hn4 : w4.cell? ⟨b, o, none⟩ = some (.pointer none) := by
              rw [← hn]
              exact World.cell?_of_block (ho4.2.2.2.2 b (by have := HZ.out; omega) (by omega))
            clear hr4 ho4 hz4 hn
            go_wp2_with fail
            go_ret2
            exact ⟨.inr ⟨6, j + 1, HBL.out ▸ HEQ.out, rfl, by have := HR4.out; rwa [HA1.out, Nat.add_assoc] at this⟩, HO4.out, HZ4.out⟩
          · have hn : wr.cell? ⟨b, o + 1, none⟩ = some (.pointer none) := by
              have := HT.out.n1 _ b o hA
              rw [hk] at this
              exact this
            clear hk
            go_wp2_with fail
            refine HRD.out.mono ?_
            rintro e w4 ⟨rfl, hr4, ho4, hz4⟩
            rw [HV.out, HE.out]
            have HR4 := Lib.hid hr4
            have HO4 := Lib.hid (HO.out.trans ho4)
            have HZ4 := Lib.hid (hz4.trans HZ.out)
            have hn4 : w4.cell? ⟨b, o + 1, none⟩ = some (.pointer none) := by
              rw [← hn]
              exact World.cell?_of_block (ho4.2.2.2.2 b (by have := HZ.out; omega) (by omega))
            clear hr4 ho4 hz4 hn
            go_wp2_with fail
            go_ret2
            exact ⟨.inr ⟨6, j + 1, HBL.out ▸ HEQ.out, rfl, by have := HR4.out; rwa [HA1.out, Nat.add_assoc] at this⟩, HO4.out, HZ4.out⟩
        · obtain ⟨htk, hkn⟩ := HK.out.on HS.out hE hd (by rw [hk]; simp)
          have HK2 : Hid (A (l.take (j + 1)) = some (b2, o2)) := Lib.hid (by rw [htk]; exact hk)
          have HKN := Lib.hid hkn
          clear hE hdr hd hv1 he1 ha1 htk hkn
          cases x
          · have hn : wr.cell? ⟨b, o, none⟩ = some (.pointer (some ⟨b2, o2, none⟩)) := by
              have := HT.out.n0 _ b o hA
              rw [hk] at this
              exact this
            clear hk
            go_wp2_with fail
            refine HRD.out.mono ?_
            rintro e w4 ⟨rfl, hr4, ho4, hz4⟩
            rw [HV.out, HE.out]
            have HR4 := Lib.hid hr4
            have HO4 := Lib.hid (HO.out.trans ho4)
            have HZ4 := Lib.hid (hz4.trans HZ.out)
            have hn4 : w4.cell? ⟨b, o, none⟩ = some (.pointer (some ⟨b2, o2, none⟩)) := by
              rw [← hn]
              exact World.cell?_of_block (ho4.2.2.2.2 b (by have := HZ.out; omega) (by omega))
            clear hr4 ho4 hz4 hn
            go_wp2_with fail
            go_roundw
            case rel => exact ⟨j + 1, b2, o2, HK2.out, rfl, HKN, Lib.hid (by have := HR4.out; rwa [HA1.out, Nat.add_assoc] at this), HO4, HZ4⟩
            case measure => rw [rdAt_of HR.out, rdAt_of HR4.out, HA1.out]; have := HK.out.1; omega
          · have hn : wr.cell? ⟨b, o + 1, none⟩ = some (.pointer (some ⟨b2, o2, none⟩)) := by
              have := HT.out.n1 _ b o hA
              rw [hk] at this
              exact this
            clear hk
            go_wp2_with fail
            refine HRD.out.mono ?_
            rintro e w4 ⟨rfl, hr4, ho4, hz4⟩
            rw [HV.out, HE.out]
            have HR4 := Lib.hid hr4
            have HO4 := Lib.hid (HO.out.trans ho4)
            have HZ4 := Lib.hid (hz4.trans HZ.out)
            have hn4 : w4.cell? ⟨b, o + 1, none⟩ = some (.pointer (some ⟨b2, o2, none⟩)) := by
              rw [← hn]
              exact World.cell?_of_block (ho4.2.2.2.2 b (by have := HZ.out; omega) (by omega))
            clear hr4 ho4 hz4 hn
            go_wp2_with fail
            go_roundw
            case rel => exact ⟨j + 1, b2, o2, HK2.out, rfl, HKN, Lib.hid (by have := HR4.out; rwa [HA1.out, Nat.add_assoc] at this), HO4, HZ4⟩
            case measure => rw [rdAt_of HR.out, rdAt_of HR4.out, HA1.out]; have := HK.out.1; omega
end Go.Proofs.YtidicajedckaoaaDoor.Fx
/- The document's Read of words, with the place behind, also on an error. -/
namespace Go.Proofs.YtidicajedckaoaaDoor.Fx
open Go.RowKit Go.Proofs.YtidicajedckaoaaDoor.Oct Go.Proofs.YtidicajedckaoaaDoor.Bit Go.Proofs.YtidicajedckaoaaDoor.Hf Go.Proofs.YtidicajedckaoaaDoor.Inf
set_option linter.unusedVariables false
set_option linter.unusedSimpArgs false
set_option maxRecDepth 100000

theorem idx_first {W : List (List Bool)} {q : List Bool} {i : Nat} (h : W[i]? = some q) (hn : ∀ j, j < i → W[j]? ≠ some q) : W.idxOf q = i := by
  have hm : q ∈ W := List.mem_of_getElem? h
  have hl := List.idxOf_lt_length_of_mem hm
  have hg : W[W.idxOf q]? = some q := by rw [List.getElem?_eq_getElem hl, List.getElem_idxOf]
  rcases Nat.lt_trichotomy (W.idxOf q) i with h1 | h1 | h1
  · exact absurd hg (hn _ h1)
  · exact h1
  · refine absurd h1 (Nat.not_lt.2 ?_)
    obtain ⟨hi, he⟩ := List.getElem?_eq_some_iff.1 h
    exact Nat.le_of_not_lt fun hc => by
      have := List.not_of_lt_findIdx (p := (· == q)) (xs := W) (i := i) hc
      simp [he] at this
theorem strs_word {w : World} {C b off i : Nat} {W : List (List Bool)} (h : VRow w C (some ⟨b, off, none⟩) (strs (wordsU W))) (hi : i < W.length) : w.cell? ⟨b, off + i, none⟩ = some (.string (ds (W.getD i []))) := by
  have h1 := h.str i (by rw [wordsU_length]; exact hi)
  rw [h1]
  simp [wordsU, List.getD_eq_getElem?_getD, List.getElem?_eq_getElem hi, ds]
theorem getD_len {W : List (List Bool)} (h : ∀ m ∈ W, m.length ≤ 30) (i : Nat) : (W.getD i []).length ≤ 30 := by
  rw [List.getD_eq_getElem?_getD]
  rcases hx : W[i]? with _ | m
  · simp
  · exact h m (List.mem_of_getElem? hx)
theorem ds_list (a : List Bool) : (ds a).toList = a.map dig := bs_toList _
theorem ds_beq (a b : List Bool) : ((ds a).toList == (ds b).toList) = decide (a = b) := by
  rw [ds_list, ds_list, Bool.eq_iff_iff, beq_iff_eq, decide_eq_true_iff]
  refine ⟨fun h => ds_inj _ _ (by unfold ds; rw [h]), fun h => by rw [h]⟩
theorem ds_empty (a : List Bool) : (ds a).toList.isEmpty = a.isEmpty := by
  rw [ds_list]
  cases a <;> rfl
theorem prefix_take (s t : List Bool) : s.isPrefixOf t = decide (s.length ≤ t.length ∧ t.take s.length = s) := by
  rw [Bool.eq_iff_iff, decide_eq_true_iff, List.isPrefixOf_iff_prefix]
  constructor
  · rintro ⟨r, rfl⟩; simp
  · rintro ⟨_, h⟩; exact ⟨t.drop s.length, by
      conv => lhs; lhs; rw [← h]
      exact List.take_append_drop _ _⟩
theorem lookP_step {W : List (List Bool)} {D : List Bool} {k : Nat} (h : k < D.length) : lookP W (D.take k) (D.drop k) = if D.take (k + 1) ∈ W then (k + 1, .ok (W.idxOf (D.take (k + 1))))
    else if W.any (fun v => !v.isEmpty && (D.take (k + 1)).isPrefixOf v) then lookP W (D.take (k + 1)) (D.drop (k + 1)) else (k + 1, .error 6) := by
  rw [List.drop_eq_getElem_cons h, lookP, ← List.take_succ_eq_append_getElem h, List.length_take, Nat.min_eq_left (by omega)]
def pfx (S : List Bool) (v : List Bool) : Bool := !v.isEmpty && S.isPrefixOf v
def RdP (w : World) (W : List (List Bool)) (l : List Bool) (a : Nat) (e : Ending) (w' : World) : Prop :=
  ((∃ i k b, lookP W [] (l.drop a) = (k, .ok i) ∧ b = a + k ∧ e = .returned (.tuple #[.int .i64 (i : Int), .int .i64 (b : Int), .int .i64 0])) ∨
    ∃ c k b : Nat, lookP W [] (l.drop a) = (k, .error c) ∧ (c = 2 ∨ c = 6) ∧ b = a + k ∧ e = .returned (.tuple #[.int .i64 0, .int .i64 (b : Int), .int .i64 (c : Int)])) ∧ w = w'
end Go.Proofs.YtidicajedckaoaaDoor.Fx
/- Words of which none begins another one are a book's. -/
namespace Go.Proofs.YtidicajedckaoaaDoor.Fx
open Go.Proofs.YtidicajedckaoaaDoor.Oct Go.Proofs.YtidicajedckaoaaDoor.Bit Go.Proofs.YtidicajedckaoaaDoor.Hf Go.Proofs.YtidicajedckaoaaDoor.Inf
set_option linter.unusedVariables false
set_option linter.unusedSimpArgs false

theorem dig_prefF {a b : List Bool} (h : a.map dig <+: b.map dig) : a <+: b := by
  obtain ⟨r, hr⟩ := h
  have hl := congrArg List.length hr
  rw [List.length_append, List.length_map, List.length_map] at hl
  have h1 : (b.take a.length).map dig = a.map dig := by rw [List.map_take, ← hr, List.take_left' (by rw [List.length_map])]
  have h2 : b.take a.length = a := dig_inj h1
  exact ⟨b.drop a.length, by
    conv => lhs; lhs; rw [← h2]
    exact List.take_append_drop _ _⟩
theorem good_free {W : List (List Bool)} (h : freeB W = true) : Hf.Good (wordsU W) := by
  constructor
  · intro s hs
    obtain ⟨m, _, rfl⟩ := List.mem_map.1 hs
    exact wordB_dig m
  · intro i j s t hi hj hij hs ht hp
    have e : ∀ k u, (wordsU W)[k]? = some u → ∃ m : List Bool, W[k]? = some m ∧ u = m.map dig := fun k u hk => by
      unfold wordsU at hk
      rw [List.getElem?_map] at hk
      rcases hx : W[k]? with _ | m
      · rw [hx] at hk; cases hk
      · rw [hx] at hk
        injection hk with hk
        exact ⟨m, hx, hk.symm⟩
    obtain ⟨m, hm, rfl⟩ := e i s hi
    obtain ⟨m2, hm2, rfl⟩ := e j t hj
    have hjl := (List.getElem?_eq_some_iff.1 hm2).1
    have hf := free_of h j hjl
    have hg : W.getD j [] = m2 := by rw [List.getD_eq_getElem?_getD, hm2]; rfl
    have hp2 : m <+: m2 := dig_prefF hp
    exact hij (hf.2 i m hm (by rw [hg]; exact hp2) (fun e => hs (by rw [e]; rfl)))
theorem words_good (black : Bool) : Hf.Good (wordsU (wordsF black)) := good_free (by
  cases black
  · exact white_free
  · exact black_free)
theorem modes_good : Hf.Good (wordsU modesF) := good_free modes_free
theorem words_eol_good (black : Bool) : Hf.Good (wordsU (wordsF black ++ [eol])) := good_free (words_eol black)
theorem modes_eol_good : Hf.Good (wordsU (modesF ++ [eol])) := good_free modes_eol
end Go.Proofs.YtidicajedckaoaaDoor.Fx

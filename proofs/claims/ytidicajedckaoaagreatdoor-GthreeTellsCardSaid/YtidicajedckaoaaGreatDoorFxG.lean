
/- The contract of a book's Read over numbers, whatever the bits are, with the place behind, also on an error. -/
import Derived.Test.YtidicajedckaoaaGreatDoorHfR
import Derived.Test.YtidicajedckaoaaGreatDoorFxM
import Derived.Test.YtidicajedckaoaaGreatDoorBitE
import Derived.LoopTactic
namespace Go.Proofs.YtidicajedckaoaaGreatDoor.Fx
open Go.RowKit Go.Proofs.YtidicajedckaoaaGreatDoor.Oct Go.Proofs.YtidicajedckaoaaGreatDoor.Bit Go.Proofs.YtidicajedckaoaaGreatDoor.Hf Go.Proofs.YtidicajedckaoaaGreatDoor.Inf
set_option linter.unusedVariables false
set_option linter.unusedSimpArgs false
set_option maxRecDepth 100000

section
variable {W : List (List Bool)} {A : List Bool → Option (Nat × Nat)} {E : List Bool → Option Nat}
theorem lookP_ends (h : St (wordsU W) (wordsU W).length A E) {p t : List Bool} {x : Bool} {i : Nat} (he : E (p ++ [x]) = some i) : lookP W p (x :: t) = (p.length + 1, .ok i) := by
  have hl := look_ends h (t := t) he
  rw [lookP_look] at hl
  rcases hx : lookP W p (x :: t) with ⟨k, v⟩
  rw [hx] at hl
  rcases v with c | j
  · cases hl
  · injection hl with hl
    injection hl with e1 e2
    simp only at e1 e2
    rw [e1, e2]
theorem lookP_none (h : St (wordsU W) (wordsU W).length A E) {p t : List Bool} {x : Bool} (ha : A (p ++ [x]) = none) : lookP W p (x :: t) = (p.length + 1, .error 6) := by
  have hl := look_none h (t := t) ha
  rw [lookW] at hl
  rw [lookP]
  split at hl
  · cases hl
  · rename_i h1
    rw [if_neg h1]
    split at hl
    · rename_i h2
      exfalso
      have key : ∀ r, r ∈ W → r ≠ [] → ¬ p ++ [x] <+: r := by
        intro r hr hne hp
        obtain ⟨j, hj⟩ := List.mem_iff_getElem?.1 hr
        have := (h.mem hne).2 hj
        exact h.a2 _ r (by rw [this]; simp) hp ha
      obtain ⟨r, hr, hb⟩ := List.any_eq_true.1 h2
      rw [Bool.and_eq_true] at hb
      exact key r hr (by have := hb.1; intro e; rw [e] at this; simp at this) (List.isPrefixOf_iff_prefix.1 hb.2)
    · rename_i h2
      rw [if_neg h2]
theorem lookP_on (h : St (wordsU W) (wordsU W).length A E) {p t : List Bool} {x : Bool} (ha : A (p ++ [x]) ≠ none) (he : E (p ++ [x]) = none) : lookP W p (x :: t) = lookP W (p ++ [x]) t := by
  have hm : p ++ [x] ∉ W := by
    intro hm
    obtain ⟨j, hj⟩ := List.mem_iff_getElem?.1 hm
    have := (h.mem (by simp)).2 hj
    rw [he] at this
    cases this
  rw [lookP, if_neg hm, if_pos]
  rcases h.a1 _ ha with e | ⟨r, hr, hp⟩
  · exact absurd e (by simp)
  · rcases hk : E r with _ | i
    · exact absurd hk hr
    · have hne : r ≠ [] := (h.e1 r i hk).2.1
      refine List.any_eq_true.2 ⟨r, List.mem_of_getElem? ((h.mem hne).1 hk), ?_⟩
      rw [Bool.and_eq_true]
      exact ⟨by simpa using hne, List.isPrefixOf_iff_prefix.2 hp⟩
end
/-- what is read, and where the reader stands then -/
def ReadP (w : World) (gr : Nat) (p : Option Addr) (cap : Nat) (xs : List UInt8) (a : Nat) (low : Bool) (W : List (List Bool)) (ms : List Value) (z : Value) (e : Ending) (w' : World) : Prop :=
  ((∃ i k v, lookP W [] ((bitsOf low xs).drop a) = (k, .ok i) ∧ ms[i]? = some v ∧ e = .returned (.tuple #[v, .int .i64 0]) ∧ Rd w' gr p cap xs (a + k) low) ∨
    ∃ c k, lookP W [] ((bitsOf low xs).drop a) = (k, .error c) ∧ e = .returned (.tuple #[z, .int .i64 (c : Int)]) ∧ Rd w' gr p cap xs (a + k) low) ∧ Only (· = gr) w w' ∧ w'.heap.size = w.heap.size
/-- what is known of the bits read so far -/
def KnownP (W : List (List Bool)) (E : List Bool → Option Nat) (l : List Bool) (j : Nat) : Prop :=
  j ≤ l.length ∧ (∀ i, E (l.take j) = some i → lookP W [] l = (j, .ok i)) ∧ (E (l.take j) = none → lookP W [] l = lookP W (l.take j) (l.drop j))
theorem KnownP.on {W : List (List Bool)} {A : List Bool → Option (Nat × Nat)} {E : List Bool → Option Nat} (h : St (wordsU W) (wordsU W).length A E) {l t : List Bool} {j : Nat} {x : Bool} (hk : KnownP W E l j) (he : E (l.take j) = none) (hd : l.drop j = x :: t)
    (ha : A (l.take j ++ [x]) ≠ none) : l.take (j + 1) = l.take j ++ [x] ∧ KnownP W E l (j + 1) := by
  have hj : j < l.length := by
    have := congrArg List.length hd
    simp at this
    omega
  have hx : l[j] = x ∧ l.drop (j + 1) = t := by
    rw [List.drop_eq_getElem_cons hj] at hd
    injection hd with h1 h2
    exact ⟨h1, h2⟩
  have ht : l.take (j + 1) = l.take j ++ [x] := by rw [List.take_succ_eq_append_getElem hj, hx.1]
  have hs := hk.2.2 he
  have hlen : (l.take j).length = j := by rw [List.length_take]; omega
  refine ⟨ht, by omega, fun i hi => ?_, fun hn => ?_⟩
  · rw [hs, hd, lookP_ends h (by rw [← ht]; exact hi), hlen]
  · rw [hs, hd, lookP_on h ha (by rw [← ht]; exact hn), ht, hx.2]
set_option maxHeartbeats 4000000 in
theorem readI_pos (w : World) (B C g : Nat) (W : List (List Bool)) (ms : List Value) (gr : Nat) (p : Option Addr) (cap : Nat) (xs : List UInt8) (a : Nat) (low : Bool)
    (hB : BoU w B C g (wordsU W) ms) (hC : gr < B) (hR : Rd w gr p cap xs a low) (hlen : ms.length = W.length) :
    Calls Tryz.prog 119 #[.pointer (some ⟨g, 0, none⟩), .pointer (some ⟨gr, 0, none⟩)] w (ReadP w gr p cap xs a low W ms (.int .i64 0)) := by
  obtain ⟨⟨hCz, hBg⟩, pw, cw, pm, cm, A, E, hS, hlw, hlm, hAll⟩ := hB
  obtain ⟨hT, hvw, hvm⟩ := hAll w (fun _ _ _ => rfl)
  have HALL : Hid (∀ wr, Only (· = gr) w wr → Tr wr C g (.slice pw (wordsU W).length cw) (.slice pm ms.length cm) A E ∧ VRow wr C pw (strs (wordsU W)) ∧ VRow wr C pm ms) := Lib.hid fun wr ho => hAll wr fun k h1 h2 => ho.2.2.2.2 k (by omega) (fun e => by omega)
  have hgw := hR.lt
  have HTw := Lib.hid hT
  have HS := Lib.hid hS
  have HR0 := Lib.hid hR
  have HVM := Lib.hid hvm
  have HL := Lib.hid hlen
  obtain ⟨l, hl⟩ : ∃ l, l = (bitsOf low xs).drop a := ⟨_, rfl⟩
  have HBL := Lib.hid hl
  have HK0 : Hid (KnownP W E l 0) := Lib.hid ⟨by omega, fun i hi => absurd rfl ((hS.e1 _ i hi).2.1), fun _ => rfl⟩
  clear hT hS hvw hvm hR hlen hl hAll
  go_enter Tryz.func119, Tryz.ntmps119
  go_wp2_with fail
  go_loopw [7, 8, 9] (fun q u s wr => ∃ (j b o : Nat), A (l.take j) = some (b, o) ∧ q = .pointer (some ⟨b, o, none⟩) ∧ Hid (KnownP W E l j) ∧ Hid (Rd wr gr p cap xs (a + j) low) ∧ Hid (Only (· = gr) w wr) ∧ Hid (wr.heap.size = w.heap.size)) (fun _ _ _ wr => a + l.length + 1 - rdAt gr wr)
  case atStart => exact ⟨0, g, 2, HTw.out.root, rfl, HK0, HR0, Lib.hid (Only.refl _ _), Lib.hid rfl⟩
  case round =>
    obtain ⟨j, b, o, hA, rfl, HK, HR, HO, HZ⟩ := hrel
    have HT := Lib.hid (HALL.out wr HO.out).1
    have HVMr := Lib.hid (HALL.out wr HO.out).2.2
    have hbC := (HT.out.lo _ b o hA).2
    have hgb := (HT.out.lo _ b o hA).1
    have hne := HT.out.ne _ b o hA
    cases hE : E (l.take j) with
    | some i =>
      have HEQ := Lib.hid (HK.out.2.1 i hE)
      have hil : i < ms.length := by
        have := (HS.out.e1 _ i hE).1
        rw [wordsU_length, ← HL.out] at this
        exact this
      obtain ⟨v, hv⟩ : ∃ v, ms[i]? = some v := ⟨_, List.getElem?_eq_getElem hil⟩
      obtain ⟨bm, om, hpm, hbm, hcm⟩ := vrow_get HVMr.out hv
      have HVV := Lib.hid hv
      subst hpm
      rw [hE] at hne
      have hne : wr.cell? ⟨b, o + 2, none⟩ = some (.bool true) := hne
      have hni := HT.out.ni _ b o hA
      rw [hE] at hni
      have hni : wr.cell? ⟨b, o + 3, none⟩ = some (.int .i64 (i : Int)) := hni
      have h1 := HT.out.h1
      have j0 : (0 : Int) ≤ (i : Int) := by omega
      have j1 : (i : Int) < (ms.length : Int) := by omega
      clear hE hv
      generalize ms.length = ml at h1 j1
      go_wp2_with fail
      go_quiet (fail)
      go_wp2_with fail
      go_ret2
      exact ⟨.inl ⟨i, j, v, HBL.out ▸ HEQ.out, HVV.out, rfl, HR.out.drawn ⟨_, rfl⟩⟩, HO.out.trans (Only.drawn _ ⟨_, rfl⟩), HZ.out⟩
    | none =>
      rw [hE] at hne
      have hne : wr.cell? ⟨b, o + 2, none⟩ = some (.bool false) := hne
      have HEN := Lib.hid hE
      have HRD := Lib.hid (read_any gr p cap xs (a + j) low wr 1 HR.out)
      have hdr : (bitsOf low xs).drop (a + j) = l.drop j := by rw [← List.drop_drop, ← HBL.out]
      rcases hd : l.drop j with _ | ⟨x, t⟩
      · obtain ⟨hv1, he1, ha1⟩ := bit_none (hdr.trans hd)
        have hjl : j ≤ l.length := HK.out.1
        have HEQ : Hid (lookP W [] l = (j, .error 2)) := Lib.hid (by rw [HK.out.2.2 hE, hd, lookP, List.length_take, Nat.min_eq_left hjl])
        have HAE := Lib.hid ha1
        have HV := Lib.hid hv1
        have HE := Lib.hid he1
        clear hE hdr hd hv1 he1 ha1
        go_wp2_with fail
        refine HRD.out.mono ?_
        rintro e w4 ⟨rfl, hr4, ho4, hz4⟩
        rw [HV.out, HE.out]
        have HR4 := Lib.hid hr4
        have HO4 := Lib.hid (HO.out.trans ho4)
        have HZ4 := Lib.hid (hz4.trans HZ.out)
        clear hr4 ho4 hz4
        go_wp2_with fail
        go_ret2
        exact ⟨.inr ⟨2, j, HBL.out ▸ HEQ.out, rfl, by have := HR4.out; rwa [HAE.out] at this⟩, HO4.out, HZ4.out⟩
      · obtain ⟨hv1, he1, ha1⟩ := bit_read (hdr.trans hd)
        have HV := Lib.hid hv1
        have HE := Lib.hid he1
        have HA1 := Lib.hid ha1
        rcases hk : A (l.take j ++ [x]) with _ | ⟨b2, o2⟩
        · have hjl : j ≤ l.length := HK.out.1
          have HEQ : Hid (lookP W [] l = (j + 1, .error 6)) := Lib.hid (by rw [HK.out.2.2 hE, hd, lookP_none HS.out hk, List.length_take, Nat.min_eq_left hjl])
          have HKN := Lib.hid hk
          clear hE hdr hd hv1 he1 ha1
          cases x
          · have hn : wr.cell? ⟨b, o, none⟩ = some (.pointer none) := by
              have := HT.out.n0 _ b o hA
              rw [hk] at this
              exact this
            clear hk
            go_wp2_with fail
            refine HRD.out.mono ?_
            rintro e w4 ⟨rfl, hr4, ho4, hz4⟩
            rw [HV.out, HE.out]
            have HR4 := Lib.hid hr4
            have HO4 := Lib.hid (HO.out.trans ho4)
            have HZ4 := Lib.hid (hz4.trans HZ.out)
            have hn4 : w4.cell? ⟨b, o, none⟩ = some (.pointer none) := by
              rw [← hn]
              exact World.cell?_of_block (ho4.2.2.2.2 b (by have := HZ.out; omega) (by omega))
            clear hr4 ho4 hz4 hn
            go_wp2_with fail
            go_ret2
            exact ⟨.inr ⟨6, j + 1, HBL.out ▸ HEQ.out, rfl, by have := HR4.out; rwa [HA1.out, Nat.add_assoc] at this⟩, HO4.out, HZ4.out⟩
          · have hn : wr.cell? ⟨b, o + 1, none⟩ = some (.pointer none) := by
              have := HT.out.n1 _ b o hA
              rw [hk] at this
              exact this
            clear hk
            go_wp2_with fail
            refine HRD.out.mono ?_
            rintro e w4 ⟨rfl, hr4, ho4, hz4⟩
            rw [HV.out, HE.out]
            have HR4 := Lib.hid hr4
            have HO4 := Lib.hid (HO.out.trans ho4)
            have HZ4 := Lib.hid (hz4.trans HZ.out)
            have hn4 : w4.cell? ⟨b, o + 1, none⟩ = some (.pointer none) := by
              rw [← hn]
              exact World.cell?_of_block (ho4.2.2.2.2 b (by have := HZ.out; omega) (by omega))
            clear hr4 ho4 hz4 hn
            go_wp2_with fail
            go_ret2
            exact ⟨.inr ⟨6, j + 1, HBL.out ▸ HEQ.out, rfl, by have := HR4.out; rwa [HA1.out, Nat.add_assoc] at this⟩, HO4.out, HZ4.out⟩
        · obtain ⟨htk, hkn⟩ := HK.out.on HS.out hE hd (by rw [hk]; simp)
          have HK2 : Hid (A (l.take (j + 1)) = some (b2, o2)) := Lib.hid (by rw [htk]; exact hk)
          have HKN := Lib.hid hkn
          clear hE hdr hd hv1 he1 ha1 htk hkn
          cases x
          · have hn : wr.cell? ⟨b, o, none⟩ = some (.pointer (some ⟨b2, o2, none⟩)) := by
              have := HT.out.n0 _ b o hA
              rw [hk] at this
              exact this
            clear hk
            go_wp2_with fail
            refine HRD.out.mono ?_
            rintro e w4 ⟨rfl, hr4, ho4, hz4⟩
            rw [HV.out, HE.out]
            have HR4 := Lib.hid hr4
            have HO4 := Lib.hid (HO.out.trans ho4)
            have HZ4 := Lib.hid (hz4.trans HZ.out)
            have hn4 : w4.cell? ⟨b, o, none⟩ = some (.pointer (some ⟨b2, o2, none⟩)) := by
              rw [← hn]
              exact World.cell?_of_block (ho4.2.2.2.2 b (by have := HZ.out; omega) (by omega))
            clear hr4 ho4 hz4 hn
            go_wp2_with fail
            go_roundw
            case rel => exact ⟨j + 1, b2, o2, HK2.out, rfl, HKN, Lib.hid (by have := HR4.out; rwa [HA1.out, Nat.add_assoc] at this), HO4, HZ4⟩
            case measure => rw [rdAt_of HR.out, rdAt_of HR4.out, HA1.out]; have := HK.out.1; omega
          · have hn : wr.cell? ⟨b, o + 1, none⟩ = some (.pointer (some ⟨b2, o2, none⟩)) := by
              have := HT.out.n1 _ b o hA
              rw [hk] at this
              exact this
            clear hk
            go_wp2_with fail
            refine HRD.out.mono ?_
            rintro e w4 ⟨rfl, hr4, ho4, hz4⟩
            rw [HV.out, HE.out]
            have HR4 := Lib.hid hr4
            have HO4 := Lib.hid (HO.out.trans ho4)
            have HZ4 := Lib.hid (hz4.trans HZ.out)
            have hn4 : w4.cell? ⟨b, o + 1, none⟩ = some (.pointer (some ⟨b2, o2, none⟩)) := by
              rw [← hn]
              exact World.cell?_of_block (ho4.2.2.2.2 b (by have := HZ.out; omega) (by omega))
            clear hr4 ho4 hz4 hn
            go_wp2_with fail
            go_roundw
            case rel => exact ⟨j + 1, b2, o2, HK2.out, rfl, HKN, Lib.hid (by have := HR4.out; rwa [HA1.out, Nat.add_assoc] at this), HO4, HZ4⟩
            case measure => rw [rdAt_of HR.out, rdAt_of HR4.out, HA1.out]; have := HK.out.1; omega
end Go.Proofs.YtidicajedckaoaaGreatDoor.Fx
/- The document's Read of words, with the place behind, also on an error. -/
namespace Go.Proofs.YtidicajedckaoaaGreatDoor.Fx
open Go.RowKit Go.Proofs.YtidicajedckaoaaGreatDoor.Oct Go.Proofs.YtidicajedckaoaaGreatDoor.Bit Go.Proofs.YtidicajedckaoaaGreatDoor.Hf Go.Proofs.YtidicajedckaoaaGreatDoor.Inf
set_option linter.unusedVariables false
set_option linter.unusedSimpArgs false
set_option maxRecDepth 100000

theorem idx_first {W : List (List Bool)} {q : List Bool} {i : Nat} (h : W[i]? = some q) (hn : ∀ j, j < i → W[j]? ≠ some q) : W.idxOf q = i := by
  have hm : q ∈ W := List.mem_of_getElem? h
  have hl := List.idxOf_lt_length_of_mem hm
  have hg : W[W.idxOf q]? = some q := by rw [List.getElem?_eq_getElem hl, List.getElem_idxOf]
  rcases Nat.lt_trichotomy (W.idxOf q) i with h1 | h1 | h1
  · exact absurd hg (hn _ h1)
  · exact h1
  · refine absurd h1 (Nat.not_lt.2 ?_)
    obtain ⟨hi, he⟩ := List.getElem?_eq_some_iff.1 h
    exact Nat.le_of_not_lt fun hc => by
      have := List.not_of_lt_findIdx (p := (· == q)) (xs := W) (i := i) hc
      simp [he] at this
theorem strs_word {w : World} {C b off i : Nat} {W : List (List Bool)} (h : VRow w C (some ⟨b, off, none⟩) (strs (wordsU W))) (hi : i < W.length) : w.cell? ⟨b, off + i, none⟩ = some (.string (ds (W.getD i []))) := by
  have h1 := h.str i (by rw [wordsU_length]; exact hi)
  rw [h1]
  simp [wordsU, List.getD_eq_getElem?_getD, List.getElem?_eq_getElem hi, ds]
theorem getD_len {W : List (List Bool)} (h : ∀ m ∈ W, m.length ≤ 30) (i : Nat) : (W.getD i []).length ≤ 30 := by
  rw [List.getD_eq_getElem?_getD]
  rcases hx : W[i]? with _ | m
  · simp
  · exact h m (List.mem_of_getElem? hx)
theorem ds_list (a : List Bool) : (ds a).toList = a.map dig := bs_toList _
theorem ds_beq (a b : List Bool) : ((ds a).toList == (ds b).toList) = decide (a = b) := by
  rw [ds_list, ds_list, Bool.eq_iff_iff, beq_iff_eq, decide_eq_true_iff]
  refine ⟨fun h => ds_inj _ _ (by unfold ds; rw [h]), fun h => by rw [h]⟩
theorem ds_empty (a : List Bool) : (ds a).toList.isEmpty = a.isEmpty := by
  rw [ds_list]
  cases a <;> rfl
theorem prefix_take (s t : List Bool) : s.isPrefixOf t = decide (s.length ≤ t.length ∧ t.take s.length = s) := by
  rw [Bool.eq_iff_iff, decide_eq_true_iff, List.isPrefixOf_iff_prefix]
  constructor
  · rintro ⟨r, rfl⟩; simp
  · rintro ⟨_, h⟩; exact ⟨t.drop s.length, by
      conv => lhs; lhs; rw [← h]
      exact List.take_append_drop _ _⟩
set_option maxHeartbeats 2000000 in
theorem rbegins_any (s t : List Bool) (w : World) (hs : s.length ≤ 100000) (ht : t.length ≤ 100000) : Calls Tryz.prog 105 #[.string (ds s), .string (ds t)] w fun e w' => e = .returned (.bool (s.isPrefixOf t)) ∧ w = w' := by
  have s1 := ds_size s
  have s2 := ds_size t
  by_cases h1 : s.length ≤ t.length
  · have q1 : decide ((s.length : Int) ≤ (t.length : Int)) = true := by simpa using h1
    have q2 : decide ((t.length : Int) < (s.length : Int)) = false := by simpa using h1
    have x1 : (ds t).extract 0 s.length = ds (t.take s.length) := by rw [ds_extract]; rfl
    have x2 := ds_beq (t.take s.length) s
    have HP : Hid (s.isPrefixOf t = decide (t.take s.length = s)) := Lib.hid (by rw [prefix_take]; simp [h1])
    go_enter Tryz.func105, Tryz.ntmps105
    go_wp2_with fail
    go_ret
    exact ⟨by rw [HP.out]; rfl, rfl⟩
  · have q1 : decide ((s.length : Int) ≤ (t.length : Int)) = false := by simp; omega
    have q2 : decide ((t.length : Int) < (s.length : Int)) = true := by simp; omega
    have HP : Hid (s.isPrefixOf t = false) := Lib.hid (by rw [prefix_take]; simp [h1])
    go_enter Tryz.func105, Tryz.ntmps105
    go_wp2_with fail
    go_ret
    exact ⟨by rw [HP.out]; rfl, rfl⟩
theorem lookP_step {W : List (List Bool)} {D : List Bool} {k : Nat} (h : k < D.length) : lookP W (D.take k) (D.drop k) = if D.take (k + 1) ∈ W then (k + 1, .ok (W.idxOf (D.take (k + 1))))
    else if W.any (fun v => !v.isEmpty && (D.take (k + 1)).isPrefixOf v) then lookP W (D.take (k + 1)) (D.drop (k + 1)) else (k + 1, .error 6) := by
  rw [List.drop_eq_getElem_cons h, lookP, ← List.take_succ_eq_append_getElem h, List.length_take, Nat.min_eq_left (by omega)]
def pfx (S : List Bool) (v : List Bool) : Bool := !v.isEmpty && S.isPrefixOf v
def RdP (w : World) (W : List (List Bool)) (l : List Bool) (a : Nat) (e : Ending) (w' : World) : Prop :=
  ((∃ i k b, lookP W [] (l.drop a) = (k, .ok i) ∧ b = a + k ∧ e = .returned (.tuple #[.int .i64 (i : Int), .int .i64 (b : Int), .int .i64 0])) ∨
    ∃ c k b : Nat, lookP W [] (l.drop a) = (k, .error c) ∧ (c = 2 ∨ c = 6) ∧ b = a + k ∧ e = .returned (.tuple #[.int .i64 0, .int .i64 (b : Int), .int .i64 (c : Int)])) ∧ w = w'
set_option maxHeartbeats 4000000 in
theorem rread6_pos (q : Option Addr) (n cap : Nat) (W : List (List Bool)) (l : List Bool) (a : Nat) (w : World) (hv : VRow w w.heap.size q (strs (wordsU W))) (hn : W.length = n) (hn1 : 1 ≤ n) (hn3 : n ≤ 300) (hW : ∀ m ∈ W, m.length ≤ 30) (ha : a ≤ l.length) (hl : l.length ≤ 100000) :
    Calls Tryz.prog 78 #[.slice q n cap, .string (ds l), .int .i64 (a : Int)] w (RdP w W l a) := by
  have HV := Lib.hid hv
  have HN := Lib.hid hn
  have HW := Lib.hid hW
  obtain ⟨b, off, rfl, hbb⟩ := hv.addr (by rw [strs_length, wordsU_length]; omega)
  have hsz := ds_size l
  clear hv hn hW
  go_enter Tryz.func78, Tryz.ntmps78
  go_wp2_with fail
  go_loop [9, 10, 11, 12] (fun s _ _ _ => ∃ k1 : Nat, 1 ≤ k1 ∧ a + k1 ≤ l.length + 1 ∧ s = .int .i64 (k1 : Int) ∧ Hid (lookP W [] (l.drop a) = lookP W ((l.drop a).take (k1 - 1)) ((l.drop a).drop (k1 - 1)))) (fun s _ _ _ => l.length + 2 - (intOf s).toNat)
  case atStart => exact ⟨1, by omega, by omega, rfl, Lib.hid rfl⟩
  case round =>
    obtain ⟨k1, hk1, hk2, rfl, HK⟩ := hrel
    by_cases hlt : a + k1 ≤ l.length
    · obtain ⟨e1, he1⟩ : ∃ e1, a + k1 = e1 := ⟨_, rfl⟩
      have hek : (a : Int) + (k1 : Int) = (e1 : Int) := by omega
      have ql : decide ((e1 : Int) ≤ (l.length : Int)) = true := by simp; omega
      obtain ⟨S, hS⟩ : ∃ S, S = (l.drop a).take k1 := ⟨_, rfl⟩
      have x1 : (ds l).extract a e1 = ds S := by rw [ds_extract, hS, show e1 - a = k1 from by omega]
      have y1 : (a : Int) ≤ (e1 : Int) := by omega
      have y2 : (e1 : Int) ≤ (l.length : Int) := by omega
      have y3 : (0 : Int) ≤ (a : Int) := by omega
      have hSl : S.length = k1 := by rw [hS, List.length_take, List.length_drop]; omega
      have HSL := Lib.hid hSl
      have hst := lookP_step (W := W) (D := l.drop a) (k := k1 - 1) (by rw [List.length_drop]; omega)
      rw [show k1 - 1 + 1 = k1 from by omega, ← hS, ← HK.out] at hst
      have HST := Lib.hid hst
      have HE : Hid (e1 = a + k1 ∧ e1 ≤ l.length) := Lib.hid ⟨he1.symm, by omega⟩
      have HS := Lib.hid hS
      have he1' : e1 ≤ 100000 := by omega
      clear hst hS he1 hSl HK
      go_wp2_with fail
      go_loop [11, 12] (fun sm i => ∃ j : Nat, j ≤ n ∧ i = .int .i64 (j : Int) ∧ sm = .bool ((W.take j).any (pfx S)) ∧ Hid (∀ m ∈ W.take j, m ≠ S)) (fun _ i => n - (intOf i).toNat)
      case atStart => exact ⟨0, by omega, rfl, rfl, Lib.hid (fun m hm => by cases hm)⟩
      case round =>
        obtain ⟨j, hj, rfl, rfl, HJ⟩ := hrel
        by_cases hjn : j < n
        · have qj : decide ((j : Int) < (n : Int)) = true := by simpa using hjn
          have hjW : j < W.length := by rw [HN.out]; exact hjn
          have cw := strs_word HV.out hjW
          have htk : W.take (j + 1) = W.take j ++ [W.getD j []] := by
            rw [List.take_succ_eq_append_getElem hjW, List.getD_eq_getElem?_getD, List.getElem?_eq_getElem hjW]; rfl
          have hml : (W.getD j []).length ≤ 30 := getD_len HW.out j
          have hWj : W[j]? = some (W.getD j []) := by rw [List.getD_eq_getElem?_getD, List.getElem?_eq_getElem hjW]; rfl
          obtain ⟨m, hm⟩ : ∃ m, W.getD j [] = m := ⟨_, rfl⟩
          rw [hm] at cw htk hml hWj
          have i1 : (0 : Int) ≤ (j : Int) := by omega
          have i2 : (j : Int) < (n : Int) := by omega
          have x2 := ds_beq m S
          have hany : (W.take (j + 1)).any (pfx S) = ((W.take j).any (pfx S) || pfx S m) := by rw [htk, List.any_append]; simp
          obtain ⟨y, hy⟩ : ∃ y, (W.take j).any (pfx S) = y := ⟨_, rfl⟩
          rw [hy] at hany ⊢
          have HANY := Lib.hid hany
          have HTK := Lib.hid htk
          have HWJ := Lib.hid hWj
          clear hany htk hWj hm hy
          by_cases hmS : m = S
          · have x3 : decide (m = S) = true := by simpa using hmS
            rw [x3] at x2
            have HRES : Hid (lookP W [] (l.drop a) = (k1, .ok j)) := Lib.hid (by
              have h1 := HWJ.out
              rw [hmS] at h1
              rw [HST.out, if_pos (List.mem_of_getElem? h1), idx_first h1 (fun i hi he => HJ.out S (List.mem_iff_getElem?.2 ⟨i, by rw [List.getElem?_take, if_pos hi]; exact he⟩) rfl)])
            clear x3 hmS
            go_wp2_with fail
            go_ret3
            exact ⟨.inl ⟨j, k1, e1, HRES.out, HE.out.1, rfl⟩, rfl⟩
          · have x3 : decide (m = S) = false := by simpa using hmS
            rw [x3] at x2
            have HJ2 : Hid (∀ v ∈ W.take (j + 1), v ≠ S) := Lib.hid (by
              intro v hv
              rw [HTK.out] at hv
              rcases List.mem_append.1 hv with h | h
              · exact HJ.out v h
              · rw [List.mem_singleton.1 h]; exact hmS)
            clear x3 hmS
            have x4 := ds_empty m
            cases y
            · rcases hme : m with _ | ⟨m0, mt⟩
              · subst hme
                go_wp2_with fail
                go_round
                case rel => exact ⟨j + 1, by omega, by go_num, by rw [HANY.out]; rfl, HJ2⟩
                case measure => simp [intOf]; omega
              · rw [hme] at x4
                have HME := Lib.hid hme
                rw [← hme] at x4
                have HBG := Lib.hid (rbegins_any S m w (by rw [HSL.out]; omega) (by omega))
                have x5 : m.isEmpty = false := by rw [hme]; rfl
                rw [x5] at x4
                clear hme
                go_wp2_with fail
                refine HBG.out.mono ?_
                rintro e w' ⟨rfl, rfl⟩
                go_wp2_with fail
                go_round
                case rel => exact ⟨j + 1, by omega, by go_num, by rw [HANY.out]; simp [pfx, x5], HJ2⟩
                case measure => simp [intOf]; omega
            · go_wp2_with fail
              go_round
              case rel => exact ⟨j + 1, by omega, by go_num, by rw [HANY.out]; rfl, HJ2⟩
              case measure => simp [intOf]; omega
        · have hjn2 : j = n := by omega
          have qj : decide ((j : Int) < (n : Int)) = false := by simp; omega
          have qjn : decide (j < n) = false := by simp; omega
          have htk : W.take j = W := List.take_of_length_le (by rw [HN.out]; omega)
          rw [htk]
          have hno : S ∉ W := fun h => by
            have := HJ.out S (by rw [htk]; exact h)
            exact this rfl
          have hst := HST.out
          rw [if_neg hno] at hst
          change _ = if W.any (pfx S) = true then _ else _ at hst
          obtain ⟨y, hy⟩ : ∃ y, W.any (pfx S) = y := ⟨_, rfl⟩
          rw [hy] at hst ⊢
          clear hjn hjn2 htk hno hy
          cases y
          · rw [if_neg (by decide)] at hst
            have HRES := Lib.hid hst
            clear hst
            go_wp2_with fail
            go_ret3
            exact ⟨.inr ⟨6, k1, e1, HRES.out, .inr rfl, HE.out.1, rfl⟩, rfl⟩
          · rw [if_pos rfl] at hst
            have HRES := Lib.hid hst
            clear hst
            go_wp2_with fail
            go_round
            case rel => exact ⟨k1 + 1, by omega, by have := HE.out; omega, by go_num, Lib.hid (by rw [HRES.out, HS.out]; rfl)⟩
            case measure => simp [intOf]; have := HE.out; omega
    · have hk3 : a + (k1 - 1) = l.length := by omega
      have hd : (l.drop a).drop (k1 - 1) = [] := by rw [List.drop_drop, hk3, List.drop_length]
      have hlk : ((l.drop a).take (k1 - 1)).length = k1 - 1 := by rw [List.length_take, List.length_drop]; omega
      have HRES : Hid (lookP W [] (l.drop a) = (k1 - 1, .error 2)) := Lib.hid (by rw [HK.out, hd, lookP, hlk])
      have HKE := Lib.hid hk3
      have ql : decide ((a : Int) + (k1 : Int) ≤ (l.length : Int)) = false := by simp; omega
      clear hk3 hd hlt hlk
      go_wp2_with fail
      go_ret3
      exact ⟨.inr ⟨2, k1 - 1, l.length, HRES.out, .inl rfl, HKE.out.symm, rfl⟩, rfl⟩
end Go.Proofs.YtidicajedckaoaaGreatDoor.Fx
/- Words of which none begins another one are a book's. -/
namespace Go.Proofs.YtidicajedckaoaaGreatDoor.Fx
open Go.Proofs.YtidicajedckaoaaGreatDoor.Oct Go.Proofs.YtidicajedckaoaaGreatDoor.Bit Go.Proofs.YtidicajedckaoaaGreatDoor.Hf Go.Proofs.YtidicajedckaoaaGreatDoor.Inf
set_option linter.unusedVariables false
set_option linter.unusedSimpArgs false

theorem dig_prefF {a b : List Bool} (h : a.map dig <+: b.map dig) : a <+: b := by
  obtain ⟨r, hr⟩ := h
  have hl := congrArg List.length hr
  rw [List.length_append, List.length_map, List.length_map] at hl
  have h1 : (b.take a.length).map dig = a.map dig := by rw [List.map_take, ← hr, List.take_left' (by rw [List.length_map])]
  have h2 : b.take a.length = a := dig_inj h1
  exact ⟨b.drop a.length, by
    conv => lhs; lhs; rw [← h2]
    exact List.take_append_drop _ _⟩
theorem good_free {W : List (List Bool)} (h : freeB W = true) : Hf.Good (wordsU W) := by
  constructor
  · intro s hs
    obtain ⟨m, _, rfl⟩ := List.mem_map.1 hs
    exact wordB_dig m
  · intro i j s t hi hj hij hs ht hp
    have e : ∀ k u, (wordsU W)[k]? = some u → ∃ m : List Bool, W[k]? = some m ∧ u = m.map dig := fun k u hk => by
      unfold wordsU at hk
      rw [List.getElem?_map] at hk
      rcases hx : W[k]? with _ | m
      · rw [hx] at hk; cases hk
      · rw [hx] at hk
        injection hk with hk
        exact ⟨m, hx, hk.symm⟩
    obtain ⟨m, hm, rfl⟩ := e i s hi
    obtain ⟨m2, hm2, rfl⟩ := e j t hj
    have hjl := (List.getElem?_eq_some_iff.1 hm2).1
    have hf := free_of h j hjl
    have hg : W.getD j [] = m2 := by rw [List.getD_eq_getElem?_getD, hm2]; rfl
    have hp2 : m <+: m2 := dig_prefF hp
    exact hij (hf.2 i m hm (by rw [hg]; exact hp2) (fun e => hs (by rw [e]; rfl)))
theorem words_good (black : Bool) : Hf.Good (wordsU (wordsF black)) := good_free (by
  cases black
  · exact white_free
  · exact black_free)
theorem modes_good : Hf.Good (wordsU modesF) := good_free modes_free
theorem words_eol_good (black : Bool) : Hf.Good (wordsU (wordsF black ++ [eol])) := good_free (words_eol black)
theorem modes_eol_good : Hf.Good (wordsU (modesF ++ [eol])) := good_free modes_eol
end Go.Proofs.YtidicajedckaoaaGreatDoor.Fx


/- The contract of a book's Read over numbers, whatever the bits are, with the place behind, also on an error. -/
import Derived.Test.YtmbfgejephgojaaGreatDoorHfR
import Derived.Test.YtmbfgejephgojaaGreatDoorMhP
import Derived.Test.YtmbfgejephgojaaGreatDoorBitF
import Derived.LoopTactic
import Derived.Shelf.Strings.Fields
import Derived.Lib.LaidTab
import Derived.Test.YtmbfgejephgojaaGreatDoorHfW
namespace Go.Proofs.YtmbfgejephgojaaGreatDoor.Fx
open Go.RowKit Go.Proofs.YtmbfgejephgojaaGreatDoor.Oct Go.Proofs.YtmbfgejephgojaaGreatDoor.Bit Go.Proofs.YtmbfgejephgojaaGreatDoor.Hf Go.Proofs.YtmbfgejephgojaaGreatDoor.Inf
set_option linter.unusedVariables false
set_option linter.unusedSimpArgs false
set_option maxRecDepth 100000

section
variable {W : List (List Bool)} {A : List Bool → Option (Nat × Nat)} {E : List Bool → Option Nat}
theorem lookP_ends (h : St (wordsU W) (wordsU W).length A E) {p t : List Bool} {x : Bool} {i : Nat} (he : E (p ++ [x]) = some i) : lookP W p (x :: t) = (p.length + 1, .ok i) := by
  have hl := look_ends h (t := t) he
  rw [lookP_look] at hl
  rcases hx : lookP W p (x :: t) with ⟨k, v⟩
  rw [hx] at hl
  rcases v with c | j
  · cases hl
  · injection hl with hl
    injection hl with e1 e2
    simp only at e1 e2
    rw [e1, e2]
theorem lookP_none (h : St (wordsU W) (wordsU W).length A E) {p t : List Bool} {x : Bool} (ha : A (p ++ [x]) = none) : lookP W p (x :: t) = (p.length + 1, .error 6) := by
  have hl := look_none h (t := t) ha
  rw [lookW] at hl
  rw [lookP]
  split at hl
  · cases hl
  · rename_i h1
    rw [if_neg h1]
    split at hl
    · rename_i h2
      exfalso
      have key : ∀ r, r ∈ W → r ≠ [] → ¬ p ++ [x] <+: r := by
        intro r hr hne hp
        obtain ⟨j, hj⟩ := List.mem_iff_getElem?.1 hr
        have := (h.mem hne).2 hj
        exact h.a2 _ r (by rw [this]; simp) hp ha
      obtain ⟨r, hr, hb⟩ := List.any_eq_true.1 h2
      rw [Bool.and_eq_true] at hb
      exact key r hr (by have := hb.1; intro e; rw [e] at this; simp at this) (List.isPrefixOf_iff_prefix.1 hb.2)
    · rename_i h2
      rw [if_neg h2]
theorem lookP_on (h : St (wordsU W) (wordsU W).length A E) {p t : List Bool} {x : Bool} (ha : A (p ++ [x]) ≠ none) (he : E (p ++ [x]) = none) : lookP W p (x :: t) = lookP W (p ++ [x]) t := by
  have hm : p ++ [x] ∉ W := by
    intro hm
    obtain ⟨j, hj⟩ := List.mem_iff_getElem?.1 hm
    have := (h.mem (by simp)).2 hj
    rw [he] at this
    cases this
  rw [lookP, if_neg hm, if_pos]
  rcases h.a1 _ ha with e | ⟨r, hr, hp⟩
  · exact absurd e (by simp)
  · rcases hk : E r with _ | i
    · exact absurd hk hr
    · have hne : r ≠ [] := (h.e1 r i hk).2.1
      refine List.any_eq_true.2 ⟨r, List.mem_of_getElem? ((h.mem hne).1 hk), ?_⟩
      rw [Bool.and_eq_true]
      exact ⟨by simpa using hne, List.isPrefixOf_iff_prefix.2 hp⟩
end
/-- what is read, and where the reader stands then -/
def ReadP (w : World) (gr : Nat) (p : Option Addr) (cap : Nat) (xs : List UInt8) (a : Nat) (low : Bool) (W : List (List Bool)) (ms : List Value) (z : Value) (e : Ending) (w' : World) : Prop :=
  ((∃ i k v, lookP W [] ((bitsOf low xs).drop a) = (k, .ok i) ∧ ms[i]? = some v ∧ e = .returned (.tuple #[v, .int .i64 0]) ∧ Rd w' gr p cap xs (a + k) low) ∨
    ∃ c k, lookP W [] ((bitsOf low xs).drop a) = (k, .error c) ∧ e = .returned (.tuple #[z, .int .i64 (c : Int)]) ∧ Rd w' gr p cap xs (a + k) low) ∧ Only (· = gr) w w' ∧ w'.heap.size = w.heap.size
/-- what is known of the bits read so far -/
def KnownP (W : List (List Bool)) (E : List Bool → Option Nat) (l : List Bool) (j : Nat) : Prop :=
  j ≤ l.length ∧ (∀ i, E (l.take j) = some i → lookP W [] l = (j, .ok i)) ∧ (E (l.take j) = none → lookP W [] l = lookP W (l.take j) (l.drop j))
theorem KnownP.on {W : List (List Bool)} {A : List Bool → Option (Nat × Nat)} {E : List Bool → Option Nat} (h : St (wordsU W) (wordsU W).length A E) {l t : List Bool} {j : Nat} {x : Bool} (hk : KnownP W E l j) (he : E (l.take j) = none) (hd : l.drop j = x :: t)
    (ha : A (l.take j ++ [x]) ≠ none) : l.take (j + 1) = l.take j ++ [x] ∧ KnownP W E l (j + 1) := by
  have hj : j < l.length := by
    have := congrArg List.length hd
    simp at this
    omega
  have hx : l[j] = x ∧ l.drop (j + 1) = t := by
    rw [List.drop_eq_getElem_cons hj] at hd
    injection hd with h1 h2
    exact ⟨h1, h2⟩
  have ht : l.take (j + 1) = l.take j ++ [x] := by rw [List.take_succ_eq_append_getElem hj, hx.1]
  have hs := hk.2.2 he
  have hlen : (l.take j).length = j := by rw [List.length_take]; omega
  refine ⟨ht, by omega, fun i hi => ?_, fun hn => ?_⟩
  · rw [hs, hd, lookP_ends h (by rw [← ht]; exact hi), hlen]
  · rw [hs, hd, lookP_on h ha (by rw [← ht]; exact hn), ht, hx.2]
set_option maxHeartbeats 4000000 in
theorem readI_pos (w : World) (B C g : Nat) (W : List (List Bool)) (ms : List Value) (gr : Nat) (p : Option Addr) (cap : Nat) (xs : List UInt8) (a : Nat) (low : Bool)
    (hB : BoU w B C g (wordsU W) ms) (hC : gr < B) (hR : Rd w gr p cap xs a low) (hlen : ms.length = W.length) :
    Calls Tryz.prog 92 #[.pointer (some ⟨g, 0, none⟩), .pointer (some ⟨gr, 0, none⟩)] w (ReadP w gr p cap xs a low W ms (.int .i64 0)) := by
  obtain ⟨⟨hCz, hBg⟩, pw, cw, pm, cm, A, E, hS, hlw, hlm, hAll⟩ := hB
  obtain ⟨hT, hvw, hvm⟩ := hAll w (fun _ _ _ => rfl)
  have HALL : Hid (∀ wr, Only (· = gr) w wr → Tr wr C g (.slice pw (wordsU W).length cw) (.slice pm ms.length cm) A E ∧ VRow wr C pw (strs (wordsU W)) ∧ VRow wr C pm ms) := Lib.hid fun wr ho => hAll wr fun k h1 h2 => ho.2.2.2.2 k (by omega) (fun e => by omega)
  have hgw := hR.lt
  have HTw := Lib.hid hT
  have HS := Lib.hid hS
  have HR0 := Lib.hid hR
  have HVM := Lib.hid hvm
  have HL := Lib.hid hlen
  obtain ⟨l, hl⟩ : ∃ l, l = (bitsOf low xs).drop a := ⟨_, rfl⟩
  have HBL := Lib.hid hl
  have HK0 : Hid (KnownP W E l 0) := Lib.hid ⟨by omega, fun i hi => absurd rfl ((hS.e1 _ i hi).2.1), fun _ => rfl⟩
  clear hT hS hvw hvm hR hlen hl hAll
  go_enter Tryz.func92, Tryz.ntmps92
  go_wp2_with fail
  go_loopw [7, 8, 9] (fun q u s wr => ∃ (j b o : Nat), A (l.take j) = some (b, o) ∧ q = .pointer (some ⟨b, o, none⟩) ∧ Hid (KnownP W E l j) ∧ Hid (Rd wr gr p cap xs (a + j) low) ∧ Hid (Only (· = gr) w wr) ∧ Hid (wr.heap.size = w.heap.size)) (fun _ _ _ wr => a + l.length + 1 - rdAt gr wr)
  case atStart => exact ⟨0, g, 2, HTw.out.root, rfl, HK0, HR0, Lib.hid (Only.refl _ _), Lib.hid rfl⟩
  case round =>
    obtain ⟨j, b, o, hA, rfl, HK, HR, HO, HZ⟩ := hrel
    have HT := Lib.hid (HALL.out wr HO.out).1
    have HVMr := Lib.hid (HALL.out wr HO.out).2.2
    have hbC := (HT.out.lo _ b o hA).2
    have hgb := (HT.out.lo _ b o hA).1
    have hne := HT.out.ne _ b o hA
    cases hE : E (l.take j) with
    | some i =>
      have HEQ := Lib.hid (HK.out.2.1 i hE)
      have hil : i < ms.length := by
        have := (HS.out.e1 _ i hE).1
        rw [wordsU_length, ← HL.out] at this
        exact this
      obtain ⟨v, hv⟩ : ∃ v, ms[i]? = some v := ⟨_, List.getElem?_eq_getElem hil⟩
      obtain ⟨bm, om, hpm, hbm, hcm⟩ := vrow_get HVMr.out hv
      have HVV := Lib.hid hv
      subst hpm
      rw [hE] at hne
      have hne : wr.cell? ⟨b, o + 2, none⟩ = some (.bool true) := hne
      have hni := HT.out.ni _ b o hA
      rw [hE] at hni
      have hni : wr.cell? ⟨b, o + 3, none⟩ = some (.int .i64 (i : Int)) := hni
      have h1 := HT.out.h1
      have j0 : (0 : Int) ≤ (i : Int) := by omega
      have j1 : (i : Int) < (ms.length : Int) := by omega
      clear hE hv
      generalize ms.length = ml at h1 j1
      go_wp2_with fail
      go_quiet (fail)
      go_wp2_with fail
      go_ret2
      exact ⟨.inl ⟨i, j, v, HBL.out ▸ HEQ.out, HVV.out, rfl, HR.out.drawn ⟨_, rfl⟩⟩, HO.out.trans (Only.drawn _ ⟨_, rfl⟩), HZ.out⟩
    | none =>
      rw [hE] at hne
      have hne : wr.cell? ⟨b, o + 2, none⟩ = some (.bool false) := hne
      have HEN := Lib.hid hE
      have HRD := Lib.hid (read_any gr p cap xs (a + j) low wr 1 HR.out)
      have hdr : (bitsOf low xs).drop (a + j) = l.drop j := by rw [← List.drop_drop, ← HBL.out]
      rcases hd : l.drop j with _ | ⟨x, t⟩
      · obtain ⟨hv1, he1, ha1⟩ := bit_none (hdr.trans hd)
        have hjl : j ≤ l.length := HK.out.1
        have HEQ : Hid (lookP W [] l = (j, .error 2)) := Lib.hid (by rw [HK.out.2.2 hE, hd, lookP, List.length_take, Nat.min_eq_left hjl])
        have HAE := Lib.hid ha1
        have HV := Lib.hid hv1
        have HE := Lib.hid he1
        clear hE hdr hd hv1 he1 ha1
        go_wp2_with fail
        refine HRD.out.mono ?_
        rintro e w4 ⟨rfl, hr4, ho4, hz4⟩
        rw [HV.out, HE.out]
        have HR4 := Lib.hid hr4
        have HO4 := Lib.hid (HO.out.trans ho4)
        have HZ4 := Lib.hid (hz4.trans HZ.out)
        clear hr4 ho4 hz4
        go_wp2_with fail
        go_ret2
        exact ⟨.inr ⟨2, j, HBL.out ▸ HEQ.out, rfl, by have := HR4.out; rwa [HAE.out] at this⟩, HO4.out, HZ4.out⟩
      · obtain ⟨hv1, he1, ha1⟩ := bit_read (hdr.trans hd)
        have HV := Lib.hid hv1
        have HE := Lib.hid he1
        have HA1 := Lib.hid ha1
        rcases hk : A (l.take j ++ [x]) with _ | ⟨b2, o2⟩
        · have hjl : j ≤ l.length := HK.out.1
          have HEQ : Hid (lookP W [] l = (j + 1, .error 6)) := Lib.hid (by rw [HK.out.2.2 hE, hd, lookP_none HS.out hk, List.length_take, Nat.min_eq_left hjl])
          have HKN := Lib.hid hk
          clear hE hdr hd hv1 he1 ha1
          cases x
          · have hn : wr.cell? ⟨b, o, none⟩ = some (.pointer none) := by
              have := HT.out.n0 _ b o hA
              rw [hk] at this
              exact this
            clear hk
            go_wp2_with fail
            refine HRD.out.mono ?_
            rintro e w4 ⟨rfl, hr4, ho4, hz4⟩
            rw [HV.out, HE.out]
            have HR4 := Lib.hid hr4
            have HO4 := Lib.hid (HO.out.trans ho4)
            have HZ4 := Lib.hid (hz4.trans HZ.out)
            have hn4 : w4.cell? ⟨b, o, none⟩ = some (.pointer none) := by
              rw [← hn]
              exact World.cell?_of_block (ho4.2.2.2.2 b (by have := HZ.out; omega) (by omega))
            clear hr4 ho4 hz4 hn
            go_wp2_with fail
            go_ret2
            exact ⟨.inr ⟨6, j + 1, HBL.out ▸ HEQ.out, rfl, by have := HR4.out; rwa [HA1.out, Nat.add_assoc] at this⟩, HO4.out, HZ4.out⟩
          · have hn : wr.cell? ⟨b, o + 1, none⟩ = some (.pointer none) := by
              have := HT.out.n1 _ b o hA
              rw [hk] at this
              exact this
            clear hk
            go_wp2_with fail
            refine HRD.out.mono ?_
            rintro e w4 ⟨rfl, hr4, ho4, hz4⟩
            rw [HV.out, HE.out]
            have HR4 := Lib.hid hr4
            have HO4 := Lib.hid (HO.out.trans ho4)
            have HZ4 := Lib.hid (hz4.trans HZ.out)
            have hn4 : w4.cell? ⟨b, o + 1, none⟩ = some (.pointer none) := by
              rw [← hn]
              exact World.cell?_of_block (ho4.2.2.2.2 b (by have := HZ.out; omega) (by omega))
            clear hr4 ho4 hz4 hn
            go_wp2_with fail
            go_ret2
            exact ⟨.inr ⟨6, j + 1, HBL.out ▸ HEQ.out, rfl, by have := HR4.out; rwa [HA1.out, Nat.add_assoc] at this⟩, HO4.out, HZ4.out⟩
        · obtain ⟨htk, hkn⟩ := HK.out.on HS.out hE hd (by rw [hk]; simp)
          have HK2 : Hid (A (l.take (j + 1)) = some (b2, o2)) := Lib.hid (by rw [htk]; exact hk)
          have HKN := Lib.hid hkn
          clear hE hdr hd hv1 he1 ha1 htk hkn
          cases x
          · have hn : wr.cell? ⟨b, o, none⟩ = some (.pointer (some ⟨b2, o2, none⟩)) := by
              have := HT.out.n0 _ b o hA
              rw [hk] at this
              exact this
            clear hk
            go_wp2_with fail
            refine HRD.out.mono ?_
            rintro e w4 ⟨rfl, hr4, ho4, hz4⟩
            rw [HV.out, HE.out]
            have HR4 := Lib.hid hr4
            have HO4 := Lib.hid (HO.out.trans ho4)
            have HZ4 := Lib.hid (hz4.trans HZ.out)
            have hn4 : w4.cell? ⟨b, o, none⟩ = some (.pointer (some ⟨b2, o2, none⟩)) := by
              rw [← hn]
              exact World.cell?_of_block (ho4.2.2.2.2 b (by have := HZ.out; omega) (by omega))
            clear hr4 ho4 hz4 hn
            go_wp2_with fail
            go_roundw
            case rel => exact ⟨j + 1, b2, o2, HK2.out, rfl, HKN, Lib.hid (by have := HR4.out; rwa [HA1.out, Nat.add_assoc] at this), HO4, HZ4⟩
            case measure => rw [rdAt_of HR.out, rdAt_of HR4.out, HA1.out]; have := HK.out.1; omega
          · have hn : wr.cell? ⟨b, o + 1, none⟩ = some (.pointer (some ⟨b2, o2, none⟩)) := by
              have := HT.out.n1 _ b o hA
              rw [hk] at this
              exact this
            clear hk
            go_wp2_with fail
            refine HRD.out.mono ?_
            rintro e w4 ⟨rfl, hr4, ho4, hz4⟩
            rw [HV.out, HE.out]
            have HR4 := Lib.hid hr4
            have HO4 := Lib.hid (HO.out.trans ho4)
            have HZ4 := Lib.hid (hz4.trans HZ.out)
            have hn4 : w4.cell? ⟨b, o + 1, none⟩ = some (.pointer (some ⟨b2, o2, none⟩)) := by
              rw [← hn]
              exact World.cell?_of_block (ho4.2.2.2.2 b (by have := HZ.out; omega) (by omega))
            clear hr4 ho4 hz4 hn
            go_wp2_with fail
            go_roundw
            case rel => exact ⟨j + 1, b2, o2, HK2.out, rfl, HKN, Lib.hid (by have := HR4.out; rwa [HA1.out, Nat.add_assoc] at this), HO4, HZ4⟩
            case measure => rw [rdAt_of HR.out, rdAt_of HR4.out, HA1.out]; have := HK.out.1; omega
end Go.Proofs.YtmbfgejephgojaaGreatDoor.Fx
/- The document's Read of words, with the place behind, also on an error. -/
namespace Go.Proofs.YtmbfgejephgojaaGreatDoor.Fx
open Go.RowKit Go.Proofs.YtmbfgejephgojaaGreatDoor.Oct Go.Proofs.YtmbfgejephgojaaGreatDoor.Bit Go.Proofs.YtmbfgejephgojaaGreatDoor.Hf Go.Proofs.YtmbfgejephgojaaGreatDoor.Inf
set_option linter.unusedVariables false
set_option linter.unusedSimpArgs false
set_option maxRecDepth 100000

theorem idx_first {W : List (List Bool)} {q : List Bool} {i : Nat} (h : W[i]? = some q) (hn : ∀ j, j < i → W[j]? ≠ some q) : W.idxOf q = i := by
  have hm : q ∈ W := List.mem_of_getElem? h
  have hl := List.idxOf_lt_length_of_mem hm
  have hg : W[W.idxOf q]? = some q := by rw [List.getElem?_eq_getElem hl, List.getElem_idxOf]
  rcases Nat.lt_trichotomy (W.idxOf q) i with h1 | h1 | h1
  · exact absurd hg (hn _ h1)
  · exact h1
  · refine absurd h1 (Nat.not_lt.2 ?_)
    obtain ⟨hi, he⟩ := List.getElem?_eq_some_iff.1 h
    exact Nat.le_of_not_lt fun hc => by
      have := List.not_of_lt_findIdx (p := (· == q)) (xs := W) (i := i) hc
      simp [he] at this
theorem strs_word {w : World} {C b off i : Nat} {W : List (List Bool)} (h : VRow w C (some ⟨b, off, none⟩) (strs (wordsU W))) (hi : i < W.length) : w.cell? ⟨b, off + i, none⟩ = some (.string (ds (W.getD i []))) := by
  have h1 := h.str i (by rw [wordsU_length]; exact hi)
  rw [h1]
  simp [wordsU, List.getD_eq_getElem?_getD, List.getElem?_eq_getElem hi, ds]
theorem getD_len {W : List (List Bool)} (h : ∀ m ∈ W, m.length ≤ 30) (i : Nat) : (W.getD i []).length ≤ 30 := by
  rw [List.getD_eq_getElem?_getD]
  rcases hx : W[i]? with _ | m
  · simp
  · exact h m (List.mem_of_getElem? hx)
theorem ds_list (a : List Bool) : (ds a).toList = a.map dig := bs_toList _
theorem ds_beq (a b : List Bool) : ((ds a).toList == (ds b).toList) = decide (a = b) := by
  rw [ds_list, ds_list, Bool.eq_iff_iff, beq_iff_eq, decide_eq_true_iff]
  refine ⟨fun h => ds_inj _ _ (by unfold ds; rw [h]), fun h => by rw [h]⟩
theorem ds_empty (a : List Bool) : (ds a).toList.isEmpty = a.isEmpty := by
  rw [ds_list]
  cases a <;> rfl
theorem prefix_take (s t : List Bool) : s.isPrefixOf t = decide (s.length ≤ t.length ∧ t.take s.length = s) := by
  rw [Bool.eq_iff_iff, decide_eq_true_iff, List.isPrefixOf_iff_prefix]
  constructor
  · rintro ⟨r, rfl⟩; simp
  · rintro ⟨_, h⟩; exact ⟨t.drop s.length, by
      conv => lhs; lhs; rw [← h]
      exact List.take_append_drop _ _⟩
theorem lookP_step {W : List (List Bool)} {D : List Bool} {k : Nat} (h : k < D.length) : lookP W (D.take k) (D.drop k) = if D.take (k + 1) ∈ W then (k + 1, .ok (W.idxOf (D.take (k + 1))))
    else if W.any (fun v => !v.isEmpty && (D.take (k + 1)).isPrefixOf v) then lookP W (D.take (k + 1)) (D.drop (k + 1)) else (k + 1, .error 6) := by
  rw [List.drop_eq_getElem_cons h, lookP, ← List.take_succ_eq_append_getElem h, List.length_take, Nat.min_eq_left (by omega)]
def pfx (S : List Bool) (v : List Bool) : Bool := !v.isEmpty && S.isPrefixOf v
def RdP (w : World) (W : List (List Bool)) (l : List Bool) (a : Nat) (e : Ending) (w' : World) : Prop :=
  ((∃ i k b, lookP W [] (l.drop a) = (k, .ok i) ∧ b = a + k ∧ e = .returned (.tuple #[.int .i64 (i : Int), .int .i64 (b : Int), .int .i64 0])) ∨
    ∃ c k b : Nat, lookP W [] (l.drop a) = (k, .error c) ∧ (c = 2 ∨ c = 6) ∧ b = a + k ∧ e = .returned (.tuple #[.int .i64 0, .int .i64 (b : Int), .int .i64 (c : Int)])) ∧ w = w'
end Go.Proofs.YtmbfgejephgojaaGreatDoor.Fx
/- Words of which none begins another one are a book's. -/
namespace Go.Proofs.YtmbfgejephgojaaGreatDoor.Fx
open Go.Proofs.YtmbfgejephgojaaGreatDoor.Oct Go.Proofs.YtmbfgejephgojaaGreatDoor.Bit Go.Proofs.YtmbfgejephgojaaGreatDoor.Hf Go.Proofs.YtmbfgejephgojaaGreatDoor.Inf
set_option linter.unusedVariables false
set_option linter.unusedSimpArgs false

theorem dig_prefF {a b : List Bool} (h : a.map dig <+: b.map dig) : a <+: b := by
  obtain ⟨r, hr⟩ := h
  have hl := congrArg List.length hr
  rw [List.length_append, List.length_map, List.length_map] at hl
  have h1 : (b.take a.length).map dig = a.map dig := by rw [List.map_take, ← hr, List.take_left' (by rw [List.length_map])]
  have h2 : b.take a.length = a := dig_inj h1
  exact ⟨b.drop a.length, by
    conv => lhs; lhs; rw [← h2]
    exact List.take_append_drop _ _⟩
theorem good_free {W : List (List Bool)} (h : freeB W = true) : Hf.Good (wordsU W) := by
  constructor
  · intro s hs
    obtain ⟨m, _, rfl⟩ := List.mem_map.1 hs
    exact wordB_dig m
  · intro i j s t hi hj hij hs ht hp
    have e : ∀ k u, (wordsU W)[k]? = some u → ∃ m : List Bool, W[k]? = some m ∧ u = m.map dig := fun k u hk => by
      unfold wordsU at hk
      rw [List.getElem?_map] at hk
      rcases hx : W[k]? with _ | m
      · rw [hx] at hk; cases hk
      · rw [hx] at hk
        injection hk with hk
        exact ⟨m, hx, hk.symm⟩
    obtain ⟨m, hm, rfl⟩ := e i s hi
    obtain ⟨m2, hm2, rfl⟩ := e j t hj
    have hjl := (List.getElem?_eq_some_iff.1 hm2).1
    have hf := free_of h j hjl
    have hg : W.getD j [] = m2 := by rw [List.getD_eq_getElem?_getD, hm2]; rfl
    have hp2 : m <+: m2 := dig_prefF hp
    exact hij (hf.2 i m hm (by rw [hg]; exact hp2) (fun e => hs (by rw [e]; rfl)))
theorem words_good (black : Bool) : Hf.Good (wordsU (wordsF black)) := good_free (by
  cases black
  · exact white_free
  · exact black_free)
theorem modes_good : Hf.Good (wordsU modesF) := good_free modes_free
theorem words_eol_good (black : Bool) : Hf.Good (wordsU (wordsF black ++ [eol])) := good_free (words_eol black)
theorem modes_eol_good : Hf.Good (wordsU (modesF ++ [eol])) := good_free modes_eol
end Go.Proofs.YtmbfgejephgojaaGreatDoor.Fx
/- The contract of strings.Fields for ASCII text, and the two tables of words as a text that is split. -/
namespace Go.Proofs.YtmbfgejephgojaaGreatDoor.Fx
open Go.Shelf Go.RowKit Go.Lib Go.Proofs.YtmbfgejephgojaaGreatDoor.Oct Go.Proofs.YtmbfgejephgojaaGreatDoor.Bit Go.Proofs.YtmbfgejephgojaaGreatDoor.Hf Go.Proofs.YtmbfgejephgojaaGreatDoor.Inf
set_option linter.unusedVariables false
set_option linter.unusedSimpArgs false
set_option maxRecDepth 100000

/-- the numbers of the library's texts, here -/
def renF : Ren := ⟨fun n => if n = 157 then 58 else if n = 199 then 79 else if n = 229 then 78 else if n = 261 then 97 else if n = 311 then 106 else if n = 312 then 107 else n,
  fun n => if n = 3 then 3 else if n = 4 then 4 else if n = 5 then 5 else if n = 9 then 9 else if n = 21 then 21 else if n = 31 then 66 else if n = 40 then 133 else if n = 46 then 135 else if n = 49 then 168 else if n = 51 then 91 else if n = 119 then 131 else if n = 141 then 158 else if n = 152 then 154 else if n = 154 then 156 else if n = 193 then 164 else if n = 194 then 165 else if n = 196 then 167 else if n = 198 then 170 else if n = 201 then 173 else if n = 226 then 178 else if n = 227 then 179 else n,
  fun n => if n = 0 then 0 else if n = 6 then 1 else n⟩
theorem laysF : Lays.n157 Tryz.prog renF where
  mixed := by kernel_rfl
  f157 := by kernel_rfl
  f199 := by kernel_rfl
  f229 := by kernel_rfl
  f261 := by kernel_rfl
  f311 := by kernel_rfl
  f312 := by kernel_rfl
  t0 := by kernel_rfl
  a0 _ := by kernel_rfl
  z0 _ := by kernel_rfl
  v0 _ := by kernel_rfl
  t3 := by kernel_rfl
  a3 _ := by kernel_rfl
  z3 _ := by kernel_rfl
  v3 _ := by kernel_rfl
  t4 := by kernel_rfl
  a4 _ := by kernel_rfl
  z4 _ := by kernel_rfl
  v4 _ := by kernel_rfl
  t5 := by kernel_rfl
  a5 _ := by kernel_rfl
  z5 _ := by kernel_rfl
  v5 _ := by kernel_rfl
  t9 := by kernel_rfl
  a9 _ := by kernel_rfl
  z9 _ := by kernel_rfl
  v9 _ := by kernel_rfl
  t21 := by kernel_rfl
  a21 _ := by kernel_rfl
  z21 _ := by kernel_rfl
  v21 _ := by kernel_rfl
  t31 := by kernel_rfl
  a31 _ := by kernel_rfl
  z31 _ := by kernel_rfl
  v31 _ := by kernel_rfl
  t40 := by kernel_rfl
  a40 _ := by kernel_rfl
  z40 _ := by kernel_rfl
  v40 _ := by kernel_rfl
  t46 := by kernel_rfl
  a46 _ := by kernel_rfl
  z46 _ := by kernel_rfl
  v46 _ := by kernel_rfl
  t49 := by kernel_rfl
  a49 _ := by kernel_rfl
  z49 _ := by kernel_rfl
  v49 _ := by kernel_rfl
  t51 := by kernel_rfl
  a51 _ := by kernel_rfl
  z51 _ := by kernel_rfl
  v51 _ := by kernel_rfl
  t119 := by kernel_rfl
  a119 _ := by kernel_rfl
  z119 _ := by kernel_rfl
  t141 := by kernel_rfl
  a141 _ := by kernel_rfl
  z141 _ := by kernel_rfl
  v141 _ := by kernel_rfl
  t152 := by kernel_rfl
  a152 _ := by kernel_rfl
  z152 _ := by kernel_rfl
  v152 _ := by kernel_rfl
  t154 := by kernel_rfl
  a154 _ := by kernel_rfl
  z154 _ := by kernel_rfl
  v154 _ := by kernel_rfl
  t193 := by kernel_rfl
  a193 _ := by kernel_rfl
  z193 _ := by kernel_rfl
  v193 _ := by kernel_rfl
  t194 := by kernel_rfl
  a194 _ := by kernel_rfl
  z194 _ := by kernel_rfl
  v194 _ := by kernel_rfl
  t196 := by kernel_rfl
  a196 _ := by kernel_rfl
  z196 _ := by kernel_rfl
  v196 _ := by kernel_rfl
  t198 := by kernel_rfl
  a198 _ := by kernel_rfl
  z198 _ := by kernel_rfl
  v198 _ := by kernel_rfl
  t201 := by kernel_rfl
  a201 _ := by kernel_rfl
  z201 _ := by kernel_rfl
  v201 _ := by kernel_rfl
  t226 := by kernel_rfl
  a226 _ := by kernel_rfl
  z226 _ := by kernel_rfl
  v226 _ := by kernel_rfl
  t227 := by kernel_rfl
  a227 _ := by kernel_rfl
  z227 _ := by kernel_rfl
  v227 _ := by kernel_rfl
  g0 := by kernel_rfl
  g6 := by kernel_rfl

/-- the library's table of white space lies as it was laid -/
def Tab (w : World) : Prop := ∀ c : Nat, c < 256 → w.cell? ⟨0, c, none⟩ = some (.int .u8 (if Lib.isSp (UInt8.ofNat c) then 1 else 0))
theorem Tab.lt {w : World} (h : Tab w) : 0 < w.heap.size := World.block_lt_of_cell? _ _ (h 0 (by decide))
theorem Tab.below {w w' : World} {B : Nat} (h : Tab w) (hb : Below B w w') (hB : 0 < B) : Tab w' := fun c hc => (hb.cell (p := ⟨0, c, none⟩) hB).trans (h c hc)
/-- a row's condition gives the table -/
theorem tab_laid {W : World} {d : DataW Unit} {rest : List (String × DataW Unit)} (h : laidMet Tryz.prog (("strings.asciiSpace", d) :: rest) W) (hd : d = Lib.tabData .u8 Lib.asciiSpaceTab := by kernel_rfl) : Tab W := by
  subst hd
  have htab := Lib.tabIs_of_head (g := 0) (t := 131) (e := 5) (n := 256) (by kernel_rfl) (by kernel_rfl) (by kernel_rfl) (by kernel_rfl) (by kernel_rfl) (by kernel_rfl) h
  intro c hc
  rw [htab.cell (g := 0) (by kernel_rfl) c (by rw [Lib.asciiSpaceTab_length]; exact hc), Lib.asciiSpaceTab_at c hc]
theorem fields_any (s : ByteArray) (w : World) (hs : s.size < 4294967281) (ha : s.data.toList.all (fun b => decide (b.toNat < 128)) = true) (hT : Tab w) :
    Calls Tryz.prog 58 #[.string s] w fun e w' => e = .returned (.slice (some ⟨w.heap.size, 0, none⟩) (Lib.fields s.data.toList).length (Lib.fields s.data.toList).length) ∧
      w' = w.alloc (.cells ((Lib.fields s.data.toList).map fun l => Value.string ⟨l.toArray⟩).toArray 9) :=
  Any.strings_Fields_core laysF (by kernel_rfl) s w hs (fun j b hb => by
    have := List.all_eq_true.1 ha b (List.mem_of_getElem? hb)
    simpa using this) hT
end Go.Proofs.YtmbfgejephgojaaGreatDoor.Fx
/- A book of modes: the contracts of New, Len, Word and Write. -/
namespace Go.Proofs.YtmbfgejephgojaaGreatDoor.Fx
open Go.RowKit Go.Proofs.YtmbfgejephgojaaGreatDoor.Oct Go.Proofs.YtmbfgejephgojaaGreatDoor.Bit Go.Proofs.YtmbfgejephgojaaGreatDoor.Hf Go.Proofs.YtmbfgejephgojaaGreatDoor.Inf
set_option linter.unusedVariables false
set_option linter.unusedSimpArgs false
set_option maxRecDepth 100000

theorem Tryz.infoMode : (Tryz.prog.info? 72).map (fun i => (i.zero, i.size, i.bytes)) = some (some (.int .i64 0), 1, 8) := by kernel_rfl
set_option maxHeartbeats 400000 in
theorem mcloneI_any (p : Option Addr) (len cap : Nat) (vs : List Value) (w : World) (hr : VRow w w.heap.size p vs) (hx : vs.length = len) (hnil : p = none → cap = 0) (h47 : len ≤ 100000) (h1 : ∀ u ∈ vs, u.oneCell' = true) :
    Calls Tryz.prog 60 #[.slice p len cap] w (CloneV w vs) := by
  obtain ⟨i0, hi, hz0, hz1, hz2⟩ := info_parts Tryz.infoMode
  rcases p with _ | ad
  · have hxs : vs = [] := by
      rcases vs with _ | ⟨x, xs⟩
      · rfl
      · obtain ⟨b, off, he, _⟩ := hr (by simp)
        cases he
    subst hxs
    simp at hx
    subst hx
    have hcap := hnil rfl
    subst hcap
    clear hnil
    have heq : ∀ w' : World, (binOp .eql 73 (.slice none 0 0) (.slice none 0 0)).run Tryz.prog w' = .ok (.bool true) w' := fun w' => Lib.run_eql_slice_nil (P := Tryz.prog) w' 73 72 none 0 0 0 0 Tryz.underlying73
    go_enter Tryz.func60, Tryz.ntmps60
    go_wp2_with fail
    go_ret
    exact ⟨Below.refl _ _, none, 0, rfl, fun h => absurd h (by simp), by simp, by simp [maxLen], fun _ => rfl, (fun a h => by cases h)⟩
  · have hown := World.ownsRow_made (base := w.heap.size) (e := 72) (size := 1) w #[] 0 (Nat.le_refl _) (by simp [maxLen]) rfl
    have hba : Below w.heap.size w (w.alloc (.cells #[] 72)) := (Below.refl _ w).alloc (Nat.le_refl _) _
    have hr2 : VRow (w.alloc (.cells #[] 72)) (w.alloc (.cells #[] 72)).heap.size (some ad) vs := (hr.below hba (Nat.le_refl _)).mono (by simp)
    have HX := Lib.hid hx
    have HR2 := Lib.hid hr2
    have HBA := Lib.hid hba
    have H1 := Lib.hid h1
    clear hx hnil hr2 hba hr h1
    have heq : ∀ w' : World, (binOp .eql 73 (.slice (some ad) len cap) (.slice none 0 0)).run Tryz.prog w' = .ok (.bool false) w' := fun w' => Lib.run_eql_slice_nil (P := Tryz.prog) w' 73 72 (some ad) len cap 0 0 Tryz.underlying73
    go_enter Tryz.func60, Tryz.ntmps60
    go_wp2_with (at_builtin; refine wpList_append_vals Tryz.underlying73 hi hz0 hz1 hz2 rfl (by decide) rfl _ _ rfl w.heap.size _ 0 [] rfl hown (some ad) len cap vs rfl HR2.out HX.out (fun h => by cases h) H1.out (by omega) (by simp) ?_)
    intro v' w2 hown' hgrow hbel
    obtain ⟨q, cap2, hv', hq0, hgc, hgm, hrow2, hqb⟩ := vrow_own hown' HX.out
    rw [hv']
    have HB12 := Lib.hid (HBA.out.trans hbel)
    have HROW := Lib.hid hrow2
    have HGC := Lib.hid hgc
    have HGM := Lib.hid hgm
    have HQB := Lib.hid hqb
    have HQ0 := Lib.hid hq0
    clear hown hown' hgrow hbel hv' hrow2 hgc hgm hqb hq0
    go_wp2_with fail
    go_ret
    refine ⟨HB12.out, q, cap2, by rw [HX.out]; simp, HROW.out, by have := HGC.out; rw [HX.out]; omega, HGM.out, HQ0.out, HQB.out⟩
set_option maxHeartbeats 2000000 in
theorem mnewI_any (p q : Option Addr) (len cap cap2 : Nat) (ws : List (List UInt8)) (ms : List Value) (w : World) (hr : VRow w w.heap.size p (strs ws)) (hx : ws.length = len) (hnil : p = none → cap = 0)
    (hr2 : VRow w w.heap.size q ms) (hx2 : ms.length = len) (hnil2 : q = none → cap2 = 0) (hl : len ≤ 100000) (h1 : ∀ u ∈ ms, u.oneCell' = true) (hw : ∀ s ∈ ws, s.length ≤ 1000000) :
    Calls Tryz.prog 36 #[.slice p len cap, .slice q len cap2] w (NewP w ws ms) := by
  have HC1 := Lib.hid (cloneS_any p len cap (strs ws) w hr (by rw [strs_length]; exact hx) hnil hl (by exact strs_one))
  have HX := Lib.hid hx
  have HX2 := Lib.hid hx2
  have HR := Lib.hid hr
  have HR2 := Lib.hid hr2
  have HN2 := Lib.hid hnil2
  have H1 := Lib.hid h1
  have HW := Lib.hid hw
  clear hr hx hnil hr2 hx2 hnil2 h1 hw
  go_enter Tryz.func36, Tryz.ntmps36
  go_wp2_with fail
  refine HC1.out.mono ?_
  rintro e w1 ⟨hb1, q1, c1, rfl, hv1, hc1, hm1, hq1, hg1⟩
  rw [strs_length, HX.out] at hc1 ⊢
  have HV1 := Lib.hid hv1
  have HB1 := Lib.hid hb1
  have HC1' := Lib.hid hc1
  have HG1 := Lib.hid hg1
  have HZ01 := Lib.hid hb1.size
  clear hv1 hc1 hm1 hq1 hg1
  have HC2 := Lib.hid (mcloneI_any q len cap2 ms w1 ((HR2.out.below hb1 (Nat.le_refl _)).mono hb1.size) HX2.out HN2.out hl H1.out)
  clear hb1
  go_wp2_with fail
  refine HC2.out.mono ?_
  rintro e w2 ⟨hb2, q2, c2, rfl, hv2, hc2, hm2, hq2, hg2⟩
  rw [HX2.out] at hc2 ⊢
  have HV2 := Lib.hid hv2
  have HC2' := Lib.hid hc2
  have hT := tr_new w2 (.slice q1 len c1) (.slice q2 len c2) 114
  have hb3 : Below w.heap.size w (w2.alloc (.cells (bookC (.slice q1 len c1) (.slice q2 len c2)) 114)) := (HB1.out.trans (hb2.mono HB1.out.size)).alloc (Nat.le_trans HB1.out.size hb2.size) _
  have hvw : VRow (w2.alloc (.cells (bookC (.slice q1 len c1) (.slice q2 len c2)) 114)) w2.heap.size q1 (strs ws) := ((HV1.out.below hb2 (Nat.le_refl _)).mono hb2.size).below ((Below.refl _ w2).alloc (Nat.le_refl _) _) (Nat.le_refl _)
  have hvm : VRow (w2.alloc (.cells (bookC (.slice q1 len c1) (.slice q2 len c2)) 114)) w2.heap.size q2 ms := HV2.out.below ((Below.refl _ w2).alloc (Nat.le_refl _) _) (Nat.le_refl _)
  unfold bookC at hT hb3 hvw hvm
  have HG := Lib.hid (Nat.le_trans HB1.out.size hb2.size)
  have HG2 := Lib.hid (show ∀ a, q2 = some a → w.heap.size ≤ a.block from fun a h => Nat.le_trans HZ01.out (hg2 a h))
  have HT := Lib.hid hT
  have HB3 := Lib.hid hb3
  have HVW := Lib.hid hvw
  have HVM := Lib.hid hvm
  clear hT hb3 hvw hvm hv2 hc2 hm2 hq2 hg2 hb2 HV1 HV2 HB1 HC1 HC2
  go_wp2_with fail
  obtain ⟨w3, hw3⟩ : ∃ w3, w3 = w2.alloc (.cells #[.slice q1 len c1, .slice q2 len c2, .pointer none, .pointer none, .bool false, .int .i64 0] 114) := ⟨_, rfl⟩
  have hz3 : w3.heap.size = w2.heap.size + 1 := by rw [hw3]; simp
  rw [← hw3] at HT HB3 HVW HVM ⊢
  rw [← hz3] at HT
  generalize hge : w2.heap.size = g at *
  have hgl : g < w3.heap.size := by omega
  clear hw3 hz3
  go_loopw [7, 8, 9, 23] (fun u s e i wr => ∃ (k : Nat) (A : List Bool → Option (Nat × Nat)) (E : List Bool → Option Nat), k ≤ len ∧ i = .int .i64 (k : Int) ∧ Hid (Tr wr wr.heap.size g (.slice q1 len c1) (.slice q2 len c2) A E) ∧ Hid (St ws k A E) ∧ Hid (Below g w3 wr)) (fun _ _ _ i _ => len - (intOf i).toNat)
  case atStart => exact ⟨0, _, _, by omega, rfl, HT, Lib.hid (St.zero ws g), Lib.hid (Below.refl _ _)⟩
  case round =>
    obtain ⟨k, A, E, hk, rfl, HTr, HSt, HB⟩ := hrel
    by_cases hlt : k < len
    · have hkz : k < ws.length := by rw [HX.out]; exact hlt
      obtain ⟨b, off, hp, hbl⟩ := HR.out.addr (by rw [strs_length]; omega)
      subst hp
      have hgw := HG.out
      have hc := (HB.out.cell (p := ⟨b, off + k, none⟩) (by show b < g; omega)).trans ((HB3.out.cell (p := ⟨b, off + k, none⟩) hbl).trans (HR.out.str k hkz))
      have hget : ws[k]? = some ws[k] := List.getElem?_eq_getElem hkz
      have hsl := HW.out ws[k] (List.getElem_mem hkz)
      have hem := bs_empty ws[k]
      generalize ws[k] = s at hc hget hsl hem
      have HGET := Lib.hid hget
      have hd : decide ((k : Int) < (len : Int)) = true := by simp; omega
      have i1 : (0 : Int) ≤ (k : Int) := by omega
      have i2 : (k : Int) < (len : Int) := by omega
      clear hget hgw
      by_cases hs : s = []
      · subst hs
        have HS2 := Lib.hid (HSt.out.skip HGET.out)
        have hem : (bs []).toList.isEmpty = true := hem
        generalize bs [] = sb at hc hem
        go_wp2_with fail
        go_roundw
        case rel => exact ⟨k + 1, A, E, by omega, by go_num, HTr, HS2, HB⟩
        case measure => simp [intOf]; omega
      · have hem : (bs s).toList.isEmpty = false := by
          rw [hem]
          cases s
          · exact absurd rfl hs
          · rfl
        have HADD := Lib.hid (add_node wr g (.slice q1 len c1) (.slice q2 len c2) A E s k HTr.out hsl trivial)
        have HS := Lib.hid hs
        clear hs
        generalize hsb : bs s = sb at hc hem HADD
        clear hsb
        go_wp2_with fail
        refine HADD.out.mono ?_
        rintro e w4 ⟨hb4, hres⟩
        have HB4 := Lib.hid (HB.out.trans hb4)
        clear hb4
        rcases hres with ⟨m, hm, rfl, hq1, hq2, A', hT', hdom⟩ | ⟨c, hc0, rfl, hbad⟩
        · have HT' := Lib.hid hT'
          have HS' := Lib.hid (HSt.out.add (by rw [← hm]; exact HGET.out) (by intro e; exact HS.out (by rw [hm, e]; rfl)) hq1 hq2 hdom)
          clear hm hq1 hq2 hT' hdom
          go_wp2_with fail
          go_roundw
          case rel => exact ⟨k + 1, A', _, by omega, by go_num, HT', HS', HB4⟩
          case measure => simp [intOf]; omega
        · have HBAD := Lib.hid (HSt.out.bad HGET.out HS.out hbad)
          have hcb : (c != 0) = true := by simpa using hc0
          have HC0 := Lib.hid hc0
          clear hbad hc0
          go_wp2_with fail
          go_ret2
          exact ⟨HB3.out.trans (HB4.out.mono HG.out), .inl ⟨c, HC0.out, rfl, HBAD.out⟩⟩
    · have hke : k = len := by omega
      subst hke
      have hd : decide ((k : Int) < (k : Int)) = false := by simp
      have hzr := HB.out.size
      have hBk : BkK wr w.heap.size g ws ms := ⟨q1, c1, q2, c2, A, E, by rw [HX.out]; exact HSt.out, by rw [HX.out]; exact HC1'.out, by rw [HX2.out]; exact HC2'.out, fun wq hkq => ⟨by rw [HX.out, HX2.out]; exact HTr.out.keep (fun k h1 h2 => hkq k (Nat.le_trans HG.out h1) h2), ((HVW.out.below HB.out (Nat.le_refl _)).mono (by omega)).keep HG1.out hkq, ((HVM.out.below HB.out (Nat.le_refl _)).mono (by omega)).keep HG2.out hkq⟩⟩
      have HBK := Lib.hid hBk
      clear hBk
      go_wp2_with fail
      go_ret2
      exact ⟨HB3.out.trans (HB.out.mono HG.out), .inr ⟨g, rfl, HG.out, by omega, HBK.out⟩⟩
theorem mblen_any (w : World) (C g : Nat) (ws : List (List UInt8)) (ms : List Value) (hB : Bk w C g ws ms) : Calls Tryz.prog 104 #[.pointer (some ⟨g, 0, none⟩)] w fun e w' => e = .returned (.int .i64 (ws.length : Int)) ∧ w = w' := by
  obtain ⟨pw, cw, pm, cm, A, E, hT, hS, hvw, hvm, hlw, hlm⟩ := hB
  have h0 := hT.h0
  clear hT hS hvw hvm hlw hlm
  go_enter Tryz.func104, Tryz.ntmps104
  go_wp2_with fail
  go_ret
  exact ⟨rfl, rfl⟩
theorem mbword_in (w : World) (C g : Nat) (ws : List (List UInt8)) (ms : List Value) (i : Nat) (s : List UInt8) (hB : Bk w C g ws ms) (hi : ws[i]? = some s) :
    Calls Tryz.prog 91 #[.pointer (some ⟨g, 0, none⟩), .int .i64 (i : Int)] w (WordN w s 0) := by
  have HL := Lib.hid (mblen_any w C g ws ms hB)
  obtain ⟨pw, cw, pm, cm, A, E, hT, hS, hvw, hvm, hlw, hlm⟩ := hB
  have h0 := hT.h0
  have hs : (strs ws)[i]? = some (.string (bs s)) := by simp [strs, hi]
  obtain ⟨b, off, rfl, hb, hc⟩ := vrow_get hvw hs
  have hil : i < ws.length := (List.getElem?_eq_some_iff.1 hi).1
  have hd0 : decide ((i : Int) < 0) = false := by simp
  have hd1 : decide ((ws.length : Int) ≤ (i : Int)) = false := by simp; omega
  have j0 : (0 : Int) ≤ (i : Int) := by omega
  have j1 : (i : Int) < (ws.length : Int) := by omega
  generalize ws.length = n at *
  generalize hsb : bs s = sb at hc
  have HSB := Lib.hid hsb
  clear hT hS hvw hvm hlw hlm hs hi hil hsb
  go_enter Tryz.func91, Tryz.ntmps91
  go_wp2_with fail
  refine HL.out.mono ?_
  rintro e w' ⟨rfl, rfl⟩
  go_wp2_with fail
  go_ret2
  exact ⟨by rw [HSB.out]; rfl, rfl⟩
theorem mbwrite_in (w : World) (C g : Nat) (ws : List (List UInt8)) (ms : List Value) (gw : Nat) (v : Value) (l m : List Bool) (low : Bool) (i : Nat) (hB : Bk w C g ws ms) (hi : ws[i]? = some (m.map dig)) (hm : m ≠ []) (hW : Ws w gw v l low) (hl : l.length + m.length ≤ 2000000) :
    Calls Tryz.prog 67 #[.pointer (some ⟨g, 0, none⟩), .pointer (some ⟨gw, 0, none⟩), .int .i64 (i : Int)] w (WriteP w gw v l m low) := by
  have HW := Lib.hid (show Calls Tryz.prog 91 #[.pointer (some ⟨g, 0, none⟩), .int .i64 (i : Int)] w (fun e w' => e = .returned (.tuple #[.string (ds m), .int .i64 0]) ∧ w = w') from mbword_in w C g ws ms i _ hB hi)
  have HWW := Lib.hid (word_any w gw v l m low hl hW)
  have hem := ds_nonempty m hm
  generalize ds m = sb at HW HWW hem
  clear hB hi hm hW hl
  go_enter Tryz.func67, Tryz.ntmps67
  go_wp2_with fail
  refine HW.out.mono ?_
  rintro e w' ⟨rfl, rfl⟩
  go_wp2_with fail
  refine HWW.out.mono ?_
  rintro e w' ⟨rfl, hT⟩
  have HT := Lib.hid hT
  clear hT
  go_wp2_with fail
  go_ret
  exact ⟨rfl, HT.out⟩
theorem mbwrite_none (w : World) (C g : Nat) (ws : List (List UInt8)) (ms : List Value) (m : List Bool) (i : Nat) (hB : Bk w C g ws ms) (hi : ws[i]? = some (m.map dig)) (hm : m ≠ []) (hl : m.length ≤ 2000000) :
    Calls Tryz.prog 67 #[.pointer (some ⟨g, 0, none⟩), .pointer none, .int .i64 (i : Int)] w fun e w' => e = .returned (.int .i64 1) ∧ w = w' := by
  have HW := Lib.hid (show Calls Tryz.prog 91 #[.pointer (some ⟨g, 0, none⟩), .int .i64 (i : Int)] w (fun e w' => e = .returned (.tuple #[.string (ds m), .int .i64 0]) ∧ w = w') from mbword_in w C g ws ms i _ hB hi)
  have hwn := word_nil (m.map dig) w (by simpa using hl)
  rw [wordB_dig, if_pos rfl] at hwn
  have HWW := Lib.hid (show Calls Tryz.prog 25 #[.pointer none, .string (ds m)] w (fun e w' => e = .returned (.int .i64 1) ∧ w = w') from hwn)
  have hem := ds_nonempty m hm
  generalize ds m = sb at HW HWW hem
  clear hB hi hm hl hwn
  go_enter Tryz.func67, Tryz.ntmps67
  go_wp2_with fail
  refine HW.out.mono ?_
  rintro e w' ⟨rfl, rfl⟩
  go_wp2_with fail
  refine HWW.out.mono ?_
  rintro e w' ⟨rfl, rfl⟩
  go_wp2_with fail
  go_ret
  exact ⟨rfl, rfl⟩
end Go.Proofs.YtmbfgejephgojaaGreatDoor.Fx
/- A book's Read, the reader standing anywhere outside the blocks of the book: numbers and modes. -/
namespace Go.Proofs.YtmbfgejephgojaaGreatDoor.Fx
open Go.RowKit Go.Proofs.YtmbfgejephgojaaGreatDoor.Oct Go.Proofs.YtmbfgejephgojaaGreatDoor.Bit Go.Proofs.YtmbfgejephgojaaGreatDoor.Hf Go.Proofs.YtmbfgejephgojaaGreatDoor.Inf
set_option linter.unusedVariables false
set_option linter.unusedSimpArgs false
set_option maxRecDepth 100000

set_option maxHeartbeats 4000000 in
theorem readI_out (w : World) (B C g : Nat) (W : List (List Bool)) (ms : List Value) (gr : Nat) (p : Option Addr) (cap : Nat) (xs : List UInt8) (a : Nat) (low : Bool)
    (hB : BoU w B C g (wordsU W) ms) (hC : gr < B ∨ C ≤ gr) (hR : Rd w gr p cap xs a low) (hlen : ms.length = W.length) :
    Calls Tryz.prog 92 #[.pointer (some ⟨g, 0, none⟩), .pointer (some ⟨gr, 0, none⟩)] w (ReadP w gr p cap xs a low W ms (.int .i64 0)) := by
  obtain ⟨⟨hCz, hBg⟩, pw, cw, pm, cm, A, E, hS, hlw, hlm, hAll⟩ := hB
  obtain ⟨hT, hvw, hvm⟩ := hAll w (fun _ _ _ => rfl)
  have HALL : Hid (∀ wr, Only (· = gr) w wr → Tr wr C g (.slice pw (wordsU W).length cw) (.slice pm ms.length cm) A E ∧ VRow wr C pw (strs (wordsU W)) ∧ VRow wr C pm ms) := Lib.hid fun wr ho => hAll wr fun k h1 h2 => ho.2.2.2.2 k (by omega) (fun e => by omega)
  have hgw := hR.lt
  have HTw := Lib.hid hT
  have HS := Lib.hid hS
  have HR0 := Lib.hid hR
  have HVM := Lib.hid hvm
  have HL := Lib.hid hlen
  obtain ⟨l, hl⟩ : ∃ l, l = (bitsOf low xs).drop a := ⟨_, rfl⟩
  have HBL := Lib.hid hl
  have HK0 : Hid (KnownP W E l 0) := Lib.hid ⟨by omega, fun i hi => absurd rfl ((hS.e1 _ i hi).2.1), fun _ => rfl⟩
  clear hT hS hvw hvm hR hlen hl hAll
  go_enter Tryz.func92, Tryz.ntmps92
  go_wp2_with fail
  go_loopw [7, 8, 9] (fun q u s wr => ∃ (j b o : Nat), A (l.take j) = some (b, o) ∧ q = .pointer (some ⟨b, o, none⟩) ∧ Hid (KnownP W E l j) ∧ Hid (Rd wr gr p cap xs (a + j) low) ∧ Hid (Only (· = gr) w wr) ∧ Hid (wr.heap.size = w.heap.size)) (fun _ _ _ wr => a + l.length + 1 - rdAt gr wr)
  case atStart => exact ⟨0, g, 2, HTw.out.root, rfl, HK0, HR0, Lib.hid (Only.refl _ _), Lib.hid rfl⟩
  case round =>
    obtain ⟨j, b, o, hA, rfl, HK, HR, HO, HZ⟩ := hrel
    have HT := Lib.hid (HALL.out wr HO.out).1
    have HVMr := Lib.hid (HALL.out wr HO.out).2.2
    have hbC := (HT.out.lo _ b o hA).2
    have hgb := (HT.out.lo _ b o hA).1
    have hne := HT.out.ne _ b o hA
    cases hE : E (l.take j) with
    | some i =>
      have HEQ := Lib.hid (HK.out.2.1 i hE)
      have hil : i < ms.length := by
        have := (HS.out.e1 _ i hE).1
        rw [wordsU_length, ← HL.out] at this
        exact this
      obtain ⟨v, hv⟩ : ∃ v, ms[i]? = some v := ⟨_, List.getElem?_eq_getElem hil⟩
      obtain ⟨bm, om, hpm, hbm, hcm⟩ := vrow_get HVMr.out hv
      have HVV := Lib.hid hv
      subst hpm
      rw [hE] at hne
      have hne : wr.cell? ⟨b, o + 2, none⟩ = some (.bool true) := hne
      have hni := HT.out.ni _ b o hA
      rw [hE] at hni
      have hni : wr.cell? ⟨b, o + 3, none⟩ = some (.int .i64 (i : Int)) := hni
      have h1 := HT.out.h1
      have j0 : (0 : Int) ≤ (i : Int) := by omega
      have j1 : (i : Int) < (ms.length : Int) := by omega
      clear hE hv
      generalize ms.length = ml at h1 j1
      go_wp2_with fail
      go_quiet (fail)
      go_wp2_with fail
      go_ret2
      exact ⟨.inl ⟨i, j, v, HBL.out ▸ HEQ.out, HVV.out, rfl, HR.out.drawn ⟨_, rfl⟩⟩, HO.out.trans (Only.drawn _ ⟨_, rfl⟩), HZ.out⟩
    | none =>
      rw [hE] at hne
      have hne : wr.cell? ⟨b, o + 2, none⟩ = some (.bool false) := hne
      have HEN := Lib.hid hE
      have HRD := Lib.hid (read_any gr p cap xs (a + j) low wr 1 HR.out)
      have hdr : (bitsOf low xs).drop (a + j) = l.drop j := by rw [← List.drop_drop, ← HBL.out]
      rcases hd : l.drop j with _ | ⟨x, t⟩
      · obtain ⟨hv1, he1, ha1⟩ := bit_none (hdr.trans hd)
        have hjl : j ≤ l.length := HK.out.1
        have HEQ : Hid (lookP W [] l = (j, .error 2)) := Lib.hid (by rw [HK.out.2.2 hE, hd, lookP, List.length_take, Nat.min_eq_left hjl])
        have HAE := Lib.hid ha1
        have HV := Lib.hid hv1
        have HE := Lib.hid he1
        clear hE hdr hd hv1 he1 ha1
        go_wp2_with fail
        refine HRD.out.mono ?_
        rintro e w4 ⟨rfl, hr4, ho4, hz4⟩
        rw [HV.out, HE.out]
        have HR4 := Lib.hid hr4
        have HO4 := Lib.hid (HO.out.trans ho4)
        have HZ4 := Lib.hid (hz4.trans HZ.out)
        clear hr4 ho4 hz4
        go_wp2_with fail
        go_ret2
        exact ⟨.inr ⟨2, j, HBL.out ▸ HEQ.out, rfl, by have := HR4.out; rwa [HAE.out] at this⟩, HO4.out, HZ4.out⟩
      · obtain ⟨hv1, he1, ha1⟩ := bit_read (hdr.trans hd)
        have HV := Lib.hid hv1
        have HE := Lib.hid he1
        have HA1 := Lib.hid ha1
        rcases hk : A (l.take j ++ [x]) with _ | ⟨b2, o2⟩
        · have hjl : j ≤ l.length := HK.out.1
          have HEQ : Hid (lookP W [] l = (j + 1, .error 6)) := Lib.hid (by rw [HK.out.2.2 hE, hd, lookP_none HS.out hk, List.length_take, Nat.min_eq_left hjl])
          have HKN := Lib.hid hk
          clear hE hdr hd hv1 he1 ha1
          cases x
          · have hn : wr.cell? ⟨b, o, none⟩ = some (.pointer none) := by
              have := HT.out.n0 _ b o hA
              rw [hk] at this
              exact this
            clear hk
            go_wp2_with fail
            refine HRD.out.mono ?_
            rintro e w4 ⟨rfl, hr4, ho4, hz4⟩
            rw [HV.out, HE.out]
            have HR4 := Lib.hid hr4
            have HO4 := Lib.hid (HO.out.trans ho4)
            have HZ4 := Lib.hid (hz4.trans HZ.out)
            have hn4 : w4.cell? ⟨b, o, none⟩ = some (.pointer none) := by
              rw [← hn]
              exact World.cell?_of_block (ho4.2.2.2.2 b (by have := HZ.out; omega) (by omega))
            clear hr4 ho4 hz4 hn
            go_wp2_with fail
            go_ret2
            exact ⟨.inr ⟨6, j + 1, HBL.out ▸ HEQ.out, rfl, by have := HR4.out; rwa [HA1.out, Nat.add_assoc] at this⟩, HO4.out, HZ4.out⟩
          · have hn : wr.cell? ⟨b, o + 1, none⟩ = some (.pointer none) := by
              have := HT.out.n1 _ b o hA
              rw [hk] at this
              exact this
            clear hk
            go_wp2_with fail
            refine HRD.out.mono ?_
            rintro e w4 ⟨rfl, hr4, ho4, hz4⟩
            rw [HV.out, HE.out]
            have HR4 := Lib.hid hr4
            have HO4 := Lib.hid (HO.out.trans ho4)
            have HZ4 := Lib.hid (hz4.trans HZ.out)
            have hn4 : w4.cell? ⟨b, o + 1, none⟩ = some (.pointer none) := by
              rw [← hn]
              exact World.cell?_of_block (ho4.2.2.2.2 b (by have := HZ.out; omega) (by omega))
            clear hr4 ho4 hz4 hn
            go_wp2_with fail
            go_ret2
            exact ⟨.inr ⟨6, j + 1, HBL.out ▸ HEQ.out, rfl, by have := HR4.out; rwa [HA1.out, Nat.add_assoc] at this⟩, HO4.out, HZ4.out⟩
        · obtain ⟨htk, hkn⟩ := HK.out.on HS.out hE hd (by rw [hk]; simp)
          have HK2 : Hid (A (l.take (j + 1)) = some (b2, o2)) := Lib.hid (by rw [htk]; exact hk)
          have HKN := Lib.hid hkn
          clear hE hdr hd hv1 he1 ha1 htk hkn
          cases x
          · have hn : wr.cell? ⟨b, o, none⟩ = some (.pointer (some ⟨b2, o2, none⟩)) := by
              have := HT.out.n0 _ b o hA
              rw [hk] at this
              exact this
            clear hk
            go_wp2_with fail
            refine HRD.out.mono ?_
            rintro e w4 ⟨rfl, hr4, ho4, hz4⟩
            rw [HV.out, HE.out]
            have HR4 := Lib.hid hr4
            have HO4 := Lib.hid (HO.out.trans ho4)
            have HZ4 := Lib.hid (hz4.trans HZ.out)
            have hn4 : w4.cell? ⟨b, o, none⟩ = some (.pointer (some ⟨b2, o2, none⟩)) := by
              rw [← hn]
              exact World.cell?_of_block (ho4.2.2.2.2 b (by have := HZ.out; omega) (by omega))
            clear hr4 ho4 hz4 hn
            go_wp2_with fail
            go_roundw
            case rel => exact ⟨j + 1, b2, o2, HK2.out, rfl, HKN, Lib.hid (by have := HR4.out; rwa [HA1.out, Nat.add_assoc] at this), HO4, HZ4⟩
            case measure => rw [rdAt_of HR.out, rdAt_of HR4.out, HA1.out]; have := HK.out.1; omega
          · have hn : wr.cell? ⟨b, o + 1, none⟩ = some (.pointer (some ⟨b2, o2, none⟩)) := by
              have := HT.out.n1 _ b o hA
              rw [hk] at this
              exact this
            clear hk
            go_wp2_with fail
            refine HRD.out.mono ?_
            rintro e w4 ⟨rfl, hr4, ho4, hz4⟩
            rw [HV.out, HE.out]
            have HR4 := Lib.hid hr4
            have HO4 := Lib.hid (HO.out.trans ho4)
            have HZ4 := Lib.hid (hz4.trans HZ.out)
            have hn4 : w4.cell? ⟨b, o + 1, none⟩ = some (.pointer (some ⟨b2, o2, none⟩)) := by
              rw [← hn]
              exact World.cell?_of_block (ho4.2.2.2.2 b (by have := HZ.out; omega) (by omega))
            clear hr4 ho4 hz4 hn
            go_wp2_with fail
            go_roundw
            case rel => exact ⟨j + 1, b2, o2, HK2.out, rfl, HKN, Lib.hid (by have := HR4.out; rwa [HA1.out, Nat.add_assoc] at this), HO4, HZ4⟩
            case measure => rw [rdAt_of HR.out, rdAt_of HR4.out, HA1.out]; have := HK.out.1; omega
set_option maxHeartbeats 4000000 in
theorem mreadI_out (w : World) (B C g : Nat) (W : List (List Bool)) (ms : List Value) (gr : Nat) (p : Option Addr) (cap : Nat) (xs : List UInt8) (a : Nat) (low : Bool)
    (hB : BoU w B C g (wordsU W) ms) (hC : gr < B ∨ C ≤ gr) (hR : Rd w gr p cap xs a low) (hlen : ms.length = W.length) :
    Calls Tryz.prog 105 #[.pointer (some ⟨g, 0, none⟩), .pointer (some ⟨gr, 0, none⟩)] w (ReadP w gr p cap xs a low W ms (.int .i64 0)) := by
  obtain ⟨⟨hCz, hBg⟩, pw, cw, pm, cm, A, E, hS, hlw, hlm, hAll⟩ := hB
  obtain ⟨hT, hvw, hvm⟩ := hAll w (fun _ _ _ => rfl)
  have HALL : Hid (∀ wr, Only (· = gr) w wr → Tr wr C g (.slice pw (wordsU W).length cw) (.slice pm ms.length cm) A E ∧ VRow wr C pw (strs (wordsU W)) ∧ VRow wr C pm ms) := Lib.hid fun wr ho => hAll wr fun k h1 h2 => ho.2.2.2.2 k (by omega) (fun e => by omega)
  have hgw := hR.lt
  have HTw := Lib.hid hT
  have HS := Lib.hid hS
  have HR0 := Lib.hid hR
  have HVM := Lib.hid hvm
  have HL := Lib.hid hlen
  obtain ⟨l, hl⟩ : ∃ l, l = (bitsOf low xs).drop a := ⟨_, rfl⟩
  have HBL := Lib.hid hl
  have HK0 : Hid (KnownP W E l 0) := Lib.hid ⟨by omega, fun i hi => absurd rfl ((hS.e1 _ i hi).2.1), fun _ => rfl⟩
  clear hT hS hvw hvm hR hlen hl hAll
  go_enter Tryz.func105, Tryz.ntmps105
  go_wp2_with fail
  go_loopw [7, 8, 9] (fun q u s wr => ∃ (j b o : Nat), A (l.take j) = some (b, o) ∧ q = .pointer (some ⟨b, o, none⟩) ∧ Hid (KnownP W E l j) ∧ Hid (Rd wr gr p cap xs (a + j) low) ∧ Hid (Only (· = gr) w wr) ∧ Hid (wr.heap.size = w.heap.size)) (fun _ _ _ wr => a + l.length + 1 - rdAt gr wr)
  case atStart => exact ⟨0, g, 2, HTw.out.root, rfl, HK0, HR0, Lib.hid (Only.refl _ _), Lib.hid rfl⟩
  case round =>
    obtain ⟨j, b, o, hA, rfl, HK, HR, HO, HZ⟩ := hrel
    have HT := Lib.hid (HALL.out wr HO.out).1
    have HVMr := Lib.hid (HALL.out wr HO.out).2.2
    have hbC := (HT.out.lo _ b o hA).2
    have hgb := (HT.out.lo _ b o hA).1
    have hne := HT.out.ne _ b o hA
    cases hE : E (l.take j) with
    | some i =>
      have HEQ := Lib.hid (HK.out.2.1 i hE)
      have hil : i < ms.length := by
        have := (HS.out.e1 _ i hE).1
        rw [wordsU_length, ← HL.out] at this
        exact this
      obtain ⟨v, hv⟩ : ∃ v, ms[i]? = some v := ⟨_, List.getElem?_eq_getElem hil⟩
      obtain ⟨bm, om, hpm, hbm, hcm⟩ := vrow_get HVMr.out hv
      have HVV := Lib.hid hv
      subst hpm
      rw [hE] at hne
      have hne : wr.cell? ⟨b, o + 2, none⟩ = some (.bool true) := hne
      have hni := HT.out.ni _ b o hA
      rw [hE] at hni
      have hni : wr.cell? ⟨b, o + 3, none⟩ = some (.int .i64 (i : Int)) := hni
      have h1 := HT.out.h1
      have j0 : (0 : Int) ≤ (i : Int) := by omega
      have j1 : (i : Int) < (ms.length : Int) := by omega
      clear hE hv
      generalize ms.length = ml at h1 j1
      go_wp2_with fail
      go_quiet (fail)
      go_wp2_with fail
      go_ret2
      exact ⟨.inl ⟨i, j, v, HBL.out ▸ HEQ.out, HVV.out, rfl, HR.out.drawn ⟨_, rfl⟩⟩, HO.out.trans (Only.drawn _ ⟨_, rfl⟩), HZ.out⟩
    | none =>
      rw [hE] at hne
      have hne : wr.cell? ⟨b, o + 2, none⟩ = some (.bool false) := hne
      have HEN := Lib.hid hE
      have HRD := Lib.hid (read_any gr p cap xs (a + j) low wr 1 HR.out)
      have hdr : (bitsOf low xs).drop (a + j) = l.drop j := by rw [← List.drop_drop, ← HBL.out]
      rcases hd : l.drop j with _ | ⟨x, t⟩
      · obtain ⟨hv1, he1, ha1⟩ := bit_none (hdr.trans hd)
        have hjl : j ≤ l.length := HK.out.1
        have HEQ : Hid (lookP W [] l = (j, .error 2)) := Lib.hid (by rw [HK.out.2.2 hE, hd, lookP, List.length_take, Nat.min_eq_left hjl])
        have HAE := Lib.hid ha1
        have HV := Lib.hid hv1
        have HE := Lib.hid he1
        clear hE hdr hd hv1 he1 ha1
        go_wp2_with fail
        refine HRD.out.mono ?_
        rintro e w4 ⟨rfl, hr4, ho4, hz4⟩
        rw [HV.out, HE.out]
        have HR4 := Lib.hid hr4
        have HO4 := Lib.hid (HO.out.trans ho4)
        have HZ4 := Lib.hid (hz4.trans HZ.out)
        clear hr4 ho4 hz4
        go_wp2_with fail
        go_ret2
        exact ⟨.inr ⟨2, j, HBL.out ▸ HEQ.out, rfl, by have := HR4.out; rwa [HAE.out] at this⟩, HO4.out, HZ4.out⟩
      · obtain ⟨hv1, he1, ha1⟩ := bit_read (hdr.trans hd)
        have HV := Lib.hid hv1
        have HE := Lib.hid he1
        have HA1 := Lib.hid ha1
        rcases hk : A (l.take j ++ [x]) with _ | ⟨b2, o2⟩
        · have hjl : j ≤ l.length := HK.out.1
          have HEQ : Hid (lookP W [] l = (j + 1, .error 6)) := Lib.hid (by rw [HK.out.2.2 hE, hd, lookP_none HS.out hk, List.length_take, Nat.min_eq_left hjl])
          have HKN := Lib.hid hk
          clear hE hdr hd hv1 he1 ha1
          cases x
          · have hn : wr.cell? ⟨b, o, none⟩ = some (.pointer none) := by
              have := HT.out.n0 _ b o hA
              rw [hk] at this
              exact this
            clear hk
            go_wp2_with fail
            refine HRD.out.mono ?_
            rintro e w4 ⟨rfl, hr4, ho4, hz4⟩
            rw [HV.out, HE.out]
            have HR4 := Lib.hid hr4
            have HO4 := Lib.hid (HO.out.trans ho4)
            have HZ4 := Lib.hid (hz4.trans HZ.out)
            have hn4 : w4.cell? ⟨b, o, none⟩ = some (.pointer none) := by
              rw [← hn]
              exact World.cell?_of_block (ho4.2.2.2.2 b (by have := HZ.out; omega) (by omega))
            clear hr4 ho4 hz4 hn
            go_wp2_with fail
            go_ret2
            exact ⟨.inr ⟨6, j + 1, HBL.out ▸ HEQ.out, rfl, by have := HR4.out; rwa [HA1.out, Nat.add_assoc] at this⟩, HO4.out, HZ4.out⟩
          · have hn : wr.cell? ⟨b, o + 1, none⟩ = some (.pointer none) := by
              have := HT.out.n1 _ b o hA
              rw [hk] at this
              exact this
            clear hk
            go_wp2_with fail
            refine HRD.out.mono ?_
            rintro e w4 ⟨rfl, hr4, ho4, hz4⟩
            rw [HV.out, HE.out]
            have HR4 := Lib.hid hr4
            have HO4 := Lib.hid (HO.out.trans ho4)
            have HZ4 := Lib.hid (hz4.trans HZ.out)
            have hn4 : w4.cell? ⟨b, o + 1, none⟩ = some (.pointer none) := by
              rw [← hn]
              exact World.cell?_of_block (ho4.2.2.2.2 b (by have := HZ.out; omega) (by omega))
            clear hr4 ho4 hz4 hn
            go_wp2_with fail
            go_ret2
            exact ⟨.inr ⟨6, j + 1, HBL.out ▸ HEQ.out, rfl, by have := HR4.out; rwa [HA1.out, Nat.add_assoc] at this⟩, HO4.out, HZ4.out⟩
        · obtain ⟨htk, hkn⟩ := HK.out.on HS.out hE hd (by rw [hk]; simp)
          have HK2 : Hid (A (l.take (j + 1)) = some (b2, o2)) := Lib.hid (by rw [htk]; exact hk)
          have HKN := Lib.hid hkn
          clear hE hdr hd hv1 he1 ha1 htk hkn
          cases x
          · have hn : wr.cell? ⟨b, o, none⟩ = some (.pointer (some ⟨b2, o2, none⟩)) := by
              have := HT.out.n0 _ b o hA
              rw [hk] at this
              exact this
            clear hk
            go_wp2_with fail
            refine HRD.out.mono ?_
            rintro e w4 ⟨rfl, hr4, ho4, hz4⟩
            rw [HV.out, HE.out]
            have HR4 := Lib.hid hr4
            have HO4 := Lib.hid (HO.out.trans ho4)
            have HZ4 := Lib.hid (hz4.trans HZ.out)
            have hn4 : w4.cell? ⟨b, o, none⟩ = some (.pointer (some ⟨b2, o2, none⟩)) := by
              rw [← hn]
              exact World.cell?_of_block (ho4.2.2.2.2 b (by have := HZ.out; omega) (by omega))
            clear hr4 ho4 hz4 hn
            go_wp2_with fail
            go_roundw
            case rel => exact ⟨j + 1, b2, o2, HK2.out, rfl, HKN, Lib.hid (by have := HR4.out; rwa [HA1.out, Nat.add_assoc] at this), HO4, HZ4⟩
            case measure => rw [rdAt_of HR.out, rdAt_of HR4.out, HA1.out]; have := HK.out.1; omega
          · have hn : wr.cell? ⟨b, o + 1, none⟩ = some (.pointer (some ⟨b2, o2, none⟩)) := by
              have := HT.out.n1 _ b o hA
              rw [hk] at this
              exact this
            clear hk
            go_wp2_with fail
            refine HRD.out.mono ?_
            rintro e w4 ⟨rfl, hr4, ho4, hz4⟩
            rw [HV.out, HE.out]
            have HR4 := Lib.hid hr4
            have HO4 := Lib.hid (HO.out.trans ho4)
            have HZ4 := Lib.hid (hz4.trans HZ.out)
            have hn4 : w4.cell? ⟨b, o + 1, none⟩ = some (.pointer (some ⟨b2, o2, none⟩)) := by
              rw [← hn]
              exact World.cell?_of_block (ho4.2.2.2.2 b (by have := HZ.out; omega) (by omega))
            clear hr4 ho4 hz4 hn
            go_wp2_with fail
            go_roundw
            case rel => exact ⟨j + 1, b2, o2, HK2.out, rfl, HKN, Lib.hid (by have := HR4.out; rwa [HA1.out, Nat.add_assoc] at this), HO4, HZ4⟩
            case measure => rw [rdAt_of HR.out, rdAt_of HR4.out, HA1.out]; have := HK.out.1; omega
end Go.Proofs.YtmbfgejephgojaaGreatDoor.Fx
/- The contracts of Words and Modes: the words of the tables, and what they mean. -/
namespace Go.Proofs.YtmbfgejephgojaaGreatDoor.Fx
open Go.RowKit Go.Proofs.YtmbfgejephgojaaGreatDoor.Oct Go.Proofs.YtmbfgejephgojaaGreatDoor.Bit Go.Proofs.YtmbfgejephgojaaGreatDoor.Hf Go.Proofs.YtmbfgejephgojaaGreatDoor.Inf
set_option linter.unusedVariables false
set_option linter.unusedSimpArgs false
set_option maxRecDepth 100000

theorem vals_new (w : World) (vs : List Value) (T : TypeId) (fr : Nat × Nat) : VRow (w.alloc (.cells vs.toArray T fr)) (w.alloc (.cells vs.toArray T fr)).heap.size (some ⟨w.heap.size, 0, none⟩) vs :=
  vrow_blk (T := T) (fr := fr) (by
    show (w.heap.push _)[w.heap.size]? = _
    simp) (by simp)
/-- a new row of these values -/
def NewV (w : World) (vs : List Value) (q : Option Addr) (c : Nat) (w' : World) : Prop := VRow w' w'.heap.size q vs ∧ (q = none → c = 0) ∧ vs.length ≤ c ∧ c ≤ maxLen ∧ ∀ a, q = some a → w.heap.size ≤ a.block
def RowN (w : World) (vs : List Value) (e : Ending) (w' : World) : Prop := Below w.heap.size w w' ∧ ∃ q c, e = .returned (.slice q vs.length c) ∧ NewV w vs q c w'
theorem NewV.below {w w1 w2 : World} {vs : List Value} {q : Option Addr} {c : Nat} (h : NewV w vs q c w1) (hb : Below w1.heap.size w1 w2) : NewV w vs q c w2 := ⟨(h.1.below hb (Nat.le_refl _)).mono hb.size, h.2⟩
theorem NewV.from {w w0 w1 : World} {vs : List Value} {q : Option Addr} {c : Nat} (h : NewV w vs q c w1) (hb : w0.heap.size ≤ w.heap.size) : NewV w0 vs q c w1 := ⟨h.1, h.2.1, h.2.2.1, h.2.2.2.1, fun a ha => Nat.le_trans hb (h.2.2.2.2 a ha)⟩

theorem cntF_le : ∀ (b : Bool) (l : List UInt8), Lib.cntF b l ≤ l.length + 1
  | b, [] => by rw [show Lib.cntF b [] = 0 from rfl]; omega
  | b, x :: l => by
    rw [Lib.cntF_step, List.length_cons]
    have := cntF_le (Lib.isSp x) l
    split <;> omega
/-- a text that is split is these words -/
theorem fields_is (W : List (List Bool)) (s : ByteArray) (w : World) (hk : (Lib.fields s.data.toList).map (fun l => Value.string ⟨l.toArray⟩) = strs (wordsU W)) (hs : decide (s.size < 4294967281) = true) (ha : s.data.toList.all (fun b => decide (b.toNat < 128)) = true) (hT : Tab w) :
    Calls Tryz.prog 58 #[.string s] w (RowN w (strs (wordsU W))) := by
  refine (fields_any s w (of_decide_eq_true hs) ha hT).mono ?_
  rintro e w' ⟨rfl, rfl⟩
  have hl := congrArg List.length hk
  rw [List.length_map, strs_length] at hl
  rw [hk, hl]
  refine ⟨(Below.refl _ w).alloc (Nat.le_refl _) _, some ⟨w.heap.size, 0, none⟩, (wordsU W).length, by rw [strs_length], ⟨vals_new _ _ _ _, (fun h => by cases h), by rw [strs_length]; exact Nat.le_refl _, ?_, fun a h => by injection h with h; subst h; exact Nat.le_refl _⟩⟩
  have h2 := of_decide_eq_true hs
  have h3 : (wordsU W).length ≤ s.data.toList.length + 1 := by
    rw [← hl, Lib.fields_length]
    exact cntF_le _ _
  have h4 : s.data.toList.length = s.size := (Lib.size_eq s).symm
  unfold maxLen
  omega

/-- the lengths that words tell, of the first so many -/
def lensF (n : Nat) : List Int := (List.range n).map fun i => ((lenF i : Nat) : Int)
theorem lensF_length (n : Nat) : (lensF n).length = n := by simp [lensF]
theorem lensF_succ (n : Nat) : lensF (n + 1) = lensF n ++ [((lenF n : Nat) : Int)] := by simp [lensF, List.range_succ]
theorem lensF_get {n i : Nat} (h : i < n) : (ints (lensF n))[i]? = some (.int .i64 ((lenF i : Nat) : Int)) := by simp [ints, lensF, h]
/-- the modes, of the first so many -/
def modesN (n : Nat) : List Int := (List.range n).map fun i : Nat => (i : Int) - 3
theorem modesN_length (n : Nat) : (modesN n).length = n := by simp [modesN]
theorem modesN_succ (n : Nat) : modesN (n + 1) = modesN n ++ [(n : Int) - 3] := by simp [modesN, List.range_succ]
theorem modesN_get {n i : Nat} (h : i < n) : (ints (modesN n))[i]? = some (.int .i64 ((i : Int) - 3)) := by simp [ints, modesN, h]

set_option maxHeartbeats 1000000 in
theorem lengths_any (w : World) : Calls Tryz.prog 59 #[] w (RowN w (ints (lensF 104))) := by
  obtain ⟨i0, hi, hz0, hz1, hz2⟩ := info_parts Tryz.infoInt
  go_enter Tryz.func59, Tryz.ntmps59
  go_wp2_with fail
  go_loopw [1, 2, 4] (fun u v i wr => ∃ k : Nat, k ≤ 64 ∧ i = .int .i64 (k : Int) ∧ Hid (wr.ownsRow w.heap.size 3 1 u k (ints (lensF k))) ∧ Hid (Below w.heap.size w wr)) (fun _ _ i _ => 64 - (intOf i).toNat)
  case atStart => exact ⟨0, by omega, rfl, Lib.hid (by simpa [lensF, ints] using World.ownsRow_nil w w.heap.size 3 1), Lib.hid (Below.refl _ _)⟩
  case round =>
    obtain ⟨k, hk, rfl, HO, HB⟩ := hrel
    by_cases hlt : k < 64
    · have hd : decide ((k : Int) < (64 : Int)) = true := by simp; omega
      have hb1 : Below wr.heap.size wr (wr.alloc (.cells (ints [(k : Int)]).toArray 3)) := (Below.refl _ wr).alloc (Nat.le_refl _) _
      have HS := Lib.hid (vals_new wr (ints [(k : Int)]) 3 (0, 0))
      have HO2 := Lib.hid (own_below HO.out hb1)
      have HB2 := Lib.hid (HB.out.trans (hb1.mono HB.out.size))
      have HZ := Lib.hid HB2.out.size
      have HLF := Lib.hid (show lensF (k + 1) = lensF k ++ [(k : Int)] by rw [lensF_succ, lenF, if_pos hlt])
      clear hb1
      go_wp2_with (at_builtin; refine wpList_append_vals Tryz.underlying38 hi hz0 hz1 hz2 rfl (by decide) rfl _ _ rfl w.heap.size _ k (ints (lensF k)) rfl HO2.out (some ⟨wr.heap.size, 0, none⟩) 1 1 (ints [(k : Int)]) rfl HS.out rfl (fun h => by cases h) ints_one (by omega) HZ.out ?_)
      intro v2 w2 hown2 _ hb3
      rw [← ints_append, ← HLF.out] at hown2
      have HO3 := Lib.hid hown2
      have HB3 := Lib.hid (HB2.out.trans hb3)
      clear hown2 hb3
      go_wp2_with fail
      go_roundw
      case rel => exact ⟨k + 1, by omega, by go_num, HO3, HB3⟩
      case measure => simp [intOf]; omega
    · have hke : k = 64 := by omega
      have hd : decide ((k : Int) < (64 : Int)) = false := by simp; omega
      have HO64 : Hid (wr.ownsRow w.heap.size 3 1 u1 64 (ints (lensF 64))) := hke ▸ HO
      obtain ⟨wA, hwA⟩ : ∃ wA, wA = wr := ⟨_, rfl⟩
      rw [← hwA] at HO64 HB ⊢
      clear hlt hk hwA hke HO
      go_wp2_with fail
      go_loopw [1, 3] (fun u i wr => ∃ k : Nat, 64 ≤ k ∧ k ≤ 104 ∧ i = .int .i64 ((lenF k : Nat) : Int) ∧ Hid (wr.ownsRow w.heap.size 3 1 u k (ints (lensF k))) ∧ Hid (Below w.heap.size w wr)) (fun _ i _ => 2624 - (intOf i).toNat)
      case atStart => exact ⟨64, by omega, by omega, rfl, HO64, HB⟩
      case round =>
        obtain ⟨k, hk1, hk2, rfl, HO, HB⟩ := hrel
        have hlf : lenF k = 64 * (k - 63) := by rw [lenF, if_neg (by omega)]
        have hlf2 : lenF (k + 1) = lenF k + 64 := by rw [hlf, lenF, if_neg (by omega)]; omega
        have HLF := Lib.hid (lensF_succ k)
        have HL2 := Lib.hid hlf2
        have HL1 := Lib.hid hlf
        by_cases hlt : k < 104
        · have hb : lenF k ≤ 2560 := by omega
          generalize lenF k = n at *
          have hd : decide ((n : Int) ≤ (2560 : Int)) = true := by simp; omega
          have hb1 : Below wr.heap.size wr (wr.alloc (.cells (ints [(n : Int)]).toArray 3)) := (Below.refl _ wr).alloc (Nat.le_refl _) _
          have HS := Lib.hid (vals_new wr (ints [(n : Int)]) 3 (0, 0))
          have HO2 := Lib.hid (own_below HO.out hb1)
          have HB2 := Lib.hid (HB.out.trans (hb1.mono HB.out.size))
          have HZ := Lib.hid HB2.out.size
          clear hb1 hlf hlf2
          go_wp2_with (at_builtin; refine wpList_append_vals Tryz.underlying38 hi hz0 hz1 hz2 rfl (by decide) rfl _ _ rfl w.heap.size _ k (ints (lensF k)) rfl HO2.out (some ⟨wr.heap.size, 0, none⟩) 1 1 (ints [(n : Int)]) rfl HS.out rfl (fun h => by cases h) ints_one (by omega) HZ.out ?_)
          intro v2 w2 hown2 _ hb3
          rw [← ints_append, ← HLF.out] at hown2
          have HO3 := Lib.hid hown2
          have HB3 := Lib.hid (HB2.out.trans hb3)
          clear hown2 hb3
          go_wp2_with fail
          go_roundw
          case rel => exact ⟨k + 1, by omega, by omega, by rw [HL2.out]; go_num, HO3, HB3⟩
          case measure => simp [intOf]; omega
        · have hke : k = 104 := by omega
          subst hke
          obtain ⟨q, c, rfl, hq0, hlc, hcm, hv, hqb⟩ := vrow_own HO.out (by rw [ints_length, lensF_length])
          have HQ0 := Lib.hid hq0
          have HV := Lib.hid hv
          have HLC := Lib.hid hlc
          have HCM := Lib.hid hcm
          have HQB := Lib.hid hqb
          have hd : decide (((lenF 104 : Nat) : Int) ≤ (2560 : Int)) = false := by decide
          clear hq0 hv hlc hcm hqb hlf hlf2 hlt
          go_wp2_with fail
          go_ret
          exact ⟨HB.out, q, c, by rw [ints_length, lensF_length]; rfl, HV.out, HQ0.out, by rw [ints_length, lensF_length]; exact HLC.out, HCM.out, HQB.out⟩

/-- two new rows -/
def TwoN (w : World) (us vs : List Value) (e : Ending) (w' : World) : Prop := Below w.heap.size w w' ∧ ∃ p c q d, e = .returned (.tuple #[.slice p us.length c, .slice q vs.length d]) ∧ NewV w us p c w' ∧ NewV w vs q d w'
set_option maxHeartbeats 1000000 in
theorem words_any (b : Bool) (w : World) (hT : Tab w) : Calls Tryz.prog 35 #[.bool b] w (TwoN w (strs (wordsU (wordsF b))) (ints (lensF 104))) := by
  have HT := Lib.hid hT
  clear hT
  go_enter Tryz.func35, Tryz.ntmps35
  cases b
  · go_wp2_with fail
    refine (fields_is (wordsF false) _ w (by kernel_rfl) (by kernel_rfl) (by kernel_rfl) HT.out).mono ?_
    rintro e w1 ⟨hb1, q, c, rfl, hv⟩
    have HB1 := Lib.hid hb1
    have HV := Lib.hid hv
    clear hb1 hv
    go_wp2_with fail
    refine (lengths_any w1).mono ?_
    rintro e w2 ⟨hb2, q2, c2, rfl, hv2⟩
    have HB2 := Lib.hid (HB1.out.trans (hb2.mono HB1.out.size))
    have HV1 := Lib.hid (HV.out.below hb2)
    have HV2 := Lib.hid (hv2.from HB1.out.size)
    clear hb2 hv2
    go_wp2_with fail
    go_ret2
    exact ⟨HB2.out, q, c, q2, c2, rfl, HV1.out, HV2.out⟩
  · go_wp2_with fail
    refine (fields_is (wordsF true) _ w (by kernel_rfl) (by kernel_rfl) (by kernel_rfl) HT.out).mono ?_
    rintro e w1 ⟨hb1, q, c, rfl, hv⟩
    have HB1 := Lib.hid hb1
    have HV := Lib.hid hv
    clear hb1 hv
    go_wp2_with fail
    refine (lengths_any w1).mono ?_
    rintro e w2 ⟨hb2, q2, c2, rfl, hv2⟩
    have HB2 := Lib.hid (HB1.out.trans (hb2.mono HB1.out.size))
    have HV1 := Lib.hid (HV.out.below hb2)
    have HV2 := Lib.hid (hv2.from HB1.out.size)
    clear hb2 hv2
    go_wp2_with fail
    go_ret2
    exact ⟨HB2.out, q, c, q2, c2, rfl, HV1.out, HV2.out⟩
set_option maxHeartbeats 1000000 in
theorem modes_any (w : World) (hT : Tab w) : Calls Tryz.prog 37 #[] w (TwoN w (strs (wordsU modesF)) (ints (modesN 10))) := by
  obtain ⟨i0, hi, hz0, hz1, hz2⟩ := info_parts Tryz.infoMode
  have HT := Lib.hid hT
  clear hT
  go_enter Tryz.func37, Tryz.ntmps37
  go_wp2_with fail
  go_loopw [2, 3] (fun u i wr => ∃ k : Nat, k ≤ 10 ∧ i = .int .i64 ((k : Int) - 3) ∧ Hid (wr.ownsRow w.heap.size 72 1 u k (ints (modesN k))) ∧ Hid (Below w.heap.size w wr)) (fun _ i _ => 10 - (intOf i + 3).toNat)
  case atStart => exact ⟨0, by omega, rfl, Lib.hid (by simpa [modesN, ints] using World.ownsRow_nil w w.heap.size 72 1), Lib.hid (Below.refl _ _)⟩
  case round =>
    obtain ⟨k, hk, rfl, HO, HB⟩ := hrel
    obtain ⟨z, hz⟩ : ∃ z : Int, z = (k : Int) - 3 := ⟨_, rfl⟩
    have hz1' : (k : Int) - 3 = z := hz.symm
    have hzb : -3 ≤ z ∧ z ≤ 7 := by omega
    rw [hz1']
    by_cases hlt : k < 10
    · have hd : decide (z ≤ (6 : Int)) = true := by simp; omega
      have hb1 : Below wr.heap.size wr (wr.alloc (.cells (ints [z]).toArray 72)) := (Below.refl _ wr).alloc (Nat.le_refl _) _
      have HS := Lib.hid (vals_new wr (ints [z]) 72 (0, 0))
      have HO2 := Lib.hid (own_below HO.out hb1)
      have HB2 := Lib.hid (HB.out.trans (hb1.mono HB.out.size))
      have HZ := Lib.hid HB2.out.size
      have HLF := Lib.hid (show modesN (k + 1) = modesN k ++ [z] by rw [modesN_succ, hz])
      have HZE := Lib.hid hz
      obtain ⟨hzb1, hzb2⟩ := hzb
      clear hb1 hz hz1'
      go_wp2_with (at_builtin; refine wpList_append_vals Tryz.underlying73 hi hz0 hz1 hz2 rfl (by decide) rfl _ _ rfl w.heap.size _ k (ints (modesN k)) rfl HO2.out (some ⟨wr.heap.size, 0, none⟩) 1 1 (ints [z]) rfl HS.out rfl (fun h => by cases h) ints_one (by omega) HZ.out ?_)
      intro v2 w2 hown2 _ hb3
      rw [← ints_append, ← HLF.out] at hown2
      have HO3 := Lib.hid hown2
      have HB3 := Lib.hid (HB2.out.trans hb3)
      clear hown2 hb3
      go_wp2_with fail
      go_roundw
      case rel => exact ⟨k + 1, by omega, by rw [HZE.out]; push_cast; congr 1; omega, HO3, HB3⟩
      case measure => simp [intOf]; have := HZE.out; omega
    · have hke : k = 10 := by omega
      have HO10 : Hid (wr.ownsRow w.heap.size 72 1 u2 10 (ints (modesN 10))) := hke ▸ HO
      have hd : decide (z ≤ (6 : Int)) = false := by simp; omega
      obtain ⟨q, c, rfl, hq0, hlc, hcm, hv, hqb⟩ := vrow_own HO10.out (by rw [ints_length, modesN_length])
      have HV : Hid (NewV w (ints (modesN 10)) q c wr) := Lib.hid ⟨hv, hq0, by rw [ints_length, modesN_length]; exact hlc, hcm, hqb⟩
      have HTr := Lib.hid (HT.out.below HB.out HT.out.lt)
      clear hq0 hlc hcm hv hqb hke HO HO10 hz hz1'
      go_wp2_with fail
      refine (fields_is modesF _ wr (by kernel_rfl) (by kernel_rfl) (by kernel_rfl) HTr.out).mono ?_
      rintro e w1 ⟨hb1, q1, c1, rfl, hv1⟩
      have HB1 := Lib.hid (HB.out.trans (hb1.mono HB.out.size))
      have HV1 := Lib.hid (hv1.from HB.out.size)
      have HV2 := Lib.hid (HV.out.below hb1)
      clear hb1 hv1
      go_wp2_with fail
      go_ret2
      exact ⟨HB1.out, q1, c1, q, c, rfl, HV1.out, HV2.out⟩
end Go.Proofs.YtmbfgejephgojaaGreatDoor.Fx
/- The contract of New of the books of all words; which book is a colour's. -/
namespace Go.Proofs.YtmbfgejephgojaaGreatDoor.Fx
open Go.RowKit Go.Proofs.YtmbfgejephgojaaGreatDoor.Oct Go.Proofs.YtmbfgejephgojaaGreatDoor.Bit Go.Proofs.YtmbfgejephgojaaGreatDoor.Hf Go.Proofs.YtmbfgejephgojaaGreatDoor.Inf
set_option linter.unusedVariables false
set_option linter.unusedSimpArgs false
set_option maxRecDepth 100000

theorem heap_last (w : World) (cs : Array Value) (T : TypeId) : (w.alloc (.cells cs T)).heap[w.heap.size]? = some (.cells cs T (0, 0)) := by
  show (w.heap.push _)[w.heap.size]? = _
  simp
theorem words_small {W : List (List Bool)} (h : ∀ x ∈ W, x.length ≤ 13) : ∀ s ∈ wordsU W, s.length ≤ 1000000 := by
  intro s hs
  obtain ⟨m, hm, rfl⟩ := List.mem_map.1 hs
  have := h m hm
  rw [List.length_map]
  omega
theorem boU_bk {w : World} {B C g : Nat} {ws : List (List UInt8)} {ms : List Value} (h : BoU w B C g ws ms) : Bk w C g ws ms := by
  obtain ⟨h0, pw, cw, pm, cm, A, E, h1, h2, h3, h4⟩ := h
  obtain ⟨h5, h6, h7⟩ := h4 w (fun _ _ _ => rfl)
  exact ⟨pw, cw, pm, cm, A, E, h5, h1, h6, h7, h2, h3⟩
/-- a book in the blocks from B up to C -/
def BoI (w : World) (B C g : Nat) (W : List (List Bool)) (ms : List Value) : Prop := ∃ B1 C1, B ≤ B1 ∧ C1 ≤ C ∧ BoU w B1 C1 g (wordsU W) ms
theorem BoI.same {w w' : World} {B C g : Nat} {W : List (List Bool)} {ms : List Value} (h : BoI w B C g W ms) (hz : w.heap.size ≤ w'.heap.size) (hs : ∀ k, B ≤ k → k < C → w'.heap[k]? = w.heap[k]?) : BoI w' B C g W ms := by
  obtain ⟨B1, C1, h1, h2, h3⟩ := h
  exact ⟨B1, C1, h1, h2, h3.same hz fun k a b => hs k (by omega) (by omega)⟩
theorem BoI.bk {w : World} {B C g : Nat} {W : List (List Bool)} {ms : List Value} (h : BoI w B C g W ms) : ∃ C1, Bk w C1 g (wordsU W) ms := by
  obtain ⟨B1, C1, h1, h2, h3⟩ := h
  exact ⟨C1, boU_bk h3⟩
theorem BoI.mono {w : World} {B C B2 C2 g : Nat} {W : List (List Bool)} {ms : List Value} (h : BoI w B C g W ms) (hb : B2 ≤ B) (hc : C ≤ C2) : BoI w B2 C2 g W ms := by
  obtain ⟨B1, C1, h1, h2, h3⟩ := h
  exact ⟨B1, C1, by omega, by omega, h3⟩
/-- the books of all words, in the blocks from B up to C -/
def Cd (w : World) (B C c : Nat) : Prop := C ≤ w.heap.size ∧ B ≤ c ∧ c < C ∧ ∃ g1 g2 g3,
  w.heap[c]? = some (.cells #[.pointer (some ⟨g1, 0, none⟩), .pointer (some ⟨g2, 0, none⟩), .pointer (some ⟨g3, 0, none⟩)] 77 (0, 0)) ∧
  BoI w B C g1 (wordsF false) (ints (lensF 104)) ∧ BoI w B C g2 (wordsF true) (ints (lensF 104)) ∧ BoI w B C g3 modesF (ints (modesN 10))
theorem Cd.same {w w' : World} {B C c : Nat} (h : Cd w B C c) (hz : w.heap.size ≤ w'.heap.size) (hs : ∀ k, B ≤ k → k < C → w'.heap[k]? = w.heap[k]?) : Cd w' B C c := by
  obtain ⟨h1, h2, h3, g1, g2, g3, h4, h5, h6, h7⟩ := h
  exact ⟨Nat.le_trans h1 hz, h2, h3, g1, g2, g3, (hs c h2 h3).trans h4, h5.same hz hs, h6.same hz hs, h7.same hz hs⟩
theorem Cd.below {w w' : World} {B C D c : Nat} (h : Cd w B C c) (hb : Below D w w') (hC : C ≤ D) : Cd w' B C c := h.same hb.size fun k _ hk => hb.block k (by omega)
/-- a place outside the blocks from B up to C -/
def Out (B C k : Nat) : Prop := k < B ∨ C ≤ k
theorem Cd.only {w w' : World} {B C c : Nat} {S : Nat → Prop} (h : Cd w B C c) (ho : Only S w w') (hS : ∀ k, S k → Out B C k) : Cd w' B C c :=
  h.same ho.2.2.2.1 fun k h1 h2 => ho.2.2.2.2 k (by have := h.1; omega) (fun e => by rcases hS k e with h | h <;> omega)
theorem Cd.lt {w : World} {B C c : Nat} (h : Cd w B C c) : c < w.heap.size := by have h1 := h.1; have h2 := h.2.2.1; omega
def CodesP (w : World) (e : Ending) (w' : World) : Prop := Below w.heap.size w w' ∧ ∃ c, e = .returned (.pointer (some ⟨c, 0, none⟩)) ∧ Cd w' w.heap.size w'.heap.size c
set_option maxHeartbeats 2000000 in
theorem codes_any (w : World) (hT : Tab w) : Calls Tryz.prog 16 #[] w (CodesP w) := by
  have HT := Lib.hid hT
  clear hT
  go_enter Tryz.func16, Tryz.ntmps16
  go_wp2_with fail
  refine (words_any false w HT.out).mono ?_
  rintro e w1 ⟨hb1, p1, c1, q1, d1, rfl, hv1, hu1⟩
  rw [strs_length, wordsU_length, wordsF_length] at *
  rw [ints_length, lensF_length] at *
  have HB1 := Lib.hid hb1
  have HN1 := Lib.hid (newI_any p1 q1 104 c1 d1 (wordsU (wordsF false)) (ints (lensF 104)) w1 hv1.1 (by rw [wordsU_length, wordsF_length]) hv1.2.1 hu1.1 (by rw [ints_length, lensF_length]) hu1.2.1 (by omega) ints_one (words_small fun x hx => (words_len false x hx).2))
  clear hb1 hv1 hu1
  go_wp2_with fail
  refine HN1.out.mono ?_
  rintro e w2 ⟨hb2, ⟨_, _, _, hbad⟩ | ⟨g1, rfl, hg1, hg1', hk1⟩⟩
  · exact absurd (words_good false) hbad
  have HB2 := Lib.hid (HB1.out.trans (hb2.mono HB1.out.size))
  have HK1 : Hid (BoI w2 w.heap.size w2.heap.size g1 (wordsF false) (ints (lensF 104))) := Lib.hid ⟨_, _, HB1.out.size, Nat.le_refl _, hk1.boU hg1⟩
  clear hb2 hk1 hg1 hg1' HN1
  go_wp2_with fail
  refine (words_any true w2 (HT.out.below HB2.out HT.out.lt)).mono ?_
  rintro e w3 ⟨hb3, p3, c3, q3, d3, rfl, hv3, hu3⟩
  rw [strs_length, wordsU_length, wordsF_length] at *
  rw [ints_length, lensF_length] at *
  have HB3 := Lib.hid (HB2.out.trans (hb3.mono HB2.out.size))
  have HB23 := Lib.hid hb3
  have HN2 := Lib.hid (newI_any p3 q3 104 c3 d3 (wordsU (wordsF true)) (ints (lensF 104)) w3 hv3.1 (by rw [wordsU_length, wordsF_length]) hv3.2.1 hu3.1 (by rw [ints_length, lensF_length]) hu3.2.1 (by omega) ints_one (words_small fun x hx => (words_len true x hx).2))
  clear hb3 hv3 hu3
  go_wp2_with fail
  refine HN2.out.mono ?_
  rintro e w4 ⟨hb4, ⟨_, _, _, hbad⟩ | ⟨g2, rfl, hg2, hg2', hk2⟩⟩
  · exact absurd (words_good true) hbad
  have HB4 := Lib.hid (HB3.out.trans (hb4.mono HB3.out.size))
  have HB24 := Lib.hid (HB23.out.trans (hb4.mono HB23.out.size))
  have HK2 : Hid (BoI w4 w.heap.size w4.heap.size g2 (wordsF true) (ints (lensF 104))) := Lib.hid ⟨_, _, HB3.out.size, Nat.le_refl _, hk2.boU hg2⟩
  clear hb4 hk2 hg2 hg2' HN2
  go_wp2_with fail
  refine (modes_any w4 (HT.out.below HB4.out HT.out.lt)).mono ?_
  rintro e w5 ⟨hb5, p5, c5, q5, d5, rfl, hv5, hu5⟩
  rw [strs_length, wordsU_length, modesF_length] at *
  rw [ints_length, modesN_length] at *
  have HB5 := Lib.hid (HB4.out.trans (hb5.mono HB4.out.size))
  have HB45 := Lib.hid hb5
  have HN3 := Lib.hid (mnewI_any p5 q5 10 c5 d5 (wordsU modesF) (ints (modesN 10)) w5 hv5.1 (by rw [wordsU_length, modesF_length]) hv5.2.1 hu5.1 (by rw [ints_length, modesN_length]) hu5.2.1 (by omega) ints_one (words_small fun x hx => by have := (modes_len x hx).2; omega))
  clear hb5 hv5 hu5
  go_wp2_with fail
  refine HN3.out.mono ?_
  rintro e w6 ⟨hb6, ⟨_, _, _, hbad⟩ | ⟨g3, rfl, hg3, hg3', hk3⟩⟩
  · exact absurd modes_good hbad
  have HB6 := Lib.hid (HB5.out.trans (hb6.mono HB5.out.size))
  have HB46 := Lib.hid (HB45.out.trans (hb6.mono HB45.out.size))
  have HK3 : Hid (BoI w6 w.heap.size w6.heap.size g3 modesF (ints (modesN 10))) := Lib.hid ⟨_, _, HB5.out.size, Nat.le_refl _, hk3.boU hg3⟩
  clear hb6 hk3 hg3 hg3' HN3
  go_wp2_with fail
  go_ret
  have hba : Below w6.heap.size w6 (w6.alloc (.cells #[.pointer (some ⟨g1, 0, none⟩), .pointer (some ⟨g2, 0, none⟩), .pointer (some ⟨g3, 0, none⟩)] 77)) := (Below.refl _ w6).alloc (Nat.le_refl _) _
  have hz2 := HB24.out.size
  have hz4 := HB46.out.size
  have hz := HB6.out.size
  have hza : (w6.alloc (.cells #[.pointer (some ⟨g1, 0, none⟩), .pointer (some ⟨g2, 0, none⟩), .pointer (some ⟨g3, 0, none⟩)] 77)).heap.size = w6.heap.size + 1 := by simp
  refine ⟨HB6.out.trans (hba.mono hz), w6.heap.size, rfl, Nat.le_refl _, hz, by rw [hza]; omega, g1, g2, g3, heap_last w6 _ _, ?_, ?_, ?_⟩
  · exact (((HK1.out.same hz2 fun k _ hk => HB24.out.block k hk).mono (Nat.le_refl _) hz2).same hz4 fun k _ hk => HB46.out.block k hk).mono (Nat.le_refl _) hz4 |>.same hba.size (fun k _ hk => hba.block k hk) |>.mono (Nat.le_refl _) hba.size
  · exact (HK2.out.same hz4 fun k _ hk => HB46.out.block k hk).mono (Nat.le_refl _) hz4 |>.same hba.size (fun k _ hk => hba.block k hk) |>.mono (Nat.le_refl _) hba.size
  · exact HK3.out.same hba.size (fun k _ hk => hba.block k hk) |>.mono (Nat.le_refl _) hba.size
/-- a colour's book -/
theorem colour_any (b : Bool) (w : World) (B C c : Nat) (h : Cd w B C c) : Calls Tryz.prog 80 #[.pointer (some ⟨c, 0, none⟩), .bool b] w fun e w' => (∃ g, e = .returned (.pointer (some ⟨g, 0, none⟩)) ∧ BoI w B C g (wordsF b) (ints (lensF 104))) ∧ w = w' := by
  obtain ⟨h1, h2, h3, g1, g2, g3, h4, h5, h6, h7⟩ := h
  have k1 : w.cell? ⟨c, 0, none⟩ = some (.pointer (some ⟨g1, 0, none⟩)) := by simp [World.cell?, h4]
  have k2 : w.cell? ⟨c, 1, none⟩ = some (.pointer (some ⟨g2, 0, none⟩)) := by simp [World.cell?, h4]
  have H5 := Lib.hid h5
  have H6 := Lib.hid h6
  clear h1 h2 h3 h4 h5 h6 h7
  go_enter Tryz.func80, Tryz.ntmps80
  cases b
  · go_wp2_with fail
    go_ret
    exact ⟨⟨g1, rfl, H5.out⟩, rfl⟩
  · go_wp2_with fail
    go_ret
    exact ⟨⟨g2, rfl, H6.out⟩, rfl⟩
/-- where a length that has a word is -/
theorem index_any (n : Nat) (hn : n ≤ 2560) (w : World) : Calls Tryz.prog 82 #[.int .i64 (n : Int)] w fun e w' => e = .returned (.int .i64 ((if n < 64 then n else 63 + n / 64 : Nat) : Int)) ∧ w = w' := by
  by_cases h : n < 64
  · have hd : decide ((n : Int) < (64 : Int)) = true := by simp; omega
    rw [if_pos h]
    clear h
    go_enter Tryz.func82, Tryz.ntmps82
    go_wp2_with fail
    go_ret
    exact ⟨rfl, rfl⟩
  · have hd : decide ((n : Int) < (64 : Int)) = false := by simp; omega
    rw [if_neg h]
    have e1 : (n : Int) / 64 = ((n / 64 : Nat) : Int) := by omega
    have e2 : n / 64 ≤ 40 := by omega
    have e3 : 1 ≤ n / 64 := by omega
    generalize n / 64 = d at *
    clear h
    go_enter Tryz.func82, Tryz.ntmps82
    go_wp2_with fail
    go_ret
    refine ⟨?_, rfl⟩
    rw [show ((63 + d : Nat) : Int) = 64 + (d : Int) - 1 by omega]
    rfl
end Go.Proofs.YtmbfgejephgojaaGreatDoor.Fx

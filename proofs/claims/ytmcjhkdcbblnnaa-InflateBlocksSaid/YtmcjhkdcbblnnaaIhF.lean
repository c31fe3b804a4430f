
/- The document's place and Told. -/
import Derived.Test.YtmcjhkdcbblnnaaIhE
import Derived.Test.YtmcjhkdcbblnnaaIhB
import Derived.Test.YtmcjhkdcbblnnaaIfP
namespace Go.Proofs.Ytmcjhkdcbblnnaa.Inf
open Go.RowKit Go.Proofs.Ytmcjhkdcbblnnaa.Oct Go.Proofs.Ytmcjhkdcbblnnaa.Bit Go.Proofs.Ytmcjhkdcbblnnaa.Hf
set_option linter.unusedVariables false
set_option linter.unusedSimpArgs false
set_option maxRecDepth 100000

def PlP (w : World) (far : Bool) (n : Nat) (e : Ending) (w' : World) : Prop := e = .returned (.tuple #[.int .i64 (placeN far n : Int), .string (ds (moreB far n))]) ∧ Below w.heap.size w w'
theorem vget9 {w : World} {C b i : Nat} {L : List Nat} (h : VRow w C (some ⟨b, 0, none⟩) (ints (castZ L))) (hi : i < L.length) : w.cell? ⟨b, i, none⟩ = some (.int .i64 ((L.getD i 0 : Nat) : Int)) := by
  have h1 := h.int i (by rw [castZ_length]; exact hi)
  rw [Nat.zero_add] at h1
  rw [h1]
  simp [castZ, List.getD_eq_getElem?_getD, List.getElem?_eq_getElem hi]
theorem ext_len : ∀ far : Bool, (extras far).length = (froms far).length ∧ 29 ≤ (froms far).length ∧ (froms far).length ≤ 30 ∧ (froms far).getD 0 0 = least1 far := by decide
set_option maxHeartbeats 4000000 in
theorem place_any (far : Bool) (n : Nat) (w : World) (h0 : least1 far ≤ n) (h1 : n ≤ most1 far) : Calls Try.prog 35 #[.int .i64 (n : Int), .bool far] w (PlP w far n) := by
  obtain ⟨x1, x2, x3, x4⟩ := ext_len far
  have hn : n ≤ 32768 := by cases far <;> simp [most1] at h1 <;> omega
  have HL0 : Hid ((froms far).getD 0 0 ≤ n) := Lib.hid (by rw [x4]; exact h0)
  have HPB := Lib.hid (place_high far n h0 h1)
  have HPL := Lib.hid (place_low far n h0)
  have HFB := Lib.hid (fun i (hi : i < (froms far).length) => froms_big far i hi)
  obtain ⟨len, hlen⟩ : ∃ len, (froms far).length = len := ⟨_, rfl⟩
  have HLEN := Lib.hid hlen
  have HEL : Hid ((extras far).length = len) := Lib.hid (x1.trans hlen)
  have HFR : Hid (Calls Try.prog 16 #[.bool far] w fun e w' => ∃ b, e = .returned (.tuple #[.slice (some ⟨b, 0, none⟩) len len, .slice (some ⟨b + 1, 0, none⟩) len len]) ∧ Below w.heap.size w w' ∧ VRow w' w'.heap.size (some ⟨b, 0, none⟩) (ints (castZ (froms far))) ∧ VRow w' w'.heap.size (some ⟨b + 1, 0, none⟩) (ints (castZ (extras far)))) :=
    Lib.hid ((froms_any far w).mono (by rintro e w' ⟨h1, h2, h3, h4⟩; exact ⟨_, by rw [h1, hlen], h2, h3, h4⟩))
  rw [hlen] at x2 x3
  have HP : Hid (placeN far n = lastLe (froms far) n (len - 1)) := Lib.hid (by rw [← hlen]; rfl)
  clear hlen x1 x4 h0 h1
  go_enter Try.func35, Try.ntmps35
  go_wp2_with fail
  refine HFR.out.mono ?_
  rintro e w1 ⟨b, rfl, hb1, hv1, hv2⟩
  have HB1 := Lib.hid hb1
  have HV1 := Lib.hid hv1
  have HV2 := Lib.hid hv2
  obtain ⟨l1, hl1⟩ : ∃ l1, l1 = len - 1 := ⟨_, rfl⟩
  have hl2 : (len : Int) - 1 = (l1 : Int) := by omega
  rw [← hl1] at HP
  clear hb1 hv1 hv2
  go_wp2_with fail
  go_loop [8] (fun s => ∃ i : Nat, i < len ∧ s = .int .i64 (i : Int) ∧ Hid (lastLe (froms far) n i = placeN far n)) (fun s => (intOf s).toNat)
  case atStart => exact ⟨l1, by omega, by rw [hl1], Lib.hid HP.out.symm⟩
  case round =>
    obtain ⟨i, hi, rfl, HI⟩ := hrel
    have hil : i < (froms far).length := by rw [HLEN.out]; exact hi
    have c1 := vget9 HV1.out hil
    obtain ⟨y1, y2, y3⟩ := HFB.out i hil
    obtain ⟨x, hx⟩ : ∃ x, (froms far).getD i 0 = x := ⟨_, rfl⟩
    rw [hx] at c1 y1 y2
    have HXX := Lib.hid hx
    have i1 : (0 : Int) ≤ (i : Int) := by omega
    have i2 : (i : Int) < (len : Int) := by omega
    by_cases hgt : n < x
    · have qg : decide ((n : Int) < (x : Int)) = true := by simpa using hgt
      have qgn : decide (n < x) = true := by simpa using hgt
      obtain ⟨j, hj⟩ : ∃ j, i = j + 1 := by
        rcases Nat.eq_zero_or_pos i with h | h
        · subst h; have := HL0.out; rw [HXX.out] at this; omega
        · exact ⟨i - 1, by omega⟩
      have hji : (i : Int) - 1 = (j : Int) := by omega
      have HJ : Hid (lastLe (froms far) n j = placeN far n) := Lib.hid (by
        have := HI.out
        rw [hj, lastLe, if_pos (by rw [← hj, HXX.out]; exact hgt)] at this
        exact this)
      have hjl : j < len := by omega
      have hij : j < i := by omega
      clear hx hj HI hgt
      go_wp2_with fail
      go_round
      case rel => exact ⟨j, hjl, rfl, HJ⟩
      case measure => simp [intOf]; omega
    · have qg : decide ((n : Int) < (x : Int)) = false := by simp; omega
      have qgn : decide (n < x) = false := by simp; omega
      have HIP : Hid (placeN far n = i) := Lib.hid (by
        rw [← HI.out]
        rcases i with _ | j
        · rfl
        · rw [lastLe, if_neg (by rw [HXX.out]; exact hgt)])
      have c2 := vget9 HV2.out (show i < (extras far).length by rw [HEL.out]; exact hi)
      obtain ⟨ex, hex⟩ : ∃ ex, (extras far).getD i 0 = ex := ⟨_, rfl⟩
      rw [hex] at c2 y3
      obtain ⟨v, hv⟩ : ∃ v, n - x = v := ⟨_, rfl⟩
      have hnx : (n : Int) - (x : Int) = (v : Int) := by omega
      have hv13 : v < 4294967296 := by omega
      have HRES : Hid (moreB far n = (word v ex).reverse) := Lib.hid (by unfold moreB; rw [HIP.out, hx, hex, hv]; rfl)
      have HKP : Hid (∀ V, Below w1.heap.size w1 V → V.cell? ⟨b, i, none⟩ = some (.int .i64 (x : Int)) ∧ V.cell? ⟨b + 1, i, none⟩ = some (.int .i64 (ex : Int))) := Lib.hid fun V hV => by
        have a1 := vget9 (HV1.out.below hV (Nat.le_refl _)) hil
        have a2 := vget9 (HV2.out.below hV (Nat.le_refl _)) (show i < (extras far).length by rw [HEL.out]; exact hi)
        rw [hx] at a1
        rw [hex] at a2
        exact ⟨a1, a2⟩
      have hbd : Below w1.heap.size w1 w1.drew := (show Drawn w1 w1.drew from ⟨1, rfl⟩).below _
      have HBD := Lib.hid hbd
      have hww : IntKind.u32.wrap (IntKind.i64.wrap (v : Int)) = (v : Int) := by rw [IntWalk.i64_in _ (by omega), IntKind.wrap_u32]; omega
      have hwd := rword_any v ex w1.drew (by omega) hv13
      rw [← hww] at hwd
      have HWD := Lib.hid hwd
      clear hww hwd
      have HTN := Lib.hid (fun V => dturn_any (word v ex) V (by rw [word_length]; omega))
      have hvb : v ≤ 32768 := by omega
      clear hx hex hv hgt hbd hil HFR
      go_wp2_with fail
      go_region_held3 (fun V => V.cell? ⟨b, i, none⟩ = some (.int .i64 (x : Int)) ∧ V.cell? ⟨b + 1, i, none⟩ = some (.int .i64 (ex : Int))) (first | exact ⟨c1, c2⟩ | exact HKP.out _ HB2.out | exact HKP.out _ HBD.out) (first
        | (go_at_call 41; refine HWD.out.mono ?_; rintro e w2 ⟨rfl, hb2⟩; have HB2 := Lib.hid (HBD.out.trans hb2); clear hb2)
        | (go_at_call 33; refine (HTN.out w2).mono ?_; rintro e w3 ⟨rfl, rfl⟩))
      all_goals
        go_wp2_with fail
        go_ret2
        exact ⟨by rw [HIP.out, HRES.out]; rfl, HB1.out.trans (HB2.out.mono HB1.out.size)⟩
/-- the text of tokens, so far -/
def ToldSt (w : World) (A B : List (List Bool)) (l : List Tok) (k : Nat) (S : List Bool) (wr : World) : Prop :=
  S ++ toldB A B (l.drop k) = toldB A B l ∧ S.length ≤ 100 * k ∧ Below w.heap.size w wr
theorem right_all {lim : Nat} : ∀ (l : List Tok) (out o : List UInt8), rightT lim l out = some o → ∀ t ∈ l, t.len = 0 ∨ (3 ≤ t.len ∧ t.len ≤ 258 ∧ 1 ≤ t.dist ∧ t.dist ≤ 32768)
  | [], out, o, h, t, ht => by cases ht
  | s :: l, out, o, h, t, ht => by
    rw [rightT] at h
    by_cases h0 : s.len = 0
    · rw [if_pos h0] at h
      rcases List.mem_cons.1 ht with rfl | ht
      · exact .inl h0
      · exact right_all l _ o h t ht
    · rw [if_neg h0] at h
      split at h
      · cases h
      · rename_i hb
        rcases List.mem_cons.1 ht with rfl | ht
        · right; omega
        · exact right_all l _ o h t ht
theorem ds_word (m : List Bool) : bs (m.map dig) = ds m := rfl
theorem strs_word {w : World} {C b off i : Nat} {W : List (List Bool)} (h : VRow w C (some ⟨b, off, none⟩) (strs (wordsU W))) (hi : i < W.length) : w.cell? ⟨b, off + i, none⟩ = some (.string (ds (W.getD i []))) := by
  have h1 := h.str i (by rw [wordsU_length]; exact hi)
  rw [h1]
  simp [wordsU, List.getD_eq_getElem?_getD, List.getElem?_eq_getElem hi, ds]
theorem getD_len {W : List (List Bool)} (h : ∀ m ∈ W, m.length ≤ 30) (i : Nat) : (W.getD i []).length ≤ 30 := by
  rw [List.getD_eq_getElem?_getD]
  rcases hx : W[i]? with _ | m
  · simp
  · exact h m (List.mem_of_getElem? hx)
theorem moreB_len (far : Bool) (n : Nat) : (moreB far n).length ≤ 13 := by
  unfold moreB
  rw [wordE_length]
  exact (froms_big far _ (place_lt far n)).2.2
set_option maxHeartbeats 8000000 in
theorem told_any (a q r : Option Addr) (len cap c d nA nB : Nat) (l : List Tok) (A B : List (List Bool)) (w : World) (hl : l.length = len) (hlen : len ≤ 200) (h : Toks w w.heap.size a l)
    (hA : VRow w w.heap.size q (strs (wordsU A))) (hB : VRow w w.heap.size r (strs (wordsU B))) (hnA : A.length = nA) (hnB : B.length = nB) (hA2 : 286 ≤ nA ∧ nA ≤ 300) (hB2 : nB = 30) (hA3 : ∀ m ∈ A, m.length ≤ 30) (hB3 : ∀ m ∈ B, m.length ≤ 30)
    (hall : ∀ t ∈ l, t.len = 0 ∨ (3 ≤ t.len ∧ t.len ≤ 258 ∧ 1 ≤ t.dist ∧ t.dist ≤ 32768)) :
    Calls Try.prog 20 #[.slice a len cap, .slice q nA c, .slice r nB d] w fun e w' => e = .returned (.string (ds (toldB A B l))) ∧ (toldB A B l).length ≤ 100 * len + 30 ∧ Below w.heap.size w w' := by
  have HL := Lib.hid hl
  have H := Lib.hid h
  have HA := Lib.hid hA
  have HB := Lib.hid hB
  have HNA := Lib.hid hnA
  have HNB := Lib.hid hnB
  have HA3 := Lib.hid hA3
  have HB3 := Lib.hid hB3
  have HALL := Lib.hid hall
  obtain ⟨bA, oA, rfl, hbA⟩ := hA.addr (by rw [strs_length, wordsU_length]; omega)
  obtain ⟨bB, oB, rfl, hbB⟩ := hB.addr (by rw [strs_length, wordsU_length]; omega)
  have hA21 := hA2.1
  have hB30 : 30 ≤ nB := by omega
  clear hB2
  clear hl h hA hB hnA hnB hA3 hB3 hall
  go_enter Try.func20, Try.ntmps20
  go_wp2_with fail
  go_loopw [7, 8, 9, 10, 11, 12] (fun s i _ _ _ _ wr => ∃ (k : Nat) (S : List Bool), k ≤ len ∧ i = .int .i64 (k : Int) ∧ s = .string (ds S) ∧ Hid (ToldSt w A B l k S wr)) (fun _ i _ _ _ _ _ => len - (intOf i).toNat)
  case atStart => exact ⟨0, [], by omega, rfl, rfl, Lib.hid ⟨by rw [List.drop_zero]; rfl, by simp, Below.refl _ _⟩⟩
  case round =>
    obtain ⟨k, S, hk, rfl, rfl, HS⟩ := hrel
    obtain ⟨hcat, hSl, hbw⟩ := HS.out
    have hSs := ds_size S
    have HBW := Lib.hid hbw
    by_cases hlt : k < len
    · have ql : decide ((k : Int) < (len : Int)) = true := by simpa using hlt
      have i1 : (0 : Int) ≤ (k : Int) := by omega
      have i2 : (k : Int) < (len : Int) := by omega
      have hkl : k < l.length := by rw [HL.out]; exact hlt
      obtain ⟨b, off, rfl, hb, hc⟩ := H.out.2 (by omega)
      obtain ⟨c0, c1, c2⟩ := (hc k hkl).below hbw hb
      have HCK := Lib.hid (hc k hkl)
      have hdr : l.drop k = l[k] :: l.drop (k + 1) := List.drop_eq_getElem_cons hkl
      have hok := HALL.out _ (List.getElem_mem hkl)
      rw [hdr, toldB] at hcat
      generalize l[k] = t at c0 c1 c2 hcat hok HCK
      obtain ⟨x, n, dd⟩ := t
      simp only at c0 c1 c2 hok
      clear hc hdr
      by_cases hn0 : n = 0
      · subst hn0
        have htok : tokB A B ⟨x, 0, dd⟩ = A.getD x.toNat [] := by unfold tokB; rw [if_pos rfl]
        rw [htok, ← List.append_assoc] at hcat
        have hxl := x.toNat_lt
        have cw := strs_word (HA.out.below hbw (Nat.le_refl _)) (show x.toNat < A.length by rw [HNA.out]; omega)
        have hml := getD_len HA3.out x.toNat
        obtain ⟨m, hm⟩ : ∃ m, A.getD x.toNat [] = m := ⟨_, rfl⟩
        rw [hm] at cw hcat hml
        have hms := ds_size m
        have xi1 : (x.toNat : Int) < (nA : Int) := by omega
        have HNX : Hid (ToldSt w A B l (k + 1) (S ++ m) wr) := Lib.hid ⟨hcat, by rw [List.length_append]; omega, hbw⟩
        clear htok hm hcat hbw HS hok
        go_wp2_with fail
        go_roundw
        case rel => exact ⟨k + 1, S ++ m, by omega, by first | rfl | (push_cast; rfl), by first | (rw [← ds_append]; done) | (rw [← ds_append]; rfl), HNX⟩
        case measure => simp [intOf]; omega
      · have q0 : (n == 0) = false := by simpa using hn0
        obtain ⟨n3, n258, d1, d32⟩ : 3 ≤ n ∧ n ≤ 258 ∧ 1 ≤ dd ∧ dd ≤ 32768 := by
          rcases hok with h | h
          · exact absurd h hn0
          · exact h
        obtain ⟨N, rfl⟩ : ∃ N : Nat, n = (N : Int) := ⟨n.toNat, by omega⟩
        obtain ⟨D, rfl⟩ : ∃ D : Nat, dd = (D : Int) := ⟨dd.toNat, by omega⟩
        have htok : tokB A B ⟨x, (N : Int), (D : Int)⟩ = A.getD (257 + placeN false N) [] ++ (moreB false N ++ (B.getD (placeN true D) [] ++ moreB true D)) := by
          unfold tokB
          rw [if_neg hn0]
          rfl
        have HP1 := Lib.hid (place_any false N wr (by show 3 ≤ N; omega) (by show N ≤ 258; omega))
        have hp1 := place_lt false N
        have hp2 := place_lt true D
        have hp1 : placeN false N < 29 := hp1
        have hp2 : placeN true D < 30 := hp2
        rw [htok] at hcat
        have hl1 := getD_len HA3.out (257 + placeN false N)
        have hl2 := getD_len HB3.out (placeN true D)
        have hl3 := moreB_len false N
        have hl4 := moreB_len true D
        obtain ⟨P1, hP1⟩ : ∃ P, placeN false N = P := ⟨_, rfl⟩
        obtain ⟨P2, hP2⟩ : ∃ P, placeN true D = P := ⟨_, rfl⟩
        rw [hP1, hP2] at hcat
        rw [hP1] at hl1 hp1
        rw [hP2] at hl2 hp2
        have HP1e := Lib.hid hP1
        have HP2e := Lib.hid hP2
        obtain ⟨m1, hm1⟩ : ∃ m, A.getD (257 + P1) [] = m := ⟨_, rfl⟩
        obtain ⟨m2, hm2⟩ : ∃ m, B.getD P2 [] = m := ⟨_, rfl⟩
        obtain ⟨m3, hm3⟩ : ∃ m, moreB false N = m := ⟨_, rfl⟩
        obtain ⟨m4, hm4⟩ : ∃ m, moreB true D = m := ⟨_, rfl⟩
        rw [hm1, hm2, hm3, hm4] at hcat
        rw [hm1] at hl1
        rw [hm2] at hl2
        rw [hm3] at hl3
        rw [hm4] at hl4
        have HM1 := Lib.hid hm1
        have HM2 := Lib.hid hm2
        have HM3 := Lib.hid hm3
        have HM4 := Lib.hid hm4
        have HCAT := Lib.hid hcat
        have HDB : Hid (1 ≤ D ∧ D ≤ 32768) := Lib.hid ⟨by omega, by omega⟩
        clear htok hcat hbw HS hok hP1 hP2 hm1 hm2 hm3 hm4 hn0
        go_wp2_with fail
        refine HP1.out.mono ?_
        rintro e w2 ⟨rfl, hb2⟩
        rw [HP1e.out, HM3.out]
        have hbw2 := HBW.out.trans (hb2.mono HBW.out.size)
        have HBW2 := Lib.hid hbw2
        have c2b := (HCK.out.below hbw2 hb).2.2
        simp only at c2b
        have HP2 := Lib.hid (place_any true D w2 HDB.out.1 HDB.out.2)
        clear hb2 hbw2 c0 c1 c2
        go_wp2_with fail
        refine HP2.out.mono ?_
        rintro e w3 ⟨rfl, hb3⟩
        rw [HP2e.out, HM4.out]
        have hbw3 := HBW2.out.trans (hb3.mono HBW2.out.size)
        have cw1 := strs_word (HA.out.below hbw3 (Nat.le_refl _)) (show 257 + P1 < A.length by rw [HNA.out]; omega)
        have cw2 := strs_word (HB.out.below hbw3 (Nat.le_refl _)) (show P2 < B.length by rw [HNB.out]; omega)
        rw [HM1.out] at cw1
        rw [HM2.out] at cw2
        obtain ⟨J, hJ⟩ : ∃ J, J = 257 + P1 := ⟨_, rfl⟩
        rw [← hJ] at cw1
        have hJ1 : (257 : Int) + (P1 : Int) = (J : Int) := by omega
        have hJ2 : (0 : Int) ≤ (J : Int) := by omega
        have hJ3 : (J : Int) < (nA : Int) := by omega
        have hJ4 : (0 : Int) ≤ (P2 : Int) := by omega
        have hJ5 : (P2 : Int) < (nB : Int) := by omega
        have s1 := ds_size m1
        have s2 := ds_size m2
        have s3 := ds_size m3
        have s4 := ds_size m4
        have HNX : Hid (∀ V, Below w3.heap.size w3 V → ToldSt w A B l (k + 1) (S ++ (m1 ++ (m3 ++ (m2 ++ m4)))) V) := Lib.hid fun V hV => ⟨by rw [List.append_assoc]; exact HCAT.out, by simp only [List.length_append]; omega, hbw3.trans (hV.mono hbw3.size)⟩
        have HDW : Hid (∀ j, Below w3.heap.size w3 (w3.drewN j)) := Lib.hid fun j => (show Drawn w3 (w3.drewN j) from ⟨j, rfl⟩).below _
        clear hb3 hbw3 hJ c2b
        go_wp2_with fail
        go_quiet (fail)
        go_wp2_with fail
        go_roundw
        case rel => exact ⟨k + 1, S ++ (m1 ++ (m3 ++ (m2 ++ m4))), by omega, by first | rfl | (push_cast; rfl), by simp only [← ds_append, ByteArray.append_assoc], Lib.hid (HNX.out _ (HDW.out _))⟩
        case measure => simp [intOf]; omega
    · have hkn : k = len := by omega
      have ql : decide ((k : Int) < (len : Int)) = false := by simp; omega
      rw [hkn, ← HL.out, List.drop_length] at hcat
      have cw := strs_word (HA.out.below hbw (Nat.le_refl _)) (show 256 < A.length by rw [HNA.out]; omega)
      have hml := getD_len HA3.out 256
      have hcat2 : S ++ A.getD 256 [] = toldB A B l := hcat
      obtain ⟨m, hm⟩ : ∃ m, A.getD 256 [] = m := ⟨_, rfl⟩
      rw [hm] at cw hml hcat2
      have hms := ds_size m
      have hi : (256 : Int) < (nA : Int) := by omega
      have HRES : Hid (toldB A B l = S ++ m ∧ (toldB A B l).length ≤ 100 * len + 30) := Lib.hid ⟨hcat2.symm, by rw [← hcat2, List.length_append]; omega⟩
      clear hcat hcat2 hm hkn HS hbw
      go_wp2_with fail
      go_ret
      exact ⟨by rw [HRES.out.1, ← ds_append]; rfl, HRES.out.2, HBW.out⟩
end Go.Proofs.Ytmcjhkdcbblnnaa.Inf

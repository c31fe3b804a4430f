
/- The document's Read of words, with the place behind, also on an error. -/
import Derived.Test.YtplbbejdnahibaaDoorFxM
import Derived.Test.YtplbbejdnahibaaDoorHfR
import Derived.Test.YtplbbejdnahibaaDoorBitE
import Derived.LoopTactic
namespace Go.Proofs.YtplbbejdnahibaaDoor.Fx
open Go.RowKit Go.Proofs.YtplbbejdnahibaaDoor.Oct Go.Proofs.YtplbbejdnahibaaDoor.Bit Go.Proofs.YtplbbejdnahibaaDoor.Hf Go.Proofs.YtplbbejdnahibaaDoor.Inf
set_option linter.unusedVariables false
set_option linter.unusedSimpArgs false
set_option maxRecDepth 100000

theorem idx_first {W : List (List Bool)} {q : List Bool} {i : Nat} (h : W[i]? = some q) (hn : ∀ j, j < i → W[j]? ≠ some q) : W.idxOf q = i := by
  have hm : q ∈ W := List.mem_of_getElem? h
  have hl := List.idxOf_lt_length_of_mem hm
  have hg : W[W.idxOf q]? = some q := by rw [List.getElem?_eq_getElem hl, List.getElem_idxOf]
  rcases Nat.lt_trichotomy (W.idxOf q) i with h1 | h1 | h1
  · exact absurd hg (hn _ h1)
  · exact h1
  · refine absurd h1 (Nat.not_lt.2 ?_)
    obtain ⟨hi, he⟩ := List.getElem?_eq_some_iff.1 h
    exact Nat.le_of_not_lt fun hc => by
      have := List.not_of_lt_findIdx (p := (· == q)) (xs := W) (i := i) hc
      simp [he] at this
theorem strs_word {w : World} {C b off i : Nat} {W : List (List Bool)} (h : VRow w C (some ⟨b, off, none⟩) (strs (wordsU W))) (hi : i < W.length) : w.cell? ⟨b, off + i, none⟩ = some (.string (ds (W.getD i []))) := by
  have h1 := h.str i (by rw [wordsU_length]; exact hi)
  rw [h1]
  simp [wordsU, List.getD_eq_getElem?_getD, List.getElem?_eq_getElem hi, ds]
theorem getD_len {W : List (List Bool)} (h : ∀ m ∈ W, m.length ≤ 30) (i : Nat) : (W.getD i []).length ≤ 30 := by
  rw [List.getD_eq_getElem?_getD]
  rcases hx : W[i]? with _ | m
  · simp
  · exact h m (List.mem_of_getElem? hx)
theorem ds_list (a : List Bool) : (ds a).toList = a.map dig := bs_toList _
theorem ds_beq (a b : List Bool) : ((ds a).toList == (ds b).toList) = decide (a = b) := by
  rw [ds_list, ds_list, Bool.eq_iff_iff, beq_iff_eq, decide_eq_true_iff]
  refine ⟨fun h => ds_inj _ _ (by unfold ds; rw [h]), fun h => by rw [h]⟩
theorem ds_empty (a : List Bool) : (ds a).toList.isEmpty = a.isEmpty := by
  rw [ds_list]
  cases a <;> rfl
theorem prefix_take (s t : List Bool) : s.isPrefixOf t = decide (s.length ≤ t.length ∧ t.take s.length = s) := by
  rw [Bool.eq_iff_iff, decide_eq_true_iff, List.isPrefixOf_iff_prefix]
  constructor
  · rintro ⟨r, rfl⟩; simp
  · rintro ⟨_, h⟩; exact ⟨t.drop s.length, by
      conv => lhs; lhs; rw [← h]
      exact List.take_append_drop _ _⟩
set_option maxHeartbeats 2000000 in
theorem rbegins_any (s t : List Bool) (w : World) (hs : s.length ≤ 100000) (ht : t.length ≤ 100000) : Calls Tryd.prog 50 #[.string (ds s), .string (ds t)] w fun e w' => e = .returned (.bool (s.isPrefixOf t)) ∧ w = w' := by
  have s1 := ds_size s
  have s2 := ds_size t
  by_cases h1 : s.length ≤ t.length
  · have q1 : decide ((s.length : Int) ≤ (t.length : Int)) = true := by simpa using h1
    have q2 : decide ((t.length : Int) < (s.length : Int)) = false := by simpa using h1
    have x1 : (ds t).extract 0 s.length = ds (t.take s.length) := by rw [ds_extract]; rfl
    have x2 := ds_beq (t.take s.length) s
    have HP : Hid (s.isPrefixOf t = decide (t.take s.length = s)) := Lib.hid (by rw [prefix_take]; simp [h1])
    go_enter Tryd.func50, Tryd.ntmps50
    go_wp2_with fail
    go_ret
    exact ⟨by rw [HP.out]; rfl, rfl⟩
  · have q1 : decide ((s.length : Int) ≤ (t.length : Int)) = false := by simp; omega
    have q2 : decide ((t.length : Int) < (s.length : Int)) = true := by simp; omega
    have HP : Hid (s.isPrefixOf t = false) := Lib.hid (by rw [prefix_take]; simp [h1])
    go_enter Tryd.func50, Tryd.ntmps50
    go_wp2_with fail
    go_ret
    exact ⟨by rw [HP.out]; rfl, rfl⟩
theorem lookP_step {W : List (List Bool)} {D : List Bool} {k : Nat} (h : k < D.length) : lookP W (D.take k) (D.drop k) = if D.take (k + 1) ∈ W then (k + 1, .ok (W.idxOf (D.take (k + 1))))
    else if W.any (fun v => !v.isEmpty && (D.take (k + 1)).isPrefixOf v) then lookP W (D.take (k + 1)) (D.drop (k + 1)) else (k + 1, .error 6) := by
  rw [List.drop_eq_getElem_cons h, lookP, ← List.take_succ_eq_append_getElem h, List.length_take, Nat.min_eq_left (by omega)]
def pfx (S : List Bool) (v : List Bool) : Bool := !v.isEmpty && S.isPrefixOf v
def RdP (w : World) (W : List (List Bool)) (l : List Bool) (a : Nat) (e : Ending) (w' : World) : Prop :=
  ((∃ i k b, lookP W [] (l.drop a) = (k, .ok i) ∧ b = a + k ∧ e = .returned (.tuple #[.int .i64 (i : Int), .int .i64 (b : Int), .int .i64 0])) ∨
    ∃ c k b : Nat, lookP W [] (l.drop a) = (k, .error c) ∧ (c = 2 ∨ c = 6) ∧ b = a + k ∧ e = .returned (.tuple #[.int .i64 0, .int .i64 (b : Int), .int .i64 (c : Int)])) ∧ w = w'
set_option maxHeartbeats 4000000 in
theorem rread6_pos (q : Option Addr) (n cap : Nat) (W : List (List Bool)) (l : List Bool) (a : Nat) (w : World) (hv : VRow w w.heap.size q (strs (wordsU W))) (hn : W.length = n) (hn1 : 1 ≤ n) (hn3 : n ≤ 300) (hW : ∀ m ∈ W, m.length ≤ 30) (ha : a ≤ l.length) (hl : l.length ≤ 100000) :
    Calls Tryd.prog 45 #[.slice q n cap, .string (ds l), .int .i64 (a : Int)] w (RdP w W l a) := by
  have HV := Lib.hid hv
  have HN := Lib.hid hn
  have HW := Lib.hid hW
  obtain ⟨b, off, rfl, hbb⟩ := hv.addr (by rw [strs_length, wordsU_length]; omega)
  have hsz := ds_size l
  clear hv hn hW
  go_enter Tryd.func45, Tryd.ntmps45
  go_wp2_with fail
  go_loop [9, 10, 11, 12] (fun s _ _ _ => ∃ k1 : Nat, 1 ≤ k1 ∧ a + k1 ≤ l.length + 1 ∧ s = .int .i64 (k1 : Int) ∧ Hid (lookP W [] (l.drop a) = lookP W ((l.drop a).take (k1 - 1)) ((l.drop a).drop (k1 - 1)))) (fun s _ _ _ => l.length + 2 - (intOf s).toNat)
  case atStart => exact ⟨1, by omega, by omega, rfl, Lib.hid rfl⟩
  case round =>
    obtain ⟨k1, hk1, hk2, rfl, HK⟩ := hrel
    by_cases hlt : a + k1 ≤ l.length
    · obtain ⟨e1, he1⟩ : ∃ e1, a + k1 = e1 := ⟨_, rfl⟩
      have hek : (a : Int) + (k1 : Int) = (e1 : Int) := by omega
      have ql : decide ((e1 : Int) ≤ (l.length : Int)) = true := by simp; omega
      obtain ⟨S, hS⟩ : ∃ S, S = (l.drop a).take k1 := ⟨_, rfl⟩
      have x1 : (ds l).extract a e1 = ds S := by rw [ds_extract, hS, show e1 - a = k1 from by omega]
      have y1 : (a : Int) ≤ (e1 : Int) := by omega
      have y2 : (e1 : Int) ≤ (l.length : Int) := by omega
      have y3 : (0 : Int) ≤ (a : Int) := by omega
      have hSl : S.length = k1 := by rw [hS, List.length_take, List.length_drop]; omega
      have HSL := Lib.hid hSl
      have hst := lookP_step (W := W) (D := l.drop a) (k := k1 - 1) (by rw [List.length_drop]; omega)
      rw [show k1 - 1 + 1 = k1 from by omega, ← hS, ← HK.out] at hst
      have HST := Lib.hid hst
      have HE : Hid (e1 = a + k1 ∧ e1 ≤ l.length) := Lib.hid ⟨he1.symm, by omega⟩
      have HS := Lib.hid hS
      have he1' : e1 ≤ 100000 := by omega
      clear hst hS he1 hSl HK
      go_wp2_with fail
      go_loop [11, 12] (fun sm i => ∃ j : Nat, j ≤ n ∧ i = .int .i64 (j : Int) ∧ sm = .bool ((W.take j).any (pfx S)) ∧ Hid (∀ m ∈ W.take j, m ≠ S)) (fun _ i => n - (intOf i).toNat)
      case atStart => exact ⟨0, by omega, rfl, rfl, Lib.hid (fun m hm => by cases hm)⟩
      case round =>
        obtain ⟨j, hj, rfl, rfl, HJ⟩ := hrel
        by_cases hjn : j < n
        · have qj : decide ((j : Int) < (n : Int)) = true := by simpa using hjn
          have hjW : j < W.length := by rw [HN.out]; exact hjn
          have cw := strs_word HV.out hjW
          have htk : W.take (j + 1) = W.take j ++ [W.getD j []] := by
            rw [List.take_succ_eq_append_getElem hjW, List.getD_eq_getElem?_getD, List.getElem?_eq_getElem hjW]; rfl
          have hml : (W.getD j []).length ≤ 30 := getD_len HW.out j
          have hWj : W[j]? = some (W.getD j []) := by rw [List.getD_eq_getElem?_getD, List.getElem?_eq_getElem hjW]; rfl
          obtain ⟨m, hm⟩ : ∃ m, W.getD j [] = m := ⟨_, rfl⟩
          rw [hm] at cw htk hml hWj
          have i1 : (0 : Int) ≤ (j : Int) := by omega
          have i2 : (j : Int) < (n : Int) := by omega
          have x2 := ds_beq m S
          have hany : (W.take (j + 1)).any (pfx S) = ((W.take j).any (pfx S) || pfx S m) := by rw [htk, List.any_append]; simp
          obtain ⟨y, hy⟩ : ∃ y, (W.take j).any (pfx S) = y := ⟨_, rfl⟩
          rw [hy] at hany ⊢
          have HANY := Lib.hid hany
          have HTK := Lib.hid htk
          have HWJ := Lib.hid hWj
          clear hany htk hWj hm hy
          by_cases hmS : m = S
          · have x3 : decide (m = S) = true := by simpa using hmS
            rw [x3] at x2
            have HRES : Hid (lookP W [] (l.drop a) = (k1, .ok j)) := Lib.hid (by
              have h1 := HWJ.out
              rw [hmS] at h1
              rw [HST.out, if_pos (List.mem_of_getElem? h1), idx_first h1 (fun i hi he => HJ.out S (List.mem_iff_getElem?.2 ⟨i, by rw [List.getElem?_take, if_pos hi]; exact he⟩) rfl)])
            clear x3 hmS
            go_wp2_with fail
            go_ret3
            exact ⟨.inl ⟨j, k1, e1, HRES.out, HE.out.1, rfl⟩, rfl⟩
          · have x3 : decide (m = S) = false := by simpa using hmS
            rw [x3] at x2
            have HJ2 : Hid (∀ v ∈ W.take (j + 1), v ≠ S) := Lib.hid (by
              intro v hv
              rw [HTK.out] at hv
              rcases List.mem_append.1 hv with h | h
              · exact HJ.out v h
              · rw [List.mem_singleton.1 h]; exact hmS)
            clear x3 hmS
            have x4 := ds_empty m
            cases y
            · rcases hme : m with _ | ⟨m0, mt⟩
              · subst hme
                go_wp2_with fail
                go_round
                case rel => exact ⟨j + 1, by omega, by go_num, by rw [HANY.out]; rfl, HJ2⟩
                case measure => simp [intOf]; omega
              · rw [hme] at x4
                have HME := Lib.hid hme
                rw [← hme] at x4
                have HBG := Lib.hid (rbegins_any S m w (by rw [HSL.out]; omega) (by omega))
                have x5 : m.isEmpty = false := by rw [hme]; rfl
                rw [x5] at x4
                clear hme
                go_wp2_with fail
                refine HBG.out.mono ?_
                rintro e w' ⟨rfl, rfl⟩
                go_wp2_with fail
                go_round
                case rel => exact ⟨j + 1, by omega, by go_num, by rw [HANY.out]; simp [pfx, x5], HJ2⟩
                case measure => simp [intOf]; omega
            · go_wp2_with fail
              go_round
              case rel => exact ⟨j + 1, by omega, by go_num, by rw [HANY.out]; rfl, HJ2⟩
              case measure => simp [intOf]; omega
        · have hjn2 : j = n := by omega
          have qj : decide ((j : Int) < (n : Int)) = false := by simp; omega
          have qjn : decide (j < n) = false := by simp; omega
          have htk : W.take j = W := List.take_of_length_le (by rw [HN.out]; omega)
          rw [htk]
          have hno : S ∉ W := fun h => by
            have := HJ.out S (by rw [htk]; exact h)
            exact this rfl
          have hst := HST.out
          rw [if_neg hno] at hst
          change _ = if W.any (pfx S) = true then _ else _ at hst
          obtain ⟨y, hy⟩ : ∃ y, W.any (pfx S) = y := ⟨_, rfl⟩
          rw [hy] at hst ⊢
          clear hjn hjn2 htk hno hy
          cases y
          · rw [if_neg (by decide)] at hst
            have HRES := Lib.hid hst
            clear hst
            go_wp2_with fail
            go_ret3
            exact ⟨.inr ⟨6, k1, e1, HRES.out, .inr rfl, HE.out.1, rfl⟩, rfl⟩
          · rw [if_pos rfl] at hst
            have HRES := Lib.hid hst
            clear hst
            go_wp2_with fail
            go_round
            case rel => exact ⟨k1 + 1, by omega, by have := HE.out; omega, by go_num, Lib.hid (by rw [HRES.out, HS.out]; rfl)⟩
            case measure => simp [intOf]; have := HE.out; omega
    · have hk3 : a + (k1 - 1) = l.length := by omega
      have hd : (l.drop a).drop (k1 - 1) = [] := by rw [List.drop_drop, hk3, List.drop_length]
      have hlk : ((l.drop a).take (k1 - 1)).length = k1 - 1 := by rw [List.length_take, List.length_drop]; omega
      have HRES : Hid (lookP W [] (l.drop a) = (k1 - 1, .error 2)) := Lib.hid (by rw [HK.out, hd, lookP, hlk])
      have HKE := Lib.hid hk3
      have ql : decide ((a : Int) + (k1 : Int) ≤ (l.length : Int)) = false := by simp; omega
      clear hk3 hd hlt hlk
      go_wp2_with fail
      go_ret3
      exact ⟨.inr ⟨2, k1 - 1, l.length, HRES.out, .inl rfl, HKE.out.symm, rfl⟩, rfl⟩
end Go.Proofs.YtplbbejdnahibaaDoor.Fx

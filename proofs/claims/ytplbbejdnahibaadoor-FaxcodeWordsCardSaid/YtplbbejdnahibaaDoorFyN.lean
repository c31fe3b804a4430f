
/- The document's New of words: of words of which none begins another one it finds nothing wrong. -/
import Derived.Test.YtplbbejdnahibaaDoorFxQ
import Derived.Deep.QuietTactic
namespace Go.Proofs.YtplbbejdnahibaaDoor.Fx
open Go.RowKit Go.Proofs.YtplbbejdnahibaaDoor.Oct Go.Proofs.YtplbbejdnahibaaDoor.Bit Go.Proofs.YtplbbejdnahibaaDoor.Hf Go.Proofs.YtplbbejdnahibaaDoor.Inf
set_option linter.unusedVariables false
set_option linter.unusedSimpArgs false
set_option maxRecDepth 100000

theorem rlaid_no (q : Option Addr) (n cap : Nat) (W : List (List Bool)) (p : List Bool) (w : World) (hv : VRow w w.heap.size q (strs (wordsU W))) (hW : 1 ≤ W.length) (hn : n ≤ W.length) (hn3 : n ≤ 300) (hne : ∀ j, j < n → W.getD j [] ≠ p) :
    Calls Tryd.prog 49 #[.slice q n cap, .string (ds p)] w fun e w' => e = .returned (.bool false) ∧ w = w' := by
  obtain ⟨b, off, rfl, hbb⟩ := hv.addr (by rw [strs_length, wordsU_length]; omega)
  have HV := Lib.hid hv
  have HNE := Lib.hid hne
  clear hv hne
  go_enter Tryd.func49, Tryd.ntmps49
  go_wp2_with fail
  go_loop [5] (fun i => ∃ j : Nat, j ≤ n ∧ i = .int .i64 (j : Int)) (fun i => n - (intOf i).toNat)
  case atStart => exact ⟨0, by omega, rfl⟩
  case round =>
    obtain ⟨j, hj, rfl⟩ := hrel
    by_cases hjn : j < n
    · have qj : decide ((j : Int) < (n : Int)) = true := by simpa using hjn
      have cw := strs_word HV.out (i := j) (by omega)
      have x1 := HNE.out j hjn
      generalize W.getD j [] = m at cw x1
      have x2 := ds_beq m p
      have x3 : decide (m = p) = false := by simpa using x1
      rw [x3] at x2
      have i1 : (0 : Int) ≤ (j : Int) := by omega
      have i2 : (j : Int) < (n : Int) := by omega
      clear x1 x3
      go_wp2_with fail
      go_round
      case rel => exact ⟨j + 1, by omega, by go_num⟩
      case measure => simp [intOf]; omega
    · have hke : j = n := by omega
      subst hke
      have qj : decide ((j : Int) < (j : Int)) = false := by simp
      clear hjn
      go_wp2_with fail
      go_ret
      exact ⟨rfl, rfl⟩
set_option maxHeartbeats 2000000 in
theorem rlay_ok (q : Option Addr) (n cap : Nat) (W : List (List Bool)) (m : List Bool) (w : World) (hv : VRow w w.heap.size q (strs (wordsU W))) (hW : 1 ≤ W.length) (hn : n ≤ W.length) (hn3 : n ≤ 300) (hW30 : ∀ x ∈ W, x.length ≤ 30) (hm : m ≠ []) (hml : m.length ≤ 30)
    (hfree : ∀ j, j < n → ¬ W.getD j [] <+: m ∧ ¬ m <+: W.getD j []) : Calls Tryd.prog 33 #[.slice q n cap, .string (ds m)] w fun e w' => e = .returned (.int .i64 0) ∧ w = w' := by
  have HLA := Lib.hid (fun k => rlaid_no q n cap W (m.take k) w hv hW hn hn3 (fun j hj e => (hfree j hj).1 (by rw [e]; exact List.take_prefix _ _)))
  obtain ⟨b, off, rfl, hbb⟩ := hv.addr (by rw [strs_length, wordsU_length]; omega)
  have HV := Lib.hid hv
  have HF := Lib.hid hfree
  have H30 := Lib.hid hW30
  have hsz := ds_size m
  have hem : (ds m).toList.isEmpty = false := by rw [ds_empty]; cases m with | nil => exact absurd rfl hm | cons _ _ => rfl
  have HX := Lib.hid (fun k => show (ds m).extract 0 k = ds (m.take k) by rw [ds_extract]; rfl)
  have HG := Lib.hid (fun k (h : k < (ds m).size) (h' : k < m.length) => ds_get m k h h')
  have HBG := Lib.hid (fun j => rbegins_any m (W.getD j []) w (by omega) (by have := getD_len hW30 j; omega))
  generalize hds : ds m = S at *
  obtain ⟨L, hL⟩ : ∃ L, L = m.length := ⟨_, rfl⟩
  rw [← hL] at hsz hml
  have HL := Lib.hid hL
  clear hv hfree hW30 hm hds hL
  go_enter Tryd.func33, Tryd.ntmps33
  go_wp2_with fail
  go_loop [5] (fun i => ∃ k : Nat, k ≤ L ∧ i = .int .i64 (k : Int)) (fun i => L - (intOf i).toNat)
  case atStart => exact ⟨0, by omega, rfl⟩
  case round =>
    obtain ⟨k, hk, rfl⟩ := hrel
    by_cases hlt : k < L
    · have qk : decide ((k : Int) < (L : Int)) = true := by simpa using hlt
      have hkm : k < m.length := by rw [← HL.out]; exact hlt
      obtain ⟨y, hy⟩ : ∃ y, y = m[k] := ⟨_, rfl⟩
      have hg : ∀ h, S[k]'h = dig y := fun h => by rw [hy]; exact HG.out k h hkm
      have hx := HX.out k
      have HLK := Lib.hid (HLA.out k)
      have i1 : (0 : Int) ≤ (k : Int) := by omega
      have i2 : (k : Int) ≤ (L : Int) := by omega
      generalize ds (m.take k) = T at *
      clear hy
      cases y
      · have t1 : (((dig false).toNat : Int) != 48) = false := rfl
        go_wp2_with fail
        refine HLK.out.mono ?_
        rintro e w' ⟨rfl, rfl⟩
        go_wp2_with fail
        go_round
        case rel => exact ⟨k + 1, by omega, by go_num⟩
        case measure => simp [intOf]; omega
      · have t1 : (((dig true).toNat : Int) != 48) = true := rfl
        have t2 : (((dig true).toNat : Int) != 49) = false := rfl
        go_wp2_with fail
        refine HLK.out.mono ?_
        rintro e w' ⟨rfl, rfl⟩
        go_wp2_with fail
        go_round
        case rel => exact ⟨k + 1, by omega, by go_num⟩
        case measure => simp [intOf]; omega
    · have hke : k = L := by omega
      subst hke
      have qk : decide ((k : Int) < (k : Int)) = false := by simp
      clear hlt
      go_wp2_with fail
      go_loop [6] (fun i => ∃ j : Nat, j ≤ n ∧ i = .int .i64 (j : Int)) (fun i => n - (intOf i).toNat)
      case atStart => exact ⟨0, by omega, rfl⟩
      case round =>
        obtain ⟨j, hj, rfl⟩ := hrel
        by_cases hjn : j < n
        · have qj : decide ((j : Int) < (n : Int)) = true := by simpa using hjn
          have cw := strs_word HV.out (i := j) (by omega)
          have hf := HF.out j hjn
          have HB := Lib.hid (HBG.out j)
          have hp : m.isPrefixOf (W.getD j []) = false := by
            rcases h : m.isPrefixOf (W.getD j []) with _ | _
            · rfl
            · exact absurd (List.isPrefixOf_iff_prefix.1 h) hf.2
          have hne : (ds (W.getD j [])).toList.isEmpty = false := by
            rw [ds_empty]
            cases hx : W.getD j [] with
            | nil => exact absurd (by rw [hx]; exact List.nil_prefix) hf.1
            | cons _ _ => rfl
          rw [hp] at HB
          have i1 : (0 : Int) ≤ (j : Int) := by omega
          have i2 : (j : Int) < (n : Int) := by omega
          generalize ds (W.getD j []) = T at *
          clear hf hp
          go_wp2_with fail
          refine HB.out.mono ?_
          rintro e w' ⟨rfl, rfl⟩
          go_wp2_with fail
          go_round
          case rel => exact ⟨j + 1, by omega, by go_num⟩
          case measure => simp [intOf]; omega
        · have hke : j = n := by omega
          subst hke
          have qj : decide ((j : Int) < (j : Int)) = false := by simp
          clear hjn
          go_wp2_with fail
          go_ret
          exact ⟨rfl, rfl⟩
set_option maxHeartbeats 2000000 in
theorem rnew_ok (q : Option Addr) (n cap : Nat) (W : List (List Bool)) (w : World) (hv : VRow w w.heap.size q (strs (wordsU W))) (hnl : W.length = n) (hn1 : 1 ≤ n) (hn3 : n ≤ 300) (hnc : n ≤ cap) (hcm : cap ≤ maxLen) (hW30 : ∀ x ∈ W, x.length ≤ 30) (hfree : freeB W = true) :
    Calls Tryd.prog 13 #[.slice q n cap] w fun e w' => e = .returned (.int .i64 0) ∧ Drawn w w' := by
  obtain ⟨b, off, rfl, hbb⟩ := hv.addr (by rw [strs_length, wordsU_length]; omega)
  have HLAY : Hid (∀ (j : Nat) (V : World), j < n → Drawn w V → Calls Tryd.prog 33 #[.slice (some ⟨b, off, none⟩) j cap, .string (ds (W.getD j []))] V fun e w' => e = .returned (.int .i64 0) ∧ V = w') := Lib.hid fun j V hj hV => by
    obtain ⟨k, rfl⟩ := hV
    have hf := free_of hfree j (by omega)
    refine rlay_ok (some ⟨b, off, none⟩) j cap W (W.getD j []) (w.drewN k) hv (by omega) (by omega) (by omega) hW30 hf.1 (getD_len hW30 j) (fun i hi => ?_)
    have hi2 : W[i]? = some (W.getD i []) := by rw [List.getD_eq_getElem?_getD, List.getElem?_eq_getElem (by omega)]; rfl
    have hj2 : W[j]? = some (W.getD j []) := by rw [List.getD_eq_getElem?_getD, List.getElem?_eq_getElem (by omega)]; rfl
    have hfi := free_of hfree i (by omega)
    refine ⟨fun hp => ?_, fun hp => ?_⟩
    · have := hf.2 i _ hi2 hp hfi.1
      omega
    · have := hfi.2 j _ hj2 hp hf.1
      omega
  have HV := Lib.hid hv
  have HNL := Lib.hid hnl
  unfold maxLen at hcm
  clear hv hnl hW30 hfree
  go_enter Tryd.func13, Tryd.ntmps13
  go_wp2_with fail
  go_loopw [3, 4] (fun i _ wr => ∃ j : Nat, j ≤ n ∧ i = .int .i64 (j : Int) ∧ Hid (Drawn w wr)) (fun i _ _ => n - (intOf i).toNat)
  case atStart => exact ⟨0, by omega, rfl, Lib.hid ⟨0, rfl⟩⟩
  case round =>
    obtain ⟨j, hj, rfl, HK⟩ := hrel
    by_cases hjn : j < n
    · have qj : decide ((j : Int) < (n : Int)) = true := by simpa using hjn
      have cw : wr.cell? ⟨b, off + j, none⟩ = some (.string (ds (W.getD j []))) := by
        obtain ⟨k, rfl⟩ := HK.out
        exact strs_word HV.out (i := j) (by rw [HNL.out]; omega)
      have HLJ := Lib.hid (fun k => HLAY.out j (wr.drewN k) hjn (HK.out.more k))
      generalize ds (W.getD j []) = T at *
      have i1 : (0 : Int) ≤ (j : Int) := by omega
      have i2 : (j : Int) < (n : Int) := by omega
      have i3 : (j : Int) ≤ (cap : Int) := by omega
      go_wp2_with fail
      go_quiet ((go_at_call 33; exact quietly (HLJ.out _)))
      go_wp2_with fail
      go_roundw
      case rel => exact ⟨j + 1, by omega, by go_num, Lib.hid (HK.out.more _)⟩
      case measure => simp [intOf]; omega
    · have hke : j = n := by omega
      subst hke
      have qj : decide ((j : Int) < (j : Int)) = false := by simp
      clear hjn
      go_wp2_with fail
      go_ret
      exact ⟨rfl, HK.out⟩
end Go.Proofs.YtplbbejdnahibaaDoor.Fx

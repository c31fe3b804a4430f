
/- The document's Split, Words, Modes and Length. -/
import Derived.Test.YtplbbejdnahibaaDoorFyD
namespace Go.Proofs.YtplbbejdnahibaaDoor.Fx
open Go.RowKit Go.Proofs.YtplbbejdnahibaaDoor.Oct Go.Proofs.YtplbbejdnahibaaDoor.Bit Go.Proofs.YtplbbejdnahibaaDoor.Hf Go.Proofs.YtplbbejdnahibaaDoor.Inf
set_option linter.unusedVariables false
set_option linter.unusedSimpArgs false
set_option maxRecDepth 100000

/-- what stands between blanks -/
def splitB : List UInt8 → List UInt8 → List (List UInt8)
  | cur, [] => [cur]
  | cur, x :: r => if x = 32 then cur :: splitB [] r else splitB (cur ++ [x]) r
set_option maxHeartbeats 2000000 in
theorem rsplit_any (L : List UInt8) (w : World) (hL : L.length ≤ 5000) : Calls Tryd.prog 32 #[.string (bs L)] w (RowN w (strs (splitB [] L))) := by
  obtain ⟨i0, hi, hz0, hz1, hz2⟩ := info_parts Tryd.infoStr
  have hsz := bs_size L
  go_enter Tryd.func32, Tryd.ntmps32
  go_wp2_with fail
  go_loopw [3, 4, 5] (fun u s i wr => ∃ (k : Nat) (D : List (List UInt8)) (cur : List UInt8), k ≤ L.length ∧ i = .int .i64 (k : Int) ∧ s = .string (bs cur) ∧ cur.length ≤ k ∧ D.length ≤ k ∧ Hid (D ++ splitB cur (L.drop k) = splitB [] L) ∧ Hid (wr.ownsRow w.heap.size 9 1 u D.length (strs D)) ∧ Hid (Below w.heap.size w wr)) (fun _ _ i _ => L.length - (intOf i).toNat)
  case atStart => exact ⟨0, [], [], by omega, rfl, rfl, by simp, by simp, Lib.hid rfl, Lib.hid (by simpa [strs] using World.ownsRow_nil w w.heap.size 9 1), Lib.hid (Below.refl _ _)⟩
  case round =>
    obtain ⟨k, D, cur, hk, rfl, rfl, hcur, hD, HS, HO, HB⟩ := hrel
    by_cases hlt : k < L.length
    · obtain ⟨x, hx⟩ : ∃ x, x = L[k] := ⟨_, rfl⟩
      have hg : ∀ h, (bs L)[k]'h = x := fun h => (bs_get L k h hlt).trans hx.symm
      have hd : decide ((k : Int) < (L.length : Int)) = true := by simp; omega
      have hst := HS.out
      rw [List.drop_eq_getElem_cons hlt, ← hx, splitB] at hst
      have e1 := bs_extract L k (k + 1)
      rw [List.drop_eq_getElem_cons hlt, ← hx, show k + 1 - k = 1 by omega] at e1
      simp only [List.take_succ_cons, List.take_zero] at e1
      by_cases h32 : x = 32
      · rw [if_pos h32] at hst
        have hq : (((x.toNat : Nat) : Int) != 32) = false := by rw [h32]; rfl
        have HST : Hid ((D ++ [cur]) ++ splitB [] (L.drop (k + 1)) = splitB [] L) := Lib.hid (by rw [List.append_assoc]; exact hst)
        have hb1 : Below wr.heap.size wr (wr.alloc (.cells (strs [cur]).toArray 9)) := (Below.refl _ wr).alloc (Nat.le_refl _) _
        have HV := Lib.hid (vals_new wr (strs [cur]) 9 (0, 0))
        have HO2 := Lib.hid (own_below HO.out hb1)
        have HB2 := Lib.hid (HB.out.trans (hb1.mono HB.out.size))
        have HZ := Lib.hid HB2.out.size
        clear hb1 hst h32 e1 hx
        go_wp2_with (at_builtin; refine wpList_append_vals Tryd.underlying22 hi hz0 hz1 hz2 rfl (by decide) rfl _ _ rfl w.heap.size _ D.length (strs D) rfl HO2.out (some ⟨wr.heap.size, 0, none⟩) 1 1 (strs [cur]) rfl HV.out rfl (fun h => by cases h) strs_one (by omega) HZ.out ?_)
        intro v2 w2 hown2 _ hb3
        rw [← strs_append] at hown2
        have HO3 : Hid (w2.ownsRow w.heap.size 9 1 v2 (D ++ [cur]).length (strs (D ++ [cur]))) := Lib.hid (by rw [List.length_append]; exact hown2)
        have HB3 := Lib.hid (HB2.out.trans hb3)
        clear hown2 hb3
        go_wp2_with fail
        go_roundw
        case rel => exact ⟨k + 1, D ++ [cur], [], by omega, by go_num, rfl, by simp, by simp; omega, HST, HO3, HB3⟩
        case measure => simp [intOf]; omega
      · rw [if_neg h32] at hst
        have hq : (((x.toNat : Nat) : Int) != 32) = true := by
          simp
          intro e
          exact h32 (UInt8.toNat_inj.1 (by show x.toNat = 32; omega))
        have HST := Lib.hid hst
        have hcs := bs_size cur
        have h1s : (bs [x]).size = 1 := bs_size [x]
        have HAP := Lib.hid (bs_append cur [x])
        generalize hT : bs cur = T at *
        generalize hX : bs [x] = X at *
        have hk1 : (k : Int) + 1 ≤ (L.length : Int) := by omega
        have ht1 : ((k : Int) + 1).toNat = k + 1 := by omega
        have h0 : 0 ≤ (k : Int) := by omega
        clear hst h32 hx hT hX
        go_wp2_with fail
        go_roundw
        case rel => exact ⟨k + 1, D, cur ++ [x], by omega, by go_num, by rw [← HAP.out], by simp; omega, by omega, HST, HO, HB⟩
        case measure => simp [intOf]; omega
    · have hke : k = L.length := by omega
      have hd : decide ((k : Int) < (L.length : Int)) = false := by simp; omega
      have hst := HS.out
      rw [hke, List.drop_length, splitB] at hst
      have HST := Lib.hid hst
      have hb1 : Below wr.heap.size wr (wr.alloc (.cells (strs [cur]).toArray 9)) := (Below.refl _ wr).alloc (Nat.le_refl _) _
      have HV := Lib.hid (vals_new wr (strs [cur]) 9 (0, 0))
      have HO2 := Lib.hid (own_below HO.out hb1)
      have HB2 := Lib.hid (HB.out.trans (hb1.mono HB.out.size))
      have HZ := Lib.hid HB2.out.size
      clear hb1 hst hke
      go_wp2_with (at_builtin; refine wpList_append_vals Tryd.underlying22 hi hz0 hz1 hz2 rfl (by decide) rfl _ _ rfl w.heap.size _ D.length (strs D) rfl HO2.out (some ⟨wr.heap.size, 0, none⟩) 1 1 (strs [cur]) rfl HV.out rfl (fun h => by cases h) strs_one (by omega) HZ.out ?_)
      intro v2 w2 hown2 _ hb3
      rw [← strs_append, HST.out] at hown2
      have hll : (splitB [] L).length = D.length + 1 := by rw [← HST.out, List.length_append]; rfl
      obtain ⟨q, c, rfl, hq0, hlc, hcm, hv, hqb⟩ := vrow_own hown2 (by rw [strs_length]; exact hll)
      have HNV : Hid (NewV w (strs (splitB [] L)) q c w2) := Lib.hid ⟨hv, hq0, by rw [strs_length, hll]; exact hlc, hcm, hqb⟩
      have HB3 := Lib.hid (HB2.out.trans hb3)
      have HLL := Lib.hid hll
      clear hown2 hb3 hll hq0 hlc hcm hv hqb
      go_wp2_with fail
      go_ret
      exact ⟨HB3.out, q, c, by rw [strs_length, HLL.out]; rfl, HNV.out⟩
theorem rsplit_is (W : List (List Bool)) (s : ByteArray) (w : World) (hk : splitB [] s.data.toList = wordsU W) (hs : decide (s.data.toList.length ≤ 5000) = true) : Calls Tryd.prog 32 #[.string s] w (RowN w (strs (wordsU W))) := by
  have h := rsplit_any s.data.toList w (of_decide_eq_true hs)
  rw [hk, ← bs_of] at h
  exact h
theorem rwords_any (b : Bool) (w : World) : Calls Tryd.prog 8 #[.bool b] w (RowN w (strs (wordsU (wordsF b)))) := by
  go_enter Tryd.func8, Tryd.ntmps8
  cases b
  · go_wp2_with fail
    refine (rsplit_is (wordsF false) _ w (by kernel_rfl) (by kernel_rfl)).mono ?_
    rintro e w1 ⟨hb1, q, c, rfl, hv⟩
    have HB1 := Lib.hid hb1
    have HV := Lib.hid hv
    clear hb1 hv
    go_wp2_with fail
    go_ret
    exact ⟨HB1.out, q, c, rfl, HV.out⟩
  · go_wp2_with fail
    refine (rsplit_is (wordsF true) _ w (by kernel_rfl) (by kernel_rfl)).mono ?_
    rintro e w1 ⟨hb1, q, c, rfl, hv⟩
    have HB1 := Lib.hid hb1
    have HV := Lib.hid hv
    clear hb1 hv
    go_wp2_with fail
    go_ret
    exact ⟨HB1.out, q, c, rfl, HV.out⟩
theorem rmodes_any (w : World) : Calls Tryd.prog 12 #[] w (RowN w (strs (wordsU modesF))) := by
  go_enter Tryd.func12, Tryd.ntmps12
  go_wp2_with fail
  refine (rsplit_is modesF _ w (by kernel_rfl) (by kernel_rfl)).mono ?_
  rintro e w1 ⟨hb1, q, c, rfl, hv⟩
  have HB1 := Lib.hid hb1
  have HV := Lib.hid hv
  clear hb1 hv
  go_wp2_with fail
  go_ret
  exact ⟨HB1.out, q, c, rfl, HV.out⟩
theorem rlength_any (i : Nat) (hi : i < 104) (w : World) : Calls Tryd.prog 10 #[.int .i64 (i : Int)] w fun e w' => e = .returned (.int .i64 ((lenF i : Nat) : Int)) ∧ w = w' := by
  unfold lenF
  by_cases h : i < 64
  · have hd : decide ((i : Int) < (64 : Int)) = true := by simp; omega
    rw [if_pos h]
    clear h
    go_enter Tryd.func10, Tryd.ntmps10
    go_wp2_with fail
    go_ret
    exact ⟨rfl, rfl⟩
  · have hd : decide ((i : Int) < (64 : Int)) = false := by simp; omega
    rw [if_neg h, show ((64 * (i - 63) : Nat) : Int) = 64 * ((i : Int) - 63) by omega]
    clear h
    go_enter Tryd.func10, Tryd.ntmps10
    go_wp2_with fail
    go_ret
    exact ⟨rfl, rfl⟩
end Go.Proofs.YtplbbejdnahibaaDoor.Fx

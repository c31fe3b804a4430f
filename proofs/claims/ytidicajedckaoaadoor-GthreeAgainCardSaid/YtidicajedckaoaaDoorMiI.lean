
/- The document's Changes, in a row that is new, and Against. -/
import Derived.Test.YtidicajedckaoaaDoorMiH
import Derived.Test.YtidicajedckaoaaDoorMiG
import Derived.Test.YtidicajedckaoaaDoorRnK
import Derived.Deep.RegionHeld3
namespace Go.Proofs.YtidicajedckaoaaDoor.Rn
open Go.RowKit Go.Proofs.YtidicajedckaoaaDoor.Oct Go.Proofs.YtidicajedckaoaaDoor.Bit
open Go.Proofs.YtidicajedckaoaaDoor.Lp (VRow ints ints_length ints_append ints_one vrow_own wpList_append_vals Tryd.infoInt)
set_option linter.unusedVariables false
set_option linter.unusedSimpArgs false
set_option maxRecDepth 100000

set_option maxHeartbeats 4000000 in
theorem rchanges_new (P : List Bool) (w : World) (hs : P.length ≤ 100000) :
    Calls Tryd.prog 10 #[.string (ds P)] w fun e w' => Below w.heap.size w w' ∧ ∃ q c, e = .returned (.slice q (zl (changes P)).length c) ∧ VRow w' w'.heap.size q (ints (zl (changes P))) ∧ (q = none → c = 0) ∧ (zl (changes P)).length ≤ c ∧ c ≤ maxLen ∧ ∀ a, q = some a → w.heap.size ≤ a.block := by
  obtain ⟨i0, hi, hz0, hz1, hz2⟩ := info_parts Tryd.infoInt
  have hsz := ds_size P
  obtain ⟨n, hn⟩ : ∃ n, n = P.length := ⟨_, rfl⟩
  rw [← hn] at hsz hs
  have HN := Lib.hid hn
  clear hn
  go_enter Tryd.func10, Tryd.ntmps10
  go_wp2_with fail
  go_loopw [3, 4, 5] (fun v i _ wr => ∃ k : Nat, k ≤ n ∧ i = .int .i64 (k : Int) ∧ Hid (IOwn wr w.heap.size v (zl (changes (P.take k)))) ∧ Hid (Below w.heap.size w wr)) (fun _ i _ _ => n - (intOf i).toNat)
  case atStart => exact ⟨0, by omega, rfl, Lib.hid (by simpa [changes, chg, zl, IOwn, ints] using World.ownsRow_nil w w.heap.size 3 1), Lib.hid (Below.refl _ _)⟩
  case round =>
    obtain ⟨k, hk, rfl, HO, HB⟩ := hrel
    by_cases hlt : k < n
    · have hkl : k < P.length := by rw [← HN.out]; exact hlt
      have hd : decide ((k : Int) < (n : Int)) = true := by simp; omega
      have htk := List.take_succ_eq_append_getElem hkl
      have hsn := changes_snoc (P.take k) P[k]
      rw [← htk] at hsn
      rw [List.length_take, Nat.min_eq_left (by omega)] at hsn
      have hg : ∀ h, (ds P)[k]'h = dig P[k] := fun h => ds_get P k h hkl
      have hlen : (changes (P.take k)).length ≤ k := by
        have := chg_len (P.take k) false 0
        rw [List.length_take] at this
        unfold changes
        omega
      have hlz : (zl (changes (P.take k))).length ≤ k := by rw [zl_length]; exact hlen
      have HPV : Hid (0 < k → ∀ h, (ds P)[k - 1]'h = dig (lastP false (P.take k))) := Lib.hid fun h0 h => by
        have h1 : k - 1 < P.length := by omega
        rw [ds_get P (k - 1) h h1]
        have := lastP_get P false (k - 1) h1
        rw [show k - 1 + 1 = k from by omega] at this
        rw [this]
      have HL0 : Hid (k = 0 → dig (lastP false (P.take k)) = 48) := Lib.hid fun h0 => by subst h0; rfl
      generalize P[k] = b at hsn hg
      generalize lastP false (P.take k) = l at hsn HPV HL0
      have HSN := Lib.hid hsn
      clear htk hsn hkl hlen
      by_cases hbl : b = l
      · have HO2 : Hid (IOwn wr w.heap.size u3 (zl (changes (P.take (k + 1))))) := Lib.hid (by
          have := HSN.out
          rw [if_pos hbl, List.append_nil] at this
          rw [this]
          exact HO.out)
        subst hbl
        have hne : (((dig b).toNat : Int) != ((dig b).toNat : Int)) = false := by simp
        rcases Nat.eq_zero_or_pos k with h0 | h0
        · have e := HL0.out h0
          rw [e] at hg
          have hd3 : decide (0 < k) = false := by simp; omega
          clear HO HSN HPV hne e HL0 h0
          go_wp2_with fail
          go_roundw
          case rel => exact ⟨k + 1, by omega, by go_num, HO2, HB⟩
          case measure => simp [intOf]; omega
        · obtain ⟨j, hje⟩ : ∃ j, j = k - 1 := ⟨_, rfl⟩
          have hp : ∀ h, (ds P)[j]'h = dig b := by subst hje; exact HPV.out h0
          have hms : IntKind.i64.wrap ((k : Int) - 1) = (j : Int) := by rw [IntKind.wrap_i64]; omega
          have hms2 : (k : Int) - 1 = (j : Int) := by omega
          have j2 : j < n := by omega
          have hd3 : decide (0 < k) = true := by simpa using h0
          clear HO HSN HPV HL0 hje
          go_wp2_with fail
          go_roundw
          case rel => exact ⟨k + 1, by omega, by go_num, HO2, HB⟩
          case measure => simp [intOf]; omega
      · have hb1 : Below wr.heap.size wr (wr.alloc (.cells (ints [(k : Int)]).toArray 3)) := (Below.refl _ wr).alloc (Nat.le_refl _) _
        have HS := Lib.hid (ints_new wr [(k : Int)] 3 (0, 0))
        have HOW := Lib.hid (own_below HO.out hb1)
        have HB2 := Lib.hid (HB.out.trans (hb1.mono HB.out.size))
        have HZ := Lib.hid HB2.out.size
        have HSN2 : Hid (ints (zl (changes (P.take k))) ++ ints [(k : Int)] = ints (zl (changes (P.take (k + 1)))) ∧ (zl (changes (P.take k))).length + 1 = (zl (changes (P.take (k + 1)))).length) := Lib.hid (by
          have := HSN.out
          rw [if_neg hbl] at this
          rw [this, zl_append, ints_append]
          exact ⟨rfl, by simp [zl]⟩)
        have hne := dig_ne b l hbl
        clear HO HB hb1 HSN hbl
        rcases Nat.eq_zero_or_pos k with h0 | h0
        · have e := HL0.out h0
          rw [e] at hne
          have hd3 : decide (0 < k) = false := by simp; omega
          have hne2 : (((dig b).toNat : Int) != 48) = true := hne
          generalize dig b = x at hne2 hg
          clear HPV e HL0 h0 hne
          go_wp2_with (at_builtin; refine wpList_append_vals Tryd.underlying38 hi hz0 hz1 hz2 rfl (by decide) rfl _ _ rfl w.heap.size _ (zl (changes (P.take k))).length (ints (zl (changes (P.take k)))) rfl HOW.out (some ⟨wr.heap.size, 0, none⟩) 1 1 (ints [(k : Int)]) rfl HS.out rfl (fun h => by cases h) ints_one (by omega) HZ.out ?_)
          intro v2 w2 hown2 _ hb3
          rw [HSN2.out.1, HSN2.out.2] at hown2
          have HO3 : Hid (IOwn w2 w.heap.size v2 (zl (changes (P.take (k + 1))))) := Lib.hid hown2
          have HB3 := Lib.hid (HB2.out.trans hb3)
          clear hown2 hb3 HOW HS HZ HSN2 HB2
          go_wp2_with fail
          go_roundw
          case rel => exact ⟨k + 1, by omega, by go_num, HO3, HB3⟩
          case measure => simp [intOf]; omega
        · obtain ⟨j, hje⟩ : ∃ j, j = k - 1 := ⟨_, rfl⟩
          have hp : ∀ h, (ds P)[j]'h = dig l := by subst hje; exact HPV.out h0
          have hms : IntKind.i64.wrap ((k : Int) - 1) = (j : Int) := by rw [IntKind.wrap_i64]; omega
          have hms2 : (k : Int) - 1 = (j : Int) := by omega
          have j2 : j < n := by omega
          have hd3 : decide (0 < k) = true := by simpa using h0
          generalize dig b = x at hne hg
          generalize dig l = y at hne hp
          clear HPV HL0 hje
          go_wp2_with (at_builtin; refine wpList_append_vals Tryd.underlying38 hi hz0 hz1 hz2 rfl (by decide) rfl _ _ rfl w.heap.size _ (zl (changes (P.take k))).length (ints (zl (changes (P.take k)))) rfl HOW.out (some ⟨wr.heap.size, 0, none⟩) 1 1 (ints [(k : Int)]) rfl HS.out rfl (fun h => by cases h) ints_one (by omega) HZ.out ?_)
          intro v2 w2 hown2 _ hb3
          rw [HSN2.out.1, HSN2.out.2] at hown2
          have HO3 : Hid (IOwn w2 w.heap.size v2 (zl (changes (P.take (k + 1))))) := Lib.hid hown2
          have HB3 := Lib.hid (HB2.out.trans hb3)
          clear hown2 hb3 HOW HS HZ HSN2 HB2
          go_wp2_with fail
          go_roundw
          case rel => exact ⟨k + 1, by omega, by go_num, HO3, HB3⟩
          case measure => simp [intOf]; omega
    · have hke : k = n := by omega
      subst hke
      have hd : decide ((k : Int) < (k : Int)) = false := by simp
      rw [List.take_of_length_le (by rw [← HN.out]; exact Nat.le_refl _)] at HO
      obtain ⟨q, c, rfl, hq0, hqc, hcm, hv, hqn⟩ := vrow_own HO.out (by rw [ints_length])
      have HQ0 := Lib.hid hq0
      have HQC := Lib.hid hqc
      have HCM := Lib.hid hcm
      have HV := Lib.hid hv
      have HQN := Lib.hid hqn
      clear hq0 hv hqc hcm hqn HO
      go_wp2_with fail
      go_ret
      exact ⟨HB.out, q, c, rfl, HV.out, HQ0.out, HQC.out, HCM.out, HQN.out⟩
end Go.Proofs.YtidicajedckaoaaDoor.Rn
namespace Go.Proofs.YtidicajedckaoaaDoor.Mh
open Go.RowKit Go.Proofs.YtidicajedckaoaaDoor.Oct Go.Proofs.YtidicajedckaoaaDoor.Bit
open Go.Proofs.YtidicajedckaoaaDoor.Fx (tellF modesF RowN)
open Go.Proofs.YtidicajedckaoaaDoor.Hf (strs strs_length wordsU wordsU_length)
open Go.Proofs.YtidicajedckaoaaDoor.Rn (changes nextX nextF nextI zl zl_length nextI_zl Valid rchanges_new)
open Go.Proofs.YtidicajedckaoaaDoor.Lp (VRow ints ints_length)
set_option linter.unusedVariables false
set_option linter.unusedSimpArgs false
set_option maxRecDepth 100000

def ModesP (w : World) (e : Ending) (w' : World) : Prop :=
  Below w.heap.size w w' ∧ ∃ bb off c, e = .returned (.slice (some ⟨bb, off, none⟩) 10 c) ∧ bb < w'.heap.size ∧ ∀ i, i < 10 → w'.cell? ⟨bb, off + i, none⟩ = some (.string (ds (modesF.getD i [])))
end Go.Proofs.YtidicajedckaoaaDoor.Mh


/- The document's Fixed. -/
import Derived.Test.YtmcjhkdcbblnnaaIhA
namespace Go.Proofs.Ytmcjhkdcbblnnaa.Inf
open Go.RowKit Go.Proofs.Ytmcjhkdcbblnnaa.Oct Go.Proofs.Ytmcjhkdcbblnnaa.Bit Go.Proofs.Ytmcjhkdcbblnnaa.Hf
set_option linter.unusedVariables false
set_option linter.unusedSimpArgs false
set_option maxRecDepth 100000

def valA (k : Nat) : Nat := if k < 144 then 8 else if k < 256 then 9 else if k < 280 then 7 else 8
theorem fixedA_step : ∀ k, k < 288 → fixedA.take (k + 1) = fixedA.take k ++ [valA k] := by decide +kernel
theorem fixedB_step : ∀ k, k < 30 → fixedB.take (k + 1) = fixedB.take k ++ [5] := by decide +kernel
/-- a number put behind an own row of numbers -/
theorem own_one {w : World} {base : Nat} {v : Value} {L : List Nat} (h : IOwn w base v (castZ L)) (x : Nat) :
    (w.alloc (.cells #[.int .i64 (x : Int)] 3)).ownsRow base 3 1 v L.length (ints (castZ L)) ∧
    VRow (w.alloc (.cells #[.int .i64 (x : Int)] 3)) (w.alloc (.cells #[.int .i64 (x : Int)] 3)).heap.size (some ⟨w.heap.size, 0, none⟩) (ints [(x : Int)]) := by
  have hba : Below w.heap.size w (w.alloc (.cells #[.int .i64 (x : Int)] 3)) := (Below.refl _ w).alloc (Nat.le_refl _) _
  refine ⟨?_, vrow_blk (vs := ints [(x : Int)]) (T := 3) (fr := (0, 0)) Array.getElem?_push_size (by simp)⟩
  have h1 := own_below h hba
  rwa [castZ_length] at h1
theorem own_cat {w : World} {base : Nat} {v : Value} {L : List Nat} {x : Nat} (h : w.ownsRow base 3 1 v (L.length + 1) (ints (castZ L) ++ ints [(x : Int)])) : IOwn w base v (castZ (L ++ [x])) := by
  unfold IOwn
  rw [castZ_length, List.length_append, castZ_append, ints_append]
  exact h
set_option maxHeartbeats 4000000 in
theorem rfixed_any (w : World) : Calls Try.prog 10 #[] w (FixdP w) := by
  obtain ⟨i0, hi, hz0, hz1, hz2⟩ := info_parts Try.infoInt
  go_enter Try.func10, Try.ntmps10
  go_wp2_with fail
  go_loopw [2, 4, 5] (fun v i _ wr => ∃ k : Nat, k ≤ 288 ∧ i = .int .i64 (k : Int) ∧ Hid (IOwn wr w.heap.size v (castZ (fixedA.take k)) ∧ Below w.heap.size w wr)) (fun _ i _ _ => 288 - (intOf i).toNat)
  case atStart => exact ⟨0, by omega, rfl, Lib.hid ⟨World.ownsRow_nil w _ 3 1, Below.refl _ _⟩⟩
  case round =>
    obtain ⟨k, hk, rfl, HB⟩ := hrel
    rename_i v2
    by_cases hlt : k < 288
    · have ql : decide ((k : Int) < 288) = true := by simp; omega
      have hfl : (fixedA.take k).length = k := by rw [List.length_take]; have : fixedA.length = 288 := by decide
                                                  omega
      have HST := Lib.hid (fixedA_step k hlt)
      obtain ⟨x, hx⟩ : ∃ x, x = valA k := ⟨_, rfl⟩
      obtain ⟨ho, hv⟩ := own_one HB.out.1 x
      rw [hfl] at ho
      rw [← hx] at HST
      have HO := Lib.hid ho
      have HV := Lib.hid hv
      have HX := Lib.hid hx
      have HFL := Lib.hid hfl
      have hba : Below wr.heap.size wr (wr.alloc (.cells #[.int .i64 (x : Int)] 3)) := (Below.refl _ wr).alloc (Nat.le_refl _) _
      have HBA := Lib.hid (HB.out.2.trans (hba.mono HB.out.2.size))
      have HBZ := Lib.hid HBA.out.size
      clear ho hv hba hfl
      have hcase : (x = 8 ∧ decide (144 ≤ (k : Int)) = false ∧ decide (256 ≤ (k : Int)) = false) ∨ (x = 9 ∧ decide (144 ≤ (k : Int)) = true ∧ decide ((k : Int) < 256) = true ∧ decide (256 ≤ (k : Int)) = false) ∨
          (x = 7 ∧ decide (144 ≤ (k : Int)) = true ∧ decide ((k : Int) < 256) = false ∧ decide (256 ≤ (k : Int)) = true ∧ decide ((k : Int) < 280) = true) ∨
          (x = 8 ∧ decide (144 ≤ (k : Int)) = true ∧ decide ((k : Int) < 256) = false ∧ decide (256 ≤ (k : Int)) = true ∧ decide ((k : Int) < 280) = false) := by
        rw [hx]
        unfold valA
        by_cases h1 : k < 144
        · left; rw [if_pos h1]; simp; omega
        · right
          by_cases h2 : k < 256
          · left; rw [if_neg h1, if_pos h2]; simp; omega
          · right
            by_cases h3 : k < 280
            · left; rw [if_neg h1, if_neg h2, if_pos h3]; simp; omega
            · right; rw [if_neg h1, if_neg h2, if_neg h3]; simp; omega
      clear hx
      rcases hcase with ⟨hxx, q1, q2⟩ | ⟨hxx, q1, q2, q3⟩ | ⟨hxx, q1, q2, q3, q4⟩ | ⟨hxx, q1, q2, q3, q4⟩
      all_goals
        subst hxx
        go_wp2_with (at_builtin; refine wpList_append_vals Try.underlying30 hi hz0 hz1 hz2 rfl (by decide) rfl _ _ rfl w.heap.size _ k (ints (castZ (fixedA.take k))) rfl HO.out (some ⟨wr.heap.size, 0, none⟩) 1 1 (ints [_]) rfl HV.out rfl (fun h => by cases h) ints_one (by omega) HBZ.out ?_)
        intro v9 w9 hown9 hgrow9 hb9
        have HN : Hid (IOwn w9 w.heap.size v9 (castZ (fixedA.take (k + 1))) ∧ Below w.heap.size w w9) := Lib.hid ⟨by
          rw [HST.out]
          exact own_cat (by rw [HFL.out]; exact hown9), HBA.out.trans hb9⟩
        clear hown9 hgrow9 hb9
        go_wp2_with fail
        go_roundw
        case rel => exact ⟨k + 1, by omega, by first | rfl | (push_cast; rfl), HN⟩
        case measure => simp [intOf]; omega
    · have hkn : k = 288 := by omega
      have ql : decide ((k : Int) < 288) = false := by simp; omega
      have hall : fixedA.take 288 = fixedA := by decide +kernel
      have HA := HB.out
      rw [hkn, hall] at HA
      obtain ⟨wA, rfl⟩ : ∃ wA, wA = wr := ⟨_, rfl⟩
      obtain ⟨q, c, hv, hq0, hqc, hqm, hqr, _⟩ := vrow_own HA.1 (ints_length _)
      rw [castZ_length] at hv
      have hfa : fixedA.length = 288 := by decide
      rw [hfa] at hv
      subst hv
      have HB2 := Lib.hid HA.2
      have HQR := Lib.hid hqr
      have HQ0 := Lib.hid hq0
      have hwz := HA.2.size
      clear HB hall HA hqr hq0 hqc hqm hfa hkn
      go_wp2_with fail
      go_loopw [3, 6] (fun v i wq => ∃ k : Nat, k ≤ 30 ∧ i = .int .i64 (k : Int) ∧ Hid (IOwn wq wA.heap.size v (castZ (fixedB.take k)) ∧ Below wA.heap.size wA wq)) (fun _ i _ => 30 - (intOf i).toNat)
      case atStart => exact ⟨0, by omega, rfl, Lib.hid ⟨World.ownsRow_nil wA _ 3 1, Below.refl _ _⟩⟩
      case round =>
        clear hlt hk ql
        obtain ⟨k, hk, rfl, HB⟩ := hrel
        by_cases hlt2 : k < 30
        · have ql : decide ((k : Int) < 30) = true := by simp; omega
          have hfl : (fixedB.take k).length = k := by rw [List.length_take]; have : fixedB.length = 30 := by decide
                                                      omega
          have HST := Lib.hid (fixedB_step k hlt2)
          obtain ⟨ho, hv⟩ := own_one HB.out.1 5
          rw [hfl] at ho
          have HO := Lib.hid ho
          have HV := Lib.hid hv
          have HFL := Lib.hid hfl
          have hba : Below wr.heap.size wr (wr.alloc (.cells #[.int .i64 ((5 : Nat) : Int)] 3)) := (Below.refl _ wr).alloc (Nat.le_refl _) _
          have HBA := Lib.hid (HB.out.2.trans (hba.mono HB.out.2.size))
          have HBZ := Lib.hid HBA.out.size
          clear ho hv hba hfl
          go_wp2_with (at_builtin; refine wpList_append_vals Try.underlying30 hi hz0 hz1 hz2 rfl (by decide) rfl _ _ rfl wA.heap.size _ k (ints (castZ (fixedB.take k))) rfl HO.out (some ⟨wr.heap.size, 0, none⟩) 1 1 (ints [_]) rfl HV.out rfl (fun h => by cases h) ints_one (by omega) HBZ.out ?_)
          intro v9 w9 hown9 hgrow9 hb9
          have HN : Hid (IOwn w9 wA.heap.size v9 (castZ (fixedB.take (k + 1))) ∧ Below wA.heap.size wA w9) := Lib.hid ⟨by
            rw [HST.out]
            exact own_cat (by rw [HFL.out]; exact hown9), HBA.out.trans hb9⟩
          clear hown9 hgrow9 hb9
          go_wp2_with fail
          go_roundw
          case rel => exact ⟨k + 1, by omega, by first | rfl | (push_cast; rfl), HN⟩
          case measure => simp [intOf]; omega
        · have hkn : k = 30 := by omega
          subst hkn
          have hall : fixedB.take 30 = fixedB := by decide +kernel
          have HA := HB.out
          rw [hall] at HA
          obtain ⟨r, d, hv, hr0, hrc, hrm, hrr, _⟩ := vrow_own HA.1 (ints_length _)
          rw [castZ_length] at hv
          have hfb : fixedB.length = 30 := by decide
          rw [hfb] at hv
          subst hv
          have HRES : Hid (FixdP w (.returned (.tuple #[.slice q 288 c, .slice r 30 d])) wr) := Lib.hid ⟨HB2.out.trans (HA.2.mono hwz), q, c, r, d, rfl, (HQR.out.below HA.2 (Nat.le_refl _)).mono HA.2.size, HQ0.out, hrr, hr0⟩
          clear HB HA hall hr0 hrc hrm hrr hfb
          go_wp2_with fail
          go_ret2
          exact HRES.out
end Go.Proofs.Ytmcjhkdcbblnnaa.Inf

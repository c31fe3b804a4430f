
/- The law's pixels; the document's colour, run, Row. -/
import Derived.Test.YtidicajedckaoaaGreatDoorMhP
import Derived.Test.YtidicajedckaoaaGreatDoorFyI
import Derived.Test.YtidicajedckaoaaGreatDoorRnK
import Derived.BigQuiet
namespace Go.Proofs.YtidicajedckaoaaGreatDoor.Mh
open Go.RowKit Go.Proofs.YtidicajedckaoaaGreatDoor.Oct Go.Proofs.YtidicajedckaoaaGreatDoor.Bit
open Go.Proofs.YtidicajedckaoaaGreatDoor.Fx (tellF rtell_any)
set_option linter.unusedVariables false
set_option linter.unusedSimpArgs false
set_option maxRecDepth 100000

theorem rcolour_any (b : Bool) (w : World) : Calls Tryz.prog 40 #[.bool b] w fun e w' => e = .returned (.string (ds [b])) ∧ w = w' := by
  cases b
  · go_enter Tryz.func40, Tryz.ntmps40
    go_wp2_with fail
    go_ret
    exact ⟨rfl, rfl⟩
  · go_enter Tryz.func40, Tryz.ntmps40
    go_wp2_with fail
    go_ret
    exact ⟨rfl, rfl⟩
set_option maxHeartbeats 1000000 in
theorem rrun_any (n : Nat) (b : Bool) (w : World) (hn : n ≤ 100000) : Calls Tryz.prog 53 #[.int .i64 (n : Int), .bool b] w fun e w' => e = .returned (.string (ds (List.replicate n b))) ∧ w = w' := by
  have hc := fun w => rcolour_any b w
  have hz1 : (ds [b]).size = 1 := by rw [ds_size]; rfl
  have HAP := Lib.hid (fun k : Nat => (ds_append (List.replicate k b) [b]).trans (by rw [← List.replicate_succ']))
  have HSZ := Lib.hid (fun k : Nat => (ds_size (List.replicate k b)).trans (by rw [List.length_replicate]))
  generalize ds [b] = C at *
  have HC := Lib.hid hc
  clear hc
  go_enter Tryz.func53, Tryz.ntmps53
  go_wp2_with fail
  go_loop [5, 6] (fun s i => ∃ k : Nat, k ≤ n ∧ i = .int .i64 (k : Int) ∧ s = .string (ds (List.replicate k b))) (fun _ i => n - (intOf i).toNat)
  case atStart => exact ⟨0, by omega, rfl, rfl⟩
  case round =>
    obtain ⟨k, hk, rfl, rfl⟩ := hrel
    by_cases hlt : k < n
    · have hd : decide ((k : Int) < (n : Int)) = true := by simp; omega
      have hs := HSZ.out k
      have hap := Lib.hid (HAP.out k)
      generalize hT : ds (List.replicate k b) = T at *
      clear hT
      go_wp2_with fail
      refine (HC.out _).mono ?_
      rintro e w' ⟨rfl, rfl⟩
      go_wp2_with fail
      go_round
      case rel => exact ⟨k + 1, by omega, by go_num, by rw [hap.out]⟩
      case measure => simp [intOf]; omega
    · have hke : k = n := by omega
      subst hke
      have hd : decide ((k : Int) < (k : Int)) = false := by simp
      go_wp2_with fail
      go_ret
      exact ⟨rfl, rfl⟩
theorem and1f : ∀ m : Fin 256, bits .and .u8 ((m.val : Nat) : Int) 1 = ((m.val % 2 : Nat) : Int) := by decide +kernel
theorem and1b (m : Nat) (h : m < 256) : bits .and .u8 (m : Int) 1 = ((m % 2 : Nat) : Int) := and1f ⟨m, h⟩
/-- a text's bytes as white and black -/
def pixB (xs : List UInt8) : List Bool := xs.map fun c => c.toNat % 2 == 1
theorem pixB_length (xs : List UInt8) : (pixB xs).length = xs.length := by simp [pixB]
theorem one_black : ({ data := #[48, 49] } : ByteArray).extract 1 2 = ds [true] := by show (ds [false, true]).extract 1 2 = _; rw [ds_extract]; rfl
theorem one_white : ({ data := #[48, 49] } : ByteArray).extract 0 1 = ds [false] := by show (ds [false, true]).extract 0 1 = _; rw [ds_extract]; rfl
theorem ds_one (X : List Bool) (k : Nat) (h : k < X.length) : (ds X).extract k (k + 1) = ds [X[k]] := by
  rw [ds_extract, show k + 1 - k = 1 from by omega, List.drop_eq_getElem_cons h]
  rfl
theorem restR_len (b : Bool) (n : Nat) : ∀ (l : List Bool) (b : Bool) (n : Nat), n + l.length ≤ 32768 → (restR b n l).length ≤ 200 * (l.length + 1)
  | [], b, n, h => by
    rw [restR_nil]
    simpa using tellF_len b n (by simpa using h)
  | x :: l, b, n, h => by
    rw [List.length_cons] at h ⊢
    by_cases hx : x = b
    · subst hx
      rw [restR_same]
      have := restR_len b n l x (n + 1) (by omega)
      omega
    · have hb : (!b) = x := by cases b <;> cases x <;> simp_all
      subst hb
      rw [restR_turn, List.length_append]
      have h1 := restR_len b n l (!b) 1 (by omega)
      have h2 := tellF_len b n (by omega)
      omega
set_option maxHeartbeats 4000000 in
theorem rrow_any (X : List Bool) (w : World) (hX : X.length ≤ 1000) : Calls Tryz.prog 21 #[.string (ds X)] w fun e w' => e = .returned (.string (ds (rowF X))) ∧ Below w.heap.size w w' := by
  have hlen : (rowF X).length ≤ 200 * (X.length + 1) := by
    rw [rowF_runs]
    exact restR_len false 0 X false 0 (by omega)
  have hsz := ds_size X
  have HRF := Lib.hid (rowF_runs X)
  obtain ⟨len, hlen2⟩ : ∃ len, len = X.length := ⟨_, rfl⟩
  have HL := Lib.hid hlen2
  rw [← hlen2] at hsz hX hlen
  have HFL := Lib.hid hlen
  clear hlen2 hlen
  go_enter Tryz.func21, Tryz.ntmps21
  go_wp2_with fail
  go_loopw [3, 4, 5, 6] (fun s sb sn i wr => ∃ (k n : Nat) (b : Bool) (d : List Bool), k ≤ len + 1 ∧ i = .int .i64 (k : Int) ∧ s = .string (ds d) ∧ sb = .bool b ∧ sn = .int .i64 (n : Int) ∧ n ≤ k + 1 ∧ d.length ≤ 300000 ∧ ((k ≤ len ∧ Hid (d ++ restR b n (X.drop k) = rowF X)) ∨ (k = len + 1 ∧ d = rowF X)) ∧ Hid (Below w.heap.size w wr)) (fun _ _ _ i _ => len + 1 - (intOf i).toNat)
  case atStart => exact ⟨0, 0, false, [], by omega, rfl, rfl, rfl, rfl, by omega, by simp, .inl ⟨by omega, Lib.hid (by rw [HRF.out]; rfl)⟩, Lib.hid (Below.refl _ _)⟩
  case round =>
    obtain ⟨k, n, b, d, hk, rfl, rfl, rfl, rfl, hn, hdl, hway, HB⟩ := hrel
    have hds := ds_size d
    rcases hway with ⟨hkl, HD⟩ | ⟨hke, hde⟩
    · have hd : decide (k ≤ len) = true := by simpa using hkl
      have HTL := Lib.hid (fun w9 => rtell_any n b w9 (by omega))
      have hts := ds_size (tellF b n)
      have htl := tellF_len b n (by omega)
      have HAP := Lib.hid (ds_append d (tellF b n))
      by_cases hlt : k < len
      · have hkx : k < X.length := by rw [← HL.out]; exact hlt
        have hd2 : decide (k < len) = true := by simpa using hlt
        have x1 := ds_one X k hkx
        have h2 := HD.out
        rw [List.drop_eq_getElem_cons hkx] at h2
        generalize X[k] = x at *
        have hzx : (ds [x]).size = 1 := by rw [ds_size]; rfl
        have hk1 : (k : Int) + 1 ≤ (len : Int) := by omega
        have ht1 : ((k : Int) + 1).toNat = k + 1 := by omega
        have h0 : (0 : Int) ≤ (k : Int) := by omega
        by_cases hx : x = b
        · subst hx
          rw [restR_same] at h2
          have HD2 := Lib.hid h2
          clear h2 hkx HTL hts htl HAP hkl
          go_wp2_with fail
          go_quiet ((go_at_call 40; exact quietly (rcolour_any x _)))
          try go_wp2_with fail
          have HB2 := Lib.hid (HB.out.trans (((show Drawn wr (wr.drewN nq) from ⟨nq, rfl⟩).below wr.heap.size).mono HB.out.size))
          go_roundw
          case rel => exact ⟨k + 1, n + 1, x, d, by omega, by go_num, rfl, rfl, by go_num, by omega, hdl, .inl ⟨by omega, HD2⟩, HB2⟩
          case measure => simp [intOf]; omega
        · have hb : (!b) = x := by cases b <;> cases x <;> simp_all
          subst hb
          rw [restR_turn, ← List.append_assoc] at h2
          have hd3 : (d ++ tellF b n).length ≤ 300000 := by
            have h3 := congrArg List.length h2
            rw [List.length_append] at h3
            have := HFL.out
            omega
          have HD2 := Lib.hid h2
          have heq : ((ds [!b]).toList == (ds [b]).toList) = false := by rw [Fx.ds_beq]; cases b <;> rfl
          generalize hT : ds (tellF b n) = T at *
          generalize hS : ds d = S at *
          clear h2 hkx hkl hT hS hx
          go_wp2_with fail
          go_quiet ((go_at_call 40; exact quietly (rcolour_any b _)))
          have HB2 := Lib.hid (HB.out.trans (((show Drawn wr (wr.drewN nq) from ⟨nq, rfl⟩).below wr.heap.size).mono HB.out.size))
          have HT2 := Lib.hid (HTL.out (wr.drewN nq))
          try go_wp2_with fail
          refine HT2.out.mono ?_
          rintro e w2 ⟨rfl, hb2⟩
          have HB3 := Lib.hid (HB2.out.trans (hb2.mono HB2.out.size))
          clear hb2 HT2 HTL
          go_wp2_with fail
          go_roundw
          case rel => exact ⟨k + 1, 1, !b, d ++ tellF b n, by omega, by go_num, by rw [← HAP.out], rfl, rfl, by omega, hd3, .inl ⟨by omega, HD2⟩, HB3⟩
          case measure => simp [intOf]; omega
      · have hke : k = len := by omega
        subst hke
        have hd2 : decide (k < k) = false := by simp
        have h2 := HD.out
        rw [List.drop_of_length_le (by rw [← HL.out]; exact Nat.le_refl _), restR_nil] at h2
        have hd3 : (d ++ tellF b n).length ≤ 300000 := by
          rw [h2]
          have := HFL.out
          omega
        have HD2 := Lib.hid h2
        have hdl2 : d.length ≤ 300000 := hdl
        generalize hT : ds (tellF b n) = T at *
        generalize hS : ds d = S at *
        clear h2 hT hS
        go_wp2_with fail
        go_quiet (fail)
        have HB2 := Lib.hid (HB.out.trans (((show Drawn wr (wr.drewN nq) from ⟨nq, rfl⟩).below wr.heap.size).mono HB.out.size))
        have HT2 := Lib.hid (HTL.out (wr.drewN nq))
        go_wp2_with fail
        refine HT2.out.mono ?_
        rintro e w2 ⟨rfl, hb2⟩
        have HB3 := Lib.hid (HB2.out.trans (hb2.mono HB2.out.size))
        clear hb2 HT2 HTL
        go_wp2_with fail
        go_roundw
        case rel => exact ⟨k + 1, n, b, d ++ tellF b n, by omega, by go_num, by rw [← HAP.out], rfl, rfl, by omega, hd3, .inr ⟨rfl, HD2.out⟩, HB3⟩
        case measure => simp [intOf]
    · have hd : decide (k ≤ len) = false := by simp; omega
      subst hde
      go_wp2_with fail
      go_ret
      exact ⟨rfl, HB.out⟩
end Go.Proofs.YtidicajedckaoaaGreatDoor.Mh

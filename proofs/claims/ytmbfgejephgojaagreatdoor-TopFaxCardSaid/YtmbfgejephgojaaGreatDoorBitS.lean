
/- Contracts of isWord and of the document's Digits; what nil readers and writers answer. -/
import Derived.Test.YtmbfgejephgojaaGreatDoorBitF
namespace Go.Proofs.YtmbfgejephgojaaGreatDoor.Bit
open Go.RowKit Go.Proofs.YtmbfgejephgojaaGreatDoor.Oct
set_option linter.unusedVariables false
set_option maxRecDepth 20000

/-- no other characters than 0 and 1 -/
def wordB (xs : List UInt8) : Bool := xs.all fun c => c == 48 || c == 49
theorem wordB_take (xs : List UInt8) (k : Nat) (h : k < xs.length) : wordB (xs.take (k + 1)) = (wordB (xs.take k) && (xs[k] == 48 || xs[k] == 49)) := by
  unfold wordB
  rw [take_succ' xs k h, List.all_append]
  simp
theorem wordB_bad (xs : List UInt8) (k : Nat) (h : k < xs.length) (h0 : xs[k] ≠ 48) (h1 : xs[k] ≠ 49) : wordB xs = false := by
  unfold wordB
  rw [List.all_eq_false]
  exact ⟨xs[k], List.getElem_mem h, by simp [h0, h1]⟩
theorem wordB_digits {xs : List UInt8} (h : wordB xs = true) : ∃ l : List Bool, xs = l.map dig := by
  refine ⟨xs.map fun c => c == 49, ?_⟩
  rw [List.map_map]
  have h' := List.all_eq_true.1 h
  conv => lhs; rw [← List.map_id xs]
  refine List.map_congr_left fun c hc => ?_
  have := h' c hc
  simp at this
  rcases this with rfl | rfl <;> rfl
theorem wordB_dig (l : List Bool) : wordB (l.map dig) = true := by
  unfold wordB
  rw [List.all_eq_true]
  intro c hc
  simp at hc
  rcases hc with ⟨_, rfl⟩ | ⟨_, rfl⟩ <;> rfl
theorem u8_ne (x : UInt8) (n : Nat) (hn : n < 256) (h : x ≠ UInt8.ofNat n) : ((x.toNat : Int) != (n : Int)) = true := by
  simp
  intro e
  apply h
  apply UInt8.toNat_inj.1
  rw [UInt8.toNat_ofNat', Nat.mod_eq_of_lt hn]
  omega
set_option maxHeartbeats 400000 in
theorem isWord_any (xs : List UInt8) (w : World) (hs : xs.length ≤ 2000000) : Calls Tryz.prog 47 #[.string (bs xs)] w fun e w' => e = .returned (.bool (wordB xs)) ∧ w = w' := by
  have hsz := bs_size xs
  go_enter Tryz.func47, Tryz.ntmps47
  go_wp2_with fail
  go_loop [3, 6] (fun u i => ∃ k : Nat, k ≤ xs.length ∧ i = .int .i64 (k : Int) ∧ Hid (wordB (xs.take k) = true)) (fun _ i => xs.length - (intOf i).toNat)
  case atStart => exact ⟨0, Nat.zero_le _, rfl, rfl⟩
  case round =>
    obtain ⟨k, hk, rfl, hH⟩ := hrel
    by_cases hlt : k < xs.length
    · obtain ⟨x, hx⟩ : ∃ x, x = xs[k] := ⟨_, rfl⟩
      have hg : ∀ h, (bs xs)[k]'h = x := fun h => (bs_get xs k h hlt).trans hx.symm
      have HT := Lib.hid (wordB_take xs k hlt)
      have HB := Lib.hid (wordB_bad xs k hlt)
      rw [← hx] at HT HB
      clear hx
      by_cases h48 : x = 48
      · subst h48
        have hb1 : (((48 : UInt8).toNat : Int) != 48) = false := by decide
        go_wp2_with fail
        go_round
        case rel => exact ⟨k + 1, by omega, by go_num, by show wordB (xs.take (k + 1)) = true; rw [HT.out, hH.out]; rfl⟩
        case measure => simp [intOf]; omega
      · by_cases h49 : x = 49
        · subst h49
          have hb1 : (((49 : UInt8).toNat : Int) != 48) = true := by decide
          have hb2 : (((49 : UInt8).toNat : Int) != 49) = false := by decide
          go_wp2_with fail
          go_round
          case rel => exact ⟨k + 1, by omega, by go_num, by show wordB (xs.take (k + 1)) = true; rw [HT.out, hH.out]; rfl⟩
          case measure => simp [intOf]; omega
        · have hb1 := u8_ne x 48 (by omega) h48
          have hb2 := u8_ne x 49 (by omega) h49
          have hbad := HB.out h48 h49
          have HBAD := Lib.hid hbad
          simp only [Int.cast_ofNat_Int] at hb1 hb2
          clear h48 h49 hbad
          go_wp2_with fail
          go_ret
          exact ⟨by rw [HBAD.out]; rfl, rfl⟩
    · have hkl : k = xs.length := by omega
      subst hkl
      have hH' := hH.out
      rw [List.take_length] at hH'
      have HW := Lib.hid hH'
      clear hH'
      go_wp2_with fail
      go_ret
      exact ⟨by rw [HW.out]; rfl, rfl⟩
theorem left_nil (w : World) : Calls Tryz.prog 74 #[.pointer none] w fun e w' => e = .returned (.int .i64 0) ∧ w = w' := by
  go_enter Tryz.func74, Tryz.ntmps74
  go_wp2
  go_ret
  exact ⟨rfl, rfl⟩
theorem ralign_nil (w : World) : Calls Tryz.prog 27 #[.pointer none] w fun e w' => e = .returned (.tuple #[]) ∧ w = w' := by
  go_enter Tryz.func27, Tryz.ntmps27
  go_wp2
  go_end0
  exact ⟨rfl, rfl⟩
theorem walign_nil (w : World) : Calls Tryz.prog 17 #[.pointer none] w fun e w' => e = .returned (.tuple #[]) ∧ w = w' := by
  go_enter Tryz.func17, Tryz.ntmps17
  go_wp2
  go_end0
  exact ⟨rfl, rfl⟩
theorem len_nil (w : World) : Calls Tryz.prog 65 #[.pointer none] w fun e w' => e = .returned (.int .i64 0) ∧ w = w' := by
  go_enter Tryz.func65, Tryz.ntmps65
  go_wp2
  go_ret
  exact ⟨rfl, rfl⟩
theorem bytes_nil (w : World) : Calls Tryz.prog 19 #[.pointer none] w fun e w' => e = .returned (.slice none 0 0) ∧ w = w' := by
  go_enter Tryz.func19, Tryz.ntmps19
  go_wp2
  go_ret
  exact ⟨rfl, rfl⟩
theorem word_nil (xs : List UInt8) (w : World) (hs : xs.length ≤ 2000000) : Calls Tryz.prog 25 #[.pointer none, .string (bs xs)] w fun e w' => e = .returned (.int .i64 (if wordB xs then 1 else 3)) ∧ w = w' := by
  cases hb : wordB xs
  · have HB := Lib.hid hb
    clear hb
    go_enter Tryz.func25, Tryz.ntmps25
    go_wp2_with fail
    refine (isWord_any _ _ hs).mono ?_
    rintro e w' ⟨rfl, rfl⟩
    rw [HB.out]
    go_wp2_with fail
    go_ret
    exact ⟨rfl, rfl⟩
  · have HB := Lib.hid hb
    clear hb
    go_enter Tryz.func25, Tryz.ntmps25
    go_wp2_with fail
    refine (isWord_any _ _ hs).mono ?_
    rintro e w' ⟨rfl, rfl⟩
    rw [HB.out]
    go_wp2_with fail
    go_ret
    exact ⟨rfl, rfl⟩
def ReadN (n : Int) (w : World) (e : Ending) (w' : World) : Prop := e = .returned (.tuple #[.int .u32 0, .int .i64 (readE n 0 0)]) ∧ w = w'
theorem read_nil (n : Int) (w : World) : Calls Tryz.prog 51 #[.pointer none, .int .i64 n] w (ReadN n w) := by
  by_cases hc : cntB n = true
  · have hb := of_decide_eq_true hc
    obtain ⟨k, rfl⟩ : ∃ k : Nat, n = (k : Int) := ⟨n.toNat, by omega⟩
    have HC := Lib.hid hc
    clear hc
    by_cases h0 : k = 0
    · subst h0
      have e2 : readE ((0 : Nat) : Int) 0 0 = 0 := by decide
      have E2 := Lib.hid e2
      clear e2
      go_enter Tryz.func51, Tryz.ntmps51
      go_wp2_with fail
      refine (count_any _ _).mono ?_
      rintro e w' ⟨rfl, rfl⟩
      first | rw [HC.out] | rw [show cntB 0 = true from HC.out]
      go_wp2_with fail
      refine (left_nil _).mono ?_
      rintro e w' ⟨rfl, rfl⟩
      go_wp2_with fail
      go_ret2
      exact ⟨by rw [E2.out]; rfl, rfl⟩
    · have e2 : readE (k : Int) 0 0 = 2 := by
        have ho : okR (k : Int) 0 0 = false := by unfold okR; rw [HC.out]; simp; omega
        unfold readE; rw [ho, HC.out]; rfl
      have E2 := Lib.hid e2
      clear e2
      have hd : decide (0 < (k : Int)) = true := by simp; omega
      have hd2 : decide (0 < k) = true := by simp; omega
      go_enter Tryz.func51, Tryz.ntmps51
      go_wp2_with fail
      refine (count_any _ _).mono ?_
      rintro e w' ⟨rfl, rfl⟩
      rw [HC.out]
      go_wp2_with fail
      refine (left_nil _).mono ?_
      rintro e w' ⟨rfl, rfl⟩
      go_wp2_with fail
      go_ret2
      exact ⟨by rw [E2.out]; rfl, rfl⟩
  · have hc' : cntB n = false := by simpa using hc
    have e2 : readE n 0 0 = 1 := by
      have ho : okR n 0 0 = false := by unfold okR; rw [hc']; simp
      unfold readE; rw [ho, hc']; rfl
    have HC := Lib.hid hc'
    have E2 := Lib.hid e2
    clear e2 hc hc'
    go_enter Tryz.func51, Tryz.ntmps51
    go_wp2_with fail
    refine (count_any _ _).mono ?_
    rintro e w' ⟨rfl, rfl⟩
    rw [HC.out]
    go_wp2_with fail
    go_ret2
    exact ⟨by rw [E2.out]; rfl, rfl⟩
end Go.Proofs.YtmbfgejephgojaaGreatDoor.Bit

/- Contracts of the document's own functions on strings: Turn, Number, Window, Get. -/
import Derived.Test.YtmobdanpkojbbaaOctB
import Derived.Laws.Concat
import Derived.Laws.Strings2
import Derived.WalkSpells
namespace Go.Proofs.Ytmobdanpkojbbaa.Oct
open Go.RowKit
set_option linter.unusedVariables false

/-- the string of these bytes -/
def bs (xs : List UInt8) : ByteArray := ⟨xs.toArray⟩
theorem bs_size (xs : List UInt8) : (bs xs).size = xs.length := by simp [bs, ByteArray.size]
theorem bs_append (xs ys : List UInt8) : bs xs ++ bs ys = bs (xs ++ ys) := ByteArray.mk_append_mk xs ys
theorem bs_extract (xs : List UInt8) (a b : Nat) : (bs xs).extract a b = bs ((xs.drop a).take (b - a)) := ByteArray.extract_mk xs a b
theorem bs_of (s : ByteArray) : s = bs s.data.toList := by cases s; simp [bs]
theorem bs_get (xs : List UInt8) (k : Nat) (h : k < (bs xs).size) (h' : k < xs.length) : (bs xs)[k] = xs[k] := by
  simp [bs, ByteArray.getElem_eq_getElem_data]
theorem bs_toList (xs : List UInt8) : (bs xs).toList = xs := ByteArray.toList_mk xs
theorem one_at (xs : List UInt8) (k : Nat) (h : k < xs.length) : (xs.drop k).take (k + 1 - k) = [xs[k]] := by
  rw [show k + 1 - k = 1 by omega, List.drop_eq_getElem_cons h]; rfl

set_option maxHeartbeats 400000 in
theorem turn_any (xs : List UInt8) (w : World) (hs : xs.length ≤ 4611686018427387903) :
    Calls Try.prog 19 #[.string (bs xs)] w fun e w' => e = .returned (.string (bs xs.reverse)) ∧ w = w' := by
  have hsz := bs_size xs
  go_enter Try.func19, Try.ntmps19
  go_wp2
  go_loop [3, 4] (fun n i => ∃ k : Nat, k ≤ xs.length ∧ i = .int .i64 k ∧ n = .string (bs (xs.take k).reverse)) (fun _ i => xs.length - (intOf i).toNat)
  case atStart => exact ⟨0, Nat.zero_le _, rfl, rfl⟩
  case round =>
    obtain ⟨k, hk, rfl, rfl⟩ := hrel
    by_cases hlt : k < xs.length
    · have e1 := bs_extract xs k (k + 1)
      have h1 := one_at xs k hlt
      rw [h1] at e1
      have hz1 : (bs [xs[k]]).size = 1 := by simp [bs_size]
      have hz2 : (bs (xs.take k).reverse).size = k := by simp [bs_size]; omega
      clear h1
      have hk1 : (k : Int) + 1 ≤ (xs.length : Int) := by omega
      have ht1 : ((k : Int) + 1).toNat = k + 1 := by omega
      go_wp2
      go_round
      case rel => exact ⟨k + 1, by omega, by go_num, by rw [bs_append, take_succ' xs k hlt, List.reverse_append]; rfl⟩
      case measure => simp [intOf]; omega
    · have : k = xs.length := by omega
      subst this
      rw [List.take_length]
      go_wp2
      go_ret
      exact ⟨rfl, rfl⟩

theorem numB_bd (xs : List UInt8) (h : xs.length ≤ 8) : numB xs < 18446744073709551616 := by
  have := part_lt true xs.length xs (Nat.le_refl _) h
  simpa [part] using this

theorem num_step (ys : List UInt8) (k : Nat) (h : k < ys.length) (h8 : ys.length ≤ 8) (h' : k < (bs ys).size) :
    IntKind.u64.wrap (IntKind.u64.wrap (((numB (ys.take k) : Nat) : Int) * 256) + IntKind.u64.wrap (((bs ys)[k].toNat : Nat) : Int)) = ((numB (ys.take (k + 1)) : Nat) : Int) := by
  have h2 := numB_bd (ys.take (k + 1)) (by rw [List.length_take]; omega)
  rw [show (bs ys)[k] = ys[k] from bs_get ys k h' h]
  rw [take_succ' ys k h, numB_snoc] at h2 ⊢
  generalize numB (ys.take k) = m at h2 ⊢
  have hx : ys[k].toNat < 256 := ys[k].toNat_lt
  generalize ys[k].toNat = x at h2 hx ⊢
  rw [IntKind.wrap_u64, IntKind.wrap_u64, IntKind.wrap_u64]
  omega

set_option maxHeartbeats 400000 in
theorem number_any (xs : List UInt8) (w : World) (hs : xs.length ≤ 8) (b : Bool) :
    Calls Try.prog 24 #[.string (bs xs), .bool b] w fun e w' => e = .returned (.int .u64 ((numOf b xs : Nat) : Int)) ∧ w = w' := by
  cases b
  · show Calls Try.prog 24 #[.string (bs xs), .bool false] w fun e w' => e = .returned (.int .u64 ((numB xs.reverse : Nat) : Int)) ∧ w = w'
    obtain ⟨ys, hy⟩ : ∃ ys, ys = xs.reverse := ⟨_, rfl⟩
    have hlen : ys.length ≤ 8 := by subst hy; simpa using hs
    rw [← hy]
    have HY := Lib.hid hy
    clear hy
    go_enter Try.func24, Try.ntmps24
    go_wp2_with fail
    refine (turn_any _ _ (by omega)).mono ?_
    rintro e w' ⟨rfl, rfl⟩
    rw [← HY.out]
    clear HY
    have hsz := bs_size ys
    go_wp2_with fail
    go_loop [5, 6] (fun n i => ∃ k : Nat, k ≤ ys.length ∧ i = .int .i64 k ∧ n = .int .u64 ((numB (ys.take k) : Nat) : Int)) (fun _ i => ys.length - (intOf i).toNat)
    case atStart => exact ⟨0, Nat.zero_le _, rfl, rfl⟩
    case round =>
      obtain ⟨k, hk, rfl, rfl⟩ := hrel
      by_cases hlt : k < ys.length
      · go_wp2
        go_round
        case rel => exact ⟨k + 1, by omega, by go_num, by rw [num_step ys k hlt hlen]⟩
        case measure => simp [intOf]; omega
      · have : k = ys.length := by omega
        subst this
        rw [List.take_length]
        go_wp2
        go_ret
        exact ⟨rfl, rfl⟩
  · obtain ⟨ys, rfl⟩ : ∃ ys, ys = xs := ⟨_, rfl⟩
    show Calls Try.prog 24 #[.string (bs ys), .bool true] w fun e w' => e = .returned (.int .u64 ((numB ys : Nat) : Int)) ∧ w = w'
    have hlen := hs
    go_enter Try.func24, Try.ntmps24
    have hsz := bs_size ys
    go_wp2_with fail
    go_loop [5, 6] (fun n i => ∃ k : Nat, k ≤ ys.length ∧ i = .int .i64 k ∧ n = .int .u64 ((numB (ys.take k) : Nat) : Int)) (fun _ i => ys.length - (intOf i).toNat)
    case atStart => exact ⟨0, Nat.zero_le _, rfl, rfl⟩
    case round =>
      obtain ⟨k, hk, rfl, rfl⟩ := hrel
      by_cases hlt : k < ys.length
      · go_wp2
        go_round
        case rel => exact ⟨k + 1, by omega, by go_num, by rw [num_step ys k hlt hlen]⟩
        case measure => simp [intOf]; omega
      · have : k = ys.length := by omega
        subst this
        rw [List.take_length]
        go_wp2
        go_ret
        exact ⟨rfl, rfl⟩

theorem rwindow_any (xs : List UInt8) (at_ n : Int) (w : World) (hx : xs.length ≤ 4611686018427387903) (ha : 0 ≤ at_) (ha' : at_ ≤ 18446744073709551615) (hn : 0 ≤ n) (hn' : n ≤ 18446744073709551615) :
    Calls Try.prog 14 #[.string (bs xs), .int .u64 at_, .int .u64 n] w fun e w' => e = .returned (.tuple #[.string (bs (winV xs at_ n)), .int .i64 (winE xs at_ n)]) ∧ w = w' := by
  have hsz := bs_size xs
  by_cases hs : at_ + n ≤ 18446744073709551615
  · by_cases h : at_ + n ≤ (xs.length : Int)
    · have e1 : winV xs at_ n = (xs.drop at_.toNat).take n.toNat := by unfold winV withinB; simp [h]
      have e2 : winE xs at_ n = 0 := by unfold winE withinB; simp [h]
      rw [e1, e2]; clear e1 e2
      have e3 := bs_extract xs at_.toNat (at_ + n).toNat
      rw [show (at_ + n).toNat - at_.toNat = n.toNat by omega] at e3
      have hd : at_ ≤ at_ + n := by omega
      have h0 : 0 ≤ at_ + n := by omega
      go_enter Try.func14, Try.ntmps14
      go_wp2_with fail
      refine (radd_any _ _ _ ha ha' hn hn').mono ?_
      rintro e w' ⟨rfl, rfl⟩
      rw [show addV at_ n = at_ + n from if_pos hs, show addE at_ n = 0 from if_pos hs]
      go_wp2_with fail
      go_ret2
      exact ⟨rfl, rfl⟩
    · have e1 : winV xs at_ n = [] := by unfold winV withinB; simp [h]
      have e2 : winE xs at_ n = 2 := by unfold winE withinB; simp [h]
      rw [e1, e2]; clear e1 e2
      go_enter Try.func14, Try.ntmps14
      go_wp2_with fail
      refine (radd_any _ _ _ ha ha' hn hn').mono ?_
      rintro e w' ⟨rfl, rfl⟩
      rw [show addV at_ n = at_ + n from if_pos hs, show addE at_ n = 0 from if_pos hs]
      go_wp2_with fail
      go_ret2
      exact ⟨rfl, rfl⟩
  · have KV := Lib.hid (show addV at_ n = 0 from if_neg hs)
    have KE := Lib.hid (show addE at_ n = 7 from if_neg hs)
    have h : ¬ at_ + n ≤ (xs.length : Int) := by omega
    have e1 : winV xs at_ n = [] := by unfold winV withinB; simp [h]
    have e2 : winE xs at_ n = 2 := by unfold winE withinB; simp [h]
    rw [e1, e2]; clear e1 e2
    go_enter Try.func14, Try.ntmps14
    go_wp2_with fail
    refine (radd_any _ _ _ ha ha' hn hn').mono ?_
    rintro e w' ⟨rfl, rfl⟩
    rw [KV.out, KE.out]
    go_wp2_with fail
    go_ret2
    exact ⟨rfl, rfl⟩

theorem rget_any (xs : List UInt8) (at_ size : Int) (big : Bool) (w : World) (hx : xs.length ≤ 4611686018427387903) (ha : 0 ≤ at_) (ha' : at_ ≤ 18446744073709551615) :
    Calls Try.prog 16 #[.string (bs xs), .int .u64 at_, .int .i64 size, .bool big] w fun e w' => e = .returned (.tuple #[.int .u64 (getV xs at_ size big), .int .i64 (getE xs at_ size)]) ∧ w = w' := by
  by_cases hs : sizeB size = true
  · obtain ⟨sz, rfl, h1, h8⟩ := size_cases hs
    have e1 : getV xs at_ (sz : Int) big = ((numOf big (winV xs at_ (sz : Int)) : Nat) : Int) := by
      unfold getV okGet winV
      rw [hs]
      by_cases hw : withinB xs.length at_ (sz : Int) = true
      · simp [hw]
      · simp [hw]; cases big <;> simp [numOf, numB]
    have e2 : getE xs at_ (sz : Int) = winE xs at_ (sz : Int) := by
      unfold getE winE
      rw [hs]; simp
    have hlen : (winV xs at_ (sz : Int)).length ≤ 8 := by
      unfold winV; split
      · simp; omega
      · simp
    rw [e1, e2]; clear e1 e2
    go_enter Try.func16, Try.ntmps16
    go_wp2_with fail
    refine (rsize_any _ _).mono ?_
    rintro e w' ⟨rfl, rfl⟩
    rw [hs]
    clear hs
    go_wp2_with fail
    refine (rwindow_any _ _ _ _ hx ha ha' (by omega) (by omega)).mono ?_
    rintro e w' ⟨rfl, rfl⟩
    go_wp2_with fail
    refine (number_any _ _ hlen _).mono ?_
    rintro e w' ⟨rfl, rfl⟩
    go_wp2_with fail
    go_ret2
    exact ⟨rfl, rfl⟩
  · have hs' : sizeB size = false := by simpa using hs
    have e1 : getV xs at_ size big = 0 := by
      unfold getV okGet
      rw [hs']; simp
    have e2 : getE xs at_ size = 1 := by
      unfold getE
      rw [hs']; simp
    rw [e1, e2]; clear e1 e2 hs
    go_enter Try.func16, Try.ntmps16
    go_wp2_with fail
    refine (rsize_any _ _).mono ?_
    rintro e w' ⟨rfl, rfl⟩
    rw [hs']
    go_wp2_with fail
    go_ret2
    exact ⟨rfl, rfl⟩
end Go.Proofs.Ytmobdanpkojbbaa.Oct

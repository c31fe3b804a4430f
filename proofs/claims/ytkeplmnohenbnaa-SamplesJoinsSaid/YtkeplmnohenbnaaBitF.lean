
/- Contracts of the document's own functions on texts of 0 and 1: Turn, Word, Number. -/
import Derived.Test.YtkeplmnohenbnaaBitD
namespace Go.Proofs.Ytkeplmnohenbnaa.Bit
open Go.RowKit Go.Proofs.Ytkeplmnohenbnaa.Oct
set_option linter.unusedVariables false

def dig (b : Bool) : UInt8 := if b then 49 else 48
/-- the text of these bits -/
def ds (l : List Bool) : ByteArray := bs (l.map dig)
theorem ds_size (l : List Bool) : (ds l).size = l.length := by simp [ds, bs_size]
theorem ds_append (a b : List Bool) : ds a ++ ds b = ds (a ++ b) := by simp [ds, bs_append]
theorem ds_extract (l : List Bool) (a b : Nat) : (ds l).extract a b = ds ((l.drop a).take (b - a)) := by simp [ds, bs_extract, List.map_take, List.map_drop]
theorem ds_get (l : List Bool) (k : Nat) (h : k < (ds l).size) (h' : k < l.length) : (ds l)[k] = dig l[k] := by
  have h2 := bs_get (l.map dig) k h (by simpa using h')
  rw [List.getElem_map] at h2
  exact h2
theorem ds_inj (a b : List Bool) (h : ds a = ds b) : a = b := by
  unfold ds bs at h
  injection h with h
  have h2 : a.map dig = b.map dig := by simpa using congrArg Array.toList h
  refine (List.map_inj_right (f := dig) ?_).1 h2
  intro x y hxy
  cases x <;> cases y <;> simp [dig] at hxy ⊢
theorem dig_toNat (b : Bool) : ((dig b).toNat : Int) = 48 + (b.toNat : Int) := by cases b <;> rfl

theorem row_val (w : World) (z : Int) (x : UInt8) (h : z = (x.toNat : Int)) : Row (w.alloc (.cells #[.int .u8 z] 5)) (some ⟨w.heap.size, 0, none⟩) [x] := by
  subst h
  exact row_one w x _

set_option maxHeartbeats 400000 in
theorem rturn_any (xs : List UInt8) (w : World) (hs : xs.length ≤ 1000000) :
    Calls Try.prog 32 #[.string (bs xs)] w fun e w' => e = .returned (.string (bs xs.reverse)) ∧ w = w' := by
  have hsz := bs_size xs
  go_enter Try.func32, Try.ntmps32
  go_wp2
  go_loop [3, 4] (fun n i => ∃ k : Nat, k ≤ xs.length ∧ i = .int .i64 ((k : Int) - 1) ∧ n = .string (bs (xs.drop k).reverse)) (fun _ i => (intOf i + 1).toNat)
  case atStart => exact ⟨xs.length, Nat.le_refl _, rfl, by simp [bs]⟩
  case round =>
    obtain ⟨k, hk, rfl, rfl⟩ := hrel
    rcases k with _ | k
    · rw [List.drop_zero]
      rw [show (((0 : Nat) : Int) - 1) = -1 by omega]
      go_wp2
      go_ret
      exact ⟨rfl, rfl⟩
    · rw [show (((k + 1 : Nat) : Int) - 1) = (k : Int) by omega]
      have hlt : k < xs.length := by omega
      have e1 := bs_extract xs k (k + 1)
      have h1 := one_at xs k hlt
      rw [h1] at e1
      have hz1 : (bs [xs[k]]).size = 1 := by simp [bs_size]
      have hz2 : (bs (xs.drop (k + 1)).reverse).size ≤ 1000000 := by simp [bs_size]; omega
      clear h1
      have hk1 : (k : Int) + 1 ≤ (xs.length : Int) := by omega
      have ht1 : ((k : Int) + 1).toNat = k + 1 := by omega
      have h0 : 0 ≤ (k : Int) := by omega
      go_wp2
      go_round
      case rel => exact ⟨k, by omega, rfl, by rw [bs_append, List.drop_eq_getElem_cons hlt, List.reverse_cons]⟩
      case measure => simp [intOf]

theorem num_bd (l : List Bool) (h : l.length ≤ 32) : num l < 4294967296 := by
  have h1 := num_lt l
  have h2 : (2 : Nat) ^ l.length ≤ 2 ^ 32 := Nat.pow_le_pow_right (by omega) h
  omega
theorem num_step (l : List Bool) (k : Nat) (h : k < l.length) (h32 : l.length ≤ 32) (h' : k < (ds l).size) :
    (((num (l.take k) : Nat) : Int) * 2 % 4294967296 + (((ds l)[k].toNat : Int) - 48) % 256) % 4294967296 = ((num (l.take (k + 1)) : Nat) : Int) := by
  have h2 := num_bd (l.take (k + 1)) (by rw [List.length_take]; omega)
  rw [ds_get l k h' h, dig_toNat]
  rw [List.take_succ_eq_append_getElem h, num_snoc] at h2 ⊢
  generalize num (l.take k) = m at h2 ⊢
  have hx : (l[k]).toNat ≤ 1 := by cases l[k] <;> simp
  generalize (l[k]).toNat = x at h2 hx ⊢
  omega
set_option maxHeartbeats 400000 in
theorem rnumber_any (l : List Bool) (w : World) (hs : l.length ≤ 32) :
    Calls Try.prog 19 #[.string (ds l)] w fun e w' => e = .returned (.int .u32 ((num l : Nat) : Int)) ∧ w = w' := by
  have hsz := ds_size l
  go_enter Try.func19, Try.ntmps19
  go_wp2
  go_loop [3, 4] (fun n i => ∃ k : Nat, k ≤ l.length ∧ i = .int .i64 (k : Int) ∧ n = .int .u32 ((num (l.take k) : Nat) : Int)) (fun _ i => l.length - (intOf i).toNat)
  case atStart => exact ⟨0, Nat.zero_le _, rfl, rfl⟩
  case round =>
    obtain ⟨k, hk, rfl, rfl⟩ := hrel
    by_cases hlt : k < l.length
    · go_wp2
      go_round
      case rel => exact ⟨k + 1, by omega, by go_num, by rw [num_step l k hlt hs]⟩
      case measure => simp [intOf]; omega
    · have : k = l.length := by omega
      subst this
      rw [List.take_length]
      go_wp2
      go_ret
      exact ⟨rfl, rfl⟩
set_option maxHeartbeats 400000 in
theorem rword_any (v n : Nat) (w : World) (hn : n ≤ 32) (hv : v < 4294967296) :
    Calls Try.prog 20 #[.int .u32 (v : Int), .int .i64 (n : Int)] w fun e w' => e = .returned (.string (ds (word v n))) ∧ Below w.heap.size w w' := by
  go_enter Try.func20, Try.ntmps20
  go_wp2_with fail
  go_loopw [0, 5, 6] (fun m s i wr => ∃ k : Nat, k ≤ n ∧ i = .int .i64 (k : Int) ∧ m = .int .u32 ((v / 2 ^ k : Nat) : Int) ∧ s = .string (ds (word v k)) ∧ Below w.heap.size w wr) (fun _ _ c _ => n - (intOf c).toNat)
  case atStart => exact ⟨0, by omega, rfl, by simp, rfl, Below.refl _ _⟩
  case round =>
    obtain ⟨k, hk, rfl, rfl, rfl, hF⟩ := hrel
    by_cases hlt : k < n
    · obtain ⟨q, hq⟩ : ∃ q, q = v / 2 ^ k := ⟨_, rfl⟩
      have hqn : q ≤ v := by rw [hq]; exact Nat.div_le_self _ _
      rw [← hq]
      have HQ := Lib.hid hq
      clear hq
      have cv := conv_row 1 1 (row_val wr (48 + (q : Int) % 2) (dig (q % 2 == 1)) (by rw [dig_toNat, bit_toNat]; omega)) rfl
      have hz1 : (bs [dig (q % 2 == 1)]).size = 1 := by simp [bs_size]
      have hz2 : (ds (word v k)).size = k := by simp [ds_size, word_length]
      go_wp2_with fail
      go_roundw
      case rel =>
        refine ⟨k + 1, by omega, by go_num, ?_, ?_, ?_⟩
        · rw [Nat.pow_succ, ← Nat.div_div_eq_div_mul, ← HQ.out]; go_num
        · show Value.string (ds [q % 2 == 1] ++ _) = _
          rw [ds_append, HQ.out]; rfl
        · exact Below.alloc hF (Below.size hF) _
      case measure => simp [intOf]; omega
    · have : k = n := by omega
      subst this
      go_wp2_with fail
      go_ret
      exact ⟨rfl, hF⟩
end Go.Proofs.Ytkeplmnohenbnaa.Bit
/- Contracts of the document's own functions on texts of 0 and 1: Of, Peek, Read. -/
namespace Go.Proofs.Ytkeplmnohenbnaa.Bit
open Go.RowKit Go.Proofs.Ytkeplmnohenbnaa.Oct
set_option linter.unusedVariables false

theorem dturn_any (l : List Bool) (w : World) (hs : l.length ≤ 1000000) :
    Calls Try.prog 32 #[.string (ds l)] w fun e w' => e = .returned (.string (ds l.reverse)) ∧ w = w' := by
  have h := rturn_any (l.map dig) w (by simpa using hs)
  rw [← List.map_reverse] at h
  exact h
theorem wordE_of (low : Bool) (v n : Nat) : (if low then (word v n).reverse else word v n) = wordE low v n := rfl

set_option maxHeartbeats 400000 in
theorem rof_any (xs : List UInt8) (low : Bool) (w : World) (hs : xs.length ≤ 1000) :
    Calls Try.prog 25 #[.string (bs xs), .bool low] w fun e w' => e = .returned (.string (ds (bitsOf low xs))) ∧ Below w.heap.size w w' := by
  have hsz := bs_size xs
  go_enter Try.func25, Try.ntmps25
  go_wp2_with fail
  go_loopw [5, 6] (fun s i wr => ∃ k : Nat, k ≤ xs.length ∧ i = .int .i64 (k : Int) ∧ s = .string (ds (bitsOf low (xs.take k))) ∧ Below w.heap.size w wr) (fun _ c _ => xs.length - (intOf c).toNat)
  case atStart => exact ⟨0, by omega, rfl, rfl, Below.refl _ _⟩
  case round =>
    obtain ⟨k, hk, rfl, rfl, hF⟩ := hrel
    by_cases hlt : k < xs.length
    · obtain ⟨x, hx⟩ : ∃ x, x = xs[k] := ⟨_, rfl⟩
      have hb : x.toNat < 256 := x.toNat_lt
      have hz2 : (ds (bitsOf low (xs.take k))).size ≤ 8000 := by rw [ds_size, bitsOf_length, List.length_take]; omega
      have hg : ∀ h, (bs xs)[k]'h = x := fun h => (bs_get xs k h hlt).trans hx.symm
      have HG := Lib.hid hg
      have HX := Lib.hid (show xs.take (k + 1) = xs.take k ++ [x] by rw [hx, take_succ' xs k hlt])
      clear hg hx
      go_wp2_with fail
      rw [HG.out]
      rw [show ((x.toNat : Int) % 4294967296) = (x.toNat : Int) by omega]
      refine (rword_any _ 8 _ (by omega) (by omega)).mono ?_
      rintro e w1 ⟨rfl, hb1⟩
      have hF1 : Below w.heap.size w w1 := hF.trans (hb1.mono hF.size)
      have hz1 : (ds (word x.toNat 8)).size = 8 := by rw [ds_size, word_length]
      cases low
      · go_wp2_with fail
        go_roundw
        case rel =>
          refine ⟨k + 1, by omega, by go_num, ?_, hF1⟩
          rw [ds_append, HX.out, bitsOf_append]; simp [bitsOf, bitsB, wordE]
        case measure => simp [intOf]; omega
      · go_wp2_with fail
        refine (dturn_any _ _ (by rw [word_length]; omega)).mono ?_
        rintro e w' ⟨rfl, rfl⟩
        have hz3 : (ds (word x.toNat 8).reverse).size = 8 := by rw [ds_size, List.length_reverse, word_length]
        go_wp2_with fail
        go_roundw
        case rel =>
          refine ⟨k + 1, by omega, by go_num, ?_, hF1⟩
          rw [ds_append, HX.out, bitsOf_append]; simp [bitsOf, bitsB, wordE]
        case measure => simp [intOf]; omega
    · have : k = xs.length := by omega
      subst this
      rw [List.take_length]
      go_wp2_with fail
      go_ret
      exact ⟨rfl, hF⟩
theorem zs32 : (Value.string { data := #[48, 48, 48, 48, 48, 48, 48, 48, 48, 48, 48, 48, 48, 48, 48, 48, 48, 48, 48, 48, 48, 48, 48, 48, 48, 48, 48, 48, 48, 48, 48, 48] }) = .string (ds (zs 32)) := by rfl
/-- the document's answers -/
def rpV (n : Int) (low : Bool) (l : List Bool) (at_ : Nat) : Int := if cntB n then ((peekV low (l.drop at_) n.toNat : Nat) : Int) else 0
def rrV (n : Int) (low : Bool) (l : List Bool) (at_ : Nat) : Int := if okR n l.length at_ then ((peekV low (l.drop at_) n.toNat : Nat) : Int) else 0
end Go.Proofs.Ytkeplmnohenbnaa.Bit

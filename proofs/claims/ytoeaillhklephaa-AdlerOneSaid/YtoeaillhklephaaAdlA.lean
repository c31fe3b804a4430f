/- Contracts of package adler: halves, whole, Update, Sum, Join; and of the document's Update and Sum. -/
import Derived.Test.YtoeaillhklephaaBase
import Derived.Test.YtoeaillhklephaaAdlM
import Derived.Lib.SlBytesConst
namespace Go.Proofs.Ytoeaillhklephaa.Adl
open Go.RowKit Go.Proofs.Ytoeaillhklephaa.Oct
set_option linter.unusedVariables false

theorem and_low (s : Nat) (hs : s < 4294967296) : bits .and .u32 (s : Int) 65535 = ((s % 65536 : Nat) : Int) := by
  rw [show (65535 : Int) = ((65535 : Nat) : Int) from rfl, u32_and_nat s 65535 hs (by omega)]
  congr 1
  exact Nat.and_two_pow_sub_one_eq_mod s 16
theorem or_halves (u l : Nat) (hu : u < 65536) (hl : l < 65536) : bits .or .u32 ((u * 65536 : Nat) : Int) (l : Int) = ((u * 65536 + l : Nat) : Int) := by
  rw [u32_or_nat _ _ (by omega) (by omega)]
  congr 1
  exact nat_join 16 _ _ (by omega) (by omega)
theorem lo_cast (s : Nat) : (s : Int) % 65536 % 65521 = ((lo s : Nat) : Int) := by unfold lo; omega
theorem up_cast (s : Nat) : (s : Int) / 65536 % 65521 = ((up s : Nat) : Int) := by unfold up; omega
theorem halves_any (s : Nat) (w : World) (hs : s < 4294967296) :
    Calls Try.prog 14 #[.int .u32 (s : Int)] w fun e w' => e = .returned (.tuple #[.int .u32 ((lo s : Nat) : Int), .int .u32 ((up s : Nat) : Int)]) ∧ w = w' := by
  rw [← lo_cast, ← up_cast]
  have h1 := and_low s hs
  go_enter Try.func14, Try.ntmps14
  go_wp2
  go_ret2
  exact ⟨rfl, rfl⟩
theorem whole_any (l u : Nat) (w : World) (hl : l < 65521) (hu : u < 65521) :
    Calls Try.prog 15 #[.int .u32 (l : Int), .int .u32 (u : Int)] w fun e w' => e = .returned (.int .u32 ((u * 65536 + l : Nat) : Int)) ∧ w = w' := by
  have h1 := or_halves u l (by omega) (by omega)
  have e1 : ((u * 65536 : Nat) : Int) = (u : Int) * 65536 := by omega
  rw [e1] at h1
  rw [← h1]
  clear h1 e1
  go_enter Try.func15, Try.ntmps15
  go_wp2
  go_ret
  exact ⟨rfl, rfl⟩
set_option maxHeartbeats 400000 in
theorem update_any (s : Nat) (p : Option Addr) (len cap : Nat) (xs : List UInt8) (w : World) (hs : s < 4294967296) (hr : Row w p xs) (hx : xs.length = len) (hl : len ≤ maxLen) :
    Calls Try.prog 11 #[.int .u32 (s : Int), .slice p len cap] w fun e w' => e = .returned (.int .u32 ((updN s xs : Nat) : Int)) ∧ w = w' := by
  unfold maxLen at hl
  have HX := Lib.hid hx
  clear hx
  go_enter Try.func11, Try.ntmps11
  go_wp2_with fail
  refine (halves_any _ _ hs).mono ?_
  rintro e w' ⟨rfl, rfl⟩
  go_wp2_with fail
  go_loop [5, 6, 8, 16] (fun a b _ i => ∃ k : Nat, k ≤ len ∧ i = .int .i64 (k : Int) ∧ a = .int .u32 ((loU s (xs.take k) : Nat) : Int) ∧ b = .int .u32 ((upU s (xs.take k) : Nat) : Int)) (fun _ _ _ i => len - (intOf i).toNat)
  case atStart => exact ⟨0, Nat.zero_le _, rfl, by rw [List.take_zero, loU_nil], by rw [List.take_zero, upU_nil]⟩
  case round =>
    obtain ⟨k, hk, rfl, rfl, rfl⟩ := hrel
    by_cases hlt : k < len
    · have hkx : k < xs.length := by rw [HX.out]; exact hlt
      obtain ⟨b, off, rfl, hbl, hcs⟩ := hr (by omega)
      have hc := hcs k hkx
      have hb := xs[k].toNat_lt
      have e1 := lo_step s (xs.take k) xs[k]
      have e2 := up_step s (xs.take k) xs[k]
      rw [← take_succ' xs k hkx] at e1 e2
      have l1 := loU_lt s (xs.take k)
      have l2 := upU_lt s (xs.take k)
      have l3 := loU_lt s (xs.take (k + 1))
      obtain ⟨a0, ha0⟩ : ∃ a, a = loU s (xs.take k) := ⟨_, rfl⟩
      obtain ⟨b0, hb0⟩ : ∃ a, a = upU s (xs.take k) := ⟨_, rfl⟩
      obtain ⟨a1, ha1⟩ : ∃ a, a = loU s (xs.take (k + 1)) := ⟨_, rfl⟩
      obtain ⟨b1, hb1⟩ : ∃ a, a = upU s (xs.take (k + 1)) := ⟨_, rfl⟩
      rw [← ha0] at e1 l1 ⊢
      rw [← hb0] at e2 l2 ⊢
      rw [← ha1] at e1 e2 l3
      rw [← hb1] at e2
      have HA := Lib.hid ha1
      have HB := Lib.hid hb1
      generalize xs[k].toNat = x at hc hb e1
      have f1 : ((a0 : Int) + (x : Int)) % 65521 = (a1 : Int) := by omega
      have f2 : ((b0 : Int) + (a1 : Int)) % 65521 = (b1 : Int) := by omega
      clear hcs ha0 hb0 ha1 hb1 e1 e2
      go_wp2_with fail
      go_round
      case rel => exact ⟨k + 1, by omega, by go_num, by rw [← HA.out, ← f1], by rw [← HB.out, ← f2, ← f1]⟩
      case measure => simp [intOf]; omega
    · have hkl : k = len := by omega
      subst hkl
      have e : xs.take k = xs := List.take_of_length_le (by rw [HX.out]; exact Nat.le_refl _)
      rw [e]
      clear e
      go_wp2_with fail
      refine (whole_any _ _ _ (loU_lt s xs) (upU_lt s xs)).mono ?_
      rintro e w' ⟨rfl, rfl⟩
      go_wp2_with fail
      go_ret
      exact ⟨rfl, rfl⟩
theorem sum_any (p : Option Addr) (len cap : Nat) (xs : List UInt8) (w : World) (hr : Row w p xs) (hx : xs.length = len) (hl : len ≤ maxLen) :
    Calls Try.prog 9 #[.slice p len cap] w fun e w' => e = .returned (.int .u32 ((sumN xs : Nat) : Int)) ∧ w = w' := by
  go_enter Try.func9, Try.ntmps9
  go_wp2_with fail
  refine (update_any 1 p len cap xs w (by omega) hr hx hl).mono ?_
  rintro e w' ⟨rfl, rfl⟩
  go_wp2_with fail
  go_ret
  exact ⟨rfl, rfl⟩
theorem miss_cast (a : Nat) : ((lo a : Int) + 65521 - 1) % 4294967296 % 65521 = ((missN a : Nat) : Int) := by
  have := lo_lt a; unfold missN; omega
theorem all_cast (a n : Nat) : (IntKind.u64.wrap ((n : Int) % 65521 * ((missN a : Nat) : Int))).tmod 65521 = ((allN a n : Nat) : Int) := by
  have e : (n : Int) % 65521 * ((missN a : Nat) : Int) = ((n % 65521 * missN a : Nat) : Int) := by rw [Int.natCast_mul, Int.natCast_emod]; rfl
  have h := prod_lt a n
  unfold allN
  rw [e]
  generalize n % 65521 * missN a = p at h ⊢
  rw [IntKind.wrap_u64, Int.emod_eq_of_lt (by omega) (by omega), Int.tmod_eq_emod_of_nonneg (by omega)]
  omega
theorem join_any (a b n : Nat) (w : World) (ha : a < 4294967296) (hb : b < 4294967296) (hn : n < 18446744073709551616) :
    Calls Try.prog 13 #[.int .u32 (a : Int), .int .u32 (b : Int), .int .u64 (n : Int)] w fun e w' => e = .returned (.int .u32 ((joinN a b n : Nat) : Int)) ∧ w = w' := by
  go_enter Try.func13, Try.ntmps13
  go_wp2_with fail
  refine (halves_any _ _ ha).mono ?_
  rintro e w' ⟨rfl, rfl⟩
  go_wp2_with fail
  refine (halves_any _ _ hb).mono ?_
  rintro e w' ⟨rfl, rfl⟩
  go_wp2_with fail
  rw [miss_cast, all_cast]
  have h1 : ((lo b : Int) + ((missN a : Nat) : Int)) % 4294967296 % 65521 = (((lo b + missN a) % 65521 : Nat) : Int) := by
    have := lo_lt b; have := missN_lt a; omega
  have h2 : ((up a : Int) + (up b : Int) + ((allN a n : Nat) : Int)) % 4294967296 % 65521 = (((up a + up b + allN a n) % 65521 : Nat) : Int) := by
    have := up_lt a; have := up_lt b; have := allN_lt a n; omega
  rw [h1, h2]
  clear h1 h2
  refine (whole_any _ _ _ (Nat.mod_lt _ (by omega)) (Nat.mod_lt _ (by omega))).mono ?_
  rintro e w' ⟨rfl, rfl⟩
  go_wp2_with fail
  go_ret
  exact ⟨rfl, rfl⟩
theorem w64 (n : Nat) (h : n < 9223372036854775808) : wrap64 (n : Int) = (n : Int) := by
  rw [wrap64]; omega
theorem rem_step (c n y : Nat) (hc : c < 65521) (hp : n * y ≤ 65520 * 65520) : (wrap64 ((c : Int) + wrap64 ((n : Int) * (y : Int)))).tmod 65521 = (((c + n * y) % 65521 : Nat) : Int) := by
  have e : (n : Int) * (y : Int) = ((n * y : Nat) : Int) := (Int.natCast_mul n y).symm
  rw [e]
  generalize n * y = p at hp ⊢
  rw [w64 p (by omega), ← Int.natCast_add, w64 (c + p) (by omega), Int.tmod_eq_emod_of_nonneg (by omega)]
  omega
set_option maxHeartbeats 400000 in
theorem rupdate_any (s : Nat) (xs : List UInt8) (w : World) (hs : s < 4294967296) (hl : xs.length ≤ 100000) :
    Calls Try.prog 12 #[.int .u32 (s : Int), .string (bs xs)] w fun e w' => e = .returned (.int .u32 ((updN s xs : Nat) : Int)) ∧ w = w' := by
  have hsz := bs_size xs
  have hs0 : ((up s : Nat) + xs.length % 65521 * lo s) % 65521 < 65521 := Nat.mod_lt _ (by omega)
  have hpr := ref_prod' xs.length s
  have HST := Lib.hid (ref_start s xs)
  have l1 := lo_lt s
  have l2 := up_lt s
  have e1 : ((s : Int) % 65536 % 65521) = ((lo s : Nat) : Int) := lo_cast s
  have e2 : ((s : Int) / 65536 % 65521) = ((up s : Nat) : Int) := up_cast s
  go_enter Try.func12, Try.ntmps12
  go_wp2_with fail
  go_loop [5, 6, 8] (fun a b i => ∃ k c : Nat, k ≤ xs.length ∧ i = .int .i64 (k : Int) ∧ a = .int .i64 ((lo s + sS (xs.take k) : Nat) : Int) ∧ b = .int .i64 (c : Int) ∧ c < 65521 ∧ Hid ((c + sT (xs.drop k)) % 65521 = upU s xs)) (fun _ _ i => xs.length - (intOf i).toNat)
  case atStart =>
    refine ⟨0, _, Nat.zero_le _, rfl, ?_, ?_, hs0, HST.out⟩
    · rw [e1, List.take_zero]; rfl
    · rw [show ((xs.length : Int) % 65521) = ((xs.length % 65521 : Nat) : Int) by omega, rem_step _ _ _ l2 hpr]
  case round =>
    obtain ⟨k, c, hk, rfl, rfl, rfl, hc, hH⟩ := hrel
    by_cases hlt : k < xs.length
    · have hg : ∀ h, (bs xs)[k]'h = xs[k] := fun h => bs_get xs k h hlt
      have HT := Lib.hid (take_step xs k hlt)
      have HR := Lib.hid (ref_step xs k c _ hlt hH.out)
      have hp := ref_prod (xs.length - k) xs[k]
      have hle := sS_le (xs.take k)
      rw [List.length_take] at hle
      generalize sS (xs.take k) = m at hle HT ⊢
      have hb := xs[k].toNat_lt
      go_wp2_with fail
      go_round
      case rel =>
        generalize xs[k].toNat = x at hb hp HT HR ⊢
        refine ⟨k + 1, _, hlt, by go_num, ?_, ?_, Nat.mod_lt _ (by omega), HR.out⟩
        · rw [HT.out]; congr 1; omega
        · rw [show ((xs.length : Int) - (k : Int)) % 65521 = (((xs.length - k) % 65521 : Nat) : Int) by omega, rem_step _ _ _ hc (by omega)]
      case measure => simp [intOf]; omega
    · have hkl : k = xs.length := by omega
      subst hkl
      have hc' : upU s xs = c := by have := hH.out; rw [List.drop_length] at this; simp only [sT] at this; omega
      have hu : updN s xs = c * 65536 + (lo s + sS xs) % 65521 := by unfold updN loU; rw [hc']
      have HU := Lib.hid hu
      have hle := sS_le xs
      rw [List.take_length]
      clear hu hc'
      generalize sS xs = m at hle HU ⊢
      go_wp2_with fail
      go_ret
      exact ⟨by rw [HU.out]; exact congrArg (fun z => Ending.returned (Value.int .u32 z)) (by omega), rfl⟩
theorem rsum_any (xs : List UInt8) (w : World) (hl : xs.length ≤ 100000) :
    Calls Try.prog 10 #[.string (bs xs)] w fun e w' => e = .returned (.int .u32 ((sumN xs : Nat) : Int)) ∧ w = w' := by
  go_enter Try.func10, Try.ntmps10
  go_wp2_with fail
  refine (rupdate_any 1 xs w (by omega) hl).mono ?_
  rintro e w' ⟨rfl, rfl⟩
  go_wp2_with fail
  go_ret
  exact ⟨rfl, rfl⟩
theorem row_new (w : World) (xs : List UInt8) (T : Nat) (fr : Nat × Nat) : Row (w.alloc (.cells (cellsOf xs).toArray T fr)) (some ⟨w.heap.size, 0, none⟩) xs := by
  intro _
  refine ⟨w.heap.size, 0, rfl, by simp, fun i h => ?_⟩
  rw [World.cell?_alloc_mark, Nat.zero_add]
  simp [cellsOf, h]
def wiki : List UInt8 := [87, 105, 107, 105, 112, 101, 100, 105, 97]
theorem wiki_sum : sumN wiki = 300286872 := by decide
theorem lives_any (w : World) : Calls Try.prog 8 #[] w fun e w' => e = .returned (.bool true) ∧ Below w.heap.size w w' := by
  have HW := Lib.hid wiki_sum
  have kc := fun (w : World) (C : Array Value) (n c : Nat) => Lib.run_convert_bytes_const (P := Try.prog) w 23 5 C n c Try.underlying23 Try.underlying5
  go_enter Try.func8, Try.ntmps8
  go_wp2_with fail
  refine (sum_any _ 9 9 wiki _ (by exact row_new w wiki 5 (9, 10)) (by rfl) (by decide)).mono ?_
  rintro e w' ⟨rfl, rfl⟩
  rw [HW.out]
  go_wp2_with fail
  go_ret
  exact ⟨rfl, (Below.refl _ w).alloc (Nat.le_refl _) _⟩
end Go.Proofs.Ytoeaillhklephaa.Adl

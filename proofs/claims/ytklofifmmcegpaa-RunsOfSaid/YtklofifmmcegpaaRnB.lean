
/- Contracts of package runs: isWidth, bytesFor, isToBlack, pixelBit, after, isBlack, Right. -/
import Derived.Test.YtklofifmmcegpaaRnA
import Derived.Test.YtklofifmmcegpaaLpR
import Derived.StillTailTactics
namespace Go.Proofs.Ytklofifmmcegpaa.Rn
open Go.RowKit Go.Proofs.Ytklofifmmcegpaa.Oct Go.Proofs.Ytklofifmmcegpaa.Bit Go.Proofs.Ytklofifmmcegpaa.Lp
set_option linter.unusedVariables false
set_option linter.unusedSimpArgs false
set_option maxRecDepth 100000

def wideB (n : Int) : Bool := decide (0 ≤ n ∧ n ≤ 32768)
theorem isWidth_any (n : Int) (w : World) : Calls Try.prog 23 #[.int .i64 n] w fun e w' => e = .returned (.bool (wideB n)) ∧ w = w' := by
  by_cases h0 : 0 ≤ n
  · by_cases h1 : n ≤ 32768
    · have e : wideB n = true := by simp [wideB, h0, h1]
      rw [e]; clear e
      go_enter Try.func23, Try.ntmps23
      go_wp2
      go_ret
      exact ⟨rfl, rfl⟩
    · have e : wideB n = false := by simp [wideB, h1]
      rw [e]; clear e
      have hd : decide (n ≤ 32768) = false := by simpa using h1
      go_enter Try.func23, Try.ntmps23
      go_wp2
      go_ret
      exact ⟨rfl, rfl⟩
  · have e : wideB n = false := by simp [wideB, h0]
    rw [e]; clear e
    have hd : decide (0 ≤ n) = false := by simpa using h0
    go_enter Try.func23, Try.ntmps23
    go_wp2
    go_ret
    exact ⟨rfl, rfl⟩
theorem bytesFor_any (n : Nat) (w : World) (h : n ≤ 4000000000000000) : Calls Try.prog 24 #[.int .i64 (n : Int)] w fun e w' => e = .returned (.int .i64 (((n + 7) / 8 : Nat) : Int)) ∧ w = w' := by
  have e : (((n + 7) / 8 : Nat) : Int) = ((n : Int) + 7) / 8 := by omega
  rw [e]; clear e
  go_enter Try.func24, Try.ntmps24
  go_wp2
  go_ret
  exact ⟨rfl, rfl⟩
theorem isToBlack_any (i : Nat) (w : World) (h : i ≤ 4000000000000000) : Calls Try.prog 32 #[.int .i64 (i : Int)] w fun e w' => e = .returned (.bool (i % 2 == 0)) ∧ w = w' := by
  have e : (i % 2 == 0) = ((i : Int) % 2 == 0) := by rw [Bool.eq_iff_iff]; simp; omega
  rw [e]; clear e
  go_enter Try.func32, Try.ntmps32
  go_wp2
  go_ret
  exact ⟨rfl, rfl⟩
theorem shr128 (r : Nat) (h : r < 8) : (128 : Int) / 2 ^ r = ((2 ^ (7 - r) : Nat) : Int) := by
  have : r = 0 ∨ r = 1 ∨ r = 2 ∨ r = 3 ∨ r = 4 ∨ r = 5 ∨ r = 6 ∨ r = 7 := by omega
  rcases this with rfl | rfl | rfl | rfl | rfl | rfl | rfl | rfl <;> decide
theorem pixelBit_any (x : Nat) (w : World) (h : x ≤ 4000000000000000) : Calls Try.prog 34 #[.int .i64 (x : Int)] w fun e w' => e = .returned (.int .u8 ((2 ^ (7 - x % 8) : Nat) : Int)) ∧ w = w' := by
  obtain ⟨r, hr⟩ : ∃ r, r = x % 8 := ⟨_, rfl⟩
  have hr8 : r < 8 := by omega
  have hm : (x : Int) % 8 = (r : Int) := by omega
  have e := shr128 r hr8
  rw [← hr]
  clear hr
  generalize 2 ^ (7 - r) = m at e
  go_enter Try.func34, Try.ntmps34
  go_wp2
  go_ret
  exact ⟨rfl, rfl⟩
theorem after_any (p : Option Addr) (cap : Nat) (zs : List Int) (i : Nat) (z : Int) (w : World) (C : Nat) (h : VRow w C p (ints zs)) (hl : zs.length ≤ maxLen) (hi : i ≤ 4000000000000000) :
    Calls Try.prog 29 #[.slice p zs.length cap, .int .i64 (i : Int), .int .i64 z] w fun e w' => e = .returned (.int .i64 (zs.getD (i + 1) z)) ∧ w = w' := by
  unfold maxLen at hl
  by_cases hlt : i + 1 < zs.length
  · obtain ⟨b, off, rfl, _⟩ := h.addr (by rw [ints_length]; omega)
    have hc := h.int (i + 1) hlt
    have e : zs.getD (i + 1) z = zs[i + 1] := by rw [List.getD_eq_getElem?_getD, List.getElem?_eq_getElem hlt]; rfl
    rw [e]
    clear e h
    generalize zs[i + 1] = x at hc
    generalize zs.length = n at hl hlt
    obtain ⟨j, hj⟩ : ∃ j, j = i + 1 := ⟨_, rfl⟩
    rw [← hj] at hc hlt
    have hw : IntKind.i64.wrap ((i : Int) + 1) = (j : Int) := by rw [IntKind.wrap_i64]; omega
    have i1 : (0 : Int) ≤ (j : Int) := by omega
    have i2 : (j : Int) < (n : Int) := by omega
    clear hj
    go_enter Try.func29, Try.ntmps29
    go_wp2
    go_ret
    exact ⟨rfl, rfl⟩
  · have e : zs.getD (i + 1) z = z := by rw [List.getD_eq_getElem?_getD, List.getElem?_eq_none (by omega)]; rfl
    rw [e]
    generalize zs.length = n at hl hlt
    have hd : decide ((i : Int) + 1 < (n : Int)) = false := by simp; omega
    clear h e
    go_enter Try.func29, Try.ntmps29
    go_wp2
    go_ret
    exact ⟨rfl, rfl⟩
theorem and_bit (c i : Nat) : (c &&& 2 ^ i != 0) = (c / 2 ^ i % 2 == 1) := by
  rw [bit_testBit]
  have hp : 2 ^ i ≠ 0 := Nat.ne_of_gt (Nat.pow_pos (by omega))
  cases h : c.testBit i
  · have : c &&& 2 ^ i = 0 := Nat.eq_of_testBit_eq fun j => by
      rw [Nat.testBit_and, Nat.testBit_two_pow, Nat.zero_testBit]
      by_cases hj : i = j
      · subst hj; rw [h]; rfl
      · simp [hj]
    rw [this]
    rfl
  · have : c &&& 2 ^ i = 2 ^ i := Nat.eq_of_testBit_eq fun j => by
      rw [Nat.testBit_and, Nat.testBit_two_pow]
      by_cases hj : i = j
      · subst hj; rw [h]; simp
      · simp [hj]
    rw [this]
    simp
theorem gb_lt {xs : List UInt8} {x : Nat} (h : x < 8 * xs.length) : x / 8 < xs.length := by omega
theorem isBlack_any (p : Option Addr) (len cap : Nat) (xs : List UInt8) (x : Nat) (w : World) (h : Row w p xs) (hx : xs.length = len) (hl : len ≤ 100000) (hi : x < 8 * len) :
    Calls Try.prog 25 #[.slice p len cap, .int .i64 (x : Int)] w fun e w' => e = .returned (.bool (gb xs x)) ∧ Drawn w w' := by
  obtain ⟨b, off, rfl, _, hc⟩ := h (by omega)
  have hq : x / 8 < xs.length := by omega
  have hcell := hc (x / 8) hq
  have hg : gb xs x = ((xs[x / 8]).toNat &&& 2 ^ (7 - x % 8) != 0) := by
    rw [and_bit]
    unfold gb
    rw [List.getD_eq_getElem?_getD, List.getElem?_eq_getElem hq]
    rfl
  rw [hg]
  clear hg hc
  have hb : (xs[x / 8]).toNat < 256 := (xs[x / 8]).toNat_lt
  generalize (xs[x / 8]).toNat = c at hcell hb
  obtain ⟨j, hj⟩ : ∃ j, j = x / 8 := ⟨_, rfl⟩
  rw [← hj] at hcell
  have hjz : (x : Int) / 8 = (j : Int) := by omega
  have i1 : (0 : Int) ≤ (j : Int) := by omega
  have i2 : (j : Int) < (len : Int) := by omega
  have hpb := fun w' => pixelBit_any x w' (by omega)
  have hm2 : 2 ^ (7 - x % 8) < 256 := by
    have : 2 ^ (7 - x % 8) ≤ 2 ^ 7 := Nat.pow_le_pow_right (by omega) (by omega)
    omega
  generalize 2 ^ (7 - x % 8) = m at hpb hm2
  have hand : bits .and .u8 (c : Int) (m : Int) = ((c &&& m : Nat) : Int) := u8_and_nat c m hb hm2
  have hne : (((c &&& m : Nat) : Int) != 0) = (c &&& m != 0) := by rw [Bool.eq_iff_iff]; simp
  rw [← hne]
  clear hne
  generalize ((c &&& m : Nat) : Int) = y at hand
  have HPB := Lib.hid hpb
  clear hpb hq h hj
  go_enter Try.func25, Try.ntmps25
  go_wp2_with fail
  go_quiet ((go_at_call 34; exact quietly (HPB.out _)))
  go_wp2_with fail
  go_ret
  exact ⟨rfl, ⟨_, rfl⟩⟩
theorem stays {P : Program} {f : FuncId} {args : Array Value} {w : World} {v : Value}
    (h : Calls P f args w fun e w' => e = .returned v ∧ w = w') : Calls P f args w fun e w'' => e = .returned v ∧ w'' = w :=
  h.mono fun _ _ ⟨he, hm⟩ => ⟨he, hm.symm⟩
/-- pixels made black from a place on up to another -/
def BlackP (g : Nat) (w : World) (xs : List UInt8) (a b : Nat) (e : Ending) (w' : World) : Prop :=
  e = .returned (.tuple #[]) ∧ Below g w w' ∧ ∃ ys, Blk w' g ys ∧ ys.length = xs.length ∧ ∀ x, gb ys x = (gb xs x || (decide (a ≤ x) && decide (x < b)))
def BlackT (g : Nat) (w : World) (xs : List UInt8) (a k : Nat) (wr : World) : Prop :=
  Below g w wr ∧ ∃ ys, Blk wr g ys ∧ ys.length = xs.length ∧ ∀ x, gb ys x = (gb xs x || (decide (a ≤ x) && decide (x < k)))
theorem BlackT.step {g : Nat} {w wr w2 : World} {xs : List UInt8} {a k : Nat} (ys : List UInt8) (hB : Below g w wr) (hb : Blk wr g ys) (hl : ys.length = xs.length) (hy : ∀ x, gb ys x = (gb xs x || (decide (a ≤ x) && decide (x < k)))) (hk : k / 8 < xs.length) (hak : a ≤ k)
    (hd : Drawn wr w2) (z : Int) (hz : z = (((ys.getD (k / 8) 0).toNat ||| 2 ^ (7 - k % 8) : Nat) : Int)) : BlackT g w xs a (k + 1) (w2.setCell ⟨g, k / 8, none⟩ (.int .u8 z)) := by
  have hm : 2 ^ (7 - k % 8) < 256 := by
    have : 2 ^ (7 - k % 8) ≤ 2 ^ 7 := Nat.pow_le_pow_right (by omega) (by omega)
    omega
  have hv : (ys.getD (k / 8) 0).toNat ||| 2 ^ (7 - k % 8) < 256 := Nat.or_lt_two_pow (n := 8) (ys.getD (k / 8) 0).toNat_lt hm
  obtain ⟨c, hc⟩ : ∃ c : UInt8, c.toNat = (ys.getD (k / 8) 0).toNat ||| 2 ^ (7 - k % 8) := ⟨UInt8.ofNat _, by rw [UInt8.toNat_ofNat']; exact Nat.mod_eq_of_lt hv⟩
  have hb2 : Blk w2 g ys := by
    obtain ⟨n, rfl⟩ := hd
    exact hb
  rw [hz, ← hc]
  refine ⟨(hB.trans (hd.below _)).setCell (Nat.le_refl _) _, ys.set (k / 8) c, hb2.set_ _ _, by rw [List.length_set]; exact hl, fun x => ?_⟩
  rw [gb_set ys k (by rw [hl]; exact hk) c hc x, hy x]
  by_cases h1 : a ≤ x
  · by_cases h2 : x < k
    · have h3 : x < k + 1 := by omega
      simp [h1, h2, h3]
    · by_cases h3 : x = k
      · subst h3; simp [h1]
      · have h4 : ¬ x < k + 1 := by omega
        simp [h2, h3, h4]
  · have h3 : ¬ x = k := by omega
    simp [h1, h3]
set_option maxHeartbeats 1000000 in
theorem blacken_any (g len cap : Nat) (xs : List UInt8) (a b : Nat) (w : World) (h : Blk w g xs) (hx : xs.length = len) (hl : len ≤ 100000) (hab : a ≤ b) (hb : b ≤ 8 * len) :
    Calls Try.prog 28 #[.slice (some ⟨g, 0, none⟩) len cap, .int .i64 (a : Int), .int .i64 (b : Int)] w (BlackP g w xs a b) := by
  have HX := Lib.hid hx
  have HT : Hid (BlackT g w xs a a w) := Lib.hid ⟨Below.refl _ _, xs, h, rfl, fun x => by
    by_cases h1 : a ≤ x
    · have h2 : ¬ x < a := by omega
      simp [h2]
    · simp [h1]⟩
  clear h hx
  go_enter Try.func28, Try.ntmps28
  go_wp2_with fail
  go_loopw [6] (fun i wr => ∃ k : Nat, a ≤ k ∧ k ≤ b ∧ i = .int .i64 (k : Int) ∧ Hid (BlackT g w xs a k wr)) (fun i _ => b - (intOf i).toNat)
  case atStart => exact ⟨a, Nat.le_refl _, hab, rfl, HT⟩
  case round =>
    clear HT
    obtain ⟨k, hak, hk, rfl, HT⟩ := hrel
    by_cases hlt : k < b
    · obtain ⟨hB, ys, hbl, hyl, hy⟩ := HT.out
      have hkq : k / 8 < ys.length := by rw [hyl, HX.out]; omega
      have hcell := hbl.cell (k / 8) hkq
      have hfz := hbl.frozen (k / 8)
      have HST := Lib.hid (fun (w2 : World) (hd : Drawn wr w2) z hz => BlackT.step (w2 := w2) ys hB hbl hyl hy (by rw [← hyl]; exact hkq) hak hd z hz)
      have e : ys.getD (k / 8) 0 = ys[k / 8] := by rw [List.getD_eq_getElem?_getD, List.getElem?_eq_getElem hkq]; rfl
      rw [e] at HST
      have hc8 : (ys[k / 8]).toNat < 256 := (ys[k / 8]).toNat_lt
      clear hB hbl hyl hy e
      generalize (ys[k / 8]).toNat = c at hcell HST hc8
      obtain ⟨j, hj⟩ : ∃ j, j = k / 8 := ⟨_, rfl⟩
      rw [← hj] at hcell hfz HST
      have hjz : (k : Int) / 8 = (j : Int) := by omega
      have i1 : (0 : Int) ≤ (j : Int) := by omega
      have i2 : (j : Int) < (len : Int) := by omega
      have hwj : IntKind.i64.wrap (j : Int) = (j : Int) := by rw [IntKind.wrap_i64]; omega
      have hd : decide ((k : Int) < (b : Int)) = true := by simp; omega
      have hpb := fun w' => pixelBit_any k w' (by omega)
      have hm2 : 2 ^ (7 - k % 8) < 256 := by
        have : 2 ^ (7 - k % 8) ≤ 2 ^ 7 := Nat.pow_le_pow_right (by omega) (by omega)
        omega
      generalize 2 ^ (7 - k % 8) = m at hpb hm2 HST
      have hor : bits .or .u8 (c : Int) (m : Int) = ((c ||| m : Nat) : Int) := u8_or_nat c m hc8 hm2
      generalize ((c ||| m : Nat) : Int) = y at hor HST
      have HPB := Lib.hid hpb
      have hk8 : k ≤ 800000 := by omega
      clear hpb hkq hj hm2 hc8
      go_wp2_with fail
      refine wp_region_still_tail 8 (by kernel_rfl) (by kernel_rfl) ?_
      simp only [List.take_succ_cons, List.take_zero, List.drop_succ_cons, List.drop_zero]
      repeat (first | still_step | still_call (stays (HPB.out _)))
      refine wpStill_nil ?_
      obtain ⟨w9, hw9⟩ : ∃ w9, w9 = wr.drew := ⟨_, rfl⟩
      have hd9 : Drawn wr w9 := ⟨1, hw9⟩
      have hcell9 : w9.cell? ⟨g, j, none⟩ = some (.int .u8 (c : Int)) := by rw [hw9]; exact hcell
      have hfz9 : w9.frozen? ⟨g, j, none⟩ = false := by rw [hw9]; exact hfz
      have HN := Lib.hid (HST.out w9 hd9 y rfl)
      change wpList _ _ _ _ _ wr.drew
      rw [← hw9]
      clear hw9 hd9 HST hcell hfz
      go_wp2_with fail
      go_roundw
      case rel => exact ⟨k + 1, by omega, by omega, by go_num, HN⟩
      case measure => simp [intOf]; omega
    · have : k = b := by omega
      subst this
      have hd : decide ((k : Int) < (k : Int)) = false := by simp
      go_wp2_with fail
      refine bodyPost_ret (results_none rfl _ _ _) rfl ?_
      exact ⟨rfl, HT.out⟩
/-- right places -/
theorem right_any (p : Option Addr) (len cap : Nat) (zs : List Int) (z : Int) (w : World) (C : Nat) (h : VRow w C p (ints zs)) (hx : zs.length = len) (hl : len ≤ maxLen) :
    Calls Try.prog 16 #[.slice p len cap, .int .i64 z] w fun e w' => e = .returned (.bool (rightB zs z)) ∧ w = w' := by
  unfold maxLen at hl
  have HH := Lib.hid h
  have HX := Lib.hid hx
  obtain ⟨X, hX⟩ : ∃ X, X = rightB zs z := ⟨_, rfl⟩
  rw [← hX]
  have HST : Hid (rb z (-1) (zs.drop 0) = X) := Lib.hid hX.symm
  clear h hx hX
  go_enter Try.func16, Try.ntmps16
  go_wp2_with fail
  go_loop [5, 7, 10] (fun b _ i => ∃ (k : Nat) (y : Int), k ≤ len ∧ i = .int .i64 (k : Int) ∧ b = .int .i64 y ∧ Hid (rb z y (zs.drop k) = X)) (fun _ _ i => len - (intOf i).toNat)
  case atStart => exact ⟨0, -1, by omega, rfl, rfl, HST⟩
  case round =>
    clear HST
    obtain ⟨k, y, hk, rfl, rfl, HR⟩ := hrel
    by_cases hlt : k < len
    · have hkl : k < zs.length := by rw [HX.out]; exact hlt
      obtain ⟨b, off, hq, _⟩ := HH.out.addr (by rw [ints_length]; omega)
      subst hq
      have hc := HH.out.int k hkl
      have hr := HR.out
      rw [List.drop_eq_getElem_cons hkl, rb] at hr
      generalize zs[k] = x at hc hr
      have hd : decide ((k : Int) < (len : Int)) = true := by simp; omega
      have i1 : (0 : Int) ≤ (k : Int) := by omega
      have i2 : (k : Int) < (len : Int) := by omega
      clear HR hkl
      by_cases h1 : x ≤ y
      · rw [if_pos (.inl h1)] at hr
        subst hr
        have hd2 : decide (x ≤ y) = true := by simpa using h1
        clear h1
        go_wp2_with fail
        go_ret
        exact ⟨rfl, rfl⟩
      · have hd2 : decide (x ≤ y) = false := by simpa using h1
        by_cases h2 : z ≤ x
        · rw [if_pos (.inr h2)] at hr
          subst hr
          have hd3 : decide (z ≤ x) = true := by simpa using h2
          clear h1 h2
          go_wp2_with fail
          go_ret
          exact ⟨rfl, rfl⟩
        · rw [if_neg (by omega)] at hr
          have hd3 : decide (z ≤ x) = false := by simpa using h2
          have HR := Lib.hid hr
          clear h1 h2 hr
          go_wp2_with fail
          go_round
          case rel => exact ⟨k + 1, x, by omega, by go_num, rfl, HR⟩
          case measure => simp [intOf]; omega
    · have : k = len := by omega
      subst this
      have hr := HR.out
      rw [List.drop_of_length_le (by rw [HX.out]; omega), rb] at hr
      subst hr
      have hd : decide ((k : Int) < (k : Int)) = false := by simp
      go_wp2_with fail
      go_ret
      exact ⟨rfl, rfl⟩
end Go.Proofs.Ytklofifmmcegpaa.Rn

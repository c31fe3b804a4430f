
/- The contracts of Read and ReadMode: lengths and modes read. -/
import Derived.Test.YtplbbejdnahibaaDoorFyE
namespace Go.Proofs.YtplbbejdnahibaaDoor.Fx
open Go.RowKit Go.Proofs.YtplbbejdnahibaaDoor.Oct Go.Proofs.YtplbbejdnahibaaDoor.Bit Go.Proofs.YtplbbejdnahibaaDoor.Hf Go.Proofs.YtplbbejdnahibaaDoor.Inf
set_option linter.unusedVariables false
set_option linter.unusedSimpArgs false
set_option maxRecDepth 100000

/-- a length read, the bound being any number -/
def lenZ (black : Bool) (L : List Bool) (most : Int) (at_ n : Nat) : Nat × Except Nat Nat :=
  if 0 ≤ most then lenA black L most.toNat at_ n else match (lookP (wordsF black) [] (L.drop at_)).2 with
    | .error e => (at_ + (lookP (wordsF black) [] (L.drop at_)).1, .error e)
    | .ok i => (at_ + (lookP (wordsF black) [] (L.drop at_)).1, .error 5)
/-- one word more -/
theorem lenZ_eq (black : Bool) (L : List Bool) (most : Int) (at_ n : Nat) (ha : at_ ≤ L.length) : lenZ black L most at_ n = match (lookP (wordsF black) [] (L.drop at_)).2 with
    | .error e => (at_ + (lookP (wordsF black) [] (L.drop at_)).1, .error e)
    | .ok i => if most < ((n + lenF i : Nat) : Int) then (at_ + (lookP (wordsF black) [] (L.drop at_)).1, .error 5)
      else if i < 64 then (at_ + (lookP (wordsF black) [] (L.drop at_)).1, .ok (n + lenF i))
      else lenZ black L most (at_ + (lookP (wordsF black) [] (L.drop at_)).1) (n + lenF i) := by
  unfold lenZ
  by_cases h : 0 ≤ most
  · rw [if_pos h, lenA_eq black L _ at_ n ha]
    rcases (lookP (wordsF black) [] (L.drop at_)).2 with e | i
    · rfl
    · simp only
      by_cases h2 : most < ((n + lenF i : Nat) : Int)
      · rw [if_pos h2, if_pos (by omega)]
      · rw [if_neg h2, if_neg (by omega), if_pos h]
  · rw [if_neg h]
    rcases (lookP (wordsF black) [] (L.drop at_)).2 with e | i
    · rfl
    · simp only
      rw [if_pos (by omega)]
theorem lenZ_nat (black : Bool) (L : List Bool) (most at_ n : Nat) : lenZ black L (most : Int) at_ n = lenA black L most at_ n := by
  unfold lenZ
  rw [if_pos (by omega)]
  rfl
/-- a mode read: the place behind it, and its number or the error -/
def modeZ (L : List Bool) (at_ : Nat) : Nat × Except Nat Nat := match (lookP modesF [] (L.drop at_)).2 with
  | .error e => (at_ + (lookP modesF [] (L.drop at_)).1, .error e)
  | .ok i => (at_ + (lookP modesF [] (L.drop at_)).1, if i = 9 then .error 9 else .ok i)
def valR (k : Int) : Except Nat Nat → Int
  | .ok n => (n : Int) - k
  | .error _ => 0
def errR : Except Nat Nat → Int
  | .ok _ => 0
  | .error e => (e : Int)
theorem look_err {W : List (List Bool)} : ∀ (l p : List Bool) {k c : Nat}, lookP W p l = (k, .error c) → c = 2 ∨ c = 6
  | [], p, k, c, h => by
    rw [lookP] at h
    injection h with h1 h2
    injection h2 with h2
    exact .inl h2.symm
  | b :: r, p, k, c, h => by
    rw [lookP] at h
    split at h
    · injection h with h1 h2
      cases h2
    · split at h
      · exact look_err r _ h
      · injection h with h1 h2
        injection h2 with h2
        exact .inr h2.symm
theorem look_ok {W : List (List Bool)} : ∀ (l p : List Bool) {k i : Nat}, lookP W p l = (k, .ok i) → i < W.length
  | [], p, k, c, h => by
    rw [lookP] at h
    injection h with h1 h2
    cases h2
  | b :: r, p, k, c, h => by
    rw [lookP] at h
    split at h
    · rename_i hm
      injection h with h1 h2
      injection h2 with h2
      rw [← h2]
      exact List.idxOf_lt_length_of_mem hm
    · split at h
      · exact look_ok r _ h
      · injection h with h1 h2
        cases h2
theorem lenF_le {i : Nat} (h : i < 104) : lenF i ≤ 2560 := by
  unfold lenF
  split <;> omega
theorem lenF_lt (i : Nat) : lenF i < 64 ↔ i < 64 := by
  unfold lenF
  split <;> omega
def CReadP (w : World) (gr : Nat) (p : Option Addr) (cap : Nat) (xs : List UInt8) (low : Bool) (k : Int) (r : Nat × Except Nat Nat) (e : Ending) (w' : World) : Prop :=
  e = .returned (.tuple #[.int .i64 (valR k r.2), .int .i64 (errR r.2)]) ∧ Rd w' gr p cap xs r.1 low ∧ Only (· = gr) w w' ∧ w'.heap.size = w.heap.size
set_option maxHeartbeats 2000000 in
theorem cread_any (w : World) (B C c : Nat) (gr : Nat) (p : Option Addr) (cap : Nat) (xs : List UInt8) (a : Nat) (low : Bool) (most : Int) (b : Bool) (hC : Cd w B C c) (hO : Out B C gr) (hR : Rd w gr p cap xs a low) (hm1 : -9223372036854775808 ≤ most) (hm2 : most ≤ 9223372036854775807) :
    Calls Tryd.prog 24 #[.pointer (some ⟨c, 0, none⟩), .pointer (some ⟨gr, 0, none⟩), .int .i64 most, .bool b] w (CReadP w gr p cap xs low 0 (lenZ b (bitsOf low xs) most a 0)) := by
  have HCO := Lib.hid (colour_any b w B C c hC)
  have HCZ := Lib.hid hC.1
  have HR := Lib.hid hR
  have HO := Lib.hid hO
  have hal : a ≤ (bitsOf low xs).length := by rw [bitsOf_length]; exact hR.2.2.1
  have hbig : 8 * xs.length ≤ 2000000000000000 := hR.2.2.2
  obtain ⟨L, hL⟩ : ∃ L, L = bitsOf low xs := ⟨_, rfl⟩
  have HL := Lib.hid hL
  have hLl : L.length ≤ 2000000000000000 := by rw [hL, bitsOf_length]; exact hbig
  rw [← hL] at hal ⊢
  obtain ⟨r, hr⟩ : ∃ r, r = lenZ b L most a 0 := ⟨_, rfl⟩
  rw [← hr]
  have HRES := Lib.hid hr.symm
  clear hC hO hR hL hr hbig
  go_enter Tryd.func24, Tryd.ntmps24
  go_wp2_with fail
  refine HCO.out.mono ?_
  rintro e w1 ⟨⟨g, rfl, hg⟩, rfl⟩
  have HG := Lib.hid hg
  clear hg
  go_wp2_with fail
  go_loopw [11, 12, 13] (fun s _ _ wr => ∃ (n t : Nat), s = .int .i64 (n : Int) ∧ t ≤ L.length ∧ n ≤ 2560 * t ∧ (n = 0 ∨ (n : Int) ≤ most) ∧ Hid (lenZ b L most t n = r) ∧ Hid (Rd wr gr p cap xs t low) ∧ Hid (Only (· = gr) w wr) ∧ Hid (wr.heap.size = w.heap.size)) (fun _ _ _ wr => L.length - rdAt gr wr)
  case atStart => exact ⟨0, a, rfl, hal, by omega, .inl rfl, HRES, HR, Lib.hid (Only.refl _ _), Lib.hid rfl⟩
  case round =>
    obtain ⟨n, t, rfl, ht, hn, hnm, HE, HRr, HON, HZ⟩ := hrel
    have HRT := Lib.hid (rdAt_of HRr.out)
    obtain ⟨B1, C1, hB1, hC1, hbo⟩ : BoI wr B C g (wordsF b) (ints (lensF 104)) := HG.out.same HON.out.2.2.2.1 fun k h1 h2 => HON.out.2.2.2.2 k (by have := HCZ.out; omega) (fun e => by rcases HO.out with h | h <;> omega)
    have HRD := Lib.hid (readI_out wr B1 C1 g (wordsF b) (ints (lensF 104)) gr p cap xs t low hbo (by rcases HO.out with h | h <;> omega) HRr.out (by rw [ints_length, lensF_length, wordsF_length]))
    have HQ := Lib.hid (lenZ_eq b L most t n ht)
    clear hbo hB1 hC1
    go_wp2_with fail
    refine HRD.out.mono ?_
    rintro e w2 ⟨hres, ho2, hz2⟩
    have HO2 := Lib.hid (HON.out.trans ho2)
    have HZ2 := Lib.hid (hz2.trans HZ.out)
    rw [← HL.out] at hres
    clear ho2 hz2
    rcases hres with ⟨i, k, v, hlk, hv, rfl, hr2⟩ | ⟨ce, k, hlk, rfl, hr2⟩
    · have hi : i < 104 := by have := look_ok _ _ hlk; rwa [wordsF_length] at this
      rw [lensF_get hi] at hv
      injection hv with hv
      subst hv
      have hle := lookP_le (wordsF b) (L.drop t) []
      rw [hlk, List.length_nil, List.length_drop] at hle
      have hk1 : 1 ≤ k := by
        rcases Nat.eq_zero_or_pos k with h0 | h0
        · exfalso
          by_cases hd : L.drop t = []
          · rw [hd] at hlk; cases hlk
          · have := hle.2.2 hd; simp only at this; omega
        · exact h0
      have hk2 : t + k ≤ L.length := by have := hle.2.1; simp only at this; omega
      have hq := HQ.out
      rw [hlk, HE.out] at hq
      simp only at hq
      have hp := lenF_le hi
      have hp2 := lenF_lt i
      generalize lenF i = pt at *
      have HR2 := Lib.hid hr2
      have HSUB : IntKind.i64.wrap (most - (n : Int)) = most - (n : Int) := by rw [IntKind.wrap_i64]; omega
      by_cases hbig : most < ((n + pt : Nat) : Int)
      · rw [if_pos hbig] at hq
        have HQ2 := Lib.hid hq
        have hd : decide (most - (n : Int) < (pt : Int)) = true := by simp; omega
        clear hlk hq hr2 hle hp2 hi hk1 hk2 hbig
        go_wp2_with fail
        go_ret2
        exact ⟨by rw [HQ2.out]; rfl, by rw [HQ2.out]; exact HR2.out, HO2.out, HZ2.out⟩
      · rw [if_neg hbig] at hq
        have hd : decide (most - (n : Int) < (pt : Int)) = false := by simp; omega
        by_cases hlt : i < 64
        · rw [if_pos hlt] at hq
          have HQ2 := Lib.hid hq
          have hd2 : decide ((pt : Int) < 64) = true := by simp; omega
          have HS2 : Hid ((n : Int) + (pt : Int) = ((n + pt : Nat) : Int)) := Lib.hid (by omega)
          clear hlk hq hr2 hle hp2 hi hk1 hk2 hbig hlt
          go_wp2_with fail
          go_ret2
          exact ⟨by rw [HQ2.out]; simp only [valR, errR]; rw [Int.sub_zero, ← HS2.out]; rfl, by rw [HQ2.out]; exact HR2.out, HO2.out, HZ2.out⟩
        · rw [if_neg hlt] at hq
          have HQ2 := Lib.hid hq
          have hd2 : decide ((pt : Int) < 64) = false := by simp; omega
          have HS2 : Hid ((n : Int) + (pt : Int) = ((n + pt : Nat) : Int)) := Lib.hid (by omega)
          have HBD : Hid (n + pt ≤ 2560 * (t + k) ∧ ((n + pt : Nat) : Int) ≤ most ∧ t + k ≤ L.length ∧ 1 ≤ k) := Lib.hid ⟨by omega, by omega, hk2, hk1⟩
          clear hlk hq hr2 hle hp2 hi hk1 hk2 hbig hlt
          go_wp2_with fail
          go_roundw
          case rel => exact ⟨n + pt, t + k, by rw [← HS2.out], HBD.out.2.2.1, HBD.out.1,   .inr HBD.out.2.1, Lib.hid HQ2.out.symm, HR2, HO2, HZ2⟩
          case measure => rw [HRT.out, rdAt_of HR2.out]; have := HBD.out.2.2; omega
    · have hce := look_err _ _ hlk
      have hq := HQ.out
      rw [hlk, HE.out] at hq
      have HQ2 := Lib.hid hq
      have HR2 := Lib.hid hr2
      have hcz : ((ce : Int) != 0) = true := by rcases hce with rfl | rfl <;> rfl
      clear hlk hce hq hr2
      go_wp2_with fail
      go_ret2
      exact ⟨by rw [HQ2.out]; rfl, by rw [HQ2.out]; exact HR2.out, HO2.out, HZ2.out⟩
theorem cread_nil (w : World) (r : Value) (n : Int) (b : Bool) : Calls Tryd.prog 24 #[.pointer none, r, .int .i64 n, .bool b] w fun e w' => e = .returned (.tuple #[.int .i64 0, .int .i64 1]) ∧ w = w' := by
  go_enter Tryd.func24, Tryd.ntmps24
  go_wp2_with fail
  go_ret2
  exact ⟨rfl, rfl⟩
theorem Cd.modesR {w : World} {B C c : Nat} (h : Cd w B C c) : ∃ g, w.cell? ⟨c, 2, none⟩ = some (.pointer (some ⟨g, 0, none⟩)) ∧ BoI w B C g modesF (ints (modesN 10)) := by
  obtain ⟨h1, h2, h3, g1, g2, g3, h4, h5, h6, h7⟩ := h
  exact ⟨g3, by simp [World.cell?, h4], h7⟩
theorem creadm_any (w : World) (B C c : Nat) (gr : Nat) (p : Option Addr) (cap : Nat) (xs : List UInt8) (a : Nat) (low : Bool) (hC : Cd w B C c) (hO : Out B C gr) (hR : Rd w gr p cap xs a low) :
    Calls Tryd.prog 26 #[.pointer (some ⟨c, 0, none⟩), .pointer (some ⟨gr, 0, none⟩)] w (CReadP w gr p cap xs low 3 (modeZ (bitsOf low xs) a)) := by
  obtain ⟨g, hc, B1, C1, hB1, hC1, hbo⟩ := hC.modesR
  have HRD := Lib.hid (mreadI_out w B1 C1 g modesF (ints (modesN 10)) gr p cap xs a low hbo (by rcases hO with h | h <;> omega) hR (by rw [ints_length, modesN_length, modesF_length]))
  obtain ⟨L, hL⟩ : ∃ L, L = bitsOf low xs := ⟨_, rfl⟩
  have HL := Lib.hid hL
  obtain ⟨r, hr⟩ : ∃ r, r = modeZ L a := ⟨_, rfl⟩
  rw [← hL, ← hr]
  have HRES := Lib.hid hr
  clear hC hO hR hL hr hbo hB1 hC1
  go_enter Tryd.func26, Tryd.ntmps26
  go_wp2_with fail
  refine HRD.out.mono ?_
  rintro e w2 ⟨hres, ho2, hz2⟩
  have HO2 := Lib.hid ho2
  have HZ2 := Lib.hid hz2
  rw [← HL.out] at hres
  clear ho2 hz2
  have hrq := HRES.out
  unfold modeZ at hrq
  rcases hres with ⟨i, k, v, hlk, hv, rfl, hr2⟩ | ⟨ce, k, hlk, rfl, hr2⟩
  · have hi : i < 10 := by have := look_ok _ _ hlk; rwa [modesF_length] at this
    rw [modesN_get hi] at hv
    injection hv with hv
    subst hv
    rw [hlk] at hrq
    simp only at hrq
    have HR2 := Lib.hid hr2
    obtain ⟨z, hz⟩ : ∃ z : Int, z = (i : Int) - 3 := ⟨_, rfl⟩
    rw [← hz]
    by_cases h9 : i = 9
    · rw [if_pos h9] at hrq
      have HQ := Lib.hid hrq
      have hd : (z == 6) = true := by simp; omega
      clear hlk hrq hr2 hz h9 hi
      go_wp2_with fail
      go_ret2
      exact ⟨by rw [HQ.out]; rfl, by rw [HQ.out]; exact HR2.out, HO2.out, HZ2.out⟩
    · rw [if_neg h9] at hrq
      have HQ := Lib.hid hrq
      have HZE := Lib.hid hz
      have hd : (z == 6) = false := by simp; omega
      clear hlk hrq hr2 hz h9 hi
      go_wp2_with fail
      go_ret2
      exact ⟨by rw [HQ.out, HZE.out]; rfl, by rw [HQ.out]; exact HR2.out, HO2.out, HZ2.out⟩
  · have hce := look_err _ _ hlk
    rw [hlk] at hrq
    have HQ := Lib.hid hrq
    have HR2 := Lib.hid hr2
    have hcz : ((ce : Int) != 0) = true := by rcases hce with rfl | rfl <;> rfl
    clear hlk hce hrq hr2
    go_wp2_with fail
    go_ret2
    exact ⟨by rw [HQ.out]; rfl, by rw [HQ.out]; exact HR2.out, HO2.out, HZ2.out⟩
theorem creadm_nil (w : World) (r : Value) : Calls Tryd.prog 26 #[.pointer none, r] w fun e w' => e = .returned (.tuple #[.int .i64 0, .int .i64 1]) ∧ w = w' := by
  go_enter Tryd.func26, Tryd.ntmps26
  go_wp2_with fail
  go_ret2
  exact ⟨rfl, rfl⟩
end Go.Proofs.YtplbbejdnahibaaDoor.Fx


/- Contracts of the document's Same, Right and Next. -/
import Derived.Test.YtklofifmmcegpaaRnF
namespace Go.Proofs.Ytklofifmmcegpaa.Rn
open Go.RowKit Go.Proofs.Ytklofifmmcegpaa.Oct Go.Proofs.Ytklofifmmcegpaa.Bit Go.Proofs.Ytklofifmmcegpaa.Lp
set_option linter.unusedVariables false
set_option linter.unusedSimpArgs false
set_option maxRecDepth 100000

set_option maxHeartbeats 1000000 in
theorem rsame_any (p1 p2 : Option Addr) (l1 c1 l2 c2 : Nat) (xs ys : List Int) (w : World) (C1 C2 : Nat) (h1 : VRow w C1 p1 (ints xs)) (h2 : VRow w C2 p2 (ints ys)) (e1 : xs.length = l1) (e2 : ys.length = l2) (hb : l1 ≤ 100000) :
    Calls Try.prog 12 #[.slice p1 l1 c1, .slice p2 l2 c2] w fun e w' => e = .returned (.bool (decide (xs = ys))) ∧ Drawn w w' := by
  by_cases hle : l1 = l2
  · subst hle
    have H1 := Lib.hid h1
    have H2 := Lib.hid h2
    have E1 := Lib.hid e1
    have E2 := Lib.hid e2
    clear h1 h2 e1 e2
    go_enter Try.func12, Try.ntmps12
    go_wp2_with fail
    go_loopw [5] (fun i wr => ∃ k : Nat, k ≤ l1 ∧ i = .int .i64 (k : Int) ∧ Hid (xs.take k = ys.take k) ∧ Hid (Drawn w wr)) (fun i _ => l1 - (intOf i).toNat)
    case atStart => exact ⟨0, by omega, rfl, Lib.hid rfl, Lib.hid ⟨0, rfl⟩⟩
    case round =>
      obtain ⟨k, hk, rfl, HT, HD⟩ := hrel
      by_cases hlt : k < l1
      · have k1 : k < xs.length := by rw [E1.out]; exact hlt
        have k2 : k < ys.length := by rw [E2.out]; exact hlt
        obtain ⟨b1, o1, hq1, _⟩ := H1.out.addr (by rw [ints_length]; omega)
        obtain ⟨b2, o2, hq2, _⟩ := H2.out.addr (by rw [ints_length]; omega)
        subst hq1
        subst hq2
        have hc1 := H1.out.int k k1
        have hc2 := H2.out.int k k2
        have g1 : wr.cell? ⟨b1, o1 + k, none⟩ = some (.int .i64 xs[k]) := by
          obtain ⟨m, rfl⟩ := HD.out
          exact hc1
        have g2 : wr.cell? ⟨b2, o2 + k, none⟩ = some (.int .i64 ys[k]) := by
          obtain ⟨m, rfl⟩ := HD.out
          exact hc2
        have HS : Hid (xs[k] = ys[k] → xs.take (k + 1) = ys.take (k + 1)) := Lib.hid fun e => by rw [List.take_succ_eq_append_getElem k1, List.take_succ_eq_append_getElem k2, HT.out, e]
        have HNE : Hid (xs[k] ≠ ys[k] → xs ≠ ys) := Lib.hid fun e h => by subst h; exact e rfl
        generalize xs[k] = x at g1 HS HNE
        generalize ys[k] = y at g2 HS HNE
        have hd : decide ((k : Int) < (l1 : Int)) = true := by simp; omega
        have i1 : (0 : Int) ≤ (k : Int) := by omega
        have i2 : (k : Int) < (l1 : Int) := by omega
        have HDM := Lib.hid (fun n => HD.out.more n)
        clear hc1 hc2 k1 k2 HT HD
        by_cases he : x = y
        · subst he
          have HS2 := Lib.hid (HS.out rfl)
          clear HS HNE
          go_wp2_with fail
          go_quiet (fail)
          go_wp2_with fail
          go_roundw
          case rel => exact ⟨k + 1, by omega, by go_num, HS2, Lib.hid (HDM.out _)⟩
          case measure => simp [intOf]; omega
        · have hne : (x == y) = false := by simpa using he
          have HNF : Hid (decide (xs = ys) = false) := Lib.hid (by simpa using HNE.out he)
          clear HS HNE he
          go_wp2_with fail
          go_quiet (fail)
          go_wp2_with fail
          go_ret
          exact ⟨by rw [HNF.out]; rfl, HDM.out _⟩
      · have : k = l1 := by omega
        subst this
        have hd : decide ((k : Int) < (k : Int)) = false := by simp
        have HF : Hid (decide (xs = ys) = true) := Lib.hid (by
          have := HT.out
          rw [List.take_of_length_le (by rw [E1.out]; exact Nat.le_refl _), List.take_of_length_le (by rw [E2.out]; exact Nat.le_refl _)] at this
          simpa using this)
        go_wp2_with fail
        go_ret
        exact ⟨by rw [HF.out]; rfl, HD.out⟩
  · have hne : ((l1 : Int) == (l2 : Int)) = false := by simp; omega
    have hnn : (l1 == l2) = false := by simpa using hle
    have HF : Hid (decide (xs = ys) = false) := Lib.hid (by simp; intro h; subst h; omega)
    clear h1 h2 e1 e2 hle
    go_enter Try.func12, Try.ntmps12
    go_wp2_with fail
    go_ret
    exact ⟨by rw [HF.out]; rfl, ⟨0, rfl⟩⟩
/-- the place before the k-th -/
def bef (zs : List Int) (k : Nat) (y : Int) : Prop := (k = 0 ∧ y = -1) ∨ (0 < k ∧ 0 ≤ y ∧ ∃ h : k - 1 < zs.length, zs[k - 1] = y)
set_option maxHeartbeats 4000000 in
theorem rright_any (p : Option Addr) (len cap : Nat) (zs : List Int) (z : Int) (w : World) (C : Nat) (h : VRow w C p (ints zs)) (hx : zs.length = len) (hl : len ≤ maxLen) :
    Calls Try.prog 17 #[.slice p len cap, .int .i64 z] w fun e w' => e = .returned (.bool (rightB zs z)) ∧ Drawn w w' := by
  unfold maxLen at hl
  have HH := Lib.hid h
  have HX := Lib.hid hx
  obtain ⟨X, hX⟩ : ∃ X, X = rightB zs z := ⟨_, rfl⟩
  rw [← hX]
  have HST : Hid (bef zs 0 (-1) ∧ rb z (-1) (zs.drop 0) = X) := Lib.hid ⟨.inl ⟨rfl, rfl⟩, hX.symm⟩
  clear h hx hX
  go_enter Try.func17, Try.ntmps17
  go_wp2_with fail
  go_loopw [5] (fun i wr => ∃ (k : Nat) (y : Int), k ≤ len ∧ i = .int .i64 (k : Int) ∧ Hid (bef zs k y ∧ rb z y (zs.drop k) = X) ∧ Hid (Drawn w wr)) (fun i _ => len - (intOf i).toNat)
  case atStart => exact ⟨0, -1, by omega, rfl, HST, Lib.hid ⟨0, rfl⟩⟩
  case round =>
    clear HST
    obtain ⟨k, y, hk, rfl, HR, HD⟩ := hrel
    by_cases hlt : k < len
    · have hkl : k < zs.length := by rw [HX.out]; exact hlt
      obtain ⟨b, off, hq, _⟩ := HH.out.addr (by rw [ints_length]; omega)
      subst hq
      have hc0 := HH.out.int k hkl
      have hcw : ∀ (a : Addr) v, w.cell? a = some v → wr.cell? a = some v := fun a v h => by
        obtain ⟨m, rfl⟩ := HD.out
        exact h
      have hc := hcw _ _ hc0
      obtain ⟨hbf, hr⟩ := HR.out
      have HNX : Hid (0 ≤ zs[k] → bef zs (k + 1) zs[k]) := Lib.hid fun h0 => .inr ⟨by omega, h0, by simpa using hkl, by simp⟩
      rw [List.drop_eq_getElem_cons hkl, rb] at hr
      generalize zs[k] = x at hc hr HNX
      have hd : decide ((k : Int) < (len : Int)) = true := by simp; omega
      have i1 : (0 : Int) ≤ (k : Int) := by omega
      have i2 : (k : Int) < (len : Int) := by omega
      have HDM := Lib.hid (fun n => HD.out.more n)
      by_cases h0 : x < 0
      · have hbad : x ≤ y ∨ z ≤ x := .inl (by rcases hbf with ⟨_, h⟩ | ⟨_, h, _⟩ <;> omega)
        rw [if_pos hbad] at hr
        subst hr
        have hd1 : decide (x < 0) = true := by simpa using h0
        clear HR hkl hbf h0 hbad hc0 hcw HNX HD
        go_wp2_with fail
        go_quiet (fail)
        go_wp2_with fail
        go_ret
        exact ⟨rfl, HDM.out _⟩
      · have hd1 : decide (x < 0) = false := by simpa using h0
        by_cases h2 : z ≤ x
        · rw [if_pos (.inr h2)] at hr
          subst hr
          have hd2 : decide (z ≤ x) = true := by simpa using h2
          clear HR hkl hbf h0 h2 hc0 hcw HNX HD
          go_wp2_with fail
          go_quiet (fail)
          go_wp2_with fail
          go_ret
          exact ⟨rfl, HDM.out _⟩
        · have hd2 : decide (z ≤ x) = false := by simpa using h2
          rcases hbf with ⟨hk0, hy⟩ | ⟨hk0, hy0, hj, hyj⟩
          · subst hk0
            rw [if_neg (by omega)] at hr
            have HN := Lib.hid (And.intro (HNX.out (by omega)) hr)
            have hd3 : decide ((0 : Int) < ((0 : Nat) : Int)) = false := by simp
            have i3 : (0 : Int) < (len : Int) := by omega
            have i4 : 0 < len := by omega
            rw [Nat.add_zero] at hc
            clear HR hkl h0 h2 hc0 hcw HNX HD hr
            go_wp2_with fail
            go_quiet (fail)
            go_wp2_with fail
            go_roundw
            case rel => exact ⟨1, x, by omega, by go_num, HN, Lib.hid (HDM.out _)⟩
            case measure => simp [intOf]; omega
          · have hcj := hcw _ _ (HH.out.int (k - 1) hj)
            rw [hyj] at hcj
            obtain ⟨j, hje⟩ : ∃ j, j = k - 1 := ⟨_, rfl⟩
            rw [← hje] at hcj
            have hms : IntKind.i64.wrap ((k : Int) - 1) = (j : Int) := by rw [IntKind.wrap_i64]; omega
            have hms2 : (k : Int) - 1 = (j : Int) := by omega
            have j1 : (0 : Int) ≤ (j : Int) := by omega
            have j2 : (j : Int) < (len : Int) := by omega
            have hd3 : decide (0 < k) = true := by simpa using hk0
            by_cases h4 : x ≤ y
            · rw [if_pos (.inl h4)] at hr
              subst hr
              have hd4 : decide (x ≤ y) = true := by simpa using h4
              clear HR hkl hyj h0 h2 h4 hc0 hcw HNX HD hje hj
              go_wp2_with fail
              go_quiet (fail)
              go_wp2_with fail
              go_ret
              exact ⟨rfl, HDM.out _⟩
            · rw [if_neg (by omega)] at hr
              have hd4 : decide (x ≤ y) = false := by simpa using h4
              have HN := Lib.hid (And.intro (HNX.out (by omega)) hr)
              clear HR hkl hyj h0 h2 h4 hc0 hcw HNX HD hje hj hr
              go_wp2_with fail
              go_quiet (fail)
              go_wp2_with fail
              go_roundw
              case rel => exact ⟨k + 1, x, by omega, by go_num, HN, Lib.hid (HDM.out _)⟩
              case measure => simp [intOf]; omega
    · have : k = len := by omega
      subst this
      have hr := HR.out.2
      rw [List.drop_of_length_le (by rw [HX.out]; omega), rb] at hr
      subst hr
      have hd : decide ((k : Int) < (k : Int)) = false := by simp
      go_wp2_with fail
      go_ret
      exact ⟨rfl, HD.out⟩
set_option maxHeartbeats 4000000 in
theorem rnext_any (p : Option Addr) (len cap : Nat) (zs : List Int) (f : Int) (tb : Bool) (z : Int) (w : World) (C : Nat) (h : VRow w C p (ints zs)) (hx : zs.length = len) (hl : len ≤ 100000) :
    Calls Try.prog 19 #[.slice p len cap, .int .i64 f, .bool tb, .int .i64 z] w fun e w' => e = .returned (.tuple #[.int .i64 (nextI z zs tb f).1, .int .i64 (nextI z zs tb f).2]) ∧ Drawn w w' := by
  have HH := Lib.hid h
  have HX := Lib.hid hx
  obtain ⟨X, hX⟩ : ∃ X, X = nextI z zs tb f := ⟨_, rfl⟩
  rw [← hX]
  have HST : Hid (nextI z (zs.drop 0) (tb ^^ (0 % 2 == 1)) f = X) := Lib.hid (by rw [hX]; simp)
  clear h hx hX
  go_enter Try.func19, Try.ntmps19
  go_wp2_with fail
  go_loop [10] (fun i => ∃ (k : Nat), k ≤ len ∧ i = .int .i64 (k : Int) ∧ Hid (nextI z (zs.drop k) (tb ^^ (k % 2 == 1)) f = X)) (fun i => len - (intOf i).toNat)
  case atStart => exact ⟨0, by omega, rfl, HST⟩
  case round =>
    clear HST
    obtain ⟨k, hk, rfl, HR⟩ := hrel
    by_cases hlt : k < len
    · have hkl : k < zs.length := by rw [HX.out]; exact hlt
      obtain ⟨b, off, hq, _⟩ := HH.out.addr (by rw [ints_length]; omega)
      subst hq
      have hc := HH.out.int k hkl
      have hr := HR.out
      rw [List.drop_eq_getElem_cons hkl, nextI, headD_getD, show (!(tb ^^ (k % 2 == 1))) = (tb ^^ ((k + 1) % 2 == 1)) from by
        rcases (show k % 2 = 0 ∨ k % 2 = 1 by omega) with q | q
        · rw [q, show (k + 1) % 2 = 1 from by omega]; cases tb <;> rfl
        · rw [q, show (k + 1) % 2 = 0 from by omega]; cases tb <;> rfl] at hr
      have hev : (tb ^^ (k % 2 == 1)) = ((k % 2 == 0) == tb) := by
        rcases (show k % 2 = 0 ∨ k % 2 = 1 by omega) with q | q <;> rw [q] <;> cases tb <;> rfl
      rw [hev] at hr
      have hmz : ((k : Int) % 2 == 0) = (k % 2 == 0) := by rw [Bool.eq_iff_iff]; simp; omega
      generalize (k % 2 == 0) = ev at hr hmz
      generalize zs[k] = x at hc hr
      have hd : decide ((k : Int) < (len : Int)) = true := by simp; omega
      have i1 : (0 : Int) ≤ (k : Int) := by omega
      have i2 : (k : Int) < (len : Int) := by omega
      clear HR hev
      by_cases h1 : x ≤ f
      · have hd2 : decide (x ≤ f) = true := by simpa using h1
        rw [if_neg (by rintro ⟨h, _⟩; omega)] at hr
        have HR := Lib.hid hr
        clear h1 hr hkl
        go_wp2_with fail
        go_round
        case rel => exact ⟨k + 1, by omega, by go_num, HR⟩
        case measure => simp [intOf]; omega
      · have hd2 : decide (x ≤ f) = false := by simpa using h1
        by_cases h2 : ev = tb
        · subst h2
          rw [if_pos ⟨by omega, by simp⟩] at hr
          by_cases h3 : k + 1 < len
          · have hk1 : k + 1 < zs.length := by rw [HX.out]; exact h3
            have hc1 := HH.out.int (k + 1) hk1
            have e : zs.getD (k + 1) z = zs[k + 1] := by rw [List.getD_eq_getElem?_getD, List.getElem?_eq_getElem hk1]; rfl
            rw [e] at hr
            generalize zs[k + 1] = y at hc1 hr
            subst hr
            obtain ⟨j, hj⟩ : ∃ j, j = k + 1 := ⟨_, rfl⟩
            rw [← hj] at hc1
            have hw1 : IntKind.i64.wrap ((k : Int) + 1) = (j : Int) := by rw [IntKind.wrap_i64]; omega
            have hw2 : (k : Int) + 1 = (j : Int) := by omega
            have j1 : (0 : Int) ≤ (j : Int) := by omega
            have j2 : (j : Int) < (len : Int) := by omega
            have hq0 : ((k : Int) == (len : Int) - 1) = false := by simp; omega
            clear h1 e hk1 hkl hj
            go_wp2_with fail
            go_quiet (fail)
            go_wp2_with fail
            go_ret2
            exact ⟨rfl, ⟨_, rfl⟩⟩
          · have e : zs.getD (k + 1) z = z := by rw [List.getD_eq_getElem?_getD, List.getElem?_eq_none (by rw [HX.out]; omega)]; rfl
            rw [e] at hr
            subst hr
            have hq0 : ((k : Int) == (len : Int) - 1) = true := by simp; omega
            clear h1 e hkl
            go_wp2_with fail
            go_ret2
            exact ⟨rfl, ⟨0, rfl⟩⟩
        · have he : (!tb) = ev := by cases ev <;> cases tb <;> simp_all
          subst he
          rw [if_neg (by rintro ⟨_, h⟩; cases tb <;> simp at h)] at hr
          have HR := Lib.hid hr
          clear h1 h2 hr hkl
          go_wp2_with fail
          go_round
          case rel => exact ⟨k + 1, by omega, by go_num, HR⟩
          case measure => simp [intOf]; omega
    · have : k = len := by omega
      subst this
      have hr := HR.out
      rw [List.drop_of_length_le (by rw [HX.out]; omega), nextI] at hr
      subst hr
      have hd : decide ((k : Int) < (k : Int)) = false := by simp
      go_wp2_with fail
      go_ret2
      exact ⟨rfl, ⟨0, rfl⟩⟩
end Go.Proofs.Ytklofifmmcegpaa.Rn

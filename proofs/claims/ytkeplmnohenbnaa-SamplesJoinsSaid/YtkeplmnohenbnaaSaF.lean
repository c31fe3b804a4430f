
/- The document's answers for layer 17: Size, Pack, Same. -/
import Derived.Test.YtkeplmnohenbnaaSaE
import Derived.Test.YtkeplmnohenbnaaBitV
namespace Go.Proofs.Ytkeplmnohenbnaa.Sa
open Go.RowKit Go.Proofs.Ytkeplmnohenbnaa.Oct Go.Proofs.Ytkeplmnohenbnaa.Bit
open Go.Proofs.Ytkeplmnohenbnaa.Lp (VRow vrow_blk vrow_own wpList_append_vals blk_set blk_far blk_frozen fillV fillV_length fillV_zero fillV_all fillV_step)
set_option linter.unusedVariables false
set_option linter.unusedSimpArgs false
set_option maxRecDepth 100000

theorem rsize_any (n wide : Int) (w : World) : Calls Try.prog 11 #[.int .i64 n, .int .i64 wide] w (SizeP w n wide) := by
  by_cases h1 : n < 0
  · have e : okS n wide = false := by simp [okS]; omega
    have d1 : decide (n < 0) = true := by simpa using h1
    have e1 : sizeV n wide = 0 := by unfold sizeV; rw [e]; rfl
    have e2 : sizeE n wide = 1 := by unfold sizeE; rw [e]; rfl
    unfold SizeP
    rw [e1, e2]
    clear e e1 e2 h1
    go_enter Try.func11, Try.ntmps11
    go_wp2_with fail
    go_ret2
    exact ⟨rfl, rfl⟩
  have d1 : decide (n < 0) = false := by simpa using h1
  by_cases h2 : 4194304 < n
  · have e : okS n wide = false := by simp [okS]; omega
    have d2 : decide (4194304 < n) = true := by simpa using h2
    have e1 : sizeV n wide = 0 := by unfold sizeV; rw [e]; rfl
    have e2 : sizeE n wide = 1 := by unfold sizeE; rw [e]; rfl
    unfold SizeP
    rw [e1, e2]
    clear e e1 e2 h1 h2
    go_enter Try.func11, Try.ntmps11
    go_wp2_with fail
    go_ret2
    exact ⟨rfl, rfl⟩
  have d2 : decide (4194304 < n) = false := by simpa using h2
  by_cases h3 : wide < 1
  · have e : okS n wide = false := by simp [okS]; omega
    have d3 : decide (wide < 1) = true := by simpa using h3
    have e1 : sizeV n wide = 0 := by unfold sizeV; rw [e]; rfl
    have e2 : sizeE n wide = 1 := by unfold sizeE; rw [e]; rfl
    unfold SizeP
    rw [e1, e2]
    clear e e1 e2 h1 h2 h3
    go_enter Try.func11, Try.ntmps11
    go_wp2_with fail
    go_ret2
    exact ⟨rfl, rfl⟩
  have d3 : decide (wide < 1) = false := by simpa using h3
  by_cases h4 : 32 < wide
  · have e : okS n wide = false := by simp [okS]; omega
    have d4 : decide (32 < wide) = true := by simpa using h4
    have e1 : sizeV n wide = 0 := by unfold sizeV; rw [e]; rfl
    have e2 : sizeE n wide = 1 := by unfold sizeE; rw [e]; rfl
    unfold SizeP
    rw [e1, e2]
    clear e e1 e2 h1 h2 h3 h4
    go_enter Try.func11, Try.ntmps11
    go_wp2_with fail
    go_ret2
    exact ⟨rfl, rfl⟩
  have d4 : decide (32 < wide) = false := by simpa using h4
  have e : okS n wide = true := by simp [okS]; omega
  obtain ⟨hp1, hp2⟩ := ok_prod e
  have e1 : sizeV n wide = (n * wide + 7) / 8 := by unfold sizeV; rw [e]; rfl
  have e2 : sizeE n wide = 0 := by unfold sizeE; rw [e]; rfl
  unfold SizeP
  rw [e1, e2]
  obtain ⟨m, hm⟩ : ∃ m : Nat, (m : Int) = n * wide := ⟨(n * wide).toNat, by omega⟩
  rw [← hm] at hp1 hp2 ⊢
  obtain ⟨hw, hw2⟩ := wi_small (n * wide) (m : Int) hm.symm hp1 (by omega)
  obtain ⟨s, hs⟩ : ∃ s, s = (m + 7) / 8 := ⟨_, rfl⟩
  have hsz : ((m : Int) + 7) / 8 = (s : Int) := by omega
  rw [hsz]
  have HS : Hid (m ≤ 8 * s ∧ 8 * s ≤ m + 7) := Lib.hid (by omega)
  have hm8 : m ≤ 134217728 := by omega
  have hs9 : s ≤ 20000000 := by omega
  clear e e1 e2 h1 h2 h3 h4 hm hs hsz hp1 hp2
  go_enter Try.func11, Try.ntmps11
  go_wp2_with fail
  clear hw hw2
  go_loop [6] (fun a => ∃ k : Nat, m ≤ k ∧ k ≤ 8 * s ∧ a = .int .i64 (k : Int)) (fun a => 8 * s - (intOf a).toNat)
  case atStart => exact ⟨m, Nat.le_refl _, HS.out.1, rfl⟩
  case round =>
    obtain ⟨k, hk1, hk2, rfl⟩ := hrel
    have hs2 := HS.out.2
    have hk9 : k ≤ 200000000 := by omega
    by_cases h8 : k % 8 = 0
    · have hk : k = 8 * s := by omega
      have qn : ((k : Int) % 8 != 0) = false := by simp; omega
      have hd : (k : Int) / 8 = (s : Int) := by omega
      clear h8 hk hk1 hk2 hs2 HS
      go_wp2_with fail
      go_ret2
      exact ⟨rfl, rfl⟩
    · have hk : k < 8 * s := by omega
      have qn : ((k : Int) % 8 != 0) = true := by simp; omega
      clear h8 hs2
      go_wp2_with fail
      go_round
      case rel => exact ⟨k + 1, by omega, by omega, by go_num⟩
      case measure => simp [intOf]; omega
/-- the same samples? -/
def sameU (a b : List Nat) : Bool := a == b
theorem same_any (p1 : Option Addr) (c1 : Nat) (p2 : Option Addr) (c2 : Nat) (xa xb : List Nat) (w : World) (C : Nat) (h1 : VRow w C p1 (u32s xa)) (h2 : VRow w C p2 (u32s xb)) (hl : xa.length ≤ 10000000) (hl2 : xb.length ≤ 10000000) :
    Calls Try.prog 14 #[.slice p1 xa.length c1, .slice p2 xb.length c2] w fun e w' => e = .returned (.bool (sameU xa xb)) ∧ Drawn w w' := by
  by_cases hne : xa.length = xb.length
  · obtain ⟨n, hn⟩ : ∃ n, n = xa.length := ⟨_, rfl⟩
    have HN := Lib.hid hn
    have HN2 : Hid (n = xb.length) := Lib.hid (by omega)
    have H1 := Lib.hid h1
    have H2 := Lib.hid h2
    have hnn : n ≤ 10000000 := by omega
    rw [← hne, ← hn]
    clear h1 h2 hn hne hl hl2
    go_enter Try.func14, Try.ntmps14
    go_wp2_with fail
    go_loopw [5] (fun i wr => ∃ k : Nat, k ≤ n ∧ i = .int .i64 (k : Int) ∧ Hid (xa.take k = xb.take k) ∧ Hid (Drawn w wr)) (fun i _ => n - (intOf i).toNat)
    case atStart => exact ⟨0, by omega, rfl, Lib.hid rfl, Lib.hid ⟨0, rfl⟩⟩
    case round =>
      obtain ⟨k, hk, rfl, HE, HD⟩ := hrel
      by_cases hlt : k < n
      · have hka : k < xa.length := by rw [← HN.out]; exact hlt
        have hkb : k < xb.length := by rw [← HN2.out]; exact hlt
        obtain ⟨b1, o1, hq1, _, hc1⟩ := vrow_u32 H1.out k hka
        obtain ⟨b2, o2, hq2, _, hc2⟩ := vrow_u32 H2.out k hkb
        subst hq1
        subst hq2
        have hd := HD.out
        obtain ⟨j, hj⟩ := hd
        have hcr1 : wr.cell? ⟨b1, o1 + k, none⟩ = some (.int .u32 (xa[k] : Int)) := by rw [hj]; exact hc1
        have hcr2 : wr.cell? ⟨b2, o2 + k, none⟩ = some (.int .u32 (xb[k] : Int)) := by rw [hj]; exact hc2
        have HT : Hid (xa[k] = xb[k] → xa.take (k + 1) = xb.take (k + 1)) := Lib.hid (fun e => by rw [List.take_succ_eq_append_getElem hka, List.take_succ_eq_append_getElem hkb, HE.out, e])
        have HF : Hid (xa[k] ≠ xb[k] → sameU xa xb = false) := Lib.hid (fun e => by
          unfold sameU
          rw [beq_eq_false_iff_ne]
          intro he
          subst he
          exact e rfl)
        generalize xa[k] = a at hcr1 HT HF
        generalize xb[k] = b at hcr2 HT HF
        have ql : decide ((k : Int) < (n : Int)) = true := by simpa using hlt
        have i1 : (0 : Int) ≤ (k : Int) := by omega
        have i2 : (k : Int) < (n : Int) := by omega
        clear hj hc1 hc2 hka hkb HE
        by_cases hab : a = b
        · have HT2 := Lib.hid (HT.out hab)
          have qn : ((a : Int) != (b : Int)) = false := by simp; omega
          clear HT HF hab
          go_wp2_with fail
          go_quiet (fail)
          go_wp2_with fail
          go_roundw
          case rel => exact ⟨k + 1, by omega, by go_num, HT2, Lib.hid (HD.out.more _)⟩
          case measure => simp [intOf]; omega
        · have HF2 := Lib.hid (HF.out hab)
          have qn : ((a : Int) != (b : Int)) = true := by simp; omega
          clear HT HF hab
          go_wp2_with fail
          go_quiet (fail)
          go_wp2_with fail
          go_ret
          exact ⟨by rw [HF2.out]; rfl, HD.out.more _⟩
      · have : k = n := by omega
        subst this
        have he := HE.out
        rw [HN.out, List.take_length] at he
        rw [← HN.out, HN2.out, List.take_length] at he
        have HR : Hid (sameU xa xb = true) := Lib.hid (by unfold sameU; rw [he]; exact beq_self_eq_true _)
        have ql : decide ((k : Int) < (k : Int)) = false := by simp
        clear he HE H1 H2 HN HN2 hlt hk
        go_wp2_with fail
        go_ret
        exact ⟨by rw [HR.out]; rfl, HD.out⟩
  · have e : sameU xa xb = false := by
      unfold sameU
      rw [beq_eq_false_iff_ne]
      intro he
      exact hne (by rw [he])
    have qn : ((xa.length : Int) != (xb.length : Int)) = true := by simp; omega
    rw [e]
    generalize xa.length = n at *
    generalize xb.length = m at *
    clear e h1 h2
    go_enter Try.func14, Try.ntmps14
    go_wp2_with fail
    go_ret
    exact ⟨rfl, ⟨0, rfl⟩⟩
end Go.Proofs.Ytkeplmnohenbnaa.Sa

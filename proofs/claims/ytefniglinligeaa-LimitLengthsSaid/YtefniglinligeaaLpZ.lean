
/- The walk of LimitLengths. -/
import Derived.Test.YtefniglinligeaaLpY
namespace Go.Proofs.Ytefniglinligeaa.Lp
open Go.RowKit Go.Proofs.Ytefniglinligeaa.Oct Go.Proofs.Ytefniglinligeaa.Lm
set_option linter.unusedVariables false
set_option linter.unusedSimpArgs false
set_option maxRecDepth 100000

theorem sum_bound {f : List Nat} (h : ∀ x ∈ f, x ≤ 1073741824) (hl : f.length ≤ 40) : 30 * f.sum < far := by
  have : ∀ (g : List Nat), (∀ x ∈ g, x ≤ 1073741824) → g.sum ≤ g.length * 1073741824 := by
    intro g
    induction g with
    | nil => intro _; simp
    | cons x g ih =>
      intro h
      have h1 := ih (fun y hy => h y (List.mem_cons_of_mem _ hy))
      have h2 := h x (List.mem_cons_self ..)
      rw [List.sum_cons, List.length_cons]
      omega
  have h9 := this f h
  have h8 : f.length * 1073741824 ≤ 40 * 1073741824 := Nat.mul_le_mul_right _ hl
  have h7 := Nat.le_trans h9 h8
  unfold far
  omega
theorem pow_facts (m : Nat) (h : m ≤ 30) : wrap64 ((2 : Int) ^ m) = ((2 ^ m : Nat) : Int) := by
  have hpw : (2 : Nat) ^ m ≤ 2 ^ 30 := Nat.pow_le_pow_right (by omega) h
  have hcast : ((2 : Int) ^ m) = ((2 ^ m : Nat) : Int) := by simp
  rw [hcast]
  have : (2 : Nat) ^ 30 = 1073741824 := by decide
  generalize (2 : Nat) ^ m = x at hpw ⊢
  unfold wrap64
  omega
set_option maxHeartbeats 8000000 in
theorem lengths_walk (a : Option Addr) (len cap : Nat) (most : Int) (W : World) (h : IsInts W a len cap) (hwf : (Lit.int IntKind.i64 most).wf = true) :
    Calls Try.prog 3 #[.slice a len cap, .int .i64 most] W fun e w' => e = .returned (.bool true) ∧ Below W.heap.size W w' := by
  obtain ⟨zs, hx, hr, _, _, hnil⟩ := h
  have HX := Lib.hid hx
  have HR := Lib.hid hr
  have HNIL := Lib.hid hnil
  clear hx hr hnil hwf
  have big : Hid (∀ w1, Below W.heap.size W w1 → Calls Try.prog 7 #[] w1 fun e w' => e = .returned (.bool true) ∧ Below W.heap.size W w') := fun w1 hb => (lives_any w1).mono fun e w' ⟨h1, h2⟩ => ⟨h1, hb.trans (h2.mono hb.size)⟩
  have hl0 := big.out W (Below.refl _ _)
  go_enter Try.func3, Try.ntmps3
  go_wp2_with fail
  refine hl0.mono ?_
  clear hl0
  rintro e w1 ⟨rfl, hb1⟩
  have HB1 := Lib.hid hb1
  clear hb1
  by_cases hbig : 400 < len
  · have hd : decide ((400 : Int) < (len : Int)) = true := decide_eq_true (by omega)
    go_wp2_with fail
    refine (big.out _ HB1.out).mono ?_
    rintro e w2 ⟨rfl, hb2⟩
    have HB2 := Lib.hid hb2
    clear hb2
    go_wp2_with fail
    go_ret
    exact ⟨rfl, HB2.out⟩
  have hd : decide ((400 : Int) < (len : Int)) = false := decide_eq_false (by omega)
  clear big
  have HE0 : Hid (IOwn (w1.alloc (.cells #[] 3)) w1.heap.size (.slice (some ⟨w1.heap.size, 0, none⟩) 0 0) []) := own_made w1 [] (by simp)
  have hbel1 : Below w1.heap.size w1 (w1.alloc (.cells #[] 3)) := (Below.refl _ w1).alloc (Nat.le_refl _) _
  have HBE := Lib.hid hbel1
  have hsz1 : w1.heap.size ≤ (w1.alloc (.cells #[] 3)).heap.size := by simp
  have HRA : Hid (VRow (w1.alloc (.cells #[] 3)) (w1.alloc (.cells #[] 3)).heap.size a (ints zs)) := (HR.out.below (HB1.out.trans (hbel1.mono HB1.out.size)) (Nat.le_refl _)).mono (Nat.le_trans HB1.out.size hbel1.size)
  clear hbel1
  go_upto_region 4 with (at_builtin; refine wpList_append_int rfl _ _ rfl w1.heap.size (.slice (some ⟨w1.heap.size, 0, none⟩) 0 0) [] rfl HE0.out a len cap zs rfl HRA.out HX.out HNIL.out (by simp; omega) hsz1 ?_; intro v2 w2 ho2 hb2)
  obtain ⟨q, c, hu, _, _, _, hvq⟩ := ho2.shape
  subst hu
  have hlq : ([] ++ zs).length = len := by rw [List.nil_append]; exact HX.out
  rw [hlq]
  rw [List.nil_append] at hvq
  have HVQ := Lib.hid hvq
  have HB2 : Hid (Below W.heap.size W w2) := HB1.out.trans ((HBE.out.trans hb2).mono HB1.out.size)
  have hl := lengths_any q len c most zs w2 hvq HX.out
  clear ho2 hb2 hlq hvq HE0 HRA HBE hsz1
  go_wp2_with fail
  refine hl.mono ?_
  clear hl
  rintro e w3 ⟨hb3, hres⟩
  have HB3 : Hid (Below W.heap.size W w3) := HB2.out.trans (hb3.mono HB2.out.size)
  have HVQ3 : Hid (VRow w3 w3.heap.size q (ints zs)) := (HVQ.out.below hb3 (Nat.le_refl _)).mono hb3.size
  have HV3 : Hid (VRow w3 w3.heap.size a (ints zs)) := (HR.out.below HB3.out (Nat.le_refl _)).mono HB3.out.size
  have hwr := wrong_any a len cap most zs w3 HV3.out HX.out
  clear hb3
  rcases hres with ⟨hok, rfl⟩ | hres
  · rw [hok] at hwr
    clear hok
    go_wp2_with fail
    refine hwr.mono ?_
    rintro e w4 ⟨rfl, rfl⟩
    clear hwr
    go_wp2_with fail
    go_ret
    exact ⟨rfl, HB3.out⟩
  have hok : okB zs most = true := by rcases hres with h | h <;> exact h.1
  rw [hok] at hwr
  obtain ⟨p1, p2, p3, p4⟩ := okB_parts hok
  obtain ⟨m, rfl⟩ : ∃ m : Nat, most = (m : Int) := ⟨most.toNat, by omega⟩
  rw [Int.toNat_natCast] at hres
  have HOK := Lib.hid hok
  have HP4 := Lib.hid p4
  have hm30 : m ≤ 30 := by omega
  have hl300 : len ≤ 300 := by rw [← HX.out]; exact p3
  have hco := coming_any a len cap zs w3 HV3.out HX.out (by omega)
  have HCI : Hid ((comI zs).length = (come (natsOf zs)).length) := by show _ = _; rw [comI_nat zs (fun z hz => (p4 z hz).1), intsOf_length]
  have hw2 := pow_facts m hm30
  obtain ⟨n, hn⟩ : ∃ n, n = (come (natsOf zs)).length := ⟨_, rfl⟩
  have HN := Lib.hid hn
  have hn300 : n ≤ 300 := by rw [hn]; exact Nat.le_trans (come_few zs) p3
  rcases hres with ⟨_, hcnt, rfl⟩ | ⟨_, hcnt, bl, ls, rfl, hlr, _, hfine⟩
  · have d5 : decide (wrap64 ((2 : Int) ^ m) < (n : Int)) = true := decide_eq_true (by rw [hw2, hn]; omega)
    clear hok p1 p2 p3 p4 hcnt hn hw2
    go_wp2_with fail
    refine hwr.mono ?_
    rintro e w4 ⟨rfl, rfl⟩
    clear hwr
    go_wp2_with fail
    refine hco.mono ?_
    rintro e w5 ⟨v5, rfl, ho5, hb5⟩
    obtain ⟨q5, c5, hu5, _, _, _, _⟩ := ho5.shape
    subst hu5
    rw [HCI.out, ← HN.out]
    have HB5 : Hid (Below W.heap.size W w5) := HB3.out.trans (hb5.mono HB3.out.size)
    clear hco ho5 hb5
    go_wp2_with fail
    go_ret
    exact ⟨rfl, HB5.out⟩
  · have d5 : decide (wrap64 ((2 : Int) ^ m) < (n : Int)) = false := decide_eq_false (by rw [hw2, hn]; omega)
    have HF : Hid (Fine zs m ls ∧ VRow w3 w3.heap.size (some ⟨bl, 0, none⟩) (ints (intsOf ls))) := ⟨hfine, hlr.row⟩
    rw [HX.out]
    clear hok p1 p2 p3 p4 hcnt hn hw2 hlr hfine
    go_wp2_with fail
    refine hwr.mono ?_
    rintro e w4 ⟨rfl, rfl⟩
    clear hwr
    go_wp2_with fail
    refine hco.mono ?_
    rintro e w5 ⟨v5, rfl, ho5, hb5⟩
    obtain ⟨q5, c5, hu5, _, _, _, _⟩ := ho5.shape
    subst hu5
    rw [HCI.out, ← HN.out]
    have HB5 : Hid (Below W.heap.size W w5) := HB3.out.trans (hb5.mono HB3.out.size)
    have HV5 : Hid (VRow w5 w5.heap.size a (ints zs) ∧ VRow w5 w5.heap.size q (ints zs) ∧ VRow w5 w5.heap.size (some ⟨bl, 0, none⟩) (ints (intsOf ls))) :=
      ⟨(HV3.out.below hb5 (Nat.le_refl _)).mono hb5.size, (HVQ3.out.below hb5 (Nat.le_refl _)).mono hb5.size, (HF.out.2.below hb5 (Nat.le_refl _)).mono hb5.size⟩
    clear hco ho5 hb5
    go_wp2_with fail
    go_loopg [53] len (fun kx s53 wr => ∃ (k : Nat), s53 = .int .i64 (k : Int) ∧ k ≤ len ∧ len - k ≤ kx ∧ Hid (Below w5.heap.size w5 wr))
    case atStart => exact ⟨0, rfl, by omega, by omega, (show Hid _ from Below.refl _ _)⟩
    case round =>
      obtain ⟨k, rfl, hk, hkx, HK⟩ := hrel
      by_cases hlt : k < len
      · have hkz : (k : Int) < (len : Int) := by omega
        have hk0 : (0 : Int) ≤ (k : Int) := by omega
        obtain ⟨b1, o1, hp1, hbl1⟩ := HV5.out.1.addr (by rw [ints_length, HX.out]; omega)
        subst hp1
        obtain ⟨b2, o2, hp2, hbl2⟩ := HV5.out.2.1.addr (by rw [ints_length, HX.out]; omega)
        subst hp2
        have g1 : ∀ j, (wr.drewN j).cell? ⟨b1, o1 + k, none⟩ = some (.int .i64 (zs.getD k 0)) := fun j => (HK.out.cell (p := ⟨b1, o1 + k, none⟩) hbl1).trans (HV5.out.1.intD k (by rw [HX.out]; exact hlt))
        have g2 : ∀ j, (wr.drewN j).cell? ⟨b2, o2 + k, none⟩ = some (.int .i64 (zs.getD k 0)) := fun j => (HK.out.cell (p := ⟨b2, o2 + k, none⟩) hbl2).trans (HV5.out.2.1.intD k (by rw [HX.out]; exact hlt))
        generalize zs.getD k 0 = x at g1 g2
        have hxx : (x != x) = false := by simp
        have HNX : Hid (∀ j, Below w5.heap.size w5 (wr.drewN j)) := fun j => HK.out.trans ⟨rfl, rfl, rfl, Nat.le_refl _, fun _ _ => rfl⟩
        go_wp2_with fail
        go_quiet (fail)
        go_wp2_with fail
        go_roundg (len - (k + 1))
        case measure => omega
        case rel => exact ⟨k + 1, by go_num, by omega, Nat.le_refl _, HNX.out _⟩
      · have hkz : ¬ (k : Int) < (len : Int) := by omega
        have HB6 : Hid (Below W.heap.size W wr) := HB5.out.trans (HK.out.mono HB5.out.size)
        have hse := serves_any a len cap bl len m zs ls wr ((HV5.out.1.below HK.out (Nat.le_refl _)).mono HK.out.size) HX.out ((HV5.out.2.2.below HK.out (Nat.le_refl _)).mono HK.out.size) HF.out.1 HOK.out
        have HRW : Hid (VRow wr wr.heap.size (some ⟨bl, 0, none⟩) (ints (intsOf ls))) := (HV5.out.2.2.below HK.out (Nat.le_refl _)).mono HK.out.size
        clear HK hkx hk hlt
        go_wp2_with fail
        refine hse.mono ?_
        rintro e w7 ⟨rfl, hb7⟩
        have HB7 : Hid (Below W.heap.size W w7) := HB6.out.trans (hb7.mono HB6.out.size)
        have HRW7 : Hid (VRow w7 w7.heap.size (some ⟨bl, 0, none⟩) (ints (intsOf ls))) := (HRW.out.below hb7 (Nat.le_refl _)).mono hb7.size
        clear hse hb7
        by_cases hn2 : n < 2
        · have d6 : decide ((n : Int) < 2) = true := decide_eq_true (by omega)
          go_wp2_with fail
          go_ret
          exact ⟨rfl, HB7.out⟩
        · have d6 : decide ((n : Int) < 2) = false := decide_eq_false (by omega)
          by_cases hn40 : 40 < n
          · have d7 : decide ((40 : Int) < (n : Int)) = true := decide_eq_true (by omega)
            go_wp2_with fail
            go_ret
            exact ⟨rfl, HB7.out⟩
          · have d7 : decide ((40 : Int) < (n : Int)) = false := decide_eq_false (by omega)
            have hcst := cost_fine a len cap bl m zs ls w7 ((HR.out.below HB7.out (Nat.le_refl _)).mono HB7.out.size) HX.out HRW7.out HF.out.1 HOK.out len
            obtain ⟨mn, hmn⟩ : ∃ mn, mn = min m n := ⟨_, rfl⟩
            have hmin : min (m : Int) (n : Int) = (mn : Int) := by omega
            have HMN := Lib.hid hmn
            have hmn30 : mn ≤ 30 := by omega
            have hls := fun w8 (hb : Below W.heap.size W w8) => least_any a len cap mn zs w8 ((HR.out.below hb (Nat.le_refl _)).mono hb.size) HX.out hl300 HP4.out (come (natsOf zs)) rfl (by rw [← HN.out]; omega) (by rw [← HN.out]; omega) hmn30
            have HLS := Lib.hid hls
            have HKO : Hid (∀ best, Bst (come (natsOf zs)) mn best → best = kost zs ls) := fun best hb => by
              rw [HMN.out, HN.out] at hb
              exact best_is HF.out.1.least hm30 (by rw [← HN.out]; omega) (come_pos _) hb (sum_bound (come_le zs HP4.out) (by rw [← HN.out]; omega))
            clear hmn hls
            go_wp2_with fail
            refine hcst.mono ?_
            rintro e w8 ⟨rfl, hb8⟩
            have HB8 : Hid (Below W.heap.size W w8) := HB7.out.trans (hb8.mono HB7.out.size)
            have hle := HLS.out w8 HB8.out
            clear hcst hb8
            go_wp2_with fail
            refine hle.mono ?_
            rintro e w9 ⟨best, rfl, hbst, hb9⟩
            have HB9 : Hid (Below W.heap.size W w9) := HB8.out.trans (hb9.mono HB8.out.size)
            have he := HKO.out best hbst
            subst he
            generalize kost zs ls = kk
            have hkk : ((kk : Int) == (kk : Int)) = true := by simp
            clear hle hb9
            go_wp2_with fail
            go_ret
            exact ⟨rfl, HB9.out⟩
end Go.Proofs.Ytefniglinligeaa.Lp

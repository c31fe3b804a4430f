
/- The walk of the law RunsNext. -/
import Derived.Test.YtklofifmmcegpaaRnK
namespace Go.Proofs.Ytklofifmmcegpaa.Rn
open Go.RowKit Go.Proofs.Ytklofifmmcegpaa.Oct Go.Proofs.Ytklofifmmcegpaa.Bit
open Go.Proofs.Ytklofifmmcegpaa.Lp (VRow ints ints_length ints_append ints_one vrow_own wpList_append_vals Try.infoInt IsInts)
set_option linter.unusedVariables false
set_option linter.unusedSimpArgs false
set_option maxRecDepth 100000

/-- the ways behind two togglings of right places -/
theorem tog_ways (zs : List Int) (z f : Int) (len : Nat) (hx : zs.length = len) (hv : rightB zs z = true) :
    (togI (togI zs f) f = zs) ∧
    ((len = 0 ∧ togI zs f = zs ++ [f]) ∨ (0 < len ∧ (∃ h : len - 1 < zs.length, zs[len - 1] ≠ f) ∧ togI zs f = zs ++ [f]) ∨
      (len = 1 ∧ (∃ h : len - 1 < zs.length, zs[len - 1] = f) ∧ togI zs f = zs.take (len - 1)) ∨
      (1 < len ∧ (∃ h : len - 1 < zs.length, zs[len - 1] = f) ∧ (∃ h : len - 2 < zs.length, zs[len - 2] ≠ f) ∧ togI zs f = zs.take (len - 1))) := by
  obtain ⟨c, rfl, hc⟩ := right_valid hv
  have key : 1 < len → ∀ (h1 : len - 1 < (zl c).length) (h2 : len - 2 < (zl c).length), (zl c)[len - 1] = f → (zl c)[len - 2] ≠ f := by
    intro hl h1 h2 e1 e2
    have a1 : len - 1 < c.length := by rw [zl_length] at h1; exact h1
    have a2 : len - 2 < c.length := by omega
    rw [zl_get c _ h1 a1] at e1
    rw [zl_get c _ h2 a2] at e2
    have := (List.pairwise_iff_getElem.1 hc.1) (len - 2) (len - 1) a2 a1 (by omega)
    omega
  refine ⟨tog_tog _ f (fun h => ?_), ?_⟩
  · have hl : 1 < len := by rw [← hx]; exact h.1
    have e1 := h.2.1
    have e2 := h.2.2
    rw [last_get _ len hx (by omega)] at e1
    rw [last_get2 _ len hx hl] at e2
    exact key hl (by omega) (by omega) (Option.some.inj e1) (Option.some.inj e2)
  · rcases Nat.eq_zero_or_pos len with h0 | h0
    · left
      refine ⟨h0, ?_⟩
      have : zl c = [] := List.eq_nil_of_length_eq_zero (by omega)
      rw [this]; rfl
    · right
      have hl1 := last_get _ len hx h0
      by_cases e : (zl c)[len - 1]'(by omega) = f
      · right
        have ht : togI (zl c) f = (zl c).take (len - 1) := by
          unfold togI
          rw [hl1, e, if_pos rfl, List.dropLast_eq_take, hx]
        by_cases h1 : 1 < len
        · right
          exact ⟨h1, ⟨by omega, e⟩, ⟨by omega, key h1 (by omega) (by omega) e⟩, ht⟩
        · left
          exact ⟨by omega, ⟨by omega, e⟩, ht⟩
      · left
        refine ⟨h0, ⟨by omega, e⟩, ?_⟩
        unfold togI
        rw [hl1, if_neg (by simpa using e)]
theorem same_n (p1 p2 : Option Addr) (len c1 c2 : Nat) (zs : List Int) (w2 : World) (C1 C2 : Nat) (h1 : VRow w2 C1 p1 (ints zs)) (h2 : VRow w2 C2 p2 (ints zs)) (hx : zs.length = len) (hl : len ≤ 1000) :
    Calls Try.prog 12 #[.slice p1 len c1, .slice p2 len c2] w2 fun e w' => e = .returned (.bool true) ∧ Drawn w2 w' := by
  have := rsame_any p1 p2 len c1 len c2 zs zs w2 _ _ h1 h2 hx hx (by omega)
  rwa [show decide (zs = zs) = true from by simp] at this
theorem two_cells (w : World) : (w.alloc (.cells #[.bool false, .bool true] 4)).cell? ⟨w.heap.size, 0, none⟩ = some (.bool false) ∧ (w.alloc (.cells #[.bool false, .bool true] 4)).cell? ⟨w.heap.size, 1, none⟩ = some (.bool true) := by
  constructor <;> simp
set_option maxHeartbeats 16000000 in
theorem next_walk (p : Option Addr) (len cap : Nat) (f z : Int) (w : World) (h : IsInts w p len cap) (hf : (Lit.int .i64 f).wf = true) (hz : (Lit.int .i64 z).wf = true) :
    Calls Try.prog 6 #[.slice p len cap, .int .i64 f, .int .i64 z] w fun e w' => e = .returned (.bool true) ∧ Below w.heap.size w w' := by
  obtain ⟨zs, hx, hr, hlc, hcm, hnil⟩ := h
  clear hz hf
  by_cases hbig : 100 < len
  · have hd : decide (100 < (len : Int)) = true := by simp; omega
    clear hx hr hlc hcm hnil
    go_enter Try.func6, Try.ntmps6
    go_wp2_with fail
    refine (lives_any _).mono ?_
    rintro e w1 ⟨rfl, hb1⟩
    go_wp2_with fail
    refine (lives_any _).mono ?_
    rintro e w2 ⟨rfl, hb2⟩
    go_wp2_with fail
    go_ret
    exact ⟨rfl, hb1.trans (hb2.mono hb1.size)⟩
  · have hd : decide (100 < (len : Int)) = false := by simp; omega
    have hlen : len ≤ 100 := by omega
    have HX := Lib.hid hx
    have HR := Lib.hid hr
    have HRT := Lib.hid (fun (w1 : World) (hb : Below w.heap.size w w1) => rright_any p len cap zs z w1 _ (hr.below hb (Nat.le_refl _)) hx (by unfold Go.maxLen; omega))
    by_cases hv : rightB zs z = true
    · have HW := Lib.hid (tog_ways zs z f len hx hv)
      rw [hv] at HRT
      clear hx hr hbig hv
      go_enter Try.func6, Try.ntmps6
      go_wp2_with fail
      refine (lives_any _).mono ?_
      rintro e w1 ⟨rfl, hb1⟩
      have HB1 := Lib.hid hb1
      clear hb1
      go_wp2_with fail
      refine (HRT.out w1 HB1.out).mono ?_
      rintro e w2 ⟨rfl, hd2⟩
      have HB2 := Lib.hid (HB1.out.trans ((hd2.below _).mono HB1.out.size))
      have HB3 : Hid (Below w.heap.size w (w2.alloc (.cells #[.bool false, .bool true] 4))) := Lib.hid (HB2.out.trans (((Below.refl _ w2).alloc (Nat.le_refl _) _).mono HB2.out.size))
      have hsz3 : w2.heap.size < (w2.alloc (.cells #[.bool false, .bool true] 4)).heap.size := by simp
      obtain ⟨k0, k1⟩ := two_cells w2
      have HCE := Lib.hid (fun (wr : World) (hb : Below (w2.heap.size + 1) (w2.alloc (.cells #[.bool false, .bool true] 4)) wr) => And.intro ((hb.cell (p := ⟨w2.heap.size, 0, none⟩) (by simp)).trans k0) ((hb.cell (p := ⟨w2.heap.size, 1, none⟩) (by simp)).trans k1))
      have HSZ := Lib.hid (show (w2.alloc (.cells #[.bool false, .bool true] 4)).heap.size = w2.heap.size + 1 from by simp)
      clear hd2 HRT k0 k1 hsz3
      go_wp2_with fail
      go_loopw [31] (fun i wr => ∃ k : Nat, k ≤ 2 ∧ i = .int .i64 (k : Int) ∧ Hid (Below (w2.heap.size + 1) (w2.alloc (.cells #[.bool false, .bool true] 4)) wr)) (fun i _ => 2 - (intOf i).toNat)
      case atStart => exact ⟨0, by omega, rfl, Lib.hid (Below.refl _ _)⟩
      case round =>
        obtain ⟨k, hk, rfl, HB⟩ := hrel
        have hbw : Below w.heap.size w wr := HB3.out.trans (HB.out.mono (by have := HB2.out.size; omega))
        have HBW := Lib.hid hbw
        have HNX := Lib.hid (fun tb => next_any p len cap zs f tb z wr _ (HR.out.below hbw (Nat.le_refl _)) HX.out (by omega))
        have HRN := Lib.hid (fun tb => rnext_any p len cap zs f tb z wr _ (HR.out.below hbw (Nat.le_refl _)) HX.out (by omega))
        clear hbw
        by_cases hlt : k < 2
        · obtain ⟨c0, c1⟩ := HCE.out wr HB.out
          have hcell : wr.cell? ⟨w2.heap.size, k, none⟩ = some (.bool (k == 1)) := by
            rcases (show k = 0 ∨ k = 1 by omega) with e | e
            · subst e; exact c0
            · subst e; exact c1
          have HNX2 := Lib.hid (HNX.out (k == 1))
          have HRN2 := Lib.hid (HRN.out (k == 1))
          generalize (k == 1) = tb at hcell HNX2 HRN2
          generalize (nextI z zs tb f).1 = a1 at HNX2 HRN2
          generalize (nextI z zs tb f).2 = a2 at HNX2 HRN2
          have hdk : decide ((k : Int) < 2) = true := by simp; omega
          have i1 : (0 : Int) ≤ (k : Int) := by omega
          have i2 : (k : Int) < 2 := by omega
          clear c0 c1 HNX HRN
          go_wp2_with fail
          refine HNX2.out.mono ?_
          rintro e w' ⟨rfl, rfl⟩
          go_wp2_with fail
          refine HRN2.out.mono ?_
          rintro e w' ⟨rfl, hdr⟩
          have HBN := Lib.hid (HB.out.trans (hdr.below _))
          clear hdr
          go_wp2_with fail
          go_roundw
          case rel => exact ⟨k + 1, by omega, by go_num, HBN⟩
          case measure => simp [intOf]; omega
        · have hdk : decide ((k : Int) < 2) = false := by simp; omega
          obtain ⟨hT, hcase⟩ := HW.out
          obtain ⟨m, hm⟩ : ∃ m, (togI zs f).length = m := ⟨_, rfl⟩
          have hm101 : m ≤ 101 := by
            rcases tog_len zs f with h | ⟨h, _⟩ <;> (have := HX.out; omega)
          have HT1 := Lib.hid (fun h1 => tog_n p len cap zs f m wr h1 HX.out (by omega) hlc hnil hm)
          have HT2 := Lib.hid (fun q c w3 h1 h2 h3 => by
            have := tog_n q m c (togI zs f) f len w3 h1 hm (by omega) h2 h3 (by rw [hT]; exact HX.out)
            rwa [hT] at this)
          have HRW := Lib.hid ((HR.out.below HBW.out (Nat.le_refl _)).mono HBW.out.size)
          have HM := Lib.hid hm
          have HCS := Lib.hid hcase
          clear hT hcase HNX HRN hm
          go_wp2_with fail
          refine (HT1.out HRW.out).mono ?_
          rintro e w4 ⟨hb4, q1, c1, rfl, hv1, hq1, hk1, hk1m⟩
          have HB4 := Lib.hid (HBW.out.trans (hb4.mono HBW.out.size))
          have HV1 := Lib.hid hv1
          have HT3 := Lib.hid (HT2.out q1 c1 w4 hv1 hk1 hq1)
          clear hb4 hv1 HT1 HT2
          go_wp2_with fail
          refine HT3.out.mono ?_
          rintro e w5 ⟨hb5, q2, c2, rfl, hv2, hq2, hk2, hk2m⟩
          have HB5 := Lib.hid (HB4.out.trans (hb5.mono HB4.out.size))
          have HV15 := Lib.hid (HV1.out.below hb5 (Nat.le_refl _))
          have HV2 := Lib.hid hv2
          have HR5 := Lib.hid (HR.out.below HB5.out (Nat.le_refl _))
          have HR5w := Lib.hid (HR5.out.mono HB5.out.size)
          clear hb5 hv2 HT3
          rcases HCS.out with ⟨h0, ht⟩ | ⟨h0, ⟨hi, hne⟩, ht⟩ | ⟨h0, ⟨hi, he⟩, ht⟩ | ⟨h0, ⟨hi, he⟩, ⟨hi2, hne2⟩, ht⟩
          · have hml : len + 1 = m := by rw [← HM.out, ht, List.length_append, HX.out]; rfl
            subst hml
            rw [ht] at HV15
            obtain ⟨b1, o1, hq, hbs⟩ := HV15.out.addr (by rw [ints_length, List.length_append]; exact Nat.succ_pos _)
            subst hq
            have hsl := head_ints w5 (some ⟨b1, o1, none⟩) (len + 1) c1 len (by omega) (fun h => by cases h)
            have hcf : w5.cell? ⟨b1, o1 + len, none⟩ = some (.int .i64 f) := by
              have h1 : len < (zs ++ [f]).length := by rw [List.length_append, HX.out]; exact Nat.lt_succ_self _
              have h2 := HV15.out.int len h1
              have h3 : (zs ++ [f])[len] = f := by
                rw [List.getElem_append_right (by rw [HX.out]; exact Nat.le_refl _)]
                simp
              rw [h3] at h2
              exact h2
            have hhd := head_v len HV15.out
            rw [show (zs ++ [f]).take len = zs from by rw [← HX.out]; simp] at hhd
            have HS1 := Lib.hid (same_n (some ⟨b1, o1, none⟩) p len c1 cap zs w5 _ _ hhd HR5.out HX.out (by omega))
            have HCF := Lib.hid (fun (w6 : World) (hd : Drawn w5 w6) => show w6.cell? ⟨b1, o1 + len, none⟩ = some (.int .i64 f) by
              obtain ⟨n, rfl⟩ := hd
              exact hcf)
            have HS2 := Lib.hid (fun (w6 : World) (hd : Drawn w5 w6) => same_n q2 p len c2 cap zs w6 _ _ (HV2.out.below (hd.below _) (Nat.le_refl _)) (HR5.out.below (hd.below w5.heap.size) (by have := HB5.out.size; omega)) HX.out (by omega))
            have i1 : (0 : Int) ≤ (len : Int) := by omega
            have i2 : (len : Int) < (len : Int) + 1 := by omega
            have i3 : len < len + 1 := by omega
            clear hcf hhd ht hbs HW HCS HM
            have hd9 : decide (0 < len) = false := by simp; omega
            clear h0
            go_wp2_with fail
            refine HS1.out.mono ?_
            rintro e w6 ⟨rfl, hd6⟩
            have hcf6 := HCF.out w6 hd6
            have HD6 := Lib.hid hd6
            clear hd6
            go_wp2_with fail
            refine (HS2.out w6 HD6.out).mono ?_
            rintro e w7 ⟨rfl, hd7⟩
            have HB7 := Lib.hid ((HB5.out.trans ((HD6.out.below _).mono HB5.out.size)).trans ((hd7.below _)))
            clear hd7
            go_wp2_with fail
            go_ret
            exact ⟨rfl, HB7.out⟩
          · obtain ⟨bp, op, hqp, hbsp⟩ := HR5.out.addr (by rw [ints_length, HX.out]; exact h0)
            subst hqp
            have hcl := HR5.out.int (len - 1) hi
            generalize zs[len - 1] = y at hcl hne
            obtain ⟨n1, hn1⟩ : ∃ n1, n1 = len - 1 := ⟨_, rfl⟩
            rw [← hn1] at hcl
            have hw1 : IntKind.i64.wrap ((len : Int) - 1) = (n1 : Int) := by rw [IntKind.wrap_i64]; omega
            have hw2 : (len : Int) - 1 = (n1 : Int) := by omega
            have j1 : (0 : Int) ≤ (n1 : Int) := by omega
            have j2 : (n1 : Int) < (len : Int) := by omega
            have hyf : (y == f) = false := by simpa using hne
            have hml : len + 1 = m := by rw [← HM.out, ht, List.length_append, HX.out]; rfl
            subst hml
            rw [ht] at HV15
            obtain ⟨b1, o1, hq, hbs⟩ := HV15.out.addr (by rw [ints_length, List.length_append]; exact Nat.succ_pos _)
            subst hq
            have hsl := head_ints w5 (some ⟨b1, o1, none⟩) (len + 1) c1 len (by omega) (fun h => by cases h)
            have hcf : w5.cell? ⟨b1, o1 + len, none⟩ = some (.int .i64 f) := by
              have h1 : len < (zs ++ [f]).length := by rw [List.length_append, HX.out]; exact Nat.lt_succ_self _
              have h2 := HV15.out.int len h1
              have h3 : (zs ++ [f])[len] = f := by
                rw [List.getElem_append_right (by rw [HX.out]; exact Nat.le_refl _)]
                simp
              rw [h3] at h2
              exact h2
            have hhd := head_v len HV15.out
            rw [show (zs ++ [f]).take len = zs from by rw [← HX.out]; simp] at hhd
            have HS1 := Lib.hid (same_n (some ⟨b1, o1, none⟩) (some ⟨bp, op, none⟩) len c1 cap zs w5 _ _ hhd HR5.out HX.out (by omega))
            have HCF := Lib.hid (fun (w6 : World) (hd : Drawn w5 w6) => show w6.cell? ⟨b1, o1 + len, none⟩ = some (.int .i64 f) by
              obtain ⟨n, rfl⟩ := hd
              exact hcf)
            have HS2 := Lib.hid (fun (w6 : World) (hd : Drawn w5 w6) => same_n q2 (some ⟨bp, op, none⟩) len c2 cap zs w6 _ _ (HV2.out.below (hd.below _) (Nat.le_refl _)) (HR5.out.below (hd.below w5.heap.size) (by have := HB5.out.size; omega)) HX.out (by omega))
            have i1 : (0 : Int) ≤ (len : Int) := by omega
            have i2 : (len : Int) < (len : Int) + 1 := by omega
            have i3 : len < len + 1 := by omega
            clear hcf hhd ht hbs HW HCS HM
            have hd9 : decide (0 < len) = true := by simp; omega
            clear hn1 hne hbsp hi h0
            go_wp2_with fail
            refine HS1.out.mono ?_
            rintro e w6 ⟨rfl, hd6⟩
            have hcf6 := HCF.out w6 hd6
            have HD6 := Lib.hid hd6
            clear hd6
            go_wp2_with fail
            refine (HS2.out w6 HD6.out).mono ?_
            rintro e w7 ⟨rfl, hd7⟩
            have HB7 := Lib.hid ((HB5.out.trans ((HD6.out.below _).mono HB5.out.size)).trans ((hd7.below _)))
            clear hd7
            go_wp2_with fail
            go_ret
            exact ⟨rfl, HB7.out⟩
          · obtain ⟨n1, hn1⟩ : ∃ n1, n1 = len - 1 := ⟨_, rfl⟩
            have hml : n1 = m := by rw [← HM.out, ht, List.length_take, HX.out]; omega
            subst hml
            rw [ht] at HV15
            obtain ⟨bp, op, hq, hbs⟩ := HR5.out.addr (by rw [ints_length, HX.out]; omega)
            subst hq
            have hcl := HR5.out.int (len - 1) hi
            rw [he] at hcl
            simp only [← hn1] at hcl
            have hsl := head_ints w5 (some ⟨bp, op, none⟩) len cap n1 (by omega) (fun h => by cases h)
            have hhd := head_v n1 HR5.out
            rw [← hn1] at HV15
            have htl : (zs.take n1).length = n1 := by rw [List.length_take, HX.out]; omega
            have HS1 := Lib.hid (same_n q1 (some ⟨bp, op, none⟩) n1 c1 cap (zs.take n1) w5 _ _ HV15.out hhd htl (by omega))
            have HS2 := Lib.hid (fun (w6 : World) (hd : Drawn w5 w6) => same_n q2 (some ⟨bp, op, none⟩) len c2 cap zs w6 _ _ (HV2.out.below (hd.below _) (Nat.le_refl _)) (HR5.out.below (hd.below w5.heap.size) (by have := HB5.out.size; omega)) HX.out (by omega))
            have hw1 : IntKind.i64.wrap ((len : Int) - 1) = (n1 : Int) := by rw [IntKind.wrap_i64]; omega
            have hw2 : (len : Int) - 1 = (n1 : Int) := by omega
            have i1 : (0 : Int) ≤ (n1 : Int) := by omega
            have i2 : (n1 : Int) < (len : Int) := by omega
            have hd9 : decide (0 < len) = true := by simp; omega
            have hhn : n1 ≤ 100 := by omega
            have hd8 : decide (0 < n1) = false := by simp; omega
            clear hn1 hi he ht hbs HW HCS HM hhd htl h0
            go_wp2_with fail
            refine HS1.out.mono ?_
            rintro e w6 ⟨rfl, hd6⟩
            skip
            have HD6 := Lib.hid hd6
            clear hd6
            go_wp2_with fail
            refine (HS2.out w6 HD6.out).mono ?_
            rintro e w7 ⟨rfl, hd7⟩
            have HB7 := Lib.hid ((HB5.out.trans ((HD6.out.below _).mono HB5.out.size)).trans ((hd7.below _)))
            clear hd7
            go_wp2_with fail
            go_ret
            exact ⟨rfl, HB7.out⟩
          · obtain ⟨n1, hn1⟩ : ∃ n1, n1 = len - 1 := ⟨_, rfl⟩
            have hml : n1 = m := by rw [← HM.out, ht, List.length_take, HX.out]; omega
            subst hml
            rw [ht] at HV15
            obtain ⟨bp, op, hq, hbs⟩ := HR5.out.addr (by rw [ints_length, HX.out]; omega)
            subst hq
            have hcl := HR5.out.int (len - 1) hi
            rw [he] at hcl
            simp only [← hn1] at hcl
            have hsl := head_ints w5 (some ⟨bp, op, none⟩) len cap n1 (by omega) (fun h => by cases h)
            have hhd := head_v n1 HR5.out
            rw [← hn1] at HV15
            have htl : (zs.take n1).length = n1 := by rw [List.length_take, HX.out]; omega
            have HS1 := Lib.hid (same_n q1 (some ⟨bp, op, none⟩) n1 c1 cap (zs.take n1) w5 _ _ HV15.out hhd htl (by omega))
            have HS2 := Lib.hid (fun (w6 : World) (hd : Drawn w5 w6) => same_n q2 (some ⟨bp, op, none⟩) len c2 cap zs w6 _ _ (HV2.out.below (hd.below _) (Nat.le_refl _)) (HR5.out.below (hd.below w5.heap.size) (by have := HB5.out.size; omega)) HX.out (by omega))
            have hw1 : IntKind.i64.wrap ((len : Int) - 1) = (n1 : Int) := by rw [IntKind.wrap_i64]; omega
            have hw2 : (len : Int) - 1 = (n1 : Int) := by omega
            have i1 : (0 : Int) ≤ (n1 : Int) := by omega
            have i2 : (n1 : Int) < (len : Int) := by omega
            have hd9 : decide (0 < len) = true := by simp; omega
            have hhn : n1 ≤ 100 := by omega
            have hi3 : len - 2 < (zs.take n1).length := by rw [htl]; omega
            obtain ⟨b1, o1, hq, hbs1⟩ := HV15.out.addr (by rw [ints_length, htl]; omega)
            subst hq
            have hcm := HV15.out.int (len - 2) hi3
            rw [List.getElem_take] at hcm
            generalize zs[len - 2] = y at hcm hne2
            obtain ⟨n2, hn2⟩ : ∃ n2, n2 = len - 2 := ⟨_, rfl⟩
            rw [← hn2] at hcm
            have hyf : (y == f) = false := by simpa using hne2
            have hv1 : IntKind.i64.wrap ((n1 : Int) - 1) = (n2 : Int) := by rw [IntKind.wrap_i64]; omega
            have hv2 : (n1 : Int) - 1 = (n2 : Int) := by omega
            have j1 : (0 : Int) ≤ (n2 : Int) := by omega
            have j2 : (n2 : Int) < (n1 : Int) := by omega
            have hd8 : decide (0 < n1) = true := by simp; omega
            have HCM := Lib.hid (fun (w6 : World) (hd : Drawn w5 w6) => show w6.cell? ⟨b1, o1 + n2, none⟩ = some (.int .i64 y) by
              obtain ⟨n, rfl⟩ := hd
              exact hcm)
            clear hn1 hn2 hi hi2 hi3 he hne2 ht hbs hbs1 HW HCS HM hhd htl hcm
            go_wp2_with fail
            refine HS1.out.mono ?_
            rintro e w6 ⟨rfl, hd6⟩
            have hcm6 := HCM.out w6 hd6
            have HD6 := Lib.hid hd6
            clear hd6
            go_wp2_with fail
            refine (HS2.out w6 HD6.out).mono ?_
            rintro e w7 ⟨rfl, hd7⟩
            have HB7 := Lib.hid ((HB5.out.trans ((HD6.out.below _).mono HB5.out.size)).trans ((hd7.below _)))
            clear hd7
            go_wp2_with fail
            go_ret
            exact ⟨rfl, HB7.out⟩
    · have hv' : rightB zs z = false := by simpa using hv
      rw [hv'] at HRT
      clear hx hr hbig hv hv'
      go_enter Try.func6, Try.ntmps6
      go_wp2_with fail
      refine (lives_any _).mono ?_
      rintro e w1 ⟨rfl, hb1⟩
      have HB1 := Lib.hid hb1
      clear hb1
      go_wp2_with fail
      refine (HRT.out w1 HB1.out).mono ?_
      rintro e w2 ⟨rfl, hd2⟩
      have HB2 := Lib.hid (HB1.out.trans ((hd2.below _).mono HB1.out.size))
      clear hd2 HRT
      go_wp2_with fail
      refine (lives_any _).mono ?_
      rintro e w3 ⟨rfl, hb3⟩
      have HB3 := Lib.hid (HB2.out.trans (hb3.mono HB2.out.size))
      clear hb3
      go_wp2_with fail
      go_ret
      exact ⟨rfl, HB3.out⟩
end Go.Proofs.Ytklofifmmcegpaa.Rn

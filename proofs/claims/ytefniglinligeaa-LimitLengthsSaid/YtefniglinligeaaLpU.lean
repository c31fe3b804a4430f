
/- The document's Coming, and 'wrong'. -/
import Derived.Test.YtefniglinligeaaLpT
namespace Go.Proofs.Ytefniglinligeaa.Lp
open Go.RowKit Go.Proofs.Ytefniglinligeaa.Oct Go.Proofs.Ytefniglinligeaa.Lm
set_option linter.unusedVariables false
set_option linter.unusedSimpArgs false
set_option maxRecDepth 100000

/-- those that come -/
def comI (zs : List Int) : List Int := zs.filter (0 < ·)
theorem comI_step (zs : List Int) (k : Nat) (h : k < zs.length) : comI (zs.take (k + 1)) = comI (zs.take k) ++ if 0 < zs.getD k 0 then [zs.getD k 0] else [] := by
  have hg : zs.getD k 0 = zs[k] := by rw [List.getD_eq_getElem?_getD, List.getElem?_eq_getElem h]; rfl
  unfold comI
  rw [List.take_succ_eq_append_getElem h, List.filter_append, hg]
  by_cases h0 : 0 < zs[k]
  · rw [if_pos h0, List.filter_cons_of_pos (by simpa using h0)]; rfl
  · rw [if_neg h0, List.filter_cons_of_neg (by simpa using h0)]; rfl
theorem comI_nat (zs : List Int) (h : ∀ z ∈ zs, 0 ≤ z) : comI zs = intsOf (come (natsOf zs)) := by
  induction zs with
  | nil => rfl
  | cons z zs ih =>
    have ih := ih (fun x hx => h x (List.mem_cons_of_mem _ hx))
    have hz := h z (List.mem_cons_self ..)
    unfold comI come natsOf intsOf at *
    rw [List.map_cons]
    by_cases h0 : 0 < z
    · rw [List.filter_cons_of_pos (by simpa using h0), List.filter_cons_of_pos (by simp; omega), ih, List.map_cons]
      congr 1
      omega
    · rw [List.filter_cons_of_neg (by simpa using h0), List.filter_cons_of_neg (by simp; omega), ih]
theorem comI_le (zs : List Int) : (comI zs).length ≤ zs.length := List.length_filter_le _ _
def ComP (w : World) (zs : List Int) (e : Ending) (w' : World) : Prop := ∃ v, e = .returned v ∧ IOwn w' w.heap.size v (comI zs) ∧ Below w.heap.size w w'
set_option maxHeartbeats 4000000 in
theorem coming_any (p : Option Addr) (len cap : Nat) (zs : List Int) (w : World) (hr : VRow w w.heap.size p (ints zs)) (hx : zs.length = len) (hl : len ≤ 100000) : Calls Try.prog 10 #[.slice p len cap] w (ComP w zs) := by
  have HR := Lib.hid hr
  have HX := Lib.hid hx
  have H0 : Hid (IOwn w w.heap.size (.slice none 0 0) (comI (zs.take 0)) ∧ Below w.heap.size w w) := ⟨IOwn.nil w, Below.refl _ _⟩
  clear hr hx
  go_enter Try.func10, Try.ntmps10
  go_wp2
  go_loopg [3, 4] len (fun kx s3 s4 wr => ∃ (k : Nat), s4 = .int .i64 (k : Int) ∧ k ≤ len ∧ len - k ≤ kx ∧ Hid (IOwn wr w.heap.size s3 (comI (zs.take k)) ∧ Below w.heap.size w wr))
  case atStart => exact ⟨0, rfl, by omega, by omega, H0⟩
  case round =>
    clear H0
    obtain ⟨k, rfl, hk, hkx, HK⟩ := hrel
    by_cases hlt : k < len
    · have hkz : (k : Int) < (len : Int) := by omega
      have hk0 : (0 : Int) ≤ (k : Int) := by omega
      have hkl : k < zs.length := by rw [HX.out]; exact hlt
      obtain ⟨b, off, hp, hbl⟩ := HR.out.addr (by rw [ints_length]; omega)
      subst hp
      have hc := (HK.out.2.cell (p := ⟨b, off + k, none⟩) hbl).trans (HR.out.intD k hkl)
      have HS := Lib.hid (comI_step zs k hkl)
      generalize zs.getD k 0 = z at hc HS
      have hle : (comI (zs.take k)).length ≤ 100000 := Nat.le_trans (comI_le _) (by rw [List.length_take]; omega)
      have hbs : w.heap.size ≤ (wr.alloc (.cells #[.int .i64 z] 3)).heap.size := by have := HK.out.2.size; simp; omega
      clear hkl
      by_cases h0 : 0 < z
      · have HS2 : Hid (comI (zs.take (k + 1)) = comI (zs.take k) ++ [z]) := by have := HS.out; rw [if_pos h0] at this; exact this
        go_wp2_with (at_builtin; refine wpList_append_int rfl _ _ rfl w.heap.size _ (comI (zs.take k)) rfl (HK.out.1.below ((Below.refl _ _).alloc (Nat.le_refl _) _)) _ 1 1 [z] rfl (one_row _ z) rfl (fun h => by cases h) (by omega) hbs ?_; intro v2 w5 ho2 hb2)
        have HN : Hid (IOwn w5 w.heap.size v2 (comI (zs.take (k + 1))) ∧ Below w.heap.size w w5) := by rw [HS2.out]; exact ⟨ho2, (HK.out.2.alloc HK.out.2.size _).trans hb2⟩
        clear ho2 hb2
        go_roundg (len - (k + 1))
        case measure => omega
        case rel => exact ⟨k + 1, by go_num, by omega, Nat.le_refl _, HN⟩
      · have HS2 : Hid (comI (zs.take (k + 1)) = comI (zs.take k)) := by have := HS.out; rw [if_neg h0, List.append_nil] at this; exact this
        go_wp2
        have HN : Hid (IOwn wr w.heap.size u3 (comI (zs.take (k + 1))) ∧ Below w.heap.size w wr) := by rw [HS2.out]; exact HK
        go_roundg (len - (k + 1))
        case measure => omega
        case rel => exact ⟨k + 1, by go_num, by omega, Nat.le_refl _, HN⟩
    · have hkz : ¬ (k : Int) < (len : Int) := by omega
      have e : zs.take k = zs := List.take_of_length_le (by rw [HX.out]; omega)
      have h9 := HK.out
      rw [e] at h9
      have H9 := Lib.hid h9
      clear h9 e
      go_wp2
      go_ret
      exact ⟨_, rfl, H9.out⟩
set_option maxHeartbeats 4000000 in
theorem wrong_any (p : Option Addr) (len cap : Nat) (most : Int) (zs : List Int) (w : World) (hr : VRow w w.heap.size p (ints zs)) (hx : zs.length = len) : Calls Try.prog 9 #[.slice p len cap, .int .i64 most] w fun e w' => e = .returned (.bool (!okB zs most)) ∧ w' = w := by
  have HR := Lib.hid hr
  have HX := Lib.hid hx
  clear hr hx
  by_cases h1 : most < 1
  · have d1 : decide (most < 1) = true := decide_eq_true h1
    have HO : Hid ((!okB zs most) = true) := by show _ = _; unfold okB; simp [show ¬ 1 ≤ most by omega]
    go_enter Try.func9, Try.ntmps9
    go_wp2
    go_ret
    exact ⟨by rw [HO.out]; rfl, rfl⟩
  have d1 : decide (most < 1) = false := decide_eq_false h1
  by_cases h2 : 30 < most
  · have d2 : decide (30 < most) = true := decide_eq_true h2
    have HO : Hid ((!okB zs most) = true) := by show _ = _; unfold okB; simp [show ¬ most ≤ 30 by omega]
    go_enter Try.func9, Try.ntmps9
    go_wp2
    go_ret
    exact ⟨by rw [HO.out]; rfl, rfl⟩
  have d2 : decide (30 < most) = false := decide_eq_false h2
  by_cases h3 : 300 < len
  · have d3 : decide ((300 : Int) < (len : Int)) = true := decide_eq_true (by omega)
    have HO : Hid ((!okB zs most) = true) := by show _ = _; unfold okB; simp [show ¬ zs.length ≤ 300 by rw [HX.out]; omega]
    go_enter Try.func9, Try.ntmps9
    go_wp2
    go_ret
    exact ⟨by rw [HO.out]; rfl, rfl⟩
  have d3 : decide ((300 : Int) < (len : Int)) = false := decide_eq_false (by omega)
  have HOK : Hid ((!okB zs most) = zs.any badZ) := by
    show _ = _
    unfold okB
    rw [decide_eq_true (show 1 ≤ most by omega), decide_eq_true (show most ≤ 30 by omega), decide_eq_true (show zs.length ≤ 300 by rw [HX.out]; omega)]
    simp only [Bool.true_and, Bool.not_not]
  rw [HOK.out]
  go_enter Try.func9, Try.ntmps9
  go_wp2
  go_loopg [20] len (fun kx s20 wr => ∃ (k : Nat), s20 = .int .i64 (k : Int) ∧ k ≤ len ∧ len - k ≤ kx ∧ Hid ((zs.take k).any badZ = false) ∧ w = wr)
  case atStart => exact ⟨0, rfl, by omega, by omega, (show Hid _ from rfl), rfl⟩
  case round =>
    obtain ⟨k, rfl, hk, hkx, HA, rfl⟩ := hrel
    by_cases hlt : k < len
    · have hkz : (k : Int) < (len : Int) := by omega
      have hk0 : (0 : Int) ≤ (k : Int) := by omega
      have hkl : k < zs.length := by rw [HX.out]; exact hlt
      obtain ⟨b, off, hp, hbl⟩ := HR.out.addr (by rw [ints_length]; omega)
      subst hp
      have hc := HR.out.int k hkl
      have HT : Hid ((zs.take (k + 1)).any badZ = badZ zs[k]) := by
        show _ = _
        rw [List.take_succ_eq_append_getElem hkl, List.any_append, HA.out]
        simp
      have HM : Hid (zs[k] ∈ zs) := List.getElem_mem hkl
      generalize zs[k] = z at hc HT HM
      have HBZ : Hid (badZ z = (decide (z < 0) || decide (1073741824 < z))) := rfl
      by_cases z1 : z < 0
      · have y1 : decide (z < 0) = true := decide_eq_true z1
        have HY : Hid (zs.any badZ = true) := List.any_eq_true.2 ⟨z, HM.out, by rw [HBZ.out, y1]; rfl⟩
        go_wp2
        go_ret
        exact ⟨by rw [HY.out]; rfl, rfl⟩
      · have y1 : decide (z < 0) = false := decide_eq_false z1
        by_cases z2 : 1073741824 < z
        · have y2 : decide (1073741824 < z) = true := decide_eq_true z2
          have HY : Hid (zs.any badZ = true) := List.any_eq_true.2 ⟨z, HM.out, by rw [HBZ.out, y1, y2]; rfl⟩
          go_wp2
          go_ret
          exact ⟨by rw [HY.out]; rfl, rfl⟩
        · have y2 : decide (1073741824 < z) = false := decide_eq_false z2
          have HY : Hid ((zs.take (k + 1)).any badZ = false) := by show _ = _; rw [HT.out, HBZ.out, y1, y2]; rfl
          go_wp2
          go_roundg (len - (k + 1))
          case measure => omega
          case rel => exact ⟨k + 1, by go_num, by omega, Nat.le_refl _, HY, rfl⟩
    · have hkz : ¬ (k : Int) < (len : Int) := by omega
      have hA : Hid (zs.any badZ = false) := by
        have h9 := HA.out
        rw [List.take_of_length_le (by rw [HX.out]; omega)] at h9
        exact h9
      go_wp2
      go_ret
      exact ⟨by rw [hA.out]; rfl, rfl⟩
end Go.Proofs.Ytefniglinligeaa.Lp

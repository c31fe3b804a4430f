
/- The walk of the law RunsToggles. -/
import Derived.Test.YtklofifmmcegpaaRnJ
namespace Go.Proofs.Ytklofifmmcegpaa.Rn
open Go.RowKit Go.Proofs.Ytklofifmmcegpaa.Oct Go.Proofs.Ytklofifmmcegpaa.Bit
open Go.Proofs.Ytklofifmmcegpaa.Lp (VRow ints ints_length ints_append ints_one vrow_own wpList_append_vals Try.infoInt IsInts)
set_option linter.unusedVariables false
set_option linter.unusedSimpArgs false
set_option maxRecDepth 100000

/-- toggled twice -/
theorem tog_tog (zs : List Int) (x : Int) (h : ¬ (1 < zs.length ∧ zs.getLast? = some x ∧ zs.dropLast.getLast? = some x)) : togI (togI zs x) x = zs := by
  unfold togI
  by_cases hl : zs.getLast? = some x
  · rw [if_pos hl]
    have hne : zs ≠ [] := fun e => by rw [e] at hl; simp at hl
    have hls : zs.dropLast ++ [x] = zs := by
      have h1 := List.dropLast_concat_getLast hne
      have h2 : zs.getLast hne = x := by
        rw [List.getLast?_eq_some_getLast hne] at hl
        exact Option.some.inj hl
      rw [h2] at h1
      exact h1
    rw [if_neg, hls]
    intro h2
    refine h ⟨?_, hl, h2⟩
    have h3 : 0 < zs.dropLast.length := by
      rcases hd : zs.dropLast with _ | ⟨y, l⟩
      · rw [hd] at h2; simp at h2
      · simp
    rw [List.length_dropLast] at h3
    omega
  · rw [if_neg hl, if_pos (by simp)]
    simp
theorem tog_len (zs : List Int) (x : Int) : (togI zs x).length = zs.length + 1 ∨ ((togI zs x).length = zs.length - 1 ∧ 0 < zs.length) := by
  unfold togI
  split
  · rename_i h
    refine .inr ⟨List.length_dropLast .., ?_⟩
    rcases zs with _ | ⟨y, l⟩
    · simp at h
    · simp
  · exact .inl (by simp)
theorem last_get (zs : List Int) (n : Nat) (hn : zs.length = n) (h : 0 < n) : zs.getLast? = some (zs[n - 1]'(by omega)) := by
  subst hn
  rw [List.getLast?_eq_getElem?, List.getElem?_eq_getElem (by omega)]
theorem last_get2 (zs : List Int) (n : Nat) (hn : zs.length = n) (h : 1 < n) : zs.dropLast.getLast? = some (zs[n - 2]'(by omega)) := by
  subst hn
  rw [List.getLast?_eq_getElem?, List.length_dropLast, List.getElem?_eq_getElem (by rw [List.length_dropLast]; omega), List.getElem_dropLast]
  congr 1
/-- a row of so many numbers, given back -/
def LstN (w : World) (zs : List Int) (n : Nat) (e : Ending) (w' : World) : Prop :=
  Below w.heap.size w w' ∧ ∃ q c, e = .returned (.slice q n c) ∧ VRow w' w'.heap.size q (ints zs) ∧ (q = none → c = 0) ∧ n ≤ c ∧ c ≤ maxLen
theorem clone_n (p : Option Addr) (len cap : Nat) (zs : List Int) (w w1 : World) (hb : Below w.heap.size w w1) (h : VRow w w.heap.size p (ints zs)) (hx : zs.length = len) (hl : len ≤ 1000) (hp0 : p = none → cap = 0) :
    Calls Try.prog 21 #[.slice p len cap] w1 (LstN w1 zs len) := by
  refine (cloneI_any p len cap (ints zs) w1 ((h.below hb (Nat.le_refl _)).mono hb.size) (by rw [ints_length]; exact hx) hp0 (by omega) ints_one).mono ?_
  rintro e w2 ⟨hb2, q, c, rfl, hv, hlc, hcm, hq0, _⟩
  rw [ints_length, hx] at hlc
  exact ⟨hb2, q, c, by rw [ints_length, hx], hv, hq0, hlc, hcm⟩
theorem tog_n (p : Option Addr) (len cap : Nat) (zs : List Int) (x : Int) (m : Nat) (w : World) (h : VRow w w.heap.size p (ints zs)) (hx : zs.length = len) (hl : len ≤ 1000) (hcap : len ≤ cap) (hp0 : p = none → cap = 0) (hm : (togI zs x).length = m) :
    Calls Try.prog 20 #[.slice p len cap, .int .i64 x] w (LstN w (togI zs x) m) := by
  refine (toggle_any p len cap zs x w h hx hl hcap hp0).mono ?_
  rintro e w2 ⟨hb2, q, c, rfl, hr⟩
  rw [hm] at hr
  exact ⟨hb2, q, c, by rw [hm], hr⟩
theorem equal_n (p1 p2 : Option Addr) (len c1 c2 : Nat) (zs : List Int) (w w1 w2 : World) (h1 : VRow w1 w1.heap.size p1 (ints zs)) (h2 : VRow w w.heap.size p2 (ints zs)) (hb1 : Below w1.heap.size w1 w2) (hb2 : Below w.heap.size w w2) (hx : zs.length = len) (hl : len ≤ 1000) :
    Calls Try.prog 22 #[.slice p1 len c1, .slice p2 len c2] w2 fun e w' => e = .returned (.bool true) ∧ Drawn w2 w' := by
  have := equalI_any p1 p2 len c1 len c2 zs zs w2 _ _ (h1.below hb1 (Nat.le_refl _)) (h2.below hb2 (Nat.le_refl _)) hx hx (by omega)
  rwa [show decide (zs = zs) = true from by simp] at this
def LstM (w : World) (zs : List Int) (n : Nat) (er : Int) (e : Ending) (w' : World) : Prop :=
  Below w.heap.size w w' ∧ ∃ q c, e = .returned (.tuple #[.slice q n c, .int .i64 er]) ∧ VRow w' w'.heap.size q (ints zs) ∧ (q = none → c = 0) ∧ n ≤ c ∧ c ≤ maxLen
theorem LstP.m {w w' : World} {zs : List Int} {n : Nat} {er : Int} {e : Ending} (h : LstP w zs er e w') (hn : zs.length = n) : LstM w zs n er e w' := by
  subst hn
  exact h
theorem equal_m (p1 p2 : Option Addr) (len c1 c2 : Nat) (zs : List Int) (w2 : World) (C1 C2 : Nat) (h1 : VRow w2 C1 p1 (ints zs)) (h2 : VRow w2 C2 p2 (ints zs)) (hx : zs.length = len) (hl : len ≤ 1000) :
    Calls Try.prog 22 #[.slice p1 len c1, .slice p2 len c2] w2 fun e w' => e = .returned (.bool true) ∧ Drawn w2 w' := by
  have := equalI_any p1 p2 len c1 len c2 zs zs w2 _ _ h1 h2 hx hx (by omega)
  rwa [show decide (zs = zs) = true from by simp] at this
def RwM (w : World) (xs : List UInt8) (n : Nat) (er : Int) (e : Ending) (w' : World) : Prop :=
  Below w.heap.size w w' ∧ ∃ q c, e = .returned (.tuple #[.slice q n c, .int .i64 er]) ∧ Row w' q xs ∧ (q = none → c = 0)
theorem RwP.m {w w' : World} {xs : List UInt8} {n : Nat} {er : Int} {e : Ending} (h : RwP w xs er e w') (hn : xs.length = n) : RwM w xs n er e w' := by
  subst hn
  exact h
set_option maxHeartbeats 8000000 in
theorem toggles_walk (p : Option Addr) (len cap : Nat) (x : Int) (w : World) (h : IsInts w p len cap) (hz : (Lit.int .i64 x).wf = true) :
    Calls Try.prog 7 #[.slice p len cap, .int .i64 x] w fun e w' => e = .returned (.bool true) ∧ Below w.heap.size w w' := by
  obtain ⟨zs, hx, hr, hlc, hcm, hnil⟩ := h
  clear hz
  by_cases hbig : 300 < len
  · have hd : decide (300 < (len : Int)) = true := by simp; omega
    clear hx hr hlc hcm hnil
    go_enter Try.func7, Try.ntmps7
    go_wp2_with fail
    refine (lives_any _).mono ?_
    rintro e w1 ⟨rfl, hb1⟩
    go_wp2_with fail
    refine (lives_any _).mono ?_
    rintro e w2 ⟨rfl, hb2⟩
    go_wp2_with fail
    go_ret
    exact ⟨rfl, hb1.trans (hb2.mono hb1.size)⟩
  · have hd : decide (300 < (len : Int)) = false := by simp; omega
    have hlen : len ≤ 300 := by omega
    have HX := Lib.hid hx
    have HR := Lib.hid hr
    -- the ways ahead of the part that all share
    have ways : (decide (1 < (len : Int)) = false ∧ Hid (togI (togI zs x) x = zs)) ∨
        (∃ (b off n1 n2 : Nat) (y1 y2 : Int), p = some ⟨b, off, none⟩ ∧ b < w.heap.size ∧ decide (1 < (len : Int)) = true ∧ (n1 : Int) = (len : Int) - 1 ∧ (n2 : Int) = (len : Int) - 2 ∧ w.cell? ⟨b, off + n1, none⟩ = some (.int .i64 y1) ∧ w.cell? ⟨b, off + n2, none⟩ = some (.int .i64 y2) ∧
          (((y1 == x) = false ∧ Hid (togI (togI zs x) x = zs)) ∨ ((y1 == x) = true ∧ (y2 == x) = false ∧ Hid (togI (togI zs x) x = zs)) ∨ ((y1 == x) = true ∧ (y2 == x) = true))) := by
      by_cases h1 : 1 < len
      · obtain ⟨b, off, hq, hbs⟩ := hr.addr (by rw [ints_length]; omega)
        subst hq
        have c1 := hr.int (len - 1) (by omega)
        have c2 := hr.int (len - 2) (by omega)
        have hl1 := last_get zs len hx (by omega)
        have hl2 := last_get2 zs len hx h1
        refine .inr ⟨b, off, len - 1, len - 2, _, _, rfl, hbs, by simp; omega, by omega, by omega, c1, c2, ?_⟩
        by_cases e1 : zs[len - 1] = x
        · by_cases e2 : zs[len - 2] = x
          · exact .inr (.inr ⟨by simpa using e1, by simpa using e2⟩)
          · exact .inr (.inl ⟨by simpa using e1, by simpa using e2, Lib.hid (tog_tog zs x (fun h => by
              have := h.2.2
              rw [hl2] at this
              exact e2 (Option.some.inj this)))⟩)
        · exact .inl ⟨by simpa using e1, Lib.hid (tog_tog zs x (fun h => by
              have := h.2.1
              rw [hl1] at this
              exact e1 (Option.some.inj this)))⟩
      · exact .inl ⟨by simp; omega, Lib.hid (tog_tog zs x (fun h => by have := h.1; omega))⟩
    obtain ⟨m, hm, hmw⟩ : ∃ m, (togI zs x).length = m ∧ (((m : Int) == (len : Int) + 1) = true ∨ (((m : Int) == (len : Int) + 1) = false ∧ ((m : Int) == (len : Int) - 1) = true)) := by
      refine ⟨_, rfl, ?_⟩
      rcases tog_len zs x with h | ⟨h, h0⟩
      · left; rw [h, hx]; simp
      · right; rw [h, hx]; rw [hx] at h0; constructor
        · simp; omega
        · simp; omega
    have hm301 : m ≤ 301 := by
      rcases tog_len zs x with h | ⟨h, _⟩ <;> omega
    have HM := Lib.hid hm
    clear hx hr hcm hbig hm
    have hms1 : IntKind.i64.wrap ((len : Int) - 1) = (len : Int) - 1 := by rw [IntKind.wrap_i64]; omega
    have hms2 : IntKind.i64.wrap ((len : Int) - 2) = (len : Int) - 2 := by rw [IntKind.wrap_i64]; omega
    rcases ways with ⟨hd1, HTT⟩ | ⟨b, off, n1, n2, y1, y2, hq, hbs, hd1, hn1, hn2, c1, c2, way⟩
    rotate_left
    · subst hq
      have i1 : (0 : Int) ≤ (n1 : Int) := by omega
      have i2 : (n1 : Int) < (len : Int) := by omega
      have i3 : (0 : Int) ≤ (n2 : Int) := by omega
      have i4 : (n2 : Int) < (len : Int) := by omega
      rw [← hn1] at hms1
      rw [← hn2] at hms2
      have hn1' := hn1.symm
      have hn2' := hn2.symm
      have HC := Lib.hid (fun (w1 : World) (hb : Below w.heap.size w w1) => And.intro ((hb.cell (p := ⟨b, off + n1, none⟩) hbs).trans c1) ((hb.cell (p := ⟨b, off + n2, none⟩) hbs).trans c2))
      clear hn1 hn2 c1 c2 hbs
      rcases way with ⟨hy1, HTT⟩ | ⟨hy1, hy2, HTT⟩ | ⟨hy1, hy2⟩
      rotate_right
      · go_enter Try.func7, Try.ntmps7
        go_wp2_with fail
        refine (lives_any _).mono ?_
        rintro e w1 ⟨rfl, hb1⟩
        obtain ⟨g1, g2⟩ := HC.out w1 hb1
        go_wp2_with fail
        go_ret
        exact ⟨rfl, hb1⟩
      all_goals
        go_enter Try.func7, Try.ntmps7
        go_wp2_with fail
        refine (lives_any _).mono ?_
        rintro e w1 ⟨rfl, hb1⟩
        have HB1 := Lib.hid hb1
        obtain ⟨g1, g2⟩ := HC.out w1 hb1
        clear hb1 HC
        go_wp2_with fail
        clear g1 g2 i1 i2 i3 i4 hms1 hms2 hn1' hn2'
        refine (clone_n _ len cap zs w w1 HB1.out HR.out HX.out (by omega) hnil).mono ?_
        rintro e w2 ⟨hb2, q1, k1, rfl, hv1, hq1, hk1, hk1m⟩
        have HB2 := Lib.hid (HB1.out.trans (hb2.mono HB1.out.size))
        have HV1 := Lib.hid hv1
        have HT1 := Lib.hid (tog_n q1 len k1 zs x m w2 hv1 HX.out (by omega) hk1 hq1 HM.out)
        clear hb2 hv1
        go_wp2_with fail
        refine HT1.out.mono ?_
        rintro e w3 ⟨hb3, q2, k2, rfl, hv2, hq2, hk2, hk2m⟩
        have HB3 := Lib.hid (HB2.out.trans (hb3.mono HB2.out.size))
        have HB23 := Lib.hid hb3
        have ht2 := tog_n q2 m k2 (togI zs x) x len w3 hv2 HM.out (by omega) hk2 hq2 (by rw [HTT.out]; exact HX.out)
        rw [HTT.out] at ht2
        have HT2 := Lib.hid ht2
        clear hb3 hv2 ht2 HT1
        go_wp2_with fail
        refine HT2.out.mono ?_
        rintro e w4 ⟨hb4, q3, k3, rfl, hv3, _, _, _⟩
        have HB4 := Lib.hid (HB3.out.trans (hb4.mono HB3.out.size))
        have HB24 := Lib.hid (HB23.out.trans (hb4.mono HB23.out.size))
        have HE1 := Lib.hid (equal_n q3 _ len k3 cap zs w w4 w4 hv3 HR.out (Below.refl _ _) HB4.out HX.out (by omega))
        clear hb4 hv3 HT2
        go_wp2_with fail
        refine HE1.out.mono ?_
        rintro e w5 ⟨rfl, hd5⟩
        have HB5 := Lib.hid (HB4.out.trans ((hd5.below _).mono HB4.out.size))
        have HB25 := Lib.hid (HB24.out.trans ((hd5.below _).mono HB24.out.size))
        have HE2 := Lib.hid (equal_n q1 _ len k1 cap zs w w2 w5 HV1.out HR.out HB25.out HB5.out HX.out (by omega))
        clear hd5 HE1
        go_wp2_with fail
        refine HE2.out.mono ?_
        rintro e w6 ⟨rfl, hd6⟩
        have HB6 := Lib.hid (HB5.out.trans ((hd6.below _).mono HB5.out.size))
        clear hd6 HE2
        rcases hmw with hmw | ⟨hmw, hmw2⟩
        · go_wp2_with fail
          go_ret
          exact ⟨rfl, HB6.out⟩
        · go_wp2_with fail
          go_ret
          exact ⟨rfl, HB6.out⟩
    · clear hms1 hms2
      go_enter Try.func7, Try.ntmps7
      go_wp2_with fail
      refine (lives_any _).mono ?_
      rintro e w1 ⟨rfl, hb1⟩
      have HB1 := Lib.hid hb1
      clear hb1
      go_wp2_with fail
      refine (clone_n _ len cap zs w w1 HB1.out HR.out HX.out (by omega) hnil).mono ?_
      rintro e w2 ⟨hb2, q1, k1, rfl, hv1, hq1, hk1, hk1m⟩
      have HB2 := Lib.hid (HB1.out.trans (hb2.mono HB1.out.size))
      have HV1 := Lib.hid hv1
      have HT1 := Lib.hid (tog_n q1 len k1 zs x m w2 hv1 HX.out (by omega) hk1 hq1 HM.out)
      clear hb2 hv1
      go_wp2_with fail
      refine HT1.out.mono ?_
      rintro e w3 ⟨hb3, q2, k2, rfl, hv2, hq2, hk2, hk2m⟩
      have HB3 := Lib.hid (HB2.out.trans (hb3.mono HB2.out.size))
      have HB23 := Lib.hid hb3
      have ht2 := tog_n q2 m k2 (togI zs x) x len w3 hv2 HM.out (by omega) hk2 hq2 (by rw [HTT.out]; exact HX.out)
      rw [HTT.out] at ht2
      have HT2 := Lib.hid ht2
      clear hb3 hv2 ht2 HT1
      go_wp2_with fail
      refine HT2.out.mono ?_
      rintro e w4 ⟨hb4, q3, k3, rfl, hv3, _, _, _⟩
      have HB4 := Lib.hid (HB3.out.trans (hb4.mono HB3.out.size))
      have HB24 := Lib.hid (HB23.out.trans (hb4.mono HB23.out.size))
      have HE1 := Lib.hid (equal_n q3 _ len k3 cap zs w w4 w4 hv3 HR.out (Below.refl _ _) HB4.out HX.out (by omega))
      clear hb4 hv3 HT2
      go_wp2_with fail
      refine HE1.out.mono ?_
      rintro e w5 ⟨rfl, hd5⟩
      have HB5 := Lib.hid (HB4.out.trans ((hd5.below _).mono HB4.out.size))
      have HB25 := Lib.hid (HB24.out.trans ((hd5.below _).mono HB24.out.size))
      have HE2 := Lib.hid (equal_n q1 _ len k1 cap zs w w2 w5 HV1.out HR.out HB25.out HB5.out HX.out (by omega))
      clear hd5 HE1
      go_wp2_with fail
      refine HE2.out.mono ?_
      rintro e w6 ⟨rfl, hd6⟩
      have HB6 := Lib.hid (HB5.out.trans ((hd6.below _).mono HB5.out.size))
      clear hd6 HE2
      rcases hmw with hmw | ⟨hmw, hmw2⟩
      · go_wp2_with fail
        go_ret
        exact ⟨rfl, HB6.out⟩
      · go_wp2_with fail
        go_ret
        exact ⟨rfl, HB6.out⟩
end Go.Proofs.Ytklofifmmcegpaa.Rn

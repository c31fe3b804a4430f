
/- Contracts of package runs: Lengths, Toggle, Row; slices.Equal. -/
import Derived.Test.YtklofifmmcegpaaRnC
namespace Go.Proofs.Ytklofifmmcegpaa.Rn
open Go.RowKit Go.Proofs.Ytklofifmmcegpaa.Oct Go.Proofs.Ytklofifmmcegpaa.Bit Go.Proofs.Ytklofifmmcegpaa.Lp
set_option linter.unusedVariables false
set_option linter.unusedSimpArgs false
set_option maxRecDepth 100000

theorem zl_nat {zs : List Int} {c : List Nat} (e : zs = zl c) (i : Nat) (h : i < zs.length) : ∃ h' : i < c.length, zs[i] = (c[i] : Int) := by
  subst e
  exact ⟨by rw [zl_length] at h; exact h, by simp [zl]⟩
set_option maxHeartbeats 2000000 in
theorem lengths_in (p : Option Addr) (len cap : Nat) (zs : List Int) (c : List Nat) (n : Nat) (w : World) (h : VRow w w.heap.size p (ints zs)) (hx : zs.length = len) (hl : len ≤ 100000) (hn : n ≤ 32768) (hc : zs = zl c) (hv : Valid c n) :
    Calls Try.prog 15 #[.slice p len cap, .int .i64 (n : Int)] w (LstP w (lensI 0 zs n) 0) := by
  obtain ⟨i0, hi, hz0, hz1, hz2⟩ := info_parts Try.infoInt
  have hwd : wideB (n : Int) = true := by unfold wideB; simp; omega
  have hrt := right_any p len cap zs (n : Int) w _ h hx (by unfold maxLen; omega)
  rw [show rightB zs (n : Int) = true from by rw [hc]; exact valid_right hv] at hrt
  obtain ⟨L, hL⟩ : ∃ L, L = lensI 0 zs n := ⟨_, rfl⟩
  rw [← hL]
  have HST : Hid (([] : List Int) ++ lensI ((0 : Nat) : Int) (zs.drop 0) n = L) := Lib.hid hL.symm
  have HH := Lib.hid h
  have HX := Lib.hid hx
  have HC := Lib.hid (show ∀ i (h : i < zs.length), ∃ x : Nat, zs[i] = (x : Int) ∧ x ≤ 32768 from fun i h => by
    obtain ⟨h', e⟩ := zl_nat hc i h
    exact ⟨c[i], e, by have := hv.2 _ (List.getElem_mem h'); omega⟩)
  have HRT := Lib.hid hrt
  clear h hx hL hc hv hrt
  go_enter Try.func15, Try.ntmps15
  go_wp2_with fail
  refine (isWidth_any _ _).mono ?_
  rintro e w' ⟨rfl, rfl⟩
  rw [hwd]
  clear hwd
  go_wp2_with fail
  refine HRT.out.mono ?_
  rintro e w' ⟨rfl, rfl⟩
  go_wp2_with (at_make; refine wpList_make_own _ rfl _ _ 24 rfl w.heap.size 3 i0 (.int .i64 0) 1 Try.underlying24 hi hz0 hz1 .i64 .i64 ((len : Int) + 1) (len + 1) rfl rfl ?c1 ?c2 ?c3 ?c4 ?_)
  case c1 => omega
  case c2 => rw [hz2]; omega
  case c3 => unfold maxLen; omega
  case c4 => omega
  intro w1 hown hgrow
  have hb1 : Below w.heap.size w w1 := (Below.refl _ _).grown hgrow (Nat.le_refl _) (fun k hk => by cases hk)
  have HO : Hid (IOwn w1 w.heap.size (.slice (some ⟨w.heap.size, 0, none⟩) 0 (len + 1)) []) := Lib.hid hown
  have HB := Lib.hid hb1
  clear hown hgrow hb1
  go_wp2_with fail
  go_loopw [6, 7, 9, 25] (fun v y _ i wr => ∃ (k s : Nat) (M : List Int), k ≤ len ∧ i = .int .i64 (k : Int) ∧ y = .int .i64 (s : Int) ∧ s ≤ 32768 ∧ Hid (M.length = k) ∧ Hid (M ++ lensI (s : Int) (zs.drop k) n = L) ∧ Hid (IOwn wr w.heap.size v M) ∧ Hid (Below w.heap.size w wr)) (fun _ _ _ i _ => len - (intOf i).toNat)
  case atStart => exact ⟨0, 0, [], by omega, rfl, rfl, by omega, Lib.hid rfl, HST, HO, HB⟩
  case round =>
    clear HST HO HB
    obtain ⟨k, s, M, hk, rfl, rfl, hs, HM, HR, HO, HB⟩ := hrel
    by_cases hlt : k < len
    · have hkl : k < zs.length := by rw [HX.out]; exact hlt
      obtain ⟨b, off, hq, hbl⟩ := HH.out.addr (by rw [ints_length]; omega)
      subst hq
      have hc0 := HH.out.int k hkl
      have hc : wr.cell? ⟨b, off + k, none⟩ = some (.int .i64 zs[k]) := (HB.out.cell (p := ⟨b, off + k, none⟩) hbl).trans hc0
      obtain ⟨x, hxe, hx32⟩ := HC.out k hkl
      have hr := HR.out
      rw [List.drop_eq_getElem_cons hkl, lensI, hxe] at hr
      rw [hxe] at hc
      have hd : decide ((k : Int) < (len : Int)) = true := by simp; omega
      have i1 : (0 : Int) ≤ (k : Int) := by omega
      have i2 : (k : Int) < (len : Int) := by omega
      have hb1 : Below wr.heap.size wr (wr.alloc (.cells (ints [(x : Int) - (s : Int)]).toArray 3)) := (Below.refl _ wr).alloc (Nat.le_refl _) _
      have HS := Lib.hid (ints_new wr [(x : Int) - (s : Int)] 3 (0, 0))
      have HOW := Lib.hid (own_below HO.out hb1)
      have HB2 := Lib.hid (HB.out.trans (hb1.mono HB.out.size))
      have HZ := Lib.hid HB2.out.size
      have HR2 : Hid ((M ++ [(x : Int) - (s : Int)]) ++ lensI (x : Int) (zs.drop (k + 1)) n = L) := Lib.hid (by rw [List.append_assoc]; exact hr)
      have HM1 := Lib.hid (show (M ++ [(x : Int) - (s : Int)]).length = k + 1 from by rw [List.length_append, HM.out]; rfl)
      have HMA : Hid (ints M ++ ints [(x : Int) - (s : Int)] = ints (M ++ [(x : Int) - (s : Int)])) := Lib.hid (ints_append _ _).symm
      have hMl : M.length ≤ 100000 := by rw [HM.out]; omega
      clear HR hr hc0 hkl hxe HO HB hb1
      go_wp2_with (at_builtin; refine wpList_append_vals Try.underlying24 hi hz0 hz1 hz2 rfl (by decide) rfl _ _ rfl w.heap.size _ M.length (ints M) rfl HOW.out (some ⟨wr.heap.size, 0, none⟩) 1 1 (ints [(x : Int) - (s : Int)]) rfl HS.out rfl (fun h => by cases h) ints_one (by omega) HZ.out ?_)
      intro v2 w2 hown2 _ hb3
      rw [HMA.out, show M.length + 1 = (M ++ [(x : Int) - (s : Int)]).length from by rw [List.length_append]; rfl] at hown2
      have HO3 : Hid (IOwn w2 w.heap.size v2 (M ++ [(x : Int) - (s : Int)])) := Lib.hid hown2
      have HB3 := Lib.hid (HB2.out.trans hb3)
      clear hown2 hb3 HOW HS HZ HB2 HMA
      go_wp2_with fail
      go_roundw
      case rel => exact ⟨k + 1, x, M ++ [(x : Int) - (s : Int)], by omega, by go_num, rfl, hx32, HM1, HR2, HO3, HB3⟩
      case measure => simp [intOf]; omega
    · have hke : k = len := by omega
      have hr := HR.out
      rw [List.drop_of_length_le (by rw [HX.out]; omega), lensI] at hr
      have hd : decide ((k : Int) < (len : Int)) = false := by simp; omega
      have hb1 : Below wr.heap.size wr (wr.alloc (.cells (ints [(n : Int) - (s : Int)]).toArray 3)) := (Below.refl _ wr).alloc (Nat.le_refl _) _
      have HS := Lib.hid (ints_new wr [(n : Int) - (s : Int)] 3 (0, 0))
      have HOW := Lib.hid (own_below HO.out hb1)
      have HB2 := Lib.hid (HB.out.trans (hb1.mono HB.out.size))
      have HZ := Lib.hid HB2.out.size
      have HMA : Hid (ints M ++ ints [(n : Int) - (s : Int)] = ints L ∧ M.length + 1 = L.length) := Lib.hid (by rw [← hr, ints_append]; exact ⟨rfl, by simp⟩)
      have hMl : M.length ≤ 100000 := by rw [HM.out]; omega
      clear HR hr HO HB hb1
      go_wp2_with (at_builtin; refine wpList_append_vals Try.underlying24 hi hz0 hz1 hz2 rfl (by decide) rfl _ _ rfl w.heap.size _ M.length (ints M) rfl HOW.out (some ⟨wr.heap.size, 0, none⟩) 1 1 (ints [(n : Int) - (s : Int)]) rfl HS.out rfl (fun h => by cases h) ints_one (by omega) HZ.out ?_)
      intro v2 w2 hown2 _ hb3
      rw [HMA.out.1, HMA.out.2] at hown2
      obtain ⟨q, c2, rfl, hq0, hqc, hcm, hv, _⟩ := vrow_own hown2 (by rw [ints_length])
      have HRES : Hid (Below w.heap.size w w2 ∧ VRow w2 w2.heap.size q (ints L) ∧ (q = none → c2 = 0) ∧ L.length ≤ c2 ∧ c2 ≤ maxLen) := Lib.hid ⟨HB2.out.trans hb3, hv, hq0, hqc, hcm⟩
      clear hown2 hb3 HOW HS HZ HB2 HMA hq0 hqc hcm hv
      go_wp2_with fail
      go_ret2
      exact ⟨HRES.out.1, q, c2, rfl, HRES.out.2⟩
/-- may a row of this width change so? -/
def okR (zs : List Int) (z : Int) : Bool := wideB z && rightB zs z
theorem okR_valid {zs : List Int} {z : Int} (h : okR zs z = true) : ∃ (c : List Nat) (n : Nat), zs = zl c ∧ z = (n : Int) ∧ n ≤ 32768 ∧ Valid c n := by
  unfold okR at h
  rw [Bool.and_eq_true] at h
  have hz := of_decide_eq_true h.1
  obtain ⟨n, rfl⟩ : ∃ n : Nat, z = (n : Int) := ⟨z.toNat, by omega⟩
  obtain ⟨c, e, hv⟩ := right_valid h.2
  rw [Int.toNat_natCast] at hv
  exact ⟨c, n, e, rfl, by omega, hv⟩
def lenL (zs : List Int) (z : Int) : List Int := if okR zs z then lensI 0 zs z else []
def errR (zs : List Int) (z : Int) : Int := if okR zs z then 0 else 1
set_option maxHeartbeats 1000000 in
theorem lengths_any (p : Option Addr) (len cap : Nat) (zs : List Int) (z : Int) (w : World) (h : VRow w w.heap.size p (ints zs)) (hx : zs.length = len) (hl : len ≤ 100000) :
    Calls Try.prog 15 #[.slice p len cap, .int .i64 z] w (LstP w (lenL zs z) (errR zs z)) := by
  by_cases hok : okR zs z = true
  · obtain ⟨c, n, hc, rfl, hn, hv⟩ := okR_valid hok
    unfold lenL errR
    rw [if_pos hok, if_pos hok]
    exact lengths_in p len cap zs c n w h hx hl hn hc hv
  · unfold lenL errR
    rw [if_neg hok, if_neg hok]
    have hrt := right_any p len cap zs z w _ h hx (by unfold maxLen; omega)
    by_cases hw : wideB z = true
    · have hr : rightB zs z = false := by
        unfold okR at hok
        rw [hw, Bool.true_and] at hok
        simpa using hok
      rw [hr] at hrt
      clear h hx hok hr
      go_enter Try.func15, Try.ntmps15
      go_wp2_with fail
      refine (isWidth_any _ _).mono ?_
      rintro e w' ⟨rfl, rfl⟩
      rw [hw]
      clear hw
      go_wp2_with fail
      refine hrt.mono ?_
      rintro e w' ⟨rfl, rfl⟩
      go_wp2_with fail
      go_ret2
      exact LstP.nil _ _ _ (Below.refl _ _)
    · have hw' : wideB z = false := by simpa using hw
      clear h hx hok hrt hw
      go_enter Try.func15, Try.ntmps15
      go_wp2_with fail
      refine (isWidth_any _ _).mono ?_
      rintro e w' ⟨rfl, rfl⟩
      rw [hw']
      clear hw'
      go_wp2_with fail
      go_ret2
      exact LstP.nil _ _ _ (Below.refl _ _)
/-- a row of numbers, given back -/
def LstV (w : World) (zs : List Int) (e : Ending) (w' : World) : Prop :=
  Below w.heap.size w w' ∧ ∃ q c, e = .returned (.slice q zs.length c) ∧ VRow w' w'.heap.size q (ints zs) ∧ (q = none → c = 0) ∧ zs.length ≤ c ∧ c ≤ maxLen
/-- the world with a row of one number, and the two rows that are put together -/
def catW (w : World) (p : Option Addr) (n cap : Nat) (x : Int) : World := (w.alloc (.cells #[.int .i64 x] 3)).alloc (.cells #[.slice p n cap, .slice (some ⟨w.heap.size, 0, none⟩) 1 1] 24)
theorem catW_below (w : World) (p : Option Addr) (n cap : Nat) (x : Int) : Below w.heap.size w (catW w p n cap x) :=
  ((Below.refl _ w).alloc (Nat.le_refl _) _).alloc (by simp) _
theorem catW_hi (w : World) (p : Option Addr) (n cap : Nat) (x : Int) : (catW w p n cap x).heap[w.heap.size + 1]? = some (.cells #[.slice p n cap, .slice (some ⟨w.heap.size, 0, none⟩) 1 1] 24 (0, 0)) := by
  show ((w.heap.push (Obj.cells #[.int .i64 x] 3)).push _)[w.heap.size + 1]? = _
  have e : (w.heap.push (Obj.cells #[.int .i64 x] 3)).size = w.heap.size + 1 := by simp
  rw [← e]
  exact Array.getElem?_push_size
theorem catW_lo (w : World) (p : Option Addr) (n cap : Nat) (x : Int) : (catW w p n cap x).heap[w.heap.size]? = some (.cells #[.int .i64 x] 3 (0, 0)) := by
  show ((w.heap.push _).push _)[w.heap.size]? = _
  simp [Array.getElem?_push]
theorem cat_any (w : World) (p : Option Addr) (cap : Nat) (zs : List Int) (x : Int) (n : Nat) (hx : zs.length = n) (h : VRow w w.heap.size p (ints zs)) (hp0 : p = none → cap = 0) (hl : n ≤ 1000) :
    Calls Try.prog 33 #[.slice (some ⟨w.heap.size + 1, 0, none⟩) 2 2] (catW w p n cap x) (LstV w (zs ++ [x])) := by
  subst hx
  have hb := catW_below w p zs.length cap x
  have hsz : (catW w p zs.length cap x).heap.size = w.heap.size + 2 := by
    show ((w.heap.push _).push _).size = _
    simp
  have hhi := catW_hi w p zs.length cap x
  have hlo := catW_lo w p zs.length cap x
  have hR : RowsAt (catW w p zs.length cap x) (w.heap.size + 1) [zs, [x]] := by
    intro k hk
    match k, hk with
    | 0, _ => exact ⟨p, cap, by simp [World.cell?, hhi], ((h.below hb (Nat.le_refl _)).mono hb.size), hp0, hl⟩
    | 1, _ =>
      refine ⟨some ⟨w.heap.size, 0, none⟩, 1, by simp [World.cell?, hhi], fun _ => ⟨w.heap.size, 0, rfl, by rw [hsz]; omega, fun i hi => ?_⟩, (fun h => by cases h), by simp⟩
      have : i = 0 := by simpa [ints] using hi
      subst this
      simp [World.cell?, hlo, ints]
  refine (concatI_any (w.heap.size + 1) 2 [zs, [x]] _ (by rw [hsz]; omega) hR (by simp) (by simp)).mono ?_
  rintro e w' ⟨v, rfl, ho, hb2⟩
  have ho' : IOwn w' (catW w p zs.length cap x).heap.size v (zs ++ [x]) := ho
  obtain ⟨q, c2, rfl, hq0, hqc, hcm, hv, _⟩ := vrow_own ho' (by rw [ints_length])
  exact ⟨hb.trans (hb2.mono hb.size), q, c2, rfl, hv, hq0, hqc, hcm⟩
set_option maxHeartbeats 1000000 in
theorem toggle_any (p : Option Addr) (len cap : Nat) (zs : List Int) (x : Int) (w : World) (h : VRow w w.heap.size p (ints zs)) (hx : zs.length = len) (hl : len ≤ 1000) (hcap : len ≤ cap) (hp0 : p = none → cap = 0) :
    Calls Try.prog 20 #[.slice p len cap, .int .i64 x] w (LstV w (togI zs x)) := by
  have HCAT := Lib.hid (cat_any w p cap zs x len hx h hp0 hl)
  rcases Nat.eq_zero_or_pos len with h0 | h0
  · subst h0
    have hz : zs = [] := List.eq_nil_of_length_eq_zero hx
    have ht : togI zs x = zs ++ [x] := by rw [hz]; rfl
    rw [ht]
    clear h hx hz ht
    generalize zs ++ [x] = L at HCAT ⊢
    go_enter Try.func20, Try.ntmps20
    go_wp2_with fail
    refine HCAT.out.mono ?_
    rintro e w' ⟨hb, q, c, rfl, hr⟩
    have HR := Lib.hid hr
    clear hr HCAT
    go_wp2_with fail
    go_ret
    exact ⟨hb, q, c, rfl, HR.out⟩
  · have hk : len - 1 < zs.length := by omega
    obtain ⟨b, off, hq, _⟩ := h.addr (by rw [ints_length]; omega)
    subst hq
    have hc := h.int (len - 1) hk
    have hlast : zs.getLast? = some zs[len - 1] := by
      rw [List.getLast?_eq_getElem?]
      subst hx
      rw [List.getElem?_eq_getElem hk]
    have htg : togI zs x = if zs[len - 1] = x then zs.dropLast else zs ++ [x] := by
      unfold togI
      rw [hlast]
      simp only [Option.some.injEq]
    have hcl := fun q => cloneI_any (some ⟨b, off, none⟩) (len - 1) cap (ints (zs.take (len - 1))) w (head_v _ h) (by rw [ints_length, List.length_take]; omega) q (by omega) ints_one
    have hdl : zs.dropLast = zs.take (len - 1) := by rw [List.dropLast_eq_take, hx]
    have hsl := head_ints w (some ⟨b, off, none⟩) len cap (len - 1) (by omega) (fun h => by cases h)
    obtain ⟨m, hm⟩ : ∃ m, m = len - 1 := ⟨_, rfl⟩
    have hml : (zs.take m).length = m := by rw [List.length_take]; omega
    rw [hdl] at htg
    rw [htg]
    simp only [← hm] at hc hcl hsl ⊢
    generalize zs[m] = y at hc
    have hms : IntKind.i64.wrap ((len : Int) - 1) = (m : Int) := by rw [IntKind.wrap_i64]; omega
    have hms2 : (len : Int) - 1 = (m : Int) := by omega
    have i1 : (0 : Int) ≤ (m : Int) := by omega
    have i2 : (m : Int) < (len : Int) := by omega
    have hd0 : decide ((0 : Int) ≤ (m : Int)) = true := by simp
    have HCL := Lib.hid hcl
    have HML := Lib.hid hml
    clear h hx hlast htg hdl hcl hml hm hk
    by_cases he : y = x
    · subst he
      rw [if_pos rfl]
      go_enter Try.func20, Try.ntmps20
      go_wp2_with fail
      refine (HCL.out (fun h => by cases h)).mono ?_
      rintro e w' ⟨hb, q, c, rfl, hv, hlc, hcm, hq0, _⟩
      have HV := Lib.hid hv
      have HLC := Lib.hid hlc
      have HQ0 := Lib.hid hq0
      clear hv hlc hq0
      go_wp2_with fail
      go_ret
      rw [ints_length] at HLC
      exact ⟨hb, q, c, by rw [ints_length]; rfl, HV.out, HQ0.out, HLC.out, hcm⟩
    · rw [if_neg he]
      generalize zs ++ [x] = L at HCAT ⊢
      have hne : (y == x) = false := by simpa using he
      clear he
      go_enter Try.func20, Try.ntmps20
      go_wp2_with fail
      refine HCAT.out.mono ?_
      rintro e w' ⟨hb, q, c, rfl, hr⟩
      have HR := Lib.hid hr
      clear hr HCAT
      go_wp2_with fail
      go_ret
      exact ⟨hb, q, c, rfl, HR.out⟩
end Go.Proofs.Ytklofifmmcegpaa.Rn

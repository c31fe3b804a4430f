
/- Lengths in a row that is new; which rows are rows; the contracts of writeLengths, writeTwo, WriteRow. -/
import Derived.Test.YtidicajedckaoaaGreatDoorMiB
import Derived.Lib.MinMax
namespace Go.Proofs.YtidicajedckaoaaGreatDoor.Rn
open Go.RowKit Go.Proofs.YtidicajedckaoaaGreatDoor.Oct Go.Proofs.YtidicajedckaoaaGreatDoor.Bit
open Go.Proofs.YtidicajedckaoaaGreatDoor.Lp (VRow ints ints_length ints_append ints_one vrow_own wpList_append_vals Tryz.infoInt)
set_option linter.unusedVariables false
set_option linter.unusedSimpArgs false
set_option maxRecDepth 100000

/-- a new row of numbers and an error, given back -/
def LstF (w : World) (zs : List Int) (er : Int) (e : Ending) (w' : World) : Prop :=
  Below w.heap.size w w' ∧ ∃ q c, e = .returned (.tuple #[.slice q zs.length c, .int .i64 er]) ∧ VRow w' w'.heap.size q (ints zs) ∧ (q = none → c = 0) ∧ zs.length ≤ c ∧ c ≤ maxLen ∧ ∀ a, q = some a → w.heap.size ≤ a.block
set_option maxHeartbeats 2000000 in
theorem lengths_new (p : Option Addr) (len cap : Nat) (zs : List Int) (c : List Nat) (n : Nat) (w : World) (h : VRow w w.heap.size p (ints zs)) (hx : zs.length = len) (hl : len ≤ 100000) (hn : n ≤ 32768) (hc : zs = zl c) (hv : Valid c n) :
    Calls Tryz.prog 66 #[.slice p len cap, .int .i64 (n : Int)] w (LstF w (lensI 0 zs n) 0) := by
  obtain ⟨i0, hi, hz0, hz1, hz2⟩ := info_parts Tryz.infoInt
  have hwd : wideB (n : Int) = true := by unfold wideB; simp; omega
  have hrt := right_any p len cap zs (n : Int) w _ h hx (by unfold maxLen; omega)
  rw [show rightB zs (n : Int) = true from by rw [hc]; exact valid_right hv] at hrt
  obtain ⟨L, hL⟩ : ∃ L, L = lensI 0 zs n := ⟨_, rfl⟩
  rw [← hL]
  have HST : Hid (([] : List Int) ++ lensI ((0 : Nat) : Int) (zs.drop 0) n = L) := Lib.hid hL.symm
  have HH := Lib.hid h
  have HX := Lib.hid hx
  have HC := Lib.hid (show ∀ i (h : i < zs.length), ∃ x : Nat, zs[i] = (x : Int) ∧ x ≤ 32768 from fun i h => by
    obtain ⟨h', e⟩ := zl_nat hc i h
    exact ⟨c[i], e, by have := hv.2 _ (List.getElem_mem h'); omega⟩)
  have HRT := Lib.hid hrt
  clear h hx hL hc hv hrt
  go_enter Tryz.func66, Tryz.ntmps66
  go_wp2_with fail
  refine (isWidth_any _ _).mono ?_
  rintro e w' ⟨rfl, rfl⟩
  rw [hwd]
  clear hwd
  go_wp2_with fail
  refine HRT.out.mono ?_
  rintro e w' ⟨rfl, rfl⟩
  go_wp2_with (at_make; refine wpList_make_own _ rfl _ _ 45 rfl w.heap.size 3 i0 (.int .i64 0) 1 Tryz.underlying45 hi hz0 hz1 .i64 .i64 ((len : Int) + 1) (len + 1) rfl rfl ?c1 ?c2 ?c3 ?c4 ?_)
  case c1 => omega
  case c2 => rw [hz2]; omega
  case c3 => unfold maxLen; omega
  case c4 => omega
  intro w1 hown hgrow
  have hb1 : Below w.heap.size w w1 := (Below.refl _ _).grown hgrow (Nat.le_refl _) (fun k hk => by cases hk)
  have HO : Hid (IOwn w1 w.heap.size (.slice (some ⟨w.heap.size, 0, none⟩) 0 (len + 1)) []) := Lib.hid hown
  have HB := Lib.hid hb1
  clear hown hgrow hb1
  go_wp2_with fail
  go_loopw [6, 7, 9, 25] (fun v y _ i wr => ∃ (k s : Nat) (M : List Int), k ≤ len ∧ i = .int .i64 (k : Int) ∧ y = .int .i64 (s : Int) ∧ s ≤ 32768 ∧ Hid (M.length = k) ∧ Hid (M ++ lensI (s : Int) (zs.drop k) n = L) ∧ Hid (IOwn wr w.heap.size v M) ∧ Hid (Below w.heap.size w wr)) (fun _ _ _ i _ => len - (intOf i).toNat)
  case atStart => exact ⟨0, 0, [], by omega, rfl, rfl, by omega, Lib.hid rfl, HST, HO, HB⟩
  case round =>
    clear HST HO HB
    obtain ⟨k, s, M, hk, rfl, rfl, hs, HM, HR, HO, HB⟩ := hrel
    by_cases hlt : k < len
    · have hkl : k < zs.length := by rw [HX.out]; exact hlt
      obtain ⟨b, off, hq, hbl⟩ := HH.out.addr (by rw [ints_length]; omega)
      subst hq
      have hc0 := HH.out.int k hkl
      have hc : wr.cell? ⟨b, off + k, none⟩ = some (.int .i64 zs[k]) := (HB.out.cell (p := ⟨b, off + k, none⟩) hbl).trans hc0
      obtain ⟨x, hxe, hx32⟩ := HC.out k hkl
      have hr := HR.out
      rw [List.drop_eq_getElem_cons hkl, lensI, hxe] at hr
      rw [hxe] at hc
      have hd : decide ((k : Int) < (len : Int)) = true := by simp; omega
      have i1 : (0 : Int) ≤ (k : Int) := by omega
      have i2 : (k : Int) < (len : Int) := by omega
      have hb1 : Below wr.heap.size wr (wr.alloc (.cells (ints [(x : Int) - (s : Int)]).toArray 3)) := (Below.refl _ wr).alloc (Nat.le_refl _) _
      have HS := Lib.hid (ints_new wr [(x : Int) - (s : Int)] 3 (0, 0))
      have HOW := Lib.hid (own_below HO.out hb1)
      have HB2 := Lib.hid (HB.out.trans (hb1.mono HB.out.size))
      have HZ := Lib.hid HB2.out.size
      have HR2 : Hid ((M ++ [(x : Int) - (s : Int)]) ++ lensI (x : Int) (zs.drop (k + 1)) n = L) := Lib.hid (by rw [List.append_assoc]; exact hr)
      have HM1 := Lib.hid (show (M ++ [(x : Int) - (s : Int)]).length = k + 1 from by rw [List.length_append, HM.out]; rfl)
      have HMA : Hid (ints M ++ ints [(x : Int) - (s : Int)] = ints (M ++ [(x : Int) - (s : Int)])) := Lib.hid (ints_append _ _).symm
      have hMl : M.length ≤ 100000 := by rw [HM.out]; omega
      clear HR hr hc0 hkl hxe HO HB hb1
      go_wp2_with (at_builtin; refine wpList_append_vals Tryz.underlying45 hi hz0 hz1 hz2 rfl (by decide) rfl _ _ rfl w.heap.size _ M.length (ints M) rfl HOW.out (some ⟨wr.heap.size, 0, none⟩) 1 1 (ints [(x : Int) - (s : Int)]) rfl HS.out rfl (fun h => by cases h) ints_one (by omega) HZ.out ?_)
      intro v2 w2 hown2 _ hb3
      rw [HMA.out, show M.length + 1 = (M ++ [(x : Int) - (s : Int)]).length from by rw [List.length_append]; rfl] at hown2
      have HO3 : Hid (IOwn w2 w.heap.size v2 (M ++ [(x : Int) - (s : Int)])) := Lib.hid hown2
      have HB3 := Lib.hid (HB2.out.trans hb3)
      clear hown2 hb3 HOW HS HZ HB2 HMA
      go_wp2_with fail
      go_roundw
      case rel => exact ⟨k + 1, x, M ++ [(x : Int) - (s : Int)], by omega, by go_num, rfl, hx32, HM1, HR2, HO3, HB3⟩
      case measure => simp [intOf]; omega
    · have hke : k = len := by omega
      have hr := HR.out
      rw [List.drop_of_length_le (by rw [HX.out]; omega), lensI] at hr
      have hd : decide ((k : Int) < (len : Int)) = false := by simp; omega
      have hb1 : Below wr.heap.size wr (wr.alloc (.cells (ints [(n : Int) - (s : Int)]).toArray 3)) := (Below.refl _ wr).alloc (Nat.le_refl _) _
      have HS := Lib.hid (ints_new wr [(n : Int) - (s : Int)] 3 (0, 0))
      have HOW := Lib.hid (own_below HO.out hb1)
      have HB2 := Lib.hid (HB.out.trans (hb1.mono HB.out.size))
      have HZ := Lib.hid HB2.out.size
      have HMA : Hid (ints M ++ ints [(n : Int) - (s : Int)] = ints L ∧ M.length + 1 = L.length) := Lib.hid (by rw [← hr, ints_append]; exact ⟨rfl, by simp⟩)
      have hMl : M.length ≤ 100000 := by rw [HM.out]; omega
      clear HR hr HO HB hb1
      go_wp2_with (at_builtin; refine wpList_append_vals Tryz.underlying45 hi hz0 hz1 hz2 rfl (by decide) rfl _ _ rfl w.heap.size _ M.length (ints M) rfl HOW.out (some ⟨wr.heap.size, 0, none⟩) 1 1 (ints [(n : Int) - (s : Int)]) rfl HS.out rfl (fun h => by cases h) ints_one (by omega) HZ.out ?_)
      intro v2 w2 hown2 _ hb3
      rw [HMA.out.1, HMA.out.2] at hown2
      obtain ⟨q, c2, rfl, hq0, hqc, hcm, hv, hqn⟩ := vrow_own hown2 (by rw [ints_length])
      have HRES : Hid (Below w.heap.size w w2 ∧ VRow w2 w2.heap.size q (ints L) ∧ (q = none → c2 = 0) ∧ L.length ≤ c2 ∧ c2 ≤ maxLen ∧ ∀ a, q = some a → w.heap.size ≤ a.block) := Lib.hid ⟨HB2.out.trans hb3, hv, hq0, hqc, hcm, hqn⟩
      clear hown2 hb3 HOW HS HZ HB2 HMA hq0 hqc hcm hv hqn
      go_wp2_with fail
      go_ret2
      exact ⟨HRES.out.1, q, c2, rfl, HRES.out.2⟩
end Go.Proofs.YtidicajedckaoaaGreatDoor.Rn
namespace Go.Proofs.YtidicajedckaoaaGreatDoor.Mh
open Go.RowKit Go.Proofs.YtidicajedckaoaaGreatDoor.Oct Go.Proofs.YtidicajedckaoaaGreatDoor.Bit
open Go.Proofs.YtidicajedckaoaaGreatDoor.Fx (tellF tellF modesF Cd Out OutW WrP cwrite_any cmode_any)
open Go.Proofs.YtidicajedckaoaaGreatDoor.Rn (changes togX cur nextX nextF nextI zl zl_length zl_append zl_get nextI_zl IOwn Valid rightB lensI lensL lensI_zl lengths_new LstF right_any)
open Go.Proofs.YtidicajedckaoaaGreatDoor.Lp (VRow ints ints_length ints_append ints_one vrow_own)
set_option linter.unusedVariables false
set_option linter.unusedSimpArgs false
set_option maxRecDepth 100000

/-- may a row be so wide? -/
def wideM (n : Int) : Bool := decide (1 ≤ n ∧ n ≤ 32768)
theorem mwidth_any (n : Int) (w : World) : Calls Tryz.prog 72 #[.int .i64 n] w fun e w' => e = .returned (.bool (wideM n)) ∧ w = w' := by
  by_cases h0 : 1 ≤ n
  · by_cases h1 : n ≤ 32768
    · have e : wideM n = true := by simp [wideM, h0, h1]
      rw [e]; clear e
      go_enter Tryz.func72, Tryz.ntmps72
      go_wp2
      go_ret
      exact ⟨rfl, rfl⟩
    · have e : wideM n = false := by simp [wideM, h1]
      rw [e]; clear e
      have hd : decide (n ≤ 32768) = false := by simpa using h1
      go_enter Tryz.func72, Tryz.ntmps72
      go_wp2
      go_ret
      exact ⟨rfl, rfl⟩
  · have e : wideM n = false := by simp [wideM, h0]
    rw [e]; clear e
    have hd : decide (1 ≤ n) = false := by simpa using h0
    go_enter Tryz.func72, Tryz.ntmps72
    go_wp2
    go_ret
    exact ⟨rfl, rfl⟩
/-- may a row of this width change so? -/
def rowB (zs : List Int) (z : Int) : Bool := wideM z && rightB zs z
theorem mrow_any (p : Option Addr) (len cap : Nat) (zs : List Int) (z : Int) (w : World) (C : Nat) (h : VRow w C p (ints zs)) (hx : zs.length = len) (hl : len ≤ maxLen) :
    Calls Tryz.prog 65 #[.slice p len cap, .int .i64 z] w fun e w' => e = .returned (.bool (rowB zs z)) ∧ w = w' := by
  have HR := Lib.hid (right_any p len cap zs z w C h hx hl)
  have HW := Lib.hid (mwidth_any z w)
  clear h hx
  by_cases hw : wideM z = true
  · have e : rowB zs z = rightB zs z := by unfold rowB; rw [hw]; rfl
    rw [e]
    rw [hw] at HW
    clear e hw
    go_enter Tryz.func65, Tryz.ntmps65
    go_wp2_with fail
    refine HW.out.mono ?_
    rintro e w' ⟨rfl, rfl⟩
    go_wp2_with fail
    refine HR.out.mono ?_
    rintro e w' ⟨rfl, rfl⟩
    go_wp2_with fail
    go_ret
    exact ⟨rfl, rfl⟩
  · have hw' : wideM z = false := by simpa using hw
    have e : rowB zs z = false := by unfold rowB; rw [hw']; rfl
    rw [e]
    rw [hw'] at HW
    clear e hw hw'
    go_enter Tryz.func65, Tryz.ntmps65
    go_wp2_with fail
    refine HW.out.mono ?_
    rintro e w' ⟨rfl, rfl⟩
    go_wp2_with fail
    go_ret
    exact ⟨rfl, rfl⟩
theorem rowB_valid {zs : List Int} {z : Int} (h : rowB zs z = true) : ∃ (c : List Nat) (n : Nat), zs = zl c ∧ z = (n : Int) ∧ 1 ≤ n ∧ n ≤ 32768 ∧ Valid c n := by
  unfold rowB at h
  rw [Bool.and_eq_true] at h
  have hz := of_decide_eq_true h.1
  obtain ⟨c, h1, h2⟩ := Rn.right_valid h.2
  exact ⟨c, z.toNat, h1, by omega, by omega, by omega, h2⟩
theorem valid_rowB {c : List Nat} {n : Nat} (h : Valid c n) (h1 : 1 ≤ n) (h2 : n ≤ 32768) : rowB (zl c) (n : Int) = true := by
  unfold rowB wideM
  rw [Rn.valid_right h, Bool.and_true]
  simp
  omega
theorem OutW.on {B C gw : Nat} {v v' : Value} {w : World} {c : Nat} (h : OutW B C gw v) (hC : Cd w B C c) (hv : ∀ k, v'.ownBlock = some k → v.ownBlock = some k ∨ w.heap.size ≤ k) : OutW B C gw v' := by
  intro k hk
  rcases hk with e | e
  · exact h k (.inl e)
  · rcases hv k e with e2 | e2
    · exact h k (.inr e2)
    · exact .inr (by have := hC.1; omega)
set_option maxHeartbeats 2000000 in
theorem writeLengths_any (w : World) (B C c gw : Nat) (v : Value) (l : List Bool) (low : Bool) (q : Option Addr) (m cap : Nat) (ns : List Nat) (b : Bool) (hC : Cd w B C c) (hW : Ws w gw v l low) (hO : OutW B C gw v) (hr : VRow w w.heap.size q (ints (zl ns))) (hm : ns.length = m) (hq : ∀ a, q = some a → ¬ Mine gw v a.block) (hns : ∀ x ∈ ns, x ≤ 32768) (hl : l.length + 200 * m ≤ 1800000) :
    Calls Tryz.prog 67 #[.pointer (some ⟨gw, 0, none⟩), .pointer (some ⟨c, 0, none⟩), .slice q m cap, .bool b] w (WrP w gw v l (tellR b ns) low) := by
  have HC := Lib.hid hC
  have HO := Lib.hid hO
  have HM := Lib.hid hm
  have HNS := Lib.hid hns
  have HR := Lib.hid (fun (wr : World) (ho : Only (Mine gw v) w wr) => vrow_far hr ho (Nat.le_refl _) (fun a ha _ => hq a ha))
  have HWS : Hid (WsT w gw v (l ++ []) low w) := Lib.hid (by rw [List.append_nil]; exact WrT.refl hW)
  clear hC hW hO hr hq hns
  go_enter Tryz.func67, Tryz.ntmps67
  go_wp2_with fail
  go_loopw [3, 10, 11, 14] (fun s3 s10 s11 s14 wr => ∃ (k : Nat) (d : List Bool) (bb : Bool), k ≤ m ∧ s14 = .int .i64 (k : Int) ∧ s3 = .bool bb ∧ d.length ≤ 200 * k ∧ Hid (d ++ tellR bb (ns.drop k) = tellR b ns) ∧ Hid (WsT w gw v (l ++ d) low wr)) (fun _ _ _ s14 _ => m - (intOf s14).toNat)
  case atStart => exact ⟨0, [], b, by omega, rfl, rfl, by simp, Lib.hid rfl, HWS⟩
  case round =>
    obtain ⟨k, d, bb, hk, rfl, rfl, hdl, HT, HWT⟩ := hrel
    by_cases hlt : k < m
    · have hkl : k < ns.length := by rw [HM.out]; exact hlt
      obtain ⟨v', hws, hon, hov⟩ := HWT.out
      have hvr := HR.out wr hon
      obtain ⟨rb, off, hq, _⟩ := hvr.addr (by rw [ints_length, zl_length]; omega)
      subst hq
      have hcell := hvr.int k (by rw [zl_length]; exact hkl)
      rw [zl_get ns _ _ hkl] at hcell
      have ht := HT.out
      rw [List.drop_eq_getElem_cons hkl, tellR, ← List.append_assoc] at ht
      have hx := HNS.out ns[k] (List.getElem_mem hkl)
      generalize ns[k] = x at hcell ht hx
      have htl := Fx.tell_len bb hx
      have hll : (l ++ d).length ≤ 1800000 := by rw [List.length_append]; omega
      have HCW := Lib.hid (cwrite_any wr B C c gw v' (l ++ d) low x bb (HC.out.only hon HO.out) hws (OutW.on HO.out HC.out hov) hx hll)
      have HT2 := Lib.hid ht
      have HON := Lib.hid hon
      have HOV := Lib.hid hov
      have hdl2 : (d ++ tellF bb x).length ≤ 200 * (k + 1) := by rw [List.length_append]; omega
      have hd : decide ((k : Int) < (m : Int)) = true := by simp; omega
      have i1 : (0 : Int) ≤ (k : Int) := by omega
      have i2 : (k : Int) < (m : Int) := by omega
      clear hvr ht htl hws hon hov hkl HT HWT HWS hm
      go_wp2_with fail
      refine HCW.out.mono ?_
      rintro e w2 ⟨rfl, hws⟩
      have HW2 : Hid (WsT w gw v (l ++ (d ++ tellF bb x)) low w2) := Lib.hid (by
        have h2 := WrT.more HON.out HOV.out hws
        rw [List.append_assoc] at h2
        exact h2)
      clear hws HCW
      go_wp2_with fail
      go_roundw
      case rel => exact ⟨k + 1, d ++ tellF bb x, !bb, by omega, by go_num, rfl, hdl2, HT2, HW2⟩
      case measure => simp [intOf]; omega
    · have hkm : k = m := by omega
      subst hkm
      have hd : decide ((k : Int) < (k : Int)) = false := by simp
      have HF : Hid (WsT w gw v (l ++ tellR b ns) low wr) := Lib.hid (by
        have h1 := HT.out
        rw [List.drop_of_length_le (by rw [HM.out]; exact Nat.le_refl _), tellR, List.append_nil] at h1
        rw [← h1]
        exact HWT.out)
      clear hm
      go_wp2_with fail
      go_ret
      exact ⟨rfl, HF.out⟩
/-- a writer behind words, then behind more -/
theorem WrP.then {w w1 w2 : World} {gw : Nat} {v : Value} {l m n : List Bool} {low : Bool} (h1 : WsT w gw v (l ++ m) low w1) (h2 : ∀ v1, Ws w1 gw v1 (l ++ m) low → WsT w1 gw v1 (l ++ m ++ n) low w2) : WsT w gw v (l ++ (m ++ n)) low w2 := by
  obtain ⟨v1, hw, ho, hv⟩ := h1
  rw [← List.append_assoc]
  exact WrT.more ho hv (h2 v1 hw)
set_option maxHeartbeats 2000000 in
theorem writeTwo_any (w : World) (B C c gw : Nat) (v : Value) (l : List Bool) (low : Bool) (q : Option Addr) (cap : Nat) (x y : Nat) (b : Bool) (hC : Cd w B C c) (hW : Ws w gw v l low) (hO : OutW B C gw v) (hr : VRow w w.heap.size q (ints (zl [x, y]))) (hq : ∀ a, q = some a → ¬ Mine gw v a.block) (hx : x ≤ 32768) (hy : y ≤ 32768) (hl : l.length ≤ 1700000) :
    Calls Tryz.prog 70 #[.pointer (some ⟨gw, 0, none⟩), .pointer (some ⟨c, 0, none⟩), .slice q 2 cap, .bool b] w (WrP w gw v l (modesF.getD 7 [] ++ (tellF b x ++ tellF (!b) y)) low) := by
  have HMD : Hid (Calls Tryz.prog 69 #[.pointer (some ⟨c, 0, none⟩), .pointer (some ⟨gw, 0, none⟩), .int .i64 4] w (WrP w gw v l (modesF.getD 7 []) low)) := Lib.hid (cmode_any w B C c gw v l low 7 hC hW (by decide) (by omega))
  have HC := Lib.hid hC
  have HO := Lib.hid hO
  have HR := Lib.hid hr
  have HQ := Lib.hid hq
  have h7 := (Fx.mode_len (i := 7) (by decide)).2
  have HQS : Hid (∀ a, q = some a → a.block < w.heap.size) := Lib.hid (fun a ha => by
    obtain ⟨rb, off, e, hb, _⟩ := hr (by simp [ints, zl])
    rw [ha] at e
    injection e with e
    rw [e]
    exact hb)
  clear hC hW hO hr hq
  go_enter Tryz.func70, Tryz.ntmps70
  go_wp2_with fail
  refine HMD.out.mono ?_
  rintro e w1 ⟨rfl, v1, hws, hon, hov⟩
  have HWL := Lib.hid (writeLengths_any w1 B C c gw v1 (l ++ modesF.getD 7 []) low q 2 cap [x, y] b (HC.out.only hon HO.out) hws (OutW.on HO.out HC.out hov) ((vrow_far HR.out hon (Nat.le_refl _) (fun a ha _ => HQ.out a ha)).mono hon.2.2.2.1) rfl (fun a ha hm => by
    rcases hm with e | e
    · exact HQ.out a ha (.inl e)
    · rcases hov _ e with e2 | e2
      · exact HQ.out a ha (.inr e2)
      · have := HQS.out a ha; omega) (by simp; exact ⟨hx, hy⟩) (by rw [List.length_append]; omega))
  have HON := Lib.hid hon
  have HOV := Lib.hid hov
  clear hws hon hov
  go_wp2_with fail
  refine HWL.out.mono ?_
  rintro e w2 ⟨rfl, hws⟩
  have HF : Hid (WsT w gw v (l ++ (modesF.getD 7 [] ++ (tellF b x ++ tellF (!b) y))) low w2) := Lib.hid (by
    have h2 := WrT.more HON.out HOV.out hws
    rw [tellR, tellR, tellR, List.append_nil, List.append_assoc] at h2
    exact h2)
  clear hws
  go_wp2_with fail
  go_ret
  exact ⟨rfl, HF.out⟩
theorem lens_le {c : List Nat} {n : Nat} (hv : Valid c n) : (∀ x ∈ lensL 0 c n, x ≤ n) ∧ (lensL 0 c n).length = c.length + 1 := by
  have hr := Rn.rise_of 0 hv (fun x _ => Nat.zero_le _) (Nat.zero_le _)
  have hs := Rn.lens_sum hr
  refine ⟨fun x hx => ?_, Rn.lensL_length c 0 n⟩
  have : x ≤ (lensL 0 c n).sum := by
    clear hs hr
    generalize lensL 0 c n = L at hx
    induction L with
    | nil => cases hx
    | cons y L ih =>
      rw [List.sum_cons]
      rcases List.mem_cons.1 hx with e | e
      · omega
      · have := ih e; omega
  omega
/-- a row by its lengths, as it changes -/
def rowC (c : List Nat) (n : Nat) : List Bool := tellR false (lensL 0 c n)
set_option maxHeartbeats 2000000 in
theorem writeRow_any (w : World) (B C c gw : Nat) (v : Value) (l : List Bool) (low : Bool) (p : Option Addr) (len cap : Nat) (row : List Nat) (n : Nat) (hC : Cd w B C c) (hW : Ws w gw v l low) (hO : OutW B C gw v) (hr : VRow w w.heap.size p (ints (zl row))) (hx : row.length = len) (hv : Valid row n) (h1 : 1 ≤ n) (hn : n ≤ 32768) (hl : l.length + 200 * (len + 1) ≤ 1800000) :
    Calls Tryz.prog 37 #[.pointer (some ⟨gw, 0, none⟩), .pointer (some ⟨c, 0, none⟩), .slice p len cap, .int .i64 (n : Int)] w (WrP w gw v l (rowC row n) low) := by
  have hok := mrow_any p len cap (zl row) n w _ hr (by rw [zl_length]; exact hx) (by unfold maxLen; omega)
  rw [valid_rowB hv h1 hn] at hok
  have HOK := Lib.hid hok
  have hln := lengths_new p len cap (zl row) row n w hr (by rw [zl_length]; exact hx) (by omega) hn rfl hv
  have hrise := Rn.rise_of 0 hv (fun x _ => Nat.zero_le _) (Nat.zero_le _)
  have e0 : lensI 0 (zl row) (n : Int) = zl (lensL 0 row n) := lensI_zl row 0 n hrise
  rw [e0] at hln
  obtain ⟨hle, hll⟩ := lens_le hv
  have HLN := Lib.hid hln
  have HLE := Lib.hid hle
  have HLL := Lib.hid (hll.trans (by rw [hx]))
  have HC := Lib.hid hC
  have HW := Lib.hid hW
  have HO := Lib.hid hO
  have hgl := Wr.lt hW
  have HMI : Hid (∀ k, Mine gw v k → k < w.heap.size) := Lib.hid (fun k hk => by
    rcases hk with e | e
    · rw [e]; exact hgl
    · exact (hW.2.1.lt k e).2)
  clear hok hln hrise e0 hle hll hC hW hO hr hgl
  unfold rowC
  generalize lensL 0 row n = ns at *
  go_enter Tryz.func37, Tryz.ntmps37
  go_wp2_with fail
  refine HOK.out.mono ?_
  rintro e w' ⟨rfl, rfl⟩
  go_wp2_with fail
  refine HLN.out.mono ?_
  rintro e w1 ⟨hb1, q, cq, rfl, hvr, hq0, hqc, hqm, hqn⟩
  rw [zl_length] at *
  have hof : Only (fun _ => False) w w1 := Only.of_below hb1
  have HWL := Lib.hid (writeLengths_any w1 B C c gw v l low q (len + 1) cq ns false (HC.out.below hb1 HC.out.1) (Wr.only HW.out hof (fun e => e) (fun _ _ e => e)) HO.out hvr HLL.out (fun a ha hm => by have h3 := hqn a ha; have h4 := HMI.out _ hm; omega) (fun x hx => Nat.le_trans (HLE.out x hx) hn) hl)
  rw [HLL.out]
  have HB1 := Lib.hid hb1
  clear hb1 hof hvr hq0 hqc hqm hqn
  go_wp2_with fail
  refine HWL.out.mono ?_
  rintro e w2 ⟨rfl, hws⟩
  have HF : Hid (WsT w gw v (l ++ tellR false ns) low w2) := Lib.hid (WrT.more (Only.of_below HB1.out) (fun k hk => .inl hk) hws)
  clear hws
  go_wp2_with fail
  go_ret
  exact ⟨rfl, HF.out⟩
end Go.Proofs.YtidicajedckaoaaGreatDoor.Mh


/- The law's rows of pixels out of bytes, and rows held against rows. -/
import Derived.Test.YtmbfgejephgojaaGreatDoorGfE
import Derived.Test.YtmbfgejephgojaaGreatDoorMiR
import Derived.Test.YtmbfgejephgojaaGreatDoorMiT
import Derived.Test.YtmbfgejephgojaaGreatDoorRnK
import Derived.BigQuiet
namespace Go.Proofs.YtmbfgejephgojaaGreatDoor.Rn
open Go.RowKit Go.Proofs.YtmbfgejephgojaaGreatDoor.Oct Go.Proofs.YtmbfgejephgojaaGreatDoor.Bit Go.Proofs.YtmbfgejephgojaaGreatDoor.Lp
set_option linter.unusedVariables false
set_option linter.unusedSimpArgs false
set_option maxRecDepth 100000

/-- a row of numbers, made by the call, and no error -/
def FreshP (w : World) (zs : List Int) (e : Ending) (w' : World) : Prop :=
  Below w.heap.size w w' ∧ ∃ q c, e = .returned (.tuple #[.slice q zs.length c, .int .i64 0]) ∧ VRow w' w'.heap.size q (ints zs) ∧ zs.length ≤ c ∧ c ≤ maxLen ∧ ∀ a, q = some a → w.heap.size ≤ a.block
set_option maxHeartbeats 2000000 in
theorem of_fresh (p : Option Addr) (len cap : Nat) (xs : List UInt8) (n : Nat) (w : World) (h : Row w p xs) (hx : xs.length = len) (hl : len ≤ 100000) (hn : n ≤ 32768) (hn8 : n ≤ 8 * len) :
    Calls Tryz.prog 13 #[.slice p len cap, .int .i64 (n : Int)] w (FreshP w (zl (changes ((bitsOf false xs).take n)))) := by
  obtain ⟨i0, hi, hz0, hz1, hz2⟩ := info_parts Tryz.infoInt
  have hwd : wideB (n : Int) = true := by unfold wideB; simp; omega
  obtain ⟨P, hP⟩ : ∃ P, P = (bitsOf false xs).take n := ⟨_, rfl⟩
  rw [← hP]
  have hPl : P.length = n := by rw [hP, List.length_take, bitsOf_length, hx]; omega
  have HPG := Lib.hid (show ∀ k (hk : k < P.length), P[k] = gb xs k from fun k hk => by
    subst hP
    rw [List.getElem_take, bits_get])
  have HPL := Lib.hid hPl
  have HROW := Lib.hid h
  have HX := Lib.hid hx
  clear h hx hP hPl
  go_enter Tryz.func13, Tryz.ntmps13
  go_wp2_with fail
  refine (isWidth_any _ _).mono ?_
  rintro e w' ⟨rfl, rfl⟩
  rw [hwd]
  go_wp2_with fail
  refine (bytesFor_any _ _ (by omega)).mono ?_
  rintro e w' ⟨rfl, rfl⟩
  obtain ⟨m, hm⟩ : ∃ m, m = (n + 7) / 8 := ⟨_, rfl⟩
  have hd0 : decide (len < m) = false := by simp; omega
  rw [← hm]
  clear hm hwd
  go_wp2_with fail
  go_loopw [6, 7, 8, 18] (fun v b _ i wr => ∃ k : Nat, k ≤ n ∧ i = .int .i64 (k : Int) ∧ b = .bool (lastP false (P.take k)) ∧ Hid (IOwn wr w.heap.size v (zl (changes (P.take k)))) ∧ Hid (Below w.heap.size w wr)) (fun _ _ _ i _ => n - (intOf i).toNat)
  case atStart => exact ⟨0, by omega, rfl, rfl, Lib.hid (by simpa [changes, chg, zl, IOwn, ints] using World.ownsRow_nil w w.heap.size 3 1), Lib.hid (Below.refl _ _)⟩
  case round =>
    obtain ⟨k, hk, rfl, rfl, HO, HB⟩ := hrel
    by_cases hlt : k < n
    · have hkl : k < P.length := by rw [HPL.out]; exact hlt
      have hd : decide ((k : Int) < (n : Int)) = true := by simp; omega
      have HG := Lib.hid (HPG.out k hkl)
      have htk := List.take_succ_eq_append_getElem hkl
      have hsn := changes_snoc (P.take k) P[k]
      rw [← htk] at hsn
      have hls : lastP false (P.take (k + 1)) = P[k] := by rw [htk, lastP_append]; rfl
      rw [List.length_take, Nat.min_eq_left (by omega)] at hsn
      rw [HG.out] at hsn hls
      have hbl := isBlack_any p len cap xs k wr (fun hp => HROW.out.below HB.out hp) HX.out hl (by omega)
      have hlen : (changes (P.take k)).length ≤ k := by
        have : ∀ (l : List Bool) (b : Bool) (i : Nat), (chg b i l).length ≤ l.length := by
          intro l
          induction l with
          | nil => intro b i; simp [chg]
          | cons c l ih =>
            intro b i
            rw [chg, List.length_cons]
            split
            · have := ih c (i + 1); omega
            · have := ih c (i + 1); rw [List.length_cons]; omega
        have := this (P.take k) false 0
        rw [List.length_take] at this
        unfold changes
        omega
      generalize gb xs k = b at hsn hls hbl
      obtain ⟨l, hl2⟩ : ∃ l, l = lastP false (P.take k) := ⟨_, rfl⟩
      rw [← hl2] at hsn ⊢
      have HSN := Lib.hid hsn
      have HLS := Lib.hid hls
      have HBL := Lib.hid hbl
      clear htk hsn hls hbl HG hl2 hkl
      go_wp2_with fail
      refine HBL.out.mono ?_
      rintro e w1 ⟨rfl, hdr⟩
      have hb0 : Below wr.heap.size wr w1 := hdr.below _
      by_cases hbl : b = l
      · subst hbl
        have hne : (b != b) = false := by simp
        have HO2 : Hid (IOwn w1 w.heap.size u6 (zl (changes (P.take (k + 1))))) := Lib.hid (by
          have := HSN.out
          rw [if_pos rfl, List.append_nil] at this
          rw [this]
          exact own_below HO.out hb0)
        have HB2 := Lib.hid (HB.out.trans (hb0.mono HB.out.size))
        clear HBL HO HB hb0 hdr HSN
        go_wp2_with fail
        go_roundw
        case rel => exact ⟨k + 1, by omega, by go_num, by rw [HLS.out], HO2, HB2⟩
        case measure => simp [intOf]; omega
      · have hnl : (!l) = b := by cases b <;> cases l <;> simp_all
        subst hnl
        have hb1 : Below w1.heap.size w1 (w1.alloc (.cells (ints [(k : Int)]).toArray 3)) := (Below.refl _ w1).alloc (Nat.le_refl _) _
        have HS := Lib.hid (ints_new w1 [(k : Int)] 3 (0, 0))
        have HOW := Lib.hid (own_below (own_below HO.out hb0) hb1)
        have HB2 := Lib.hid ((HB.out.trans (hb0.mono HB.out.size)).trans (hb1.mono (by have := HB.out.size; have := hb0.size; omega)))
        have HZ := Lib.hid HB2.out.size
        have HSN2 : Hid (ints (zl (changes (P.take k))) ++ ints [(k : Int)] = ints (zl (changes (P.take (k + 1)))) ∧ (zl (changes (P.take k))).length + 1 = (zl (changes (P.take (k + 1)))).length) := Lib.hid (by
          have := HSN.out
          rw [if_neg hbl] at this
          rw [this, zl_append, ints_append]
          exact ⟨rfl, by simp [zl]⟩)
        have hlz : (zl (changes (P.take k))).length ≤ k := by rw [zl_length]; exact hlen
        clear HBL HO HB hb0 hb1 hdr HSN hbl hlen
        go_wp2_with (at_builtin; refine wpList_append_vals Tryz.underlying38 hi hz0 hz1 hz2 rfl (by decide) rfl _ _ rfl w.heap.size _ (zl (changes (P.take k))).length (ints (zl (changes (P.take k)))) rfl HOW.out (some ⟨w1.heap.size, 0, none⟩) 1 1 (ints [(k : Int)]) rfl HS.out rfl (fun h => by cases h) ints_one (by omega) HZ.out ?_)
        intro v2 w2 hown2 _ hb3
        rw [HSN2.out.1, HSN2.out.2] at hown2
        have HO3 : Hid (IOwn w2 w.heap.size v2 (zl (changes (P.take (k + 1))))) := Lib.hid hown2
        have HB3 := Lib.hid (HB2.out.trans hb3)
        clear hown2 hb3 HOW HS HZ HSN2 HB2
        go_wp2_with fail
        go_roundw
        case rel => exact ⟨k + 1, by omega, by go_num, by rw [HLS.out], HO3, HB3⟩
        case measure => simp [intOf]; omega
    · have hke : k = n := by omega
      subst hke
      have hd : decide ((k : Int) < (k : Int)) = false := by simp
      rw [List.take_of_length_le (by rw [HPL.out]; exact Nat.le_refl _)] at HO ⊢
      generalize lastP false P = bl
      obtain ⟨q, c, rfl, hq0, hqc, hcm, hv, hfr⟩ := vrow_own HO.out (by rw [ints_length])
      have HFR := Lib.hid hfr
      have HQC := Lib.hid hqc
      have HCM := Lib.hid hcm
      have HV := Lib.hid hv
      clear hq0 hv hqc hcm hfr HO
      go_wp2_with fail
      go_ret2
      exact ⟨HB.out, q, c, rfl, HV.out, HQC.out, HCM.out, HFR.out⟩
end Go.Proofs.YtmbfgejephgojaaGreatDoor.Rn
namespace Go.Proofs.YtmbfgejephgojaaGreatDoor.Tf
open Go.RowKit Go.Proofs.YtmbfgejephgojaaGreatDoor.Oct Go.Proofs.YtmbfgejephgojaaGreatDoor.Bit
open Go.Proofs.YtmbfgejephgojaaGreatDoor.Mh (Tbl Rws wpList_append_rws vrow_far)
open Go.Proofs.YtmbfgejephgojaaGreatDoor.Rn (changes zl zl_length Valid changes_valid of_fresh FreshP)
open Go.Proofs.YtmbfgejephgojaaGreatDoor.Lp (VRow ints ints_length)
set_option linter.unusedVariables false
set_option linter.unusedSimpArgs false
set_option maxRecDepth 100000

/-- 'b[a:c]' -/
theorem mid_run (W : World) (p : Option Addr) (len cap a c : Nat) (h : a ≤ c) (h2 : c ≤ cap) :
    (Instr.slice 22 (.slice p len cap) (some (.int .i64 (a : Int))) (some (.int .i64 (c : Int))) none).run Tryz.prog W = .ok (.slice (tailA p cap a) (c - a) (cap - a)) W := by
  have ht' : Tryz.prog.underlying 22 = some (.slice (Tryz.prog.elem 22)) := by kernel_rfl
  have he : Tryz.prog.elem 22 = 5 := by kernel_rfl
  have hz : (Go.sizeOf 5).run Tryz.prog W = .ok 1 W := by
    obtain ⟨i, hi, hs⟩ := Option.map_eq_some_iff.1 Tryz.sizeByte
    simp [Go.sizeOf, typeInfo, hi, hs]
  rw [run_slice_lh W 22 p len cap ht' .i64 .i64 _ _ (by omega) (by omega) (by omega), he, hz]
  unfold tailA
  simp [Result.andThen, sliced]
theorem mid_row {w : World} {p : Option Addr} {xs : List UInt8} (cap a n : Nat) (h : Row w p xs) (hx : xs.length ≤ cap) : Row w (tailA p cap a) ((xs.drop a).take n) := by
  have h1 := tail_row cap a h hx
  intro hp
  rw [List.length_take] at hp
  obtain ⟨b, off, e, hb, hc⟩ := h1 (by omega)
  refine ⟨b, off, e, hb, fun i hi => ?_⟩
  rw [List.length_take] at hi
  rw [hc i (by omega)]
  simp
def RowsP (w : World) (wd n : Nat) (e : Ending) (w' : World) : Prop := Below w.heap.size w w' ∧ ∃ (Xs : List (List Bool)) (q : Option Addr) (c : Nat), e = .returned (.tuple #[.slice q n c, .bool true]) ∧ Xs.length = n ∧ (∀ X ∈ Xs, X.length = wd) ∧ Tbl w' w'.heap.size q (Xs.map changes)
set_option maxHeartbeats 4000000 in
theorem rows_any (w : World) (p : Option Addr) (len cap : Nat) (xs : List UInt8) (wd n sz : Nat) (hr : Row w p xs) (hx : xs.length = len) (hlc : len ≤ cap) (hcm : cap ≤ maxLen) (hl : len ≤ 300) (hw : wd ≤ 300) (hsz : sz = (wd + 7) / 8) (hn : n * sz ≤ len) (hn2 : n ≤ 300) :
    Calls Tryz.prog 5 #[.slice p len cap, .int .i64 (wd : Int), .int .i64 (n : Int)] w (RowsP w wd n) := by
  have HR := Lib.hid hr
  have HX := Lib.hid hx
  have HN := Lib.hid hn
  have hw8 : wd ≤ 8 * sz := by omega
  have hszi : ((wd : Int) + 7).tdiv 8 = (sz : Int) := by
    rw [Int.tdiv_eq_ediv_of_nonneg (by omega)]
    omega
  have hsz40 : sz ≤ 40 := by omega
  unfold maxLen at hcm
  clear hr hx hn hsz
  go_enter Tryz.func5, Tryz.ntmps5
  go_wp2_with fail
  go_loopw [9, 17] (fun sv sk wr => ∃ (k : Nat) (Xs : List (List Bool)), sk = .int .i64 (k : Int) ∧ k ≤ n ∧ Hid (Xs.length = k) ∧ Hid (∀ X ∈ Xs, X.length = wd) ∧ Hid (Rws wr w.heap.size (fun _ => False) sv (Xs.map changes)) ∧ Hid (Below w.heap.size w wr)) (fun _ sk _ => n - (intOf sk).toNat)
  case atStart => exact ⟨0, [], rfl, by omega, Lib.hid rfl, Lib.hid (fun X h => by cases h), Lib.hid (Rws.nil _ _ _), Lib.hid (Below.refl _ _)⟩
  case round =>
    obtain ⟨k, Xs, rfl, hk, HXL, HXN, HWr, HBr⟩ := hrel
    by_cases hlt : k < n
    · have hd : decide ((k : Int) < (n : Int)) = true := by simp; omega
      have hm1 : (k + 1) * sz ≤ len := Nat.le_trans (Nat.mul_le_mul_right sz hlt) HN.out
      obtain ⟨M0, hM0⟩ : ∃ M0, M0 = k * sz := ⟨_, rfl⟩
      obtain ⟨M1, hM1⟩ : ∃ M1, M1 = (k + 1) * sz := ⟨_, rfl⟩
      rw [← hM1] at hm1
      have h10 : M1 = M0 + sz := by rw [hM1, hM0, Nat.succ_mul]
      have e0 : (k : Int) * (sz : Int) = (M0 : Int) := by rw [hM0]; exact (Int.natCast_mul k sz).symm
      have e1 : ((k : Int) + 1) * (sz : Int) = (M1 : Int) := by rw [hM1, Int.natCast_mul]; rfl
      have hd2 : decide ((len : Int) < (M1 : Int)) = false := by simp; omega
      have hd2n : decide (len < M1) = false := by simp; omega
      have hrow := mid_row cap M0 sz HR.out (by rw [HX.out]; exact hlc)
      have hml : ((xs.drop M0).take sz).length = sz := by rw [List.length_take, List.length_drop, HX.out]; omega
      have hms := fun W => mid_run W p len cap M0 M1 (by omega) (by omega)
      rw [show M1 - M0 = sz from by omega] at hms
      generalize (xs.drop M0).take sz = ys at *
      generalize tailA p cap M0 = q0 at *
      obtain ⟨c0, hc0⟩ : ∃ c0, c0 = cap - M0 := ⟨_, rfl⟩
      rw [← hc0] at hms
      have HOF := Lib.hid (of_fresh q0 sz c0 ys wd wr (hrow.below HBr.out) hml (by omega) (by omega) hw8)
      have hPl : ((bitsOf false ys).take wd).length = wd := by rw [List.length_take, bitsOf_length, hml]; omega
      generalize (bitsOf false ys).take wd = X at *
      have HPL := Lib.hid hPl
      have hcx : (changes X).length ≤ 300 := by have := Rn.chg_len X false 0; unfold changes; omega
      unfold FreshP at HOF
      rw [zl_length] at HOF
      obtain ⟨mx, hmx⟩ : ∃ mx, mx = (changes X).length := ⟨_, rfl⟩
      rw [← hmx] at HOF hcx
      have HMX := Lib.hid hmx.symm
      have i0 : (0 : Int) ≤ (k : Int) := by omega
      have HKM : Hid ((Xs.map changes).length = k) := Lib.hid (by rw [List.length_map]; exact HXL.out)
      have hk1000 : k ≤ 1000 := by omega
      have hm0 : M0 ≤ 300 := by omega
      have hm01 : M0 ≤ M1 := by omega
      clear hrow hml hc0 hmx hPl hM0 hM1 h10
      go_wp2_with fail
      refine HOF.out.mono ?_
      rintro e w5 ⟨hb5, q5, c5, rfl, hv5, hm5, _, hf5⟩
      have HW5 := Lib.hid (HWr.out.only (Only.of_below hb5 : Only (fun _ => False) _ _) (fun _ _ _ _ e => e))
      have HB5 := Lib.hid (HBr.out.trans (hb5.mono HBr.out.size))
      have HV5 := Lib.hid hv5
      have HM5 := Lib.hid hm5
      have hfr : ∀ ad, q5 = some ad → 0 < (changes X).length → w.heap.size ≤ ad.block ∧ u9.ownBlock ≠ some ad.block ∧ ¬ False := fun ad ha h0 => by
        have h3 := hf5 ad ha
        have h4 := HBr.out.size
        refine ⟨by omega, fun e => ?_, fun e => e⟩
        obtain ⟨vs, h6, _⟩ := HWr.out
        have := (h6.lt _ e).2
        omega
      have HFR := Lib.hid hfr
      have hbz : w.heap.size ≤ w5.heap.size := HB5.out.size
      clear hb5 hv5 hm5 hf5 hfr HOF hms
      go_wp2_with (at_builtin; refine wpList_append_rws rfl _ _ rfl w.heap.size (fun _ => False) _ (Xs.map changes) k HKM.out rfl HW5.out (changes X) q5 mx c5 HMX.out HV5.out HM5.out HFR.out (fun _ _ e => e) rfl rfl hk1000 hbz ?_)
      intro v7 w7 hw7 hb7 _ _
      have HW7 : Hid (Rws w7 w.heap.size (fun _ => False) v7 ((Xs ++ [X]).map changes)) := Lib.hid (by rw [List.map_append]; exact hw7)
      have HB7 := Lib.hid (HB5.out.trans hb7)
      have HX7 : Hid (∀ Y ∈ Xs ++ [X], Y.length = wd) := Lib.hid (fun Y hY => by
        rcases List.mem_append.1 hY with e | e
        · exact HXN.out Y e
        · rw [List.mem_singleton.1 e]; exact HPL.out)
      clear hw7 hb7
      go_wp2_with fail
      go_roundw
      case rel => exact ⟨k + 1, Xs ++ [X], by go_num, by omega, Lib.hid (by rw [List.length_append, HXL.out]; rfl), HX7, HW7, HB7⟩
      case measure => simp [intOf]; omega
    · have hke : k = n := by omega
      subst hke
      have hd : decide ((k : Int) < (k : Int)) = false := by simp
      obtain ⟨ql, cl, hvl, htl, _, _⟩ := HWr.out.tbl
      rw [List.length_map, HXL.out] at hvl
      have HVL := Lib.hid hvl
      have HTL := Lib.hid htl
      clear hvl htl
      go_wp2_with fail
      go_ret2
      exact ⟨HBr.out, Xs, ql, cl, by rw [HVL.out]; rfl, HXL.out, HXN.out, HTL.out⟩
set_option maxHeartbeats 4000000 in
/-- rows held against rows -/
theorem same_any (w : World) (qa qb : Option Addr) (n ca cb : Nat) (R : List (List Nat)) (hA : Tbl w w.heap.size qa R) (hB : Tbl w w.heap.size qb R) (hn : R.length = n) (hl : ∀ d ∈ R, d.length ≤ 1000) (hn2 : n ≤ 1000) :
    Calls Tryz.prog 12 #[.slice qa n ca, .slice qb n cb] w fun e w' => e = .returned (.bool true) ∧ Drawn w w' := by
  have HA := Lib.hid hA
  have HB := Lib.hid hB
  have HN := Lib.hid hn
  have HL := Lib.hid hl
  clear hA hB hn hl
  go_enter Tryz.func12, Tryz.ntmps12
  go_wp2_with fail
  go_loopw [14] (fun sk wr => ∃ i : Nat, i ≤ n ∧ sk = .int .i64 (i : Int) ∧ Hid (Drawn w wr)) (fun sk _ => n - (intOf sk).toNat)
  case atStart => exact ⟨0, by omega, rfl, Lib.hid ⟨0, rfl⟩⟩
  case round =>
    obtain ⟨i3, hi3, rfl, HDr⟩ := hrel
    by_cases hlti : i3 < n
    · have hdi : decide ((i3 : Int) < (n : Int)) = true := by simp; omega
      have hiR : i3 < R.length := by rw [HN.out]; exact hlti
      obtain ⟨bx, o1, he1, qx, cx, hc1, hv1, hcx⟩ := (HA.out.below (HDr.out.below w.heap.size)).get hiR
      obtain ⟨b2, o2, he2, qy, cy, hc2, hv2, hcy⟩ := (HB.out.below (HDr.out.below w.heap.size)).get hiR
      have hX3 := HL.out R[i3] (List.getElem_mem hiR)
      generalize R[i3] = d at *
      subst he1 he2
      obtain ⟨md, hmd⟩ : ∃ md, md = d.length := ⟨_, rfl⟩
      rw [← hmd] at hc1 hc2 hX3
      have HMD := Lib.hid hmd
      have j1 : (0 : Int) ≤ (i3 : Int) := by omega
      have j2 : (i3 : Int) < (n : Int) := by omega
      have HDM := Lib.hid (fun n => HDr.out.more n)
      have HV1 := Lib.hid hv1
      have HV2 := Lib.hid hv2
      clear hv1 hv2 hcx hcy hmd hiR
      go_wp2_with fail
      go_quiet (fail)
      have HD11 := Lib.hid (HDM.out nq)
      have hcw1 : (wr.drewN nq).cell? ⟨bx, o1 + i3, none⟩ = some (.slice qx md cx) := hc1
      have hcw2 : (wr.drewN nq).cell? ⟨b2, o2 + i3, none⟩ = some (.slice qy md cy) := hc2
      have HVW1 : Hid (VRow (wr.drewN nq) _ qx (ints (zl d))) := Lib.hid HV1.out
      have HVW2 : Hid (VRow (wr.drewN nq) _ qy (ints (zl d))) := Lib.hid HV2.out
      clear hc1 hc2 HV1 HV2 HDM
      generalize wr.drewN nq = w11 at *
      go_wp2_with fail
      go_loopw [33] (fun sj wq => ∃ j : Nat, j ≤ md ∧ sj = .int .i64 (j : Int) ∧ Hid (Drawn w11 wq)) (fun sj _ => md - (intOf sj).toNat)
      case atStart => exact ⟨0, by omega, rfl, Lib.hid ⟨0, rfl⟩⟩
      case round =>
        obtain ⟨j, hj, rfl, HDq⟩ := hrel
        by_cases hjt : j < md
        · have hdj : decide ((j : Int) < (md : Int)) = true := by simp; omega
          have hjd : j < (zl d).length := by rw [zl_length, ← HMD.out]; exact hjt
          obtain ⟨bq1, oq1, hq1, _⟩ := HVW1.out.addr (by rw [ints_length]; omega)
          obtain ⟨bq2, oq2, hq2, _⟩ := HVW2.out.addr (by rw [ints_length]; omega)
          subst hq1 hq2
          have g1 := HVW1.out.int j hjd
          have g2 := HVW2.out.int j hjd
          generalize (zl d)[j] = vv at *
          have j4 : (0 : Int) ≤ (j : Int) := by omega
          have j5 : (j : Int) < (md : Int) := by omega
          obtain ⟨nd, rfl⟩ := HDq.out
          have g3 : (w11.drewN nd).cell? ⟨bq1, oq1 + j, none⟩ = some (.int .i64 vv) := g1
          have g4 : (w11.drewN nd).cell? ⟨bq2, oq2 + j, none⟩ = some (.int .i64 vv) := g2
          have g5 : (w11.drewN nd).cell? ⟨bx, o1 + i3, none⟩ = some (.slice (some ⟨bq1, oq1, none⟩) md cx) := hcw1
          have g6 : (w11.drewN nd).cell? ⟨b2, o2 + i3, none⟩ = some (.slice (some ⟨bq2, oq2, none⟩) md cy) := hcw2
          have HDN0 := Lib.hid (fun n => HDq.out.more n)
          clear g1 g2 hjd
          generalize w11.drewN nd = w12 at *
          go_wp2_with fail
          go_quiet (fail)
          have HDN := Lib.hid (HDN0.out nq)
          try go_wp2_with fail
          go_roundw
          case rel => exact ⟨j + 1, by omega, by go_num, HDN⟩
          case measure => simp [intOf]; omega
        · have hje : j = md := by omega
          subst hje
          have hdj : decide ((j : Int) < (j : Int)) = false := by simp
          have HBq3 : Hid (Drawn w wr) := Lib.hid (by
            obtain ⟨n2, rfl⟩ := HDq.out
            exact HD11.out.more n2)
          go_wp2_with fail
          go_roundw
          case rel => exact ⟨i3 + 1, by omega, by go_num, HBq3⟩
          case measure => simp [intOf]; omega
    · have hie : i3 = n := by omega
      subst hie
      have hdi : decide ((i3 : Int) < (i3 : Int)) = false := by simp
      go_wp2_with fail
      go_ret
      exact ⟨rfl, HDr.out⟩
end Go.Proofs.YtmbfgejephgojaaGreatDoor.Tf

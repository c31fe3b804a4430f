
/- The document's Changes, in a row that is new, and Against. -/
import Derived.Test.YtmbfgejephgojaaDoorMiH
import Derived.Test.YtmbfgejephgojaaDoorMiG
import Derived.Test.YtmbfgejephgojaaDoorRnK
import Derived.Deep.RegionHeld3
namespace Go.Proofs.YtmbfgejephgojaaDoor.Rn
open Go.RowKit Go.Proofs.YtmbfgejephgojaaDoor.Oct Go.Proofs.YtmbfgejephgojaaDoor.Bit
open Go.Proofs.YtmbfgejephgojaaDoor.Lp (VRow ints ints_length ints_append ints_one vrow_own wpList_append_vals Tryd.infoInt)
set_option linter.unusedVariables false
set_option linter.unusedSimpArgs false
set_option maxRecDepth 100000

set_option maxHeartbeats 4000000 in
theorem rchanges_new (P : List Bool) (w : World) (hs : P.length ≤ 100000) :
    Calls Tryd.prog 15 #[.string (ds P)] w fun e w' => Below w.heap.size w w' ∧ ∃ q c, e = .returned (.slice q (zl (changes P)).length c) ∧ VRow w' w'.heap.size q (ints (zl (changes P))) ∧ (q = none → c = 0) ∧ (zl (changes P)).length ≤ c ∧ c ≤ maxLen ∧ ∀ a, q = some a → w.heap.size ≤ a.block := by
  obtain ⟨i0, hi, hz0, hz1, hz2⟩ := info_parts Tryd.infoInt
  have hsz := ds_size P
  obtain ⟨n, hn⟩ : ∃ n, n = P.length := ⟨_, rfl⟩
  rw [← hn] at hsz hs
  have HN := Lib.hid hn
  clear hn
  go_enter Tryd.func15, Tryd.ntmps15
  go_wp2_with fail
  go_loopw [3, 4, 5] (fun v i _ wr => ∃ k : Nat, k ≤ n ∧ i = .int .i64 (k : Int) ∧ Hid (IOwn wr w.heap.size v (zl (changes (P.take k)))) ∧ Hid (Below w.heap.size w wr)) (fun _ i _ _ => n - (intOf i).toNat)
  case atStart => exact ⟨0, by omega, rfl, Lib.hid (by simpa [changes, chg, zl, IOwn, ints] using World.ownsRow_nil w w.heap.size 3 1), Lib.hid (Below.refl _ _)⟩
  case round =>
    obtain ⟨k, hk, rfl, HO, HB⟩ := hrel
    by_cases hlt : k < n
    · have hkl : k < P.length := by rw [← HN.out]; exact hlt
      have hd : decide ((k : Int) < (n : Int)) = true := by simp; omega
      have htk := List.take_succ_eq_append_getElem hkl
      have hsn := changes_snoc (P.take k) P[k]
      rw [← htk] at hsn
      rw [List.length_take, Nat.min_eq_left (by omega)] at hsn
      have hg : ∀ h, (ds P)[k]'h = dig P[k] := fun h => ds_get P k h hkl
      have hlen : (changes (P.take k)).length ≤ k := by
        have := chg_len (P.take k) false 0
        rw [List.length_take] at this
        unfold changes
        omega
      have hlz : (zl (changes (P.take k))).length ≤ k := by rw [zl_length]; exact hlen
      have HPV : Hid (0 < k → ∀ h, (ds P)[k - 1]'h = dig (lastP false (P.take k))) := Lib.hid fun h0 h => by
        have h1 : k - 1 < P.length := by omega
        rw [ds_get P (k - 1) h h1]
        have := lastP_get P false (k - 1) h1
        rw [show k - 1 + 1 = k from by omega] at this
        rw [this]
      have HL0 : Hid (k = 0 → dig (lastP false (P.take k)) = 48) := Lib.hid fun h0 => by subst h0; rfl
      generalize P[k] = b at hsn hg
      generalize lastP false (P.take k) = l at hsn HPV HL0
      have HSN := Lib.hid hsn
      clear htk hsn hkl hlen
      by_cases hbl : b = l
      · have HO2 : Hid (IOwn wr w.heap.size u3 (zl (changes (P.take (k + 1))))) := Lib.hid (by
          have := HSN.out
          rw [if_pos hbl, List.append_nil] at this
          rw [this]
          exact HO.out)
        subst hbl
        have hne : (((dig b).toNat : Int) != ((dig b).toNat : Int)) = false := by simp
        rcases Nat.eq_zero_or_pos k with h0 | h0
        · have e := HL0.out h0
          rw [e] at hg
          have hd3 : decide (0 < k) = false := by simp; omega
          clear HO HSN HPV hne e HL0 h0
          go_wp2_with fail
          go_roundw
          case rel => exact ⟨k + 1, by omega, by go_num, HO2, HB⟩
          case measure => simp [intOf]; omega
        · obtain ⟨j, hje⟩ : ∃ j, j = k - 1 := ⟨_, rfl⟩
          have hp : ∀ h, (ds P)[j]'h = dig b := by subst hje; exact HPV.out h0
          have hms : IntKind.i64.wrap ((k : Int) - 1) = (j : Int) := by rw [IntKind.wrap_i64]; omega
          have hms2 : (k : Int) - 1 = (j : Int) := by omega
          have j2 : j < n := by omega
          have hd3 : decide (0 < k) = true := by simpa using h0
          clear HO HSN HPV HL0 hje
          go_wp2_with fail
          go_roundw
          case rel => exact ⟨k + 1, by omega, by go_num, HO2, HB⟩
          case measure => simp [intOf]; omega
      · have hb1 : Below wr.heap.size wr (wr.alloc (.cells (ints [(k : Int)]).toArray 3)) := (Below.refl _ wr).alloc (Nat.le_refl _) _
        have HS := Lib.hid (ints_new wr [(k : Int)] 3 (0, 0))
        have HOW := Lib.hid (own_below HO.out hb1)
        have HB2 := Lib.hid (HB.out.trans (hb1.mono HB.out.size))
        have HZ := Lib.hid HB2.out.size
        have HSN2 : Hid (ints (zl (changes (P.take k))) ++ ints [(k : Int)] = ints (zl (changes (P.take (k + 1)))) ∧ (zl (changes (P.take k))).length + 1 = (zl (changes (P.take (k + 1)))).length) := Lib.hid (by
          have := HSN.out
          rw [if_neg hbl] at this
          rw [this, zl_append, ints_append]
          exact ⟨rfl, by simp [zl]⟩)
        have hne := dig_ne b l hbl
        clear HO HB hb1 HSN hbl
        rcases Nat.eq_zero_or_pos k with h0 | h0
        · have e := HL0.out h0
          rw [e] at hne
          have hd3 : decide (0 < k) = false := by simp; omega
          have hne2 : (((dig b).toNat : Int) != 48) = true := hne
          generalize dig b = x at hne2 hg
          clear HPV e HL0 h0 hne
          go_wp2_with (at_builtin; refine wpList_append_vals Tryd.underlying41 hi hz0 hz1 hz2 rfl (by decide) rfl _ _ rfl w.heap.size _ (zl (changes (P.take k))).length (ints (zl (changes (P.take k)))) rfl HOW.out (some ⟨wr.heap.size, 0, none⟩) 1 1 (ints [(k : Int)]) rfl HS.out rfl (fun h => by cases h) ints_one (by omega) HZ.out ?_)
          intro v2 w2 hown2 _ hb3
          rw [HSN2.out.1, HSN2.out.2] at hown2
          have HO3 : Hid (IOwn w2 w.heap.size v2 (zl (changes (P.take (k + 1))))) := Lib.hid hown2
          have HB3 := Lib.hid (HB2.out.trans hb3)
          clear hown2 hb3 HOW HS HZ HSN2 HB2
          go_wp2_with fail
          go_roundw
          case rel => exact ⟨k + 1, by omega, by go_num, HO3, HB3⟩
          case measure => simp [intOf]; omega
        · obtain ⟨j, hje⟩ : ∃ j, j = k - 1 := ⟨_, rfl⟩
          have hp : ∀ h, (ds P)[j]'h = dig l := by subst hje; exact HPV.out h0
          have hms : IntKind.i64.wrap ((k : Int) - 1) = (j : Int) := by rw [IntKind.wrap_i64]; omega
          have hms2 : (k : Int) - 1 = (j : Int) := by omega
          have j2 : j < n := by omega
          have hd3 : decide (0 < k) = true := by simpa using h0
          generalize dig b = x at hne hg
          generalize dig l = y at hne hp
          clear HPV HL0 hje
          go_wp2_with (at_builtin; refine wpList_append_vals Tryd.underlying41 hi hz0 hz1 hz2 rfl (by decide) rfl _ _ rfl w.heap.size _ (zl (changes (P.take k))).length (ints (zl (changes (P.take k)))) rfl HOW.out (some ⟨wr.heap.size, 0, none⟩) 1 1 (ints [(k : Int)]) rfl HS.out rfl (fun h => by cases h) ints_one (by omega) HZ.out ?_)
          intro v2 w2 hown2 _ hb3
          rw [HSN2.out.1, HSN2.out.2] at hown2
          have HO3 : Hid (IOwn w2 w.heap.size v2 (zl (changes (P.take (k + 1))))) := Lib.hid hown2
          have HB3 := Lib.hid (HB2.out.trans hb3)
          clear hown2 hb3 HOW HS HZ HSN2 HB2
          go_wp2_with fail
          go_roundw
          case rel => exact ⟨k + 1, by omega, by go_num, HO3, HB3⟩
          case measure => simp [intOf]; omega
    · have hke : k = n := by omega
      subst hke
      have hd : decide ((k : Int) < (k : Int)) = false := by simp
      rw [List.take_of_length_le (by rw [← HN.out]; exact Nat.le_refl _)] at HO
      obtain ⟨q, c, rfl, hq0, hqc, hcm, hv, hqn⟩ := vrow_own HO.out (by rw [ints_length])
      have HQ0 := Lib.hid hq0
      have HQC := Lib.hid hqc
      have HCM := Lib.hid hcm
      have HV := Lib.hid hv
      have HQN := Lib.hid hqn
      clear hq0 hv hqc hcm hqn HO
      go_wp2_with fail
      go_ret
      exact ⟨HB.out, q, c, rfl, HV.out, HQ0.out, HQC.out, HCM.out, HQN.out⟩
end Go.Proofs.YtmbfgejephgojaaDoor.Rn
namespace Go.Proofs.YtmbfgejephgojaaDoor.Mh
open Go.RowKit Go.Proofs.YtmbfgejephgojaaDoor.Oct Go.Proofs.YtmbfgejephgojaaDoor.Bit
open Go.Proofs.YtmbfgejephgojaaDoor.Fx (tellF modesF rtell_any rmodes_any RowN)
open Go.Proofs.YtmbfgejephgojaaDoor.Hf (strs strs_length wordsU wordsU_length)
open Go.Proofs.YtmbfgejephgojaaDoor.Rn (changes nextX nextF nextI zl zl_length nextI_zl Valid rchanges_new rnext_any)
open Go.Proofs.YtmbfgejephgojaaDoor.Lp (VRow ints ints_length)
set_option linter.unusedVariables false
set_option linter.unusedSimpArgs false
set_option maxRecDepth 100000

def ModesP (w : World) (e : Ending) (w' : World) : Prop :=
  Below w.heap.size w w' ∧ ∃ bb off c, e = .returned (.slice (some ⟨bb, off, none⟩) 10 c) ∧ bb < w'.heap.size ∧ ∀ i, i < 10 → w'.cell? ⟨bb, off + i, none⟩ = some (.string (ds (modesF.getD i [])))
theorem rmodes_in (w : World) : Calls Tryd.prog 42 #[] w (ModesP w) := by
  refine (rmodes_any w).mono ?_
  rintro e w1 ⟨hb1, q, c, rfl, hv⟩
  obtain ⟨bb, off, rfl, hlt⟩ := hv.1.addr (by rw [strs_length, wordsU_length, Fx.modesF_length]; omega)
  refine ⟨hb1, bb, off, c, by rw [strs_length, wordsU_length, Fx.modesF_length], hlt, fun i hi => ?_⟩
  exact Fx.strs_word hv.1 (by rw [Fx.modesF_length]; exact hi)
set_option maxHeartbeats 8000000 in
theorem ragainst_any (X Y : List Bool) (n : Nat) (w : World) (hX : X.length = n) (hY : Y.length = n) (h1 : 1 ≤ n) (hn : n ≤ 1000) :
    Calls Tryd.prog 23 #[.string (ds X), .string (ds Y)] w fun e w' => e = .returned (.string (ds (againstA (changes X) (changes Y) n 0 false))) ∧ Below w.heap.size w w' := by
  have hszX := (ds_size X).trans hX
  have hv1 : Valid (changes X) n := by rw [← hX]; exact Rn.changes_valid X
  have hv2 : Valid (changes Y) n := by rw [← hY]; exact Rn.changes_valid Y
  have HV1 := Lib.hid hv1
  have HV2 := Lib.hid hv2
  have HC1 := Lib.hid (fun w9 => rchanges_new X w9 (by omega))
  have HC2 := Lib.hid (fun w9 => rchanges_new Y w9 (by omega))
  have hcl1 : (zl (changes X)).length ≤ 1000 := by rw [zl_length]; have := Rn.chg_len X false 0; unfold changes; omega
  have hcl2 : (zl (changes Y)).length ≤ 1000 := by rw [zl_length]; have := Rn.chg_len Y false 0; unfold changes; omega
  have hbnd : (againstA (changes X) (changes Y) n 0 false).length ≤ 2000000 := by
    have h2 := against_len0 hv1 hv2 (T := 200) (fun b x hx => tellF_len b x (by omega))
    rw [zl_length] at hcl1 hcl2
    have := Nat.mul_le_mul_left (2 * 200 + 7) (show (changes X).length + (changes Y).length + 1 ≤ 2001 by omega)
    omega
  obtain ⟨R, hR⟩ : ∃ R, R = againstA (changes X) (changes Y) n 0 false := ⟨_, rfl⟩
  have HR := Lib.hid hR.symm
  rw [← hR] at hbnd ⊢
  have HBD := Lib.hid hbnd
  generalize changes X = row at *
  generalize changes Y = top at *
  generalize ds X = SX at *
  generalize ds Y = SY at *
  clear hX hY hR hv1 hv2 hbnd
  go_enter Tryd.func23, Tryd.ntmps23
  go_wp2_with fail
  refine (HC1.out _).mono ?_
  rintro e w1 ⟨hb1, q1, c1, rfl, hr1, _, _, _, _⟩
  have HB1 := Lib.hid hb1
  have HR1 := Lib.hid hr1
  clear hb1 hr1
  go_wp2_with fail
  refine (HC2.out _).mono ?_
  rintro e w2 ⟨hb2, q2, c2, rfl, hr2, _, _, _, _⟩
  have HB2 := Lib.hid (HB1.out.trans (hb2.mono HB1.out.size))
  have HR12 := Lib.hid ((HR1.out.below hb2 (Nat.le_refl _)).mono hb2.size)
  have HR2 := Lib.hid hr2
  clear hb2 hr2 HB1 HR1 HC1 HC2
  obtain ⟨m1, hm1⟩ : ∃ m1, m1 = (zl row).length := ⟨_, rfl⟩
  obtain ⟨m2, hm2⟩ : ∃ m2, m2 = (zl top).length := ⟨_, rfl⟩
  rw [← hm1] at hcl1 ⊢
  rw [← hm2] at hcl2 ⊢
  have HM1 := Lib.hid hm1.symm
  have HM2 := Lib.hid hm2.symm
  clear hm1 hm2
  go_wp2_with fail
  go_loopw [8, 9, 10, 11, 12, 13, 14] (fun s sb sat _ _ _ _ wr => ∃ (a : Nat) (b : Bool) (d : List Bool), a ≤ n + 1 ∧ s = .string (ds d) ∧ sb = .bool b ∧ sat = .int .i64 ((a : Int) - 1) ∧ Hid (d ++ againstA row top n a b = R) ∧ Hid (Below w2.heap.size w2 wr)) (fun _ _ sat _ _ _ _ _ => n + 1 - (intOf sat + 1).toNat)
  case atStart => exact ⟨0, false, [], by omega, rfl, rfl, rfl, HR, Lib.hid (Below.refl _ _)⟩
  case round =>
    obtain ⟨a, b, d, han, rfl, rfl, rfl, HD, HBr⟩ := hrel
    have hdl : d.length ≤ 2000000 := by
      have h2 := congrArg List.length HD.out
      rw [List.length_append] at h2
      have := HBD.out
      omega
    have hds := ds_size d
    by_cases ha : a ≤ n
    · have hd : decide ((a : Int) - 1 < (n : Int)) = true := by simp; omega
      have HN1 := Lib.hid (fun w9 (hb : Below w2.heap.size w2 w9) => rnext_any q1 m1 c1 (zl row) ((a : Int) - 1) (!b) n w9 _ (HR12.out.below hb (Nat.le_refl _)) HM1.out (by omega))
      have HN2 := Lib.hid (fun w9 (hb : Below w2.heap.size w2 w9) => rnext_any q2 m2 c2 (zl top) ((a : Int) - 1) (!b) n w9 _ (HR2.out.below hb (Nat.le_refl _)) HM2.out (by omega))
      rw [nextI_zl] at HN1 HN2
      have HQ := Lib.hid (againstA_eq HV1.out HV2.out b ha)
      have g1 := nextF_ge n row (!b) a ha HV1.out.2
      have g2 := nextF_ge n top (!b) a ha HV2.out.2
      have g3 := nextF_le n row (!b) a HV1.out
      have g4 := nextF_le n top (!b) a HV2.out
      have e1 : nx n row b a = nextF n row (!b) a := rfl
      have e2 : nx n top b a = nextF n top (!b) a := rfl
      have e3 : nextX n row (!b) a = nextF n row (!b) a := rfl
      have e4 : nextX n top (!b) a = nextF n top (!b) a := rfl
      rw [e3] at HN1
      rw [e4] at HN2
      rw [e1, e2] at HQ
      clear e1 e2 e3 e4
      generalize nextF n row (!b) a = r1 at *
      generalize nextF n top (!b) a = r2 at *
      obtain ⟨a1, a2⟩ := r1
      obtain ⟨b1, b2⟩ := r2
      simp only at HN1 HN2 HQ g1 g2 g3 g4
      go_wp2_with fail
      refine (HN1.out wr HBr.out).mono ?_
      rintro e w3 ⟨rfl, hd3⟩
      have HB3 := Lib.hid (HBr.out.trans ((hd3.below wr.heap.size).mono HBr.out.size))
      clear hd3
      go_wp2_with fail
      refine (HN2.out w3 HB3.out).mono ?_
      rintro e w4 ⟨rfl, hd4⟩
      have HB4 := Lib.hid (HB3.out.trans ((hd4.below w3.heap.size).mono HB3.out.size))
      clear hd4 HN1 HN2 HB3 HBr
      have HMO := Lib.hid (fun w9 => rmodes_in w9)
      by_cases hba : b2 < a1
      · have hd1 : decide ((b2 : Int) < (a1 : Int)) = true := by simp; omega
        have HD2 : Hid ((d ++ modesF.getD 8 []) ++ againstA row top n (b2 + 1) b = R) := Lib.hid (by
          have h2 := HD.out
          rw [HQ.out, if_pos hba, ← List.append_assoc] at h2
          exact h2)
        have hm8 := (Fx.mode_len (i := 8) (by decide)).2
        rw [← ds_size] at hm8
        have HAP := Lib.hid (ds_append d (modesF.getD 8 []))
        have HCE : Hid (∀ w9, Calls Tryd.prog 42 #[] w9 fun e w' => Below w9.heap.size w9 w' ∧ ∃ bb off c, e = .returned (.slice (some ⟨bb, off, none⟩) 10 c) ∧ w'.cell? ⟨bb, off + 8, none⟩ = some (.string (ds (modesF.getD 8 [])))) := Lib.hid (fun w9 => (rmodes_in w9).mono fun _ _ ⟨h1, bb, off, c, h2, _, h4⟩ => ⟨h1, bb, off, c, h2, h4 8 (by decide)⟩)
        generalize hM : ds (modesF.getD 8 []) = M at *
        generalize hS : ds d = S at *
        clear hM hS
        go_wp2_with fail
        refine (HCE.out w4).mono ?_
        rintro e w5 ⟨hb5, bb, off, cc, rfl, hcell⟩
        have HB5 := Lib.hid (HB4.out.trans (hb5.mono HB4.out.size))
        clear hb5
        go_wp2_with fail
        go_roundw
        case rel => exact ⟨b2 + 1, b, _, by omega, by rw [← HAP.out], rfl, by congr 1; omega, HD2, HB5⟩
        case measure => simp [intOf]; omega
      · have hd1 : decide (b2 < a1) = false := by simp; omega
        by_cases hc2 : a1 ≤ b1 + 3 ∧ b1 ≤ a1 + 3
        · have hd2 : decide ((a1 : Int) - (b1 : Int) ≤ 3) = true := by simp; omega
          have hd3 : decide ((b1 : Int) - (a1 : Int) ≤ 3) = true := by simp; omega
          obtain ⟨i, hi⟩ : ∃ i, i = a1 + 3 - b1 := ⟨_, rfl⟩
          have HD2 : Hid ((d ++ modesF.getD i []) ++ againstA row top n (a1 + 1) (!b) = R) := Lib.hid (by
            have h2 := HD.out
            rw [HQ.out, if_neg hba, if_pos hc2, ← List.append_assoc, ← hi] at h2
            exact h2)
          have hi7 : i < 7 := by omega
          have hm8 := (Fx.mode_len (i := i) (by omega)).2
          rw [← ds_size] at hm8
          have HAP := Lib.hid (ds_append d (modesF.getD i []))
          have HCE : Hid (∀ w9, Calls Tryd.prog 42 #[] w9 fun e w' => Below w9.heap.size w9 w' ∧ ∃ bb off c, e = .returned (.slice (some ⟨bb, off, none⟩) 10 c) ∧ w'.cell? ⟨bb, off + i, none⟩ = some (.string (ds (modesF.getD i [])))) := Lib.hid (fun w9 => (rmodes_in w9).mono fun _ _ ⟨h1, bb, off, c, h2, _, h4⟩ => ⟨h1, bb, off, c, h2, h4 i (by omega)⟩)
          have hxi : (a1 : Int) - (b1 : Int) + 3 = (i : Int) := by omega
          have i1 : (0 : Int) ≤ (i : Int) := by omega
          have i2 : (i : Int) < 10 := by omega
          generalize hM : ds (modesF.getD i []) = M at *
          generalize hS : ds d = S at *
          clear hM hS hc2 hi
          go_wp2_with fail
          refine (HCE.out w4).mono ?_
          rintro e w5 ⟨hb5, bb, off, cc, rfl, hcell⟩
          have HB5 := Lib.hid (HB4.out.trans (hb5.mono HB4.out.size))
          clear hb5
          go_wp2_with fail
          go_roundw
          case rel => exact ⟨a1 + 1, !b, _, by omega, by rw [← HAP.out], rfl, by congr 1; omega, HD2, HB5⟩
          case measure => simp [intOf]; omega
        · obtain ⟨x, hx⟩ : ∃ x, x = a1 - (a - 1) := ⟨_, rfl⟩
          obtain ⟨y, hy⟩ : ∃ y, y = a2 - a1 := ⟨_, rfl⟩
          obtain ⟨am, ham⟩ : ∃ am, am = a - 1 := ⟨_, rfl⟩
          have HD2 : Hid ((d ++ (modesF.getD 7 [] ++ tellF b x ++ tellF (!b) y)) ++ againstA row top n (a2 + 1) b = R) := Lib.hid (by
            have h2 := HD.out
            rw [HQ.out, if_neg hba, if_neg hc2, ← hx, ← hy] at h2
            simp only [List.append_assoc] at h2 ⊢
            exact h2)
          have hways : (decide ((a1 : Int) - (b1 : Int) ≤ 3) = false) ∨ (decide ((a1 : Int) - (b1 : Int) ≤ 3) = true ∧ decide ((b1 : Int) - (a1 : Int) ≤ 3) = false) := by
            by_cases h3 : b1 + 3 < a1
            · left; simp; omega
            · right
              constructor
              · simp; omega
              · simp; omega
          have hmx : max ((a : Int) - 1) 0 = (am : Int) := by omega
          have hxi : (a1 : Int) - (am : Int) = (x : Int) := by omega
          have hyi : (a2 : Int) - (a1 : Int) = (y : Int) := by omega
          have hbx : x ≤ 1000 := by omega
          have hwx : IntKind.i64.wrap (x : Int) = (x : Int) := by rw [IntKind.wrap_i64]; omega
          have hwy : IntKind.i64.wrap (y : Int) = (y : Int) := by rw [IntKind.wrap_i64]; omega
          have hby : y ≤ 1000 := by omega
          have ham2 : am ≤ 1000 := by omega
          have hm7 := (Fx.mode_len (i := 7) (by decide)).2
          rw [← ds_size] at hm7
          have ht1 := tellF_len b x (by omega)
          rw [← ds_size] at ht1
          have ht2 := tellF_len (!b) y (by omega)
          rw [← ds_size] at ht2
          have HT1 := Lib.hid (fun w9 => rtell_any x b w9 (by omega))
          have HT2 := Lib.hid (fun w9 => rtell_any y (!b) w9 (by omega))
          have HAP : Hid (ds d ++ (ds (modesF.getD 7 []) ++ ds (tellF b x) ++ ds (tellF (!b) y)) = ds (d ++ (modesF.getD 7 [] ++ tellF b x ++ tellF (!b) y))) := Lib.hid (by rw [ds_append, ds_append, ds_append])
          have HCE : Hid (∀ w9, Calls Tryd.prog 42 #[] w9 fun e w' => Below w9.heap.size w9 w' ∧ ∃ bb off c, e = .returned (.slice (some ⟨bb, off, none⟩) 10 c) ∧ bb < w'.heap.size ∧ w'.cell? ⟨bb, off + 7, none⟩ = some (.string (ds (modesF.getD 7 [])))) := Lib.hid (fun w9 => (rmodes_in w9).mono fun _ _ ⟨h1, bb, off, c, h2, h3, h4⟩ => ⟨h1, bb, off, c, h2, h3, h4 7 (by decide)⟩)
          generalize ds (modesF.getD 7 []) = M at *
          generalize ds (tellF b x) = T1 at *
          generalize ds (tellF (!b) y) = T2 at *
          generalize ds d = S at *
          have hs1 : (M ++ T1).size = M.size + T1.size := ByteArray.size_append
          have hs2 : (M ++ T1 ++ T2).size = M.size + T1.size + T2.size := by rw [ByteArray.size_append, hs1]
          have qq1 : ¬ (9223372036854775807 < M.size + T1.size) := by omega
          have qq2 : ¬ (9223372036854775807 < M.size + T1.size + T2.size) := by omega
          have qq3 : ¬ (9223372036854775807 < d.length + (M.size + T1.size + T2.size)) := by omega
          have hn12 : a2 + 1 ≤ n + 1 := by omega
          have ha12 : a ≤ a2 := by omega
          clear hc2 hx hy ham HMO
          rcases hways with hw1 | ⟨hw1, hw2⟩
          · go_wp2_with fail
            refine wp_region_held_drew (S := fun _ => True) (by kernel_rfl) trivial (fun hHeld => ?_)
            refine wpAnyH_take (i := 0) (v := ?v1) rfl (by kernel_rfl) (by kernel_rfl) (by kernel_rfl) (fun _ _ _ h => h) (Or.inl ⟨by rfl, fun w hSw => ?y1⟩) trivial ?r1
            case y1 => (try dsimp only at hSw); first | (go_simp; done) | (go_simp; with_reducible rfl)
            try simp only [Act.put, List.setIfInBounds_toArray, List.set_cons_zero, List.set_cons_succ, List.getElem_toArray, List.getElem_cons_zero, List.getElem_cons_succ]
            refine wpAnyH_take (i := 4) (v := ?v2) rfl (by kernel_rfl) (by kernel_rfl) (by kernel_rfl) (fun _ _ _ h => h) (Or.inl ⟨by rfl, fun w hSw => ?y2⟩) trivial ?r2
            case y2 => (try dsimp only at hSw); first | (go_simp; done) | (go_simp; with_reducible rfl)
            try simp only [Act.put, List.setIfInBounds_toArray, List.set_cons_zero, List.set_cons_succ, List.getElem_toArray, List.getElem_cons_zero, List.getElem_cons_succ]
            refine wpAnyH_take (i := 5) (v := ?v3) rfl (by kernel_rfl) (by kernel_rfl) (by kernel_rfl) (fun _ _ _ h => h) (Or.inl ⟨by rfl, fun w hSw => ?y3⟩) trivial ?r3
            case y3 => (try dsimp only at hSw); first | (go_simp; done) | (go_simp; with_reducible rfl)
            try simp only [Act.put, List.setIfInBounds_toArray, List.set_cons_zero, List.set_cons_succ, List.getElem_toArray, List.getElem_cons_zero, List.getElem_cons_succ]
            refine wpAnyH_take (i := 6) (v := ?v4) rfl (by kernel_rfl) (by kernel_rfl) (by kernel_rfl) (fun _ _ _ h => h) (Or.inl ⟨by rfl, fun w hSw => ?y4⟩) trivial ?r4
            case y4 => (try dsimp only at hSw); first | (go_simp; done) | (go_simp; with_reducible rfl)
            try simp only [Act.put, List.setIfInBounds_toArray, List.set_cons_zero, List.set_cons_succ, List.getElem_toArray, List.getElem_cons_zero, List.getElem_cons_succ]
            refine wpAnyH_take (i := 7) (v := ?v5) rfl (by kernel_rfl) (by kernel_rfl) (by kernel_rfl) (fun _ _ _ h => h) (Or.inl ⟨by rfl, fun w hSw => ?y5⟩) trivial ?r5
            case y5 => (try dsimp only at hSw); first | (go_simp; done) | (go_simp; with_reducible rfl)
            try simp only [Act.put, List.setIfInBounds_toArray, List.set_cons_zero, List.set_cons_succ, List.getElem_toArray, List.getElem_cons_zero, List.getElem_cons_succ]
            refine wpAnyH_take (i := 8) (v := ?v6) rfl (by kernel_rfl) (by kernel_rfl) (by kernel_rfl) (fun _ _ _ h => h) (Or.inl ⟨by rfl, fun w hSw => ?y6⟩) trivial ?r6
            case y6 => (try dsimp only at hSw); first | (go_simp; done) | (go_simp; with_reducible rfl)
            try simp only [Act.put, List.setIfInBounds_toArray, List.set_cons_zero, List.set_cons_succ, List.getElem_toArray, List.getElem_cons_zero, List.getElem_cons_succ]
            refine wpAnyH_take (i := 11) (v := ?v7) rfl (by kernel_rfl) (by kernel_rfl) (by kernel_rfl) (fun _ _ _ h => h) (Or.inl ⟨by rfl, fun w hSw => ?y7⟩) trivial ?r7
            case y7 => (try dsimp only at hSw); first | (go_simp; done) | (go_simp; with_reducible rfl)
            try simp only [Act.put, List.setIfInBounds_toArray, List.set_cons_zero, List.set_cons_succ, List.getElem_toArray, List.getElem_cons_zero, List.getElem_cons_succ]
            refine wpAnyH_take (i := 12) (v := ?v8) rfl (by kernel_rfl) (by kernel_rfl) (by kernel_rfl) (fun _ _ _ h => h) (Or.inl ⟨by rfl, fun w hSw => ?y8⟩) trivial ?r8
            case y8 => (try dsimp only at hSw); first | (go_simp; done) | (go_simp; with_reducible rfl)
            try simp only [Act.put, List.setIfInBounds_toArray, List.set_cons_zero, List.set_cons_succ, List.getElem_toArray, List.getElem_cons_zero, List.getElem_cons_succ]
            refine wpAnyH_take (i := 13) (v := ?v9) rfl (by kernel_rfl) (by kernel_rfl) (by kernel_rfl) (fun _ _ _ h => h) (Or.inl ⟨by rfl, fun w hSw => ?y9⟩) trivial ?r9
            case y9 => (try dsimp only at hSw); first | (go_simp; done) | (go_simp; with_reducible rfl)
            try simp only [Act.put, List.setIfInBounds_toArray, List.set_cons_zero, List.set_cons_succ, List.getElem_toArray, List.getElem_cons_zero, List.getElem_cons_succ]
            refine wpAnyH_take (i := 14) (v := ?v10) rfl (by kernel_rfl) (by kernel_rfl) (by kernel_rfl) (fun _ _ _ h => h) (Or.inl ⟨by rfl, fun w hSw => ?y10⟩) trivial ?r10
            case y10 => (try dsimp only at hSw); first | (go_simp; done) | (go_simp; with_reducible rfl)
            try simp only [Act.put, List.setIfInBounds_toArray, List.set_cons_zero, List.set_cons_succ, List.getElem_toArray, List.getElem_cons_zero, List.getElem_cons_succ]
            refine wpAnyH_take (i := 15) (v := ?v11) rfl (by kernel_rfl) (by kernel_rfl) (by kernel_rfl) (fun _ _ _ h => h) (Or.inl ⟨by rfl, fun w hSw => ?y11⟩) trivial ?r11
            case y11 => (try dsimp only at hSw); first | (go_simp; done) | (go_simp; with_reducible rfl)
            try simp only [Act.put, List.setIfInBounds_toArray, List.set_cons_zero, List.set_cons_succ, List.getElem_toArray, List.getElem_cons_zero, List.getElem_cons_succ]
            refine wpAnyH_ready (rs := [1]) (by kernel_rfl) (by simp) ?_
            refine AllReadyH.cons rfl (fun K hK => ?_) AllReadyH.nil
            go_simp
            refine (HCE.out _).mono ?_
            rintro e z1 ⟨hb1, bb, off, cc, rfl, hbb, hcell⟩
            go_wp2_with fail
            refine hK.out _ _ trivial (fun hH1 => ?_)
            clear hK K
            try simp only [Act.put, List.setIfInBounds_toArray, List.set_cons_zero, List.set_cons_succ, List.getElem_toArray, List.getElem_cons_zero, List.getElem_cons_succ]
            refine wpAnyH_take (i := 2) (v := ?v12) rfl (by kernel_rfl) (by kernel_rfl) (by kernel_rfl) (fun _ _ _ h => h) (Or.inl ⟨by rfl, fun w hSw => ?y12⟩) trivial ?r12
            case y12 => (try dsimp only at hSw); first | (go_simp; done) | (go_simp; with_reducible rfl)
            try simp only [Act.put, List.setIfInBounds_toArray, List.set_cons_zero, List.set_cons_succ, List.getElem_toArray, List.getElem_cons_zero, List.getElem_cons_succ]
            refine wpAnyH_ready (rs := [3, 9]) (by kernel_rfl) (by simp) ?_
            refine AllReadyH.cons rfl (fun K hK => ?_) (AllReadyH.cons rfl (fun K hK => ?_) AllReadyH.nil)
            · go_simp
              refine hK.out _ _ trivial (fun _ => ?_)
              clear hK K
              try simp only [Act.put, List.setIfInBounds_toArray, List.set_cons_zero, List.set_cons_succ, List.getElem_toArray, List.getElem_cons_zero, List.getElem_cons_succ]
              refine wpAnyH_ready (rs := [9]) (by kernel_rfl) (by simp) ?_
              refine AllReadyH.cons rfl (fun K hK => ?_) AllReadyH.nil
              go_simp
              first | rw [hwx] | skip
              refine (HT1.out _).mono ?_
              rintro e z2 ⟨rfl, hb2⟩
              have hcell2 := (hb2.cell (p := ⟨bb, off + 7, none⟩) hbb).trans hcell
              go_wp2_with fail
              refine hK.out _ _ trivial (fun hH2 => ?_)
              clear hK K
              try simp only [Act.put, List.setIfInBounds_toArray, List.set_cons_zero, List.set_cons_succ, List.getElem_toArray, List.getElem_cons_zero, List.getElem_cons_succ]
              refine wpAnyH_take (i := 10) (v := ?v13) rfl (by kernel_rfl) (by kernel_rfl) (by kernel_rfl) (fun _ _ _ h => h) (Or.inl ⟨by rfl, fun w hSw => ?y13⟩) trivial ?r13
              case y13 => (try dsimp only at hSw); first | (go_simp; done) | (go_simp; with_reducible rfl)
              try simp only [Act.put, List.setIfInBounds_toArray, List.set_cons_zero, List.set_cons_succ, List.getElem_toArray, List.getElem_cons_zero, List.getElem_cons_succ]
              refine wpAnyH_ready (rs := [16]) (by kernel_rfl) (by simp) ?_
              refine AllReadyH.cons rfl (fun K hK => ?_) AllReadyH.nil
              go_simp
              first | rw [hwy] | skip
              refine (HT2.out _).mono ?_
              rintro e z3 ⟨rfl, hb3⟩
              have hcell3 := (hb3.cell (p := ⟨bb, off + 7, none⟩) (Nat.lt_of_lt_of_le hbb hb2.size)).trans hcell2
              go_wp2_with fail
              refine hK.out _ _ trivial (fun hH3 => ?_)
              clear hK K
              try simp only [Act.put, List.setIfInBounds_toArray, List.set_cons_zero, List.set_cons_succ, List.getElem_toArray, List.getElem_cons_zero, List.getElem_cons_succ]
              refine wpAnyH_take (i := 17) (v := ?v14) rfl (by kernel_rfl) (by kernel_rfl) (by kernel_rfl) (fun _ _ _ h => h) (Or.inl ⟨by rfl, fun w hSw => ?y14⟩) trivial ?r14
              case y14 => (try dsimp only at hSw); first | (go_simp; done) | (go_simp; with_reducible rfl)
              try simp only [Act.put, List.setIfInBounds_toArray, List.set_cons_zero, List.set_cons_succ, List.getElem_toArray, List.getElem_cons_zero, List.getElem_cons_succ]
              refine wpAnyH_take (i := 18) (v := ?v15) rfl (by kernel_rfl) (by kernel_rfl) (by kernel_rfl) (fun _ _ _ h => h) (Or.inl ⟨by rfl, fun w hSw => ?y15⟩) trivial ?r15
              case y15 => (try dsimp only at hSw); first | (go_simp; done) | (go_simp; with_reducible rfl)
              try simp only [Act.put, List.setIfInBounds_toArray, List.set_cons_zero, List.set_cons_succ, List.getElem_toArray, List.getElem_cons_zero, List.getElem_cons_succ]
              refine wpAnyH_take (i := 19) (v := ?v16) rfl (by kernel_rfl) (by kernel_rfl) (by kernel_rfl) (fun _ _ _ h => h) (Or.inl ⟨by rfl, fun w hSw => ?y16⟩) trivial ?r16
              case y16 => (try dsimp only at hSw); first | (go_simp; done) | (go_simp; with_reducible rfl)
              try simp only [Act.put, List.setIfInBounds_toArray, List.set_cons_zero, List.set_cons_succ, List.getElem_toArray, List.getElem_cons_zero, List.getElem_cons_succ]
              refine wpAnyH_done (by kernel_rfl) ?_ _
              have HB7 := Lib.hid (HB4.out.trans ((((((show Drawn w4 w4.drew from ⟨1, rfl⟩).below w4.heap.size).trans hb1).trans (hb2.mono hb1.size)).trans (hb3.mono (Nat.le_trans hb1.size hb2.size))).mono HB4.out.size))
              clear hb1 hb2 hb3 hcell hcell2 hcell3
              go_wp2_with fail
              go_roundw
              case rel => exact ⟨a2 + 1, b, _, hn12, by rw [← HAP.out], rfl, by congr 1; omega, HD2, HB7⟩
              case measure => simp [intOf]; omega
            · go_simp
              first | rw [hwx] | skip
              refine (HT1.out _).mono ?_
              rintro e z2 ⟨rfl, hb2⟩
              have hcell2 := (hb2.cell (p := ⟨bb, off + 7, none⟩) hbb).trans hcell
              go_wp2_with fail
              refine hK.out _ _ trivial (fun _ => ?_)
              clear hK K
              try simp only [Act.put, List.setIfInBounds_toArray, List.set_cons_zero, List.set_cons_succ, List.getElem_toArray, List.getElem_cons_zero, List.getElem_cons_succ]
              refine wpAnyH_ready (rs := [3, 16]) (by kernel_rfl) (by simp) ?_
              refine AllReadyH.cons rfl (fun K hK => ?_) (AllReadyH.cons rfl (fun K hK => ?_) AllReadyH.nil)
              · go_simp
                refine hK.out _ _ trivial (fun _ => ?_)
                clear hK K
                try simp only [Act.put, List.setIfInBounds_toArray, List.set_cons_zero, List.set_cons_succ, List.getElem_toArray, List.getElem_cons_zero, List.getElem_cons_succ]
                refine wpAnyH_take (i := 10) (v := ?v17) rfl (by kernel_rfl) (by kernel_rfl) (by kernel_rfl) (fun _ _ _ h => h) (Or.inl ⟨by rfl, fun w hSw => ?y17⟩) trivial ?r17
                case y17 => (try dsimp only at hSw); first | (go_simp; done) | (go_simp; with_reducible rfl)
                try simp only [Act.put, List.setIfInBounds_toArray, List.set_cons_zero, List.set_cons_succ, List.getElem_toArray, List.getElem_cons_zero, List.getElem_cons_succ]
                refine wpAnyH_ready (rs := [16]) (by kernel_rfl) (by simp) ?_
                refine AllReadyH.cons rfl (fun K hK => ?_) AllReadyH.nil
                go_simp
                first | rw [hwy] | skip
                refine (HT2.out _).mono ?_
                rintro e z3 ⟨rfl, hb3⟩
                have hcell3 := (hb3.cell (p := ⟨bb, off + 7, none⟩) (Nat.lt_of_lt_of_le hbb hb2.size)).trans hcell2
                go_wp2_with fail
                refine hK.out _ _ trivial (fun hH3 => ?_)
                clear hK K
                try simp only [Act.put, List.setIfInBounds_toArray, List.set_cons_zero, List.set_cons_succ, List.getElem_toArray, List.getElem_cons_zero, List.getElem_cons_succ]
                refine wpAnyH_take (i := 17) (v := ?v18) rfl (by kernel_rfl) (by kernel_rfl) (by kernel_rfl) (fun _ _ _ h => h) (Or.inl ⟨by rfl, fun w hSw => ?y18⟩) trivial ?r18
                case y18 => (try dsimp only at hSw); first | (go_simp; done) | (go_simp; with_reducible rfl)
                try simp only [Act.put, List.setIfInBounds_toArray, List.set_cons_zero, List.set_cons_succ, List.getElem_toArray, List.getElem_cons_zero, List.getElem_cons_succ]
                refine wpAnyH_take (i := 18) (v := ?v19) rfl (by kernel_rfl) (by kernel_rfl) (by kernel_rfl) (fun _ _ _ h => h) (Or.inl ⟨by rfl, fun w hSw => ?y19⟩) trivial ?r19
                case y19 => (try dsimp only at hSw); first | (go_simp; done) | (go_simp; with_reducible rfl)
                try simp only [Act.put, List.setIfInBounds_toArray, List.set_cons_zero, List.set_cons_succ, List.getElem_toArray, List.getElem_cons_zero, List.getElem_cons_succ]
                refine wpAnyH_take (i := 19) (v := ?v20) rfl (by kernel_rfl) (by kernel_rfl) (by kernel_rfl) (fun _ _ _ h => h) (Or.inl ⟨by rfl, fun w hSw => ?y20⟩) trivial ?r20
                case y20 => (try dsimp only at hSw); first | (go_simp; done) | (go_simp; with_reducible rfl)
                try simp only [Act.put, List.setIfInBounds_toArray, List.set_cons_zero, List.set_cons_succ, List.getElem_toArray, List.getElem_cons_zero, List.getElem_cons_succ]
                refine wpAnyH_done (by kernel_rfl) ?_ _
                have HB7 := Lib.hid (HB4.out.trans ((((((show Drawn w4 w4.drew from ⟨1, rfl⟩).below w4.heap.size).trans hb1).trans (hb2.mono hb1.size)).trans (hb3.mono (Nat.le_trans hb1.size hb2.size))).mono HB4.out.size))
                clear hb1 hb2 hb3 hcell hcell2 hcell3
                go_wp2_with fail
                go_roundw
                case rel => exact ⟨a2 + 1, b, _, hn12, by rw [← HAP.out], rfl, by congr 1; omega, HD2, HB7⟩
                case measure => simp [intOf]; omega
              · go_simp
                first | rw [hwy] | skip
                refine (HT2.out _).mono ?_
                rintro e z3 ⟨rfl, hb3⟩
                have hcell3 := (hb3.cell (p := ⟨bb, off + 7, none⟩) (Nat.lt_of_lt_of_le hbb hb2.size)).trans hcell2
                go_wp2_with fail
                refine hK.out _ _ trivial (fun _ => ?_)
                clear hK K
                try simp only [Act.put, List.setIfInBounds_toArray, List.set_cons_zero, List.set_cons_succ, List.getElem_toArray, List.getElem_cons_zero, List.getElem_cons_succ]
                refine wpAnyH_ready (rs := [3]) (by kernel_rfl) (by simp) ?_
                refine AllReadyH.cons rfl (fun K hK => ?_) AllReadyH.nil
                go_simp
                refine hK.out _ _ trivial (fun hH4 => ?_)
                clear hK K
                try simp only [Act.put, List.setIfInBounds_toArray, List.set_cons_zero, List.set_cons_succ, List.getElem_toArray, List.getElem_cons_zero, List.getElem_cons_succ]
                refine wpAnyH_take (i := 10) (v := ?v21) rfl (by kernel_rfl) (by kernel_rfl) (by kernel_rfl) (fun _ _ _ h => h) (Or.inl ⟨by rfl, fun w hSw => ?y21⟩) trivial ?r21
                case y21 => (try dsimp only at hSw); first | (go_simp; done) | (go_simp; with_reducible rfl)
                try simp only [Act.put, List.setIfInBounds_toArray, List.set_cons_zero, List.set_cons_succ, List.getElem_toArray, List.getElem_cons_zero, List.getElem_cons_succ]
                refine wpAnyH_take (i := 17) (v := ?v22) rfl (by kernel_rfl) (by kernel_rfl) (by kernel_rfl) (fun _ _ _ h => h) (Or.inl ⟨by rfl, fun w hSw => ?y22⟩) trivial ?r22
                case y22 => (try dsimp only at hSw); first | (go_simp; done) | (go_simp; with_reducible rfl)
                try simp only [Act.put, List.setIfInBounds_toArray, List.set_cons_zero, List.set_cons_succ, List.getElem_toArray, List.getElem_cons_zero, List.getElem_cons_succ]
                refine wpAnyH_take (i := 18) (v := ?v23) rfl (by kernel_rfl) (by kernel_rfl) (by kernel_rfl) (fun _ _ _ h => h) (Or.inl ⟨by rfl, fun w hSw => ?y23⟩) trivial ?r23
                case y23 => (try dsimp only at hSw); first | (go_simp; done) | (go_simp; with_reducible rfl)
                try simp only [Act.put, List.setIfInBounds_toArray, List.set_cons_zero, List.set_cons_succ, List.getElem_toArray, List.getElem_cons_zero, List.getElem_cons_succ]
                refine wpAnyH_take (i := 19) (v := ?v24) rfl (by kernel_rfl) (by kernel_rfl) (by kernel_rfl) (fun _ _ _ h => h) (Or.inl ⟨by rfl, fun w hSw => ?y24⟩) trivial ?r24
                case y24 => (try dsimp only at hSw); first | (go_simp; done) | (go_simp; with_reducible rfl)
                try simp only [Act.put, List.setIfInBounds_toArray, List.set_cons_zero, List.set_cons_succ, List.getElem_toArray, List.getElem_cons_zero, List.getElem_cons_succ]
                refine wpAnyH_done (by kernel_rfl) ?_ _
                have HB7 := Lib.hid (HB4.out.trans ((((((show Drawn w4 w4.drew from ⟨1, rfl⟩).below w4.heap.size).trans hb1).trans (hb2.mono hb1.size)).trans (hb3.mono (Nat.le_trans hb1.size hb2.size))).mono HB4.out.size))
                clear hb1 hb2 hb3 hcell hcell2 hcell3
                go_wp2_with fail
                go_roundw
                case rel => exact ⟨a2 + 1, b, _, hn12, by rw [← HAP.out], rfl, by congr 1; omega, HD2, HB7⟩
                case measure => simp [intOf]; omega
          · go_wp2_with fail
            refine wp_region_held_drew (S := fun _ => True) (by kernel_rfl) trivial (fun hHeld => ?_)
            refine wpAnyH_take (i := 0) (v := ?v25) rfl (by kernel_rfl) (by kernel_rfl) (by kernel_rfl) (fun _ _ _ h => h) (Or.inl ⟨by rfl, fun w hSw => ?y25⟩) trivial ?r25
            case y25 => (try dsimp only at hSw); first | (go_simp; done) | (go_simp; with_reducible rfl)
            try simp only [Act.put, List.setIfInBounds_toArray, List.set_cons_zero, List.set_cons_succ, List.getElem_toArray, List.getElem_cons_zero, List.getElem_cons_succ]
            refine wpAnyH_take (i := 4) (v := ?v26) rfl (by kernel_rfl) (by kernel_rfl) (by kernel_rfl) (fun _ _ _ h => h) (Or.inl ⟨by rfl, fun w hSw => ?y26⟩) trivial ?r26
            case y26 => (try dsimp only at hSw); first | (go_simp; done) | (go_simp; with_reducible rfl)
            try simp only [Act.put, List.setIfInBounds_toArray, List.set_cons_zero, List.set_cons_succ, List.getElem_toArray, List.getElem_cons_zero, List.getElem_cons_succ]
            refine wpAnyH_take (i := 5) (v := ?v27) rfl (by kernel_rfl) (by kernel_rfl) (by kernel_rfl) (fun _ _ _ h => h) (Or.inl ⟨by rfl, fun w hSw => ?y27⟩) trivial ?r27
            case y27 => (try dsimp only at hSw); first | (go_simp; done) | (go_simp; with_reducible rfl)
            try simp only [Act.put, List.setIfInBounds_toArray, List.set_cons_zero, List.set_cons_succ, List.getElem_toArray, List.getElem_cons_zero, List.getElem_cons_succ]
            refine wpAnyH_take (i := 6) (v := ?v28) rfl (by kernel_rfl) (by kernel_rfl) (by kernel_rfl) (fun _ _ _ h => h) (Or.inl ⟨by rfl, fun w hSw => ?y28⟩) trivial ?r28
            case y28 => (try dsimp only at hSw); first | (go_simp; done) | (go_simp; with_reducible rfl)
            try simp only [Act.put, List.setIfInBounds_toArray, List.set_cons_zero, List.set_cons_succ, List.getElem_toArray, List.getElem_cons_zero, List.getElem_cons_succ]
            refine wpAnyH_take (i := 7) (v := ?v29) rfl (by kernel_rfl) (by kernel_rfl) (by kernel_rfl) (fun _ _ _ h => h) (Or.inl ⟨by rfl, fun w hSw => ?y29⟩) trivial ?r29
            case y29 => (try dsimp only at hSw); first | (go_simp; done) | (go_simp; with_reducible rfl)
            try simp only [Act.put, List.setIfInBounds_toArray, List.set_cons_zero, List.set_cons_succ, List.getElem_toArray, List.getElem_cons_zero, List.getElem_cons_succ]
            refine wpAnyH_take (i := 8) (v := ?v30) rfl (by kernel_rfl) (by kernel_rfl) (by kernel_rfl) (fun _ _ _ h => h) (Or.inl ⟨by rfl, fun w hSw => ?y30⟩) trivial ?r30
            case y30 => (try dsimp only at hSw); first | (go_simp; done) | (go_simp; with_reducible rfl)
            try simp only [Act.put, List.setIfInBounds_toArray, List.set_cons_zero, List.set_cons_succ, List.getElem_toArray, List.getElem_cons_zero, List.getElem_cons_succ]
            refine wpAnyH_take (i := 11) (v := ?v31) rfl (by kernel_rfl) (by kernel_rfl) (by kernel_rfl) (fun _ _ _ h => h) (Or.inl ⟨by rfl, fun w hSw => ?y31⟩) trivial ?r31
            case y31 => (try dsimp only at hSw); first | (go_simp; done) | (go_simp; with_reducible rfl)
            try simp only [Act.put, List.setIfInBounds_toArray, List.set_cons_zero, List.set_cons_succ, List.getElem_toArray, List.getElem_cons_zero, List.getElem_cons_succ]
            refine wpAnyH_take (i := 12) (v := ?v32) rfl (by kernel_rfl) (by kernel_rfl) (by kernel_rfl) (fun _ _ _ h => h) (Or.inl ⟨by rfl, fun w hSw => ?y32⟩) trivial ?r32
            case y32 => (try dsimp only at hSw); first | (go_simp; done) | (go_simp; with_reducible rfl)
            try simp only [Act.put, List.setIfInBounds_toArray, List.set_cons_zero, List.set_cons_succ, List.getElem_toArray, List.getElem_cons_zero, List.getElem_cons_succ]
            refine wpAnyH_take (i := 13) (v := ?v33) rfl (by kernel_rfl) (by kernel_rfl) (by kernel_rfl) (fun _ _ _ h => h) (Or.inl ⟨by rfl, fun w hSw => ?y33⟩) trivial ?r33
            case y33 => (try dsimp only at hSw); first | (go_simp; done) | (go_simp; with_reducible rfl)
            try simp only [Act.put, List.setIfInBounds_toArray, List.set_cons_zero, List.set_cons_succ, List.getElem_toArray, List.getElem_cons_zero, List.getElem_cons_succ]
            refine wpAnyH_take (i := 14) (v := ?v34) rfl (by kernel_rfl) (by kernel_rfl) (by kernel_rfl) (fun _ _ _ h => h) (Or.inl ⟨by rfl, fun w hSw => ?y34⟩) trivial ?r34
            case y34 => (try dsimp only at hSw); first | (go_simp; done) | (go_simp; with_reducible rfl)
            try simp only [Act.put, List.setIfInBounds_toArray, List.set_cons_zero, List.set_cons_succ, List.getElem_toArray, List.getElem_cons_zero, List.getElem_cons_succ]
            refine wpAnyH_take (i := 15) (v := ?v35) rfl (by kernel_rfl) (by kernel_rfl) (by kernel_rfl) (fun _ _ _ h => h) (Or.inl ⟨by rfl, fun w hSw => ?y35⟩) trivial ?r35
            case y35 => (try dsimp only at hSw); first | (go_simp; done) | (go_simp; with_reducible rfl)
            try simp only [Act.put, List.setIfInBounds_toArray, List.set_cons_zero, List.set_cons_succ, List.getElem_toArray, List.getElem_cons_zero, List.getElem_cons_succ]
            refine wpAnyH_ready (rs := [1]) (by kernel_rfl) (by simp) ?_
            refine AllReadyH.cons rfl (fun K hK => ?_) AllReadyH.nil
            go_simp
            refine (HCE.out _).mono ?_
            rintro e z1 ⟨hb1, bb, off, cc, rfl, hbb, hcell⟩
            go_wp2_with fail
            refine hK.out _ _ trivial (fun hH1 => ?_)
            clear hK K
            try simp only [Act.put, List.setIfInBounds_toArray, List.set_cons_zero, List.set_cons_succ, List.getElem_toArray, List.getElem_cons_zero, List.getElem_cons_succ]
            refine wpAnyH_take (i := 2) (v := ?v36) rfl (by kernel_rfl) (by kernel_rfl) (by kernel_rfl) (fun _ _ _ h => h) (Or.inl ⟨by rfl, fun w hSw => ?y36⟩) trivial ?r36
            case y36 => (try dsimp only at hSw); first | (go_simp; done) | (go_simp; with_reducible rfl)
            try simp only [Act.put, List.setIfInBounds_toArray, List.set_cons_zero, List.set_cons_succ, List.getElem_toArray, List.getElem_cons_zero, List.getElem_cons_succ]
            refine wpAnyH_ready (rs := [3, 9]) (by kernel_rfl) (by simp) ?_
            refine AllReadyH.cons rfl (fun K hK => ?_) (AllReadyH.cons rfl (fun K hK => ?_) AllReadyH.nil)
            · go_simp
              refine hK.out _ _ trivial (fun _ => ?_)
              clear hK K
              try simp only [Act.put, List.setIfInBounds_toArray, List.set_cons_zero, List.set_cons_succ, List.getElem_toArray, List.getElem_cons_zero, List.getElem_cons_succ]
              refine wpAnyH_ready (rs := [9]) (by kernel_rfl) (by simp) ?_
              refine AllReadyH.cons rfl (fun K hK => ?_) AllReadyH.nil
              go_simp
              first | rw [hwx] | skip
              refine (HT1.out _).mono ?_
              rintro e z2 ⟨rfl, hb2⟩
              have hcell2 := (hb2.cell (p := ⟨bb, off + 7, none⟩) hbb).trans hcell
              go_wp2_with fail
              refine hK.out _ _ trivial (fun hH2 => ?_)
              clear hK K
              try simp only [Act.put, List.setIfInBounds_toArray, List.set_cons_zero, List.set_cons_succ, List.getElem_toArray, List.getElem_cons_zero, List.getElem_cons_succ]
              refine wpAnyH_take (i := 10) (v := ?v37) rfl (by kernel_rfl) (by kernel_rfl) (by kernel_rfl) (fun _ _ _ h => h) (Or.inl ⟨by rfl, fun w hSw => ?y37⟩) trivial ?r37
              case y37 => (try dsimp only at hSw); first | (go_simp; done) | (go_simp; with_reducible rfl)
              try simp only [Act.put, List.setIfInBounds_toArray, List.set_cons_zero, List.set_cons_succ, List.getElem_toArray, List.getElem_cons_zero, List.getElem_cons_succ]
              refine wpAnyH_ready (rs := [16]) (by kernel_rfl) (by simp) ?_
              refine AllReadyH.cons rfl (fun K hK => ?_) AllReadyH.nil
              go_simp
              first | rw [hwy] | skip
              refine (HT2.out _).mono ?_
              rintro e z3 ⟨rfl, hb3⟩
              have hcell3 := (hb3.cell (p := ⟨bb, off + 7, none⟩) (Nat.lt_of_lt_of_le hbb hb2.size)).trans hcell2
              go_wp2_with fail
              refine hK.out _ _ trivial (fun hH3 => ?_)
              clear hK K
              try simp only [Act.put, List.setIfInBounds_toArray, List.set_cons_zero, List.set_cons_succ, List.getElem_toArray, List.getElem_cons_zero, List.getElem_cons_succ]
              refine wpAnyH_take (i := 17) (v := ?v38) rfl (by kernel_rfl) (by kernel_rfl) (by kernel_rfl) (fun _ _ _ h => h) (Or.inl ⟨by rfl, fun w hSw => ?y38⟩) trivial ?r38
              case y38 => (try dsimp only at hSw); first | (go_simp; done) | (go_simp; with_reducible rfl)
              try simp only [Act.put, List.setIfInBounds_toArray, List.set_cons_zero, List.set_cons_succ, List.getElem_toArray, List.getElem_cons_zero, List.getElem_cons_succ]
              refine wpAnyH_take (i := 18) (v := ?v39) rfl (by kernel_rfl) (by kernel_rfl) (by kernel_rfl) (fun _ _ _ h => h) (Or.inl ⟨by rfl, fun w hSw => ?y39⟩) trivial ?r39
              case y39 => (try dsimp only at hSw); first | (go_simp; done) | (go_simp; with_reducible rfl)
              try simp only [Act.put, List.setIfInBounds_toArray, List.set_cons_zero, List.set_cons_succ, List.getElem_toArray, List.getElem_cons_zero, List.getElem_cons_succ]
              refine wpAnyH_take (i := 19) (v := ?v40) rfl (by kernel_rfl) (by kernel_rfl) (by kernel_rfl) (fun _ _ _ h => h) (Or.inl ⟨by rfl, fun w hSw => ?y40⟩) trivial ?r40
              case y40 => (try dsimp only at hSw); first | (go_simp; done) | (go_simp; with_reducible rfl)
              try simp only [Act.put, List.setIfInBounds_toArray, List.set_cons_zero, List.set_cons_succ, List.getElem_toArray, List.getElem_cons_zero, List.getElem_cons_succ]
              refine wpAnyH_done (by kernel_rfl) ?_ _
              have HB7 := Lib.hid (HB4.out.trans ((((((show Drawn w4 w4.drew from ⟨1, rfl⟩).below w4.heap.size).trans hb1).trans (hb2.mono hb1.size)).trans (hb3.mono (Nat.le_trans hb1.size hb2.size))).mono HB4.out.size))
              clear hb1 hb2 hb3 hcell hcell2 hcell3
              go_wp2_with fail
              go_roundw
              case rel => exact ⟨a2 + 1, b, _, hn12, by rw [← HAP.out], rfl, by congr 1; omega, HD2, HB7⟩
              case measure => simp [intOf]; omega
            · go_simp
              first | rw [hwx] | skip
              refine (HT1.out _).mono ?_
              rintro e z2 ⟨rfl, hb2⟩
              have hcell2 := (hb2.cell (p := ⟨bb, off + 7, none⟩) hbb).trans hcell
              go_wp2_with fail
              refine hK.out _ _ trivial (fun _ => ?_)
              clear hK K
              try simp only [Act.put, List.setIfInBounds_toArray, List.set_cons_zero, List.set_cons_succ, List.getElem_toArray, List.getElem_cons_zero, List.getElem_cons_succ]
              refine wpAnyH_ready (rs := [3, 16]) (by kernel_rfl) (by simp) ?_
              refine AllReadyH.cons rfl (fun K hK => ?_) (AllReadyH.cons rfl (fun K hK => ?_) AllReadyH.nil)
              · go_simp
                refine hK.out _ _ trivial (fun _ => ?_)
                clear hK K
                try simp only [Act.put, List.setIfInBounds_toArray, List.set_cons_zero, List.set_cons_succ, List.getElem_toArray, List.getElem_cons_zero, List.getElem_cons_succ]
                refine wpAnyH_take (i := 10) (v := ?v41) rfl (by kernel_rfl) (by kernel_rfl) (by kernel_rfl) (fun _ _ _ h => h) (Or.inl ⟨by rfl, fun w hSw => ?y41⟩) trivial ?r41
                case y41 => (try dsimp only at hSw); first | (go_simp; done) | (go_simp; with_reducible rfl)
                try simp only [Act.put, List.setIfInBounds_toArray, List.set_cons_zero, List.set_cons_succ, List.getElem_toArray, List.getElem_cons_zero, List.getElem_cons_succ]
                refine wpAnyH_ready (rs := [16]) (by kernel_rfl) (by simp) ?_
                refine AllReadyH.cons rfl (fun K hK => ?_) AllReadyH.nil
                go_simp
                first | rw [hwy] | skip
                refine (HT2.out _).mono ?_
                rintro e z3 ⟨rfl, hb3⟩
                have hcell3 := (hb3.cell (p := ⟨bb, off + 7, none⟩) (Nat.lt_of_lt_of_le hbb hb2.size)).trans hcell2
                go_wp2_with fail
                refine hK.out _ _ trivial (fun hH3 => ?_)
                clear hK K
                try simp only [Act.put, List.setIfInBounds_toArray, List.set_cons_zero, List.set_cons_succ, List.getElem_toArray, List.getElem_cons_zero, List.getElem_cons_succ]
                refine wpAnyH_take (i := 17) (v := ?v42) rfl (by kernel_rfl) (by kernel_rfl) (by kernel_rfl) (fun _ _ _ h => h) (Or.inl ⟨by rfl, fun w hSw => ?y42⟩) trivial ?r42
                case y42 => (try dsimp only at hSw); first | (go_simp; done) | (go_simp; with_reducible rfl)
                try simp only [Act.put, List.setIfInBounds_toArray, List.set_cons_zero, List.set_cons_succ, List.getElem_toArray, List.getElem_cons_zero, List.getElem_cons_succ]
                refine wpAnyH_take (i := 18) (v := ?v43) rfl (by kernel_rfl) (by kernel_rfl) (by kernel_rfl) (fun _ _ _ h => h) (Or.inl ⟨by rfl, fun w hSw => ?y43⟩) trivial ?r43
                case y43 => (try dsimp only at hSw); first | (go_simp; done) | (go_simp; with_reducible rfl)
                try simp only [Act.put, List.setIfInBounds_toArray, List.set_cons_zero, List.set_cons_succ, List.getElem_toArray, List.getElem_cons_zero, List.getElem_cons_succ]
                refine wpAnyH_take (i := 19) (v := ?v44) rfl (by kernel_rfl) (by kernel_rfl) (by kernel_rfl) (fun _ _ _ h => h) (Or.inl ⟨by rfl, fun w hSw => ?y44⟩) trivial ?r44
                case y44 => (try dsimp only at hSw); first | (go_simp; done) | (go_simp; with_reducible rfl)
                try simp only [Act.put, List.setIfInBounds_toArray, List.set_cons_zero, List.set_cons_succ, List.getElem_toArray, List.getElem_cons_zero, List.getElem_cons_succ]
                refine wpAnyH_done (by kernel_rfl) ?_ _
                have HB7 := Lib.hid (HB4.out.trans ((((((show Drawn w4 w4.drew from ⟨1, rfl⟩).below w4.heap.size).trans hb1).trans (hb2.mono hb1.size)).trans (hb3.mono (Nat.le_trans hb1.size hb2.size))).mono HB4.out.size))
                clear hb1 hb2 hb3 hcell hcell2 hcell3
                go_wp2_with fail
                go_roundw
                case rel => exact ⟨a2 + 1, b, _, hn12, by rw [← HAP.out], rfl, by congr 1; omega, HD2, HB7⟩
                case measure => simp [intOf]; omega
              · go_simp
                first | rw [hwy] | skip
                refine (HT2.out _).mono ?_
                rintro e z3 ⟨rfl, hb3⟩
                have hcell3 := (hb3.cell (p := ⟨bb, off + 7, none⟩) (Nat.lt_of_lt_of_le hbb hb2.size)).trans hcell2
                go_wp2_with fail
                refine hK.out _ _ trivial (fun _ => ?_)
                clear hK K
                try simp only [Act.put, List.setIfInBounds_toArray, List.set_cons_zero, List.set_cons_succ, List.getElem_toArray, List.getElem_cons_zero, List.getElem_cons_succ]
                refine wpAnyH_ready (rs := [3]) (by kernel_rfl) (by simp) ?_
                refine AllReadyH.cons rfl (fun K hK => ?_) AllReadyH.nil
                go_simp
                refine hK.out _ _ trivial (fun hH4 => ?_)
                clear hK K
                try simp only [Act.put, List.setIfInBounds_toArray, List.set_cons_zero, List.set_cons_succ, List.getElem_toArray, List.getElem_cons_zero, List.getElem_cons_succ]
                refine wpAnyH_take (i := 10) (v := ?v45) rfl (by kernel_rfl) (by kernel_rfl) (by kernel_rfl) (fun _ _ _ h => h) (Or.inl ⟨by rfl, fun w hSw => ?y45⟩) trivial ?r45
                case y45 => (try dsimp only at hSw); first | (go_simp; done) | (go_simp; with_reducible rfl)
                try simp only [Act.put, List.setIfInBounds_toArray, List.set_cons_zero, List.set_cons_succ, List.getElem_toArray, List.getElem_cons_zero, List.getElem_cons_succ]
                refine wpAnyH_take (i := 17) (v := ?v46) rfl (by kernel_rfl) (by kernel_rfl) (by kernel_rfl) (fun _ _ _ h => h) (Or.inl ⟨by rfl, fun w hSw => ?y46⟩) trivial ?r46
                case y46 => (try dsimp only at hSw); first | (go_simp; done) | (go_simp; with_reducible rfl)
                try simp only [Act.put, List.setIfInBounds_toArray, List.set_cons_zero, List.set_cons_succ, List.getElem_toArray, List.getElem_cons_zero, List.getElem_cons_succ]
                refine wpAnyH_take (i := 18) (v := ?v47) rfl (by kernel_rfl) (by kernel_rfl) (by kernel_rfl) (fun _ _ _ h => h) (Or.inl ⟨by rfl, fun w hSw => ?y47⟩) trivial ?r47
                case y47 => (try dsimp only at hSw); first | (go_simp; done) | (go_simp; with_reducible rfl)
                try simp only [Act.put, List.setIfInBounds_toArray, List.set_cons_zero, List.set_cons_succ, List.getElem_toArray, List.getElem_cons_zero, List.getElem_cons_succ]
                refine wpAnyH_take (i := 19) (v := ?v48) rfl (by kernel_rfl) (by kernel_rfl) (by kernel_rfl) (fun _ _ _ h => h) (Or.inl ⟨by rfl, fun w hSw => ?y48⟩) trivial ?r48
                case y48 => (try dsimp only at hSw); first | (go_simp; done) | (go_simp; with_reducible rfl)
                try simp only [Act.put, List.setIfInBounds_toArray, List.set_cons_zero, List.set_cons_succ, List.getElem_toArray, List.getElem_cons_zero, List.getElem_cons_succ]
                refine wpAnyH_done (by kernel_rfl) ?_ _
                have HB7 := Lib.hid (HB4.out.trans ((((((show Drawn w4 w4.drew from ⟨1, rfl⟩).below w4.heap.size).trans hb1).trans (hb2.mono hb1.size)).trans (hb3.mono (Nat.le_trans hb1.size hb2.size))).mono HB4.out.size))
                clear hb1 hb2 hb3 hcell hcell2 hcell3
                go_wp2_with fail
                go_roundw
                case rel => exact ⟨a2 + 1, b, _, hn12, by rw [← HAP.out], rfl, by congr 1; omega, HD2, HB7⟩
                case measure => simp [intOf]; omega
    · have hd : decide ((a : Int) - 1 < (n : Int)) = false := by simp; omega
      have HF : Hid (d = R) := Lib.hid (by
        have h2 := HD.out
        rw [againstA_end b (by omega), List.append_nil] at h2
        exact h2)
      have HBF := Lib.hid (HB2.out.trans (HBr.out.mono HB2.out.size))
      go_wp2_with fail
      go_ret
      exact ⟨by rw [← HF.out]; rfl, HBF.out⟩
end Go.Proofs.YtmbfgejephgojaaDoor.Mh


/- The contracts of Words and Modes: the words of the tables, and what they mean. -/
import Derived.Test.YtplbbejdnahibaaDoorFyA
import Derived.Test.YtplbbejdnahibaaDoorFyB
namespace Go.Proofs.YtplbbejdnahibaaDoor.Fx
open Go.RowKit Go.Proofs.YtplbbejdnahibaaDoor.Oct Go.Proofs.YtplbbejdnahibaaDoor.Bit Go.Proofs.YtplbbejdnahibaaDoor.Hf Go.Proofs.YtplbbejdnahibaaDoor.Inf
set_option linter.unusedVariables false
set_option linter.unusedSimpArgs false
set_option maxRecDepth 100000

theorem vals_new (w : World) (vs : List Value) (T : TypeId) (fr : Nat × Nat) : VRow (w.alloc (.cells vs.toArray T fr)) (w.alloc (.cells vs.toArray T fr)).heap.size (some ⟨w.heap.size, 0, none⟩) vs :=
  vrow_blk (T := T) (fr := fr) (by
    show (w.heap.push _)[w.heap.size]? = _
    simp) (by simp)
/-- a new row of these values -/
def NewV (w : World) (vs : List Value) (q : Option Addr) (c : Nat) (w' : World) : Prop := VRow w' w'.heap.size q vs ∧ (q = none → c = 0) ∧ vs.length ≤ c ∧ c ≤ maxLen ∧ ∀ a, q = some a → w.heap.size ≤ a.block
def RowN (w : World) (vs : List Value) (e : Ending) (w' : World) : Prop := Below w.heap.size w w' ∧ ∃ q c, e = .returned (.slice q vs.length c) ∧ NewV w vs q c w'
theorem NewV.below {w w1 w2 : World} {vs : List Value} {q : Option Addr} {c : Nat} (h : NewV w vs q c w1) (hb : Below w1.heap.size w1 w2) : NewV w vs q c w2 := ⟨(h.1.below hb (Nat.le_refl _)).mono hb.size, h.2⟩
theorem NewV.from {w w0 w1 : World} {vs : List Value} {q : Option Addr} {c : Nat} (h : NewV w vs q c w1) (hb : w0.heap.size ≤ w.heap.size) : NewV w0 vs q c w1 := ⟨h.1, h.2.1, h.2.2.1, h.2.2.2.1, fun a ha => Nat.le_trans hb (h.2.2.2.2 a ha)⟩

theorem cntF_le : ∀ (b : Bool) (l : List UInt8), Lib.cntF b l ≤ l.length + 1
  | b, [] => by rw [show Lib.cntF b [] = 0 from rfl]; omega
  | b, x :: l => by
    rw [Lib.cntF_step, List.length_cons]
    have := cntF_le (Lib.isSp x) l
    split <;> omega
/-- a text that is split is these words -/
theorem fields_is (W : List (List Bool)) (s : ByteArray) (w : World) (hk : (Lib.fields s.data.toList).map (fun l => Value.string ⟨l.toArray⟩) = strs (wordsU W)) (hs : decide (s.size < 4294967281) = true) (ha : s.data.toList.all (fun b => decide (b.toNat < 128)) = true) (hT : Tab w) :
    Calls Tryd.prog 30 #[.string s] w (RowN w (strs (wordsU W))) := by
  refine (fields_any s w (of_decide_eq_true hs) ha hT).mono ?_
  rintro e w' ⟨rfl, rfl⟩
  have hl := congrArg List.length hk
  rw [List.length_map, strs_length] at hl
  rw [hk, hl]
  refine ⟨(Below.refl _ w).alloc (Nat.le_refl _) _, some ⟨w.heap.size, 0, none⟩, (wordsU W).length, by rw [strs_length], ⟨vals_new _ _ _ _, (fun h => by cases h), by rw [strs_length]; exact Nat.le_refl _, ?_, fun a h => by injection h with h; subst h; exact Nat.le_refl _⟩⟩
  have h2 := of_decide_eq_true hs
  have h3 : (wordsU W).length ≤ s.data.toList.length + 1 := by
    rw [← hl, Lib.fields_length]
    exact cntF_le _ _
  have h4 : s.data.toList.length = s.size := (Lib.size_eq s).symm
  unfold maxLen
  omega

/-- the lengths that words tell, of the first so many -/
def lensF (n : Nat) : List Int := (List.range n).map fun i => ((lenF i : Nat) : Int)
theorem lensF_length (n : Nat) : (lensF n).length = n := by simp [lensF]
theorem lensF_succ (n : Nat) : lensF (n + 1) = lensF n ++ [((lenF n : Nat) : Int)] := by simp [lensF, List.range_succ]
theorem lensF_get {n i : Nat} (h : i < n) : (ints (lensF n))[i]? = some (.int .i64 ((lenF i : Nat) : Int)) := by simp [ints, lensF, h]
/-- the modes, of the first so many -/
def modesN (n : Nat) : List Int := (List.range n).map fun i : Nat => (i : Int) - 3
theorem modesN_length (n : Nat) : (modesN n).length = n := by simp [modesN]
theorem modesN_succ (n : Nat) : modesN (n + 1) = modesN n ++ [(n : Int) - 3] := by simp [modesN, List.range_succ]
theorem modesN_get {n i : Nat} (h : i < n) : (ints (modesN n))[i]? = some (.int .i64 ((i : Int) - 3)) := by simp [ints, modesN, h]

set_option maxHeartbeats 1000000 in
theorem lengths_any (w : World) : Calls Tryd.prog 31 #[] w (RowN w (ints (lensF 104))) := by
  obtain ⟨i0, hi, hz0, hz1, hz2⟩ := info_parts Tryd.infoInt
  go_enter Tryd.func31, Tryd.ntmps31
  go_wp2_with fail
  go_loopw [1, 2, 4] (fun u v i wr => ∃ k : Nat, k ≤ 64 ∧ i = .int .i64 (k : Int) ∧ Hid (wr.ownsRow w.heap.size 3 1 u k (ints (lensF k))) ∧ Hid (Below w.heap.size w wr)) (fun _ _ i _ => 64 - (intOf i).toNat)
  case atStart => exact ⟨0, by omega, rfl, Lib.hid (by simpa [lensF, ints] using World.ownsRow_nil w w.heap.size 3 1), Lib.hid (Below.refl _ _)⟩
  case round =>
    obtain ⟨k, hk, rfl, HO, HB⟩ := hrel
    by_cases hlt : k < 64
    · have hd : decide ((k : Int) < (64 : Int)) = true := by simp; omega
      have hb1 : Below wr.heap.size wr (wr.alloc (.cells (ints [(k : Int)]).toArray 3)) := (Below.refl _ wr).alloc (Nat.le_refl _) _
      have HS := Lib.hid (vals_new wr (ints [(k : Int)]) 3 (0, 0))
      have HO2 := Lib.hid (own_below HO.out hb1)
      have HB2 := Lib.hid (HB.out.trans (hb1.mono HB.out.size))
      have HZ := Lib.hid HB2.out.size
      have HLF := Lib.hid (show lensF (k + 1) = lensF k ++ [(k : Int)] by rw [lensF_succ, lenF, if_pos hlt])
      clear hb1
      go_wp2_with (at_builtin; refine wpList_append_vals Tryd.underlying23 hi hz0 hz1 hz2 rfl (by decide) rfl _ _ rfl w.heap.size _ k (ints (lensF k)) rfl HO2.out (some ⟨wr.heap.size, 0, none⟩) 1 1 (ints [(k : Int)]) rfl HS.out rfl (fun h => by cases h) ints_one (by omega) HZ.out ?_)
      intro v2 w2 hown2 _ hb3
      rw [← ints_append, ← HLF.out] at hown2
      have HO3 := Lib.hid hown2
      have HB3 := Lib.hid (HB2.out.trans hb3)
      clear hown2 hb3
      go_wp2_with fail
      go_roundw
      case rel => exact ⟨k + 1, by omega, by go_num, HO3, HB3⟩
      case measure => simp [intOf]; omega
    · have hke : k = 64 := by omega
      have hd : decide ((k : Int) < (64 : Int)) = false := by simp; omega
      have HO64 : Hid (wr.ownsRow w.heap.size 3 1 u1 64 (ints (lensF 64))) := hke ▸ HO
      obtain ⟨wA, hwA⟩ : ∃ wA, wA = wr := ⟨_, rfl⟩
      rw [← hwA] at HO64 HB ⊢
      clear hlt hk hwA hke HO
      go_wp2_with fail
      go_loopw [1, 3] (fun u i wr => ∃ k : Nat, 64 ≤ k ∧ k ≤ 104 ∧ i = .int .i64 ((lenF k : Nat) : Int) ∧ Hid (wr.ownsRow w.heap.size 3 1 u k (ints (lensF k))) ∧ Hid (Below w.heap.size w wr)) (fun _ i _ => 2624 - (intOf i).toNat)
      case atStart => exact ⟨64, by omega, by omega, rfl, HO64, HB⟩
      case round =>
        obtain ⟨k, hk1, hk2, rfl, HO, HB⟩ := hrel
        have hlf : lenF k = 64 * (k - 63) := by rw [lenF, if_neg (by omega)]
        have hlf2 : lenF (k + 1) = lenF k + 64 := by rw [hlf, lenF, if_neg (by omega)]; omega
        have HLF := Lib.hid (lensF_succ k)
        have HL2 := Lib.hid hlf2
        have HL1 := Lib.hid hlf
        by_cases hlt : k < 104
        · have hb : lenF k ≤ 2560 := by omega
          generalize lenF k = n at *
          have hd : decide ((n : Int) ≤ (2560 : Int)) = true := by simp; omega
          have hb1 : Below wr.heap.size wr (wr.alloc (.cells (ints [(n : Int)]).toArray 3)) := (Below.refl _ wr).alloc (Nat.le_refl _) _
          have HS := Lib.hid (vals_new wr (ints [(n : Int)]) 3 (0, 0))
          have HO2 := Lib.hid (own_below HO.out hb1)
          have HB2 := Lib.hid (HB.out.trans (hb1.mono HB.out.size))
          have HZ := Lib.hid HB2.out.size
          clear hb1 hlf hlf2
          go_wp2_with (at_builtin; refine wpList_append_vals Tryd.underlying23 hi hz0 hz1 hz2 rfl (by decide) rfl _ _ rfl w.heap.size _ k (ints (lensF k)) rfl HO2.out (some ⟨wr.heap.size, 0, none⟩) 1 1 (ints [(n : Int)]) rfl HS.out rfl (fun h => by cases h) ints_one (by omega) HZ.out ?_)
          intro v2 w2 hown2 _ hb3
          rw [← ints_append, ← HLF.out] at hown2
          have HO3 := Lib.hid hown2
          have HB3 := Lib.hid (HB2.out.trans hb3)
          clear hown2 hb3
          go_wp2_with fail
          go_roundw
          case rel => exact ⟨k + 1, by omega, by omega, by rw [HL2.out]; go_num, HO3, HB3⟩
          case measure => simp [intOf]; omega
        · have hke : k = 104 := by omega
          subst hke
          obtain ⟨q, c, rfl, hq0, hlc, hcm, hv, hqb⟩ := vrow_own HO.out (by rw [ints_length, lensF_length])
          have HQ0 := Lib.hid hq0
          have HV := Lib.hid hv
          have HLC := Lib.hid hlc
          have HCM := Lib.hid hcm
          have HQB := Lib.hid hqb
          have hd : decide (((lenF 104 : Nat) : Int) ≤ (2560 : Int)) = false := by decide
          clear hq0 hv hlc hcm hqb hlf hlf2 hlt
          go_wp2_with fail
          go_ret
          exact ⟨HB.out, q, c, by rw [ints_length, lensF_length]; rfl, HV.out, HQ0.out, by rw [ints_length, lensF_length]; exact HLC.out, HCM.out, HQB.out⟩

/-- two new rows -/
def TwoN (w : World) (us vs : List Value) (e : Ending) (w' : World) : Prop := Below w.heap.size w w' ∧ ∃ p c q d, e = .returned (.tuple #[.slice p us.length c, .slice q vs.length d]) ∧ NewV w us p c w' ∧ NewV w vs q d w'
set_option maxHeartbeats 1000000 in
theorem words_any (b : Bool) (w : World) (hT : Tab w) : Calls Tryd.prog 7 #[.bool b] w (TwoN w (strs (wordsU (wordsF b))) (ints (lensF 104))) := by
  have HT := Lib.hid hT
  clear hT
  go_enter Tryd.func7, Tryd.ntmps7
  cases b
  · go_wp2_with fail
    refine (fields_is (wordsF false) _ w (by kernel_rfl) (by kernel_rfl) (by kernel_rfl) HT.out).mono ?_
    rintro e w1 ⟨hb1, q, c, rfl, hv⟩
    have HB1 := Lib.hid hb1
    have HV := Lib.hid hv
    clear hb1 hv
    go_wp2_with fail
    refine (lengths_any w1).mono ?_
    rintro e w2 ⟨hb2, q2, c2, rfl, hv2⟩
    have HB2 := Lib.hid (HB1.out.trans (hb2.mono HB1.out.size))
    have HV1 := Lib.hid (HV.out.below hb2)
    have HV2 := Lib.hid (hv2.from HB1.out.size)
    clear hb2 hv2
    go_wp2_with fail
    go_ret2
    exact ⟨HB2.out, q, c, q2, c2, rfl, HV1.out, HV2.out⟩
  · go_wp2_with fail
    refine (fields_is (wordsF true) _ w (by kernel_rfl) (by kernel_rfl) (by kernel_rfl) HT.out).mono ?_
    rintro e w1 ⟨hb1, q, c, rfl, hv⟩
    have HB1 := Lib.hid hb1
    have HV := Lib.hid hv
    clear hb1 hv
    go_wp2_with fail
    refine (lengths_any w1).mono ?_
    rintro e w2 ⟨hb2, q2, c2, rfl, hv2⟩
    have HB2 := Lib.hid (HB1.out.trans (hb2.mono HB1.out.size))
    have HV1 := Lib.hid (HV.out.below hb2)
    have HV2 := Lib.hid (hv2.from HB1.out.size)
    clear hb2 hv2
    go_wp2_with fail
    go_ret2
    exact ⟨HB2.out, q, c, q2, c2, rfl, HV1.out, HV2.out⟩
set_option maxHeartbeats 1000000 in
theorem modes_any (w : World) (hT : Tab w) : Calls Tryd.prog 11 #[] w (TwoN w (strs (wordsU modesF)) (ints (modesN 10))) := by
  obtain ⟨i0, hi, hz0, hz1, hz2⟩ := info_parts Tryd.infoMode
  have HT := Lib.hid hT
  clear hT
  go_enter Tryd.func11, Tryd.ntmps11
  go_wp2_with fail
  go_loopw [2, 3] (fun u i wr => ∃ k : Nat, k ≤ 10 ∧ i = .int .i64 ((k : Int) - 3) ∧ Hid (wr.ownsRow w.heap.size 33 1 u k (ints (modesN k))) ∧ Hid (Below w.heap.size w wr)) (fun _ i _ => 10 - (intOf i + 3).toNat)
  case atStart => exact ⟨0, by omega, rfl, Lib.hid (by simpa [modesN, ints] using World.ownsRow_nil w w.heap.size 33 1), Lib.hid (Below.refl _ _)⟩
  case round =>
    obtain ⟨k, hk, rfl, HO, HB⟩ := hrel
    obtain ⟨z, hz⟩ : ∃ z : Int, z = (k : Int) - 3 := ⟨_, rfl⟩
    have hz1' : (k : Int) - 3 = z := hz.symm
    have hzb : -3 ≤ z ∧ z ≤ 7 := by omega
    rw [hz1']
    by_cases hlt : k < 10
    · have hd : decide (z ≤ (6 : Int)) = true := by simp; omega
      have hb1 : Below wr.heap.size wr (wr.alloc (.cells (ints [z]).toArray 33)) := (Below.refl _ wr).alloc (Nat.le_refl _) _
      have HS := Lib.hid (vals_new wr (ints [z]) 33 (0, 0))
      have HO2 := Lib.hid (own_below HO.out hb1)
      have HB2 := Lib.hid (HB.out.trans (hb1.mono HB.out.size))
      have HZ := Lib.hid HB2.out.size
      have HLF := Lib.hid (show modesN (k + 1) = modesN k ++ [z] by rw [modesN_succ, hz])
      have HZE := Lib.hid hz
      obtain ⟨hzb1, hzb2⟩ := hzb
      clear hb1 hz hz1'
      go_wp2_with (at_builtin; refine wpList_append_vals Tryd.underlying29 hi hz0 hz1 hz2 rfl (by decide) rfl _ _ rfl w.heap.size _ k (ints (modesN k)) rfl HO2.out (some ⟨wr.heap.size, 0, none⟩) 1 1 (ints [z]) rfl HS.out rfl (fun h => by cases h) ints_one (by omega) HZ.out ?_)
      intro v2 w2 hown2 _ hb3
      rw [← ints_append, ← HLF.out] at hown2
      have HO3 := Lib.hid hown2
      have HB3 := Lib.hid (HB2.out.trans hb3)
      clear hown2 hb3
      go_wp2_with fail
      go_roundw
      case rel => exact ⟨k + 1, by omega, by rw [HZE.out]; push_cast; congr 1; omega, HO3, HB3⟩
      case measure => simp [intOf]; have := HZE.out; omega
    · have hke : k = 10 := by omega
      have HO10 : Hid (wr.ownsRow w.heap.size 33 1 u2 10 (ints (modesN 10))) := hke ▸ HO
      have hd : decide (z ≤ (6 : Int)) = false := by simp; omega
      obtain ⟨q, c, rfl, hq0, hlc, hcm, hv, hqb⟩ := vrow_own HO10.out (by rw [ints_length, modesN_length])
      have HV : Hid (NewV w (ints (modesN 10)) q c wr) := Lib.hid ⟨hv, hq0, by rw [ints_length, modesN_length]; exact hlc, hcm, hqb⟩
      have HTr := Lib.hid (HT.out.below HB.out HT.out.lt)
      clear hq0 hlc hcm hv hqb hke HO HO10 hz hz1'
      go_wp2_with fail
      refine (fields_is modesF _ wr (by kernel_rfl) (by kernel_rfl) (by kernel_rfl) HTr.out).mono ?_
      rintro e w1 ⟨hb1, q1, c1, rfl, hv1⟩
      have HB1 := Lib.hid (HB.out.trans (hb1.mono HB.out.size))
      have HV1 := Lib.hid (hv1.from HB.out.size)
      have HV2 := Lib.hid (HV.out.below hb1)
      clear hb1 hv1
      go_wp2_with fail
      go_ret2
      exact ⟨HB1.out, q1, c1, q, c, rfl, HV1.out, HV2.out⟩
end Go.Proofs.YtplbbejdnahibaaDoor.Fx

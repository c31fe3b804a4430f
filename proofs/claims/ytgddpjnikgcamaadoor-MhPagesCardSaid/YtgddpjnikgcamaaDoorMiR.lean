
/- The contracts of Encode and Decode. -/
import Derived.Test.YtgddpjnikgcamaaDoorMiQ
namespace Go.Proofs.YtgddpjnikgcamaaDoor.Mh
open Go.RowKit Go.Proofs.YtgddpjnikgcamaaDoor.Oct Go.Proofs.YtgddpjnikgcamaaDoor.Bit
open Go.Proofs.YtgddpjnikgcamaaDoor.Fx (Tab Cd Out OutW WrP CW codes_any rd_only)
open Go.Proofs.YtgddpjnikgcamaaDoor.Rn (changes zl zl_length Valid)
open Go.Proofs.YtgddpjnikgcamaaDoor.Lp (VRow ints ints_length vrow_own)
open Go.Proofs.YtgddpjnikgcamaaDoor.Hf (rdAt rdAt_of)
set_option linter.unusedVariables false
set_option linter.unusedSimpArgs false
set_option maxRecDepth 100000

/-- rows, one behind the other, each from a whole byte on -/
def pageP : List Bool → List (List Bool) → List Bool
  | l, [] => l
  | l, r :: rs => pageP (padL l ++ r) rs
theorem padL_le (l : List Bool) : l.length ≤ (padL l).length := by
  unfold padL
  rw [List.length_append]
  omega
theorem pageP_le : ∀ (rs : List (List Bool)) (l : List Bool), l.length ≤ (pageP l rs).length
  | [], l => Nat.le_refl _
  | r :: rs, l => by
    rw [pageP]
    have h1 := pageP_le rs (padL l ++ r)
    rw [List.length_append] at h1
    have := padL_le l
    omega
def EncP (w : World) (T : List Bool) (e : Ending) (w' : World) : Prop := Below w.heap.size w w' ∧ ∃ q c, e = .returned (.tuple #[.slice q (packB false T).length c, .int .i64 0]) ∧ Row w' q (packB false T) ∧ (q = none → c = 0) ∧ (packB false T).length ≤ c
theorem encode_bad (w : World) (q : Option Addr) (n cap : Nat) (z : Int) (hb : wideM z = false) : Calls Tryd.prog 31 #[.slice q n cap, .int .i64 z] w (ArgR w) := by
  have hok := mwidth_any z w
  rw [hb] at hok
  have HOK := Lib.hid hok
  clear hok hb
  go_enter Tryd.func31, Tryd.ntmps31
  go_wp2_with fail
  refine HOK.out.mono ?_
  rintro e w' ⟨rfl, rfl⟩
  go_wp2_with fail
  go_ret2
  exact ⟨rfl, rfl⟩
set_option maxHeartbeats 4000000 in
theorem encode_any (w : World) (hT : Tab w) (q : Option Addr) (n cap : Nat) (R : List (List Nat)) (wd : Nat) (hR : Tbl w w.heap.size q R) (hn : R.length = n) (hn2 : n ≤ 1000) (hv : ∀ d ∈ R, Valid d wd) (hl : ∀ d ∈ R, d.length ≤ 1000) (h1 : 1 ≤ wd) (hw : wd ≤ 32768) (hb : (pageP [] (R.map (rowC · wd))).length ≤ 1500000) :
    Calls Tryd.prog 31 #[.slice q n cap, .int .i64 (wd : Int)] w (EncP w (pageP [] (R.map (rowC · wd)))) := by
  have hwd : wideM (wd : Int) = true := by unfold wideM; simp; omega
  have hok := mwidth_any (wd : Int) w
  rw [hwd] at hok
  have HOK := Lib.hid hok
  have HT := Lib.hid hT
  have HR := Lib.hid hR
  have HN := Lib.hid hn
  have HV := Lib.hid hv
  have HL := Lib.hid hl
  obtain ⟨T, hTd⟩ : ∃ T, T = pageP [] (R.map (rowC · wd)) := ⟨_, rfl⟩
  have HTD := Lib.hid hTd.symm
  rw [← hTd] at hb ⊢
  clear hok hwd hT hR hn hv hl hTd
  go_enter Tryd.func31, Tryd.ntmps31
  go_wp2_with fail
  refine HOK.out.mono ?_
  rintro e w' ⟨rfl, rfl⟩
  go_wp2_with fail
  refine (newWriter_any false w).mono ?_
  rintro e w1 ⟨hb1, rfl, hw1⟩
  have HB1 := Lib.hid hb1
  have HW1 := Lib.hid hw1
  clear hb1 hw1
  go_wp2_with fail
  refine (codes_any w1 (HT.out.below HB1.out HT.out.lt)).mono ?_
  rintro e w2 ⟨hb2, c, rfl, hc⟩
  have HCW := Lib.hid (CW.first HW1.out rfl HB1.out hb2 hc)
  generalize hgwe : w.heap.size = gw at *
  have HGWE := Lib.hid hgwe
  generalize w1.heap.size = B at *
  generalize w2.heap.size = C at *
  clear hb2 hc HW1 hgwe HOK
  go_wp2_with fail
  go_loopw [9, 10, 18] (fun _ _ s18 wr => ∃ (k : Nat) (v : Value) (l : List Bool), k ≤ n ∧ s18 = .int .i64 (k : Int) ∧ Hid (CW gw w B C c gw v l false wr) ∧ Hid (pageP l ((R.drop k).map (rowC · wd)) = T)) (fun _ _ s18 _ => n - (intOf s18).toNat)
  case atStart => exact ⟨0, _, [], by omega, rfl, HCW, HTD⟩
  case round =>
    obtain ⟨k, v, l, hk, rfl, HS, HP⟩ := hrel
    have hlT : l.length ≤ T.length := by rw [← HP.out]; exact pageP_le _ _
    by_cases hlt : k < n
    · have hkl : k < R.length := by rw [HN.out]; exact hlt
      obtain ⟨bb, off, hq, qk, ck, hcell, hvk, hck⟩ := (HR.out.below HS.out.bel).get hkl
      have hvv := HV.out R[k] (List.getElem_mem hkl)
      have hll := HL.out R[k] (List.getElem_mem hkl)
      have hp := HP.out
      rw [List.drop_eq_getElem_cons hkl, List.map_cons, pageP] at hp
      generalize R[k] = d at *
      subst hq
      have hd : decide ((k : Int) < (n : Int)) = true := by simp; omega
      have i1 : (0 : Int) ≤ (k : Int) := by omega
      have i2 : (k : Int) < (n : Int) := by omega
      have HAL := Lib.hid (walign_any wr gw v l false HS.out.ws (by omega))
      have hpl : (padL l ++ rowC d wd).length ≤ T.length := by rw [← hp]; exact pageP_le _ _
      rw [List.length_append] at hpl
      obtain ⟨m, hm⟩ : ∃ m, m = d.length := ⟨_, rfl⟩
      rw [← hm] at hcell hck hll
      have HM := Lib.hid hm.symm
      have HVK := Lib.hid hvk
      have HVV := Lib.hid hvv
      have HP2 := Lib.hid hp
      clear hvk hvv hp hm hkl
      go_wp2_with fail
      refine HAL.out.mono ?_
      rintro e w3 ⟨rfl, hws3⟩
      have hpd : padL l = l ++ zs (8 * ((l.length + 7) / 8) - l.length) := rfl
      rw [hpd] at hws3
      obtain ⟨v3, h3⟩ := HS.out.wrote hws3
      rw [← hpd] at h3
      have H3 := Lib.hid h3
      have hbb : Below gw wr w3 := by
        have := hws3
        obtain ⟨_, _, ho, _⟩ := hws3
        exact ho.below HS.out.dz (fun kk hkk hm => by have := HS.out.mine kk hm; omega)
      have HWR := Lib.hid (writeRow_any w3 B C c gw v3 (padL l) false qk m ck d wd H3.out.cd H3.out.ws H3.out.out ((HVK.out.below hbb (Nat.le_refl _)).mono H3.out.dz) HM.out HVV.out h1 hw (by omega))
      clear hws3 h3 hpd hbb HAL
      go_wp2_with fail
      refine HWR.out.mono ?_
      rintro e w4 ⟨rfl, hws4⟩
      obtain ⟨v4, h4⟩ := H3.out.wrote hws4
      have H4 := Lib.hid h4
      clear hws4 h4 HWR
      go_wp2_with fail
      go_roundw
      case rel => exact ⟨k + 1, v4, padL l ++ rowC d wd, by omega, by go_num, H4, HP2⟩
      case measure => simp [intOf]; omega
    · have hke : k = n := by omega
      subst hke
      have hd : decide ((k : Int) < (k : Int)) = false := by simp
      have hlT2 : l = T := by
        have h2 := HP.out
        rw [List.drop_of_length_le (by rw [HN.out]; exact Nat.le_refl _), List.map_nil, pageP] at h2
        exact h2
      subst hlT2
      have HBY := Lib.hid (bytes_any wr gw v l false HS.out.ws (by omega))
      go_wp2_with fail
      refine HBY.out.mono ?_
      rintro e w5 ⟨hb5, q5, c5, rfl, hr5, hc5, hm5, hn5, ha5⟩
      have HBF := Lib.hid (HS.out.bel.trans (hb5.mono HS.out.dz))
      have HR5 := Lib.hid hr5
      have HN5 := Lib.hid hn5
      have HC5 := Lib.hid hc5
      clear hb5 hr5 hn5 hc5 hm5 ha5
      go_wp2_with fail
      go_ret2
      exact ⟨by rw [HGWE.out]; exact HBF.out, q5, c5, rfl, HR5.out, HN5.out, HC5.out⟩
/-- so many rows, each from a whole byte on -/
def decB (L : List Bool) (wd : Nat) : Nat → Nat → List (List Bool) → Except Nat (List (List Bool))
  | 0, _, acc => .ok acc
  | j + 1, t, acc => match (readRowA L wd (8 * ((t + 7) / 8)) [] false).2 with
    | .error e => .error e
    | .ok X => decB L wd j (readRowA L wd (8 * ((t + 7) / 8)) [] false).1 (acc ++ [X])
def DecP (w : World) (r : Except Nat (List (List Bool))) (e : Ending) (w' : World) : Prop := Below w.heap.size w w' ∧ match r with
  | .error ce => e = .returned (.tuple #[.slice none 0 0, .int .i64 (ce : Int)])
  | .ok Xs => ∃ q c, e = .returned (.tuple #[.slice q Xs.length c, .int .i64 0]) ∧ Tbl w' w'.heap.size q (Xs.map changes)
theorem decode_bad (w : World) (p : Option Addr) (len cap : Nat) (z n : Int) (hb : wideM z = false ∨ n < 0) : Calls Tryd.prog 28 #[.slice p len cap, .int .i64 z, .int .i64 n] w (ArgR w) := by
  have hok := mwidth_any z w
  by_cases hz : wideM z = true
  · rw [hz] at hok
    have HOK := Lib.hid hok
    have hd : decide (n < 0) = true := by
      rcases hb with h | h
      · rw [hz] at h; cases h
      · simpa using h
    clear hok hb hz
    go_enter Tryd.func28, Tryd.ntmps28
    go_wp2_with fail
    refine HOK.out.mono ?_
    rintro e w' ⟨rfl, rfl⟩
    go_wp2_with fail
    go_ret2
    exact ⟨rfl, rfl⟩
  · have hz' : wideM z = false := by simpa using hz
    rw [hz'] at hok
    have HOK := Lib.hid hok
    clear hok hb hz hz'
    go_enter Tryd.func28, Tryd.ntmps28
    go_wp2_with fail
    refine HOK.out.mono ?_
    rintro e w' ⟨rfl, rfl⟩
    go_wp2_with fail
    go_ret2
    exact ⟨rfl, rfl⟩
theorem lenA_ne0 {L : List Bool} {wd : Nat} {e : Nat} : ∀ (f t : Nat) (P : List Bool) (b : Bool), L.length + 1 ≤ f + t → t ≤ L.length → (readRowA L wd t P b).2 = .error e → ((e : Int) != 0) = true
  | 0, t, P, b, hf, ht, h => by omega
  | f + 1, t, P, b, hf, ht, h => by
    rw [readRowA_eq L wd t P b ht] at h
    have h1 := lenA_lt b (L := L) (most := wd - P.length) (n := 0) ht
    rcases hy : Fx.lenA b L (wd - P.length) t 0 with ⟨t1, c | m⟩
    · rw [hy] at h
      simp only at h
      injection h with h
      subst h
      exact lenA_ne ht (by rw [hy])
    · rw [hy] at h h1
      simp only at h h1
      split at h
      · cases h
      · exact lenA_ne0 f t1 _ _ (by have := (h1.2.2 m rfl).1; omega) h1.1 h
set_option maxHeartbeats 8000000 in
theorem decode_any (w : World) (hT : Tab w) (p : Option Addr) (len cap : Nat) (xs : List UInt8) (wd n : Nat) (hr : Row w p xs) (hx : xs.length = len) (hnil : p = none → cap = 0) (hl : len ≤ 1000000) (h1 : 1 ≤ wd) (hw : wd ≤ 32768) (hn : n ≤ 1000) :
    Calls Tryd.prog 28 #[.slice p len cap, .int .i64 (wd : Int), .int .i64 (n : Int)] w (DecP w (decB (bitsOf false xs) wd n 0 [])) := by
  have hwd : wideM (wd : Int) = true := by unfold wideM; simp; omega
  have hok := mwidth_any (wd : Int) w
  rw [hwd] at hok
  have HOK := Lib.hid hok
  have HT := Lib.hid hT
  obtain ⟨r, hrd⟩ : ∃ r, r = decB (bitsOf false xs) wd n 0 [] := ⟨_, rfl⟩
  have HRD := Lib.hid hrd.symm
  rw [← hrd]
  have HNR := Lib.hid (newReader_any p len cap xs false w hr hx hnil (by omega))
  clear hok hwd hT hr hx hnil hrd
  go_enter Tryd.func28, Tryd.ntmps28
  go_wp2_with fail
  refine HOK.out.mono ?_
  rintro e w' ⟨rfl, rfl⟩
  go_wp2_with fail
  refine HNR.out.mono ?_
  rintro e w1 ⟨hb1, gr, q1, c1, rfl, hg1, hr1, _⟩
  have HB1 := Lib.hid hb1
  have HR1 := Lib.hid hr1
  have HG1 := Lib.hid hg1
  clear hb1 hr1 hg1 HNR
  go_wp2_with fail
  refine (codes_any w1 (HT.out.below HB1.out HT.out.lt)).mono ?_
  rintro e w2 ⟨hb2, c, rfl, hc⟩
  have HB2 := Lib.hid (HB1.out.trans (hb2.mono HB1.out.size))
  have hlt1 := HR1.out.lt
  have HR2 := Lib.hid (HR1.out.below hb2 hlt1)
  have HC2 := Lib.hid hc
  have hz12 := hb2.size
  obtain ⟨B, hB⟩ : ∃ B, B = w1.heap.size := ⟨_, rfl⟩
  obtain ⟨C, hC⟩ : ∃ C, C = w2.heap.size := ⟨_, rfl⟩
  rw [← hB, ← hC] at HC2
  have HGB : Hid (gr < B ∧ B ≤ C ∧ w.heap.size ≤ gr ∧ w.heap.size ≤ C) := Lib.hid ⟨by omega, by omega, HG1.out, by have := HB1.out.size; omega⟩
  have HCZ : Hid (C ≤ w2.heap.size) := Lib.hid (by omega)
  clear hb2 hc hB hC hlt1 hz12 HOK
  go_wp2_with fail
  go_loopw [10, 11, 12, 24] (fun sv _ _ sk wr => ∃ (k t : Nat) (acc : List (List Bool)), k ≤ n ∧ sk = .int .i64 (k : Int) ∧ acc.length = k ∧ Hid (Rd wr gr q1 c1 xs t false) ∧ Hid (Cd wr B C c) ∧ Hid (Rws wr C (fun _ => False) sv (acc.map changes)) ∧ Hid (Below w.heap.size w wr) ∧ Hid (decB (bitsOf false xs) wd (n - k) t acc = r)) (fun _ _ _ sk _ => n - (intOf sk).toNat)
  case atStart => exact ⟨0, 0, [], by omega, rfl, rfl, HR2, HC2, Lib.hid (Rws.nil _ _ _), HB2, HRD⟩
  case round =>
    obtain ⟨k, t, acc, hk, rfl, hak, HRr, HCr, HWr, HBr, HE⟩ := hrel
    by_cases hlt : k < n
    · have hd : decide ((k : Int) < (n : Int)) = true := by simp; omega
      have HAL := Lib.hid (align_any gr q1 c1 xs t false wr HRr.out)
      have HQ : Hid (r = match (readRowA (bitsOf false xs) wd (8 * ((t + 7) / 8)) [] false).2 with
          | .error e => .error e
          | .ok X => decB (bitsOf false xs) wd (n - (k + 1)) (readRowA (bitsOf false xs) wd (8 * ((t + 7) / 8)) [] false).1 (acc ++ [X])) := Lib.hid (by
        rw [← HE.out, show n - k = (n - (k + 1)) + 1 from by omega]
        rfl)
      clear HE
      go_wp2_with fail
      refine HAL.out.mono ?_
      rintro e w3 ⟨rfl, hr3, ho3, hz3⟩
      have HR3 := Lib.hid hr3
      have HC3 := Lib.hid (HCr.out.only ho3 (fun kk hkk => .inl (by have := HGB.out; omega)))
      have HW3 := Lib.hid (HWr.out.only ho3 (fun kk hkk _ _ e => by have := HGB.out; omega))
      have HB3 := Lib.hid (HBr.out.trans (ho3.below HBr.out.size (fun kk hkk e => by have := HGB.out; omega)))
      have hat : 8 * ((t + 7) / 8) ≤ (bitsOf false xs).length := by rw [bitsOf_length]; exact hr3.2.2.1
      have HRR := Lib.hid (readRow_any w3 B C c gr q1 c1 xs (8 * ((t + 7) / 8)) false wd HC3.out (.inl (by have := HGB.out; omega)) HR3.out h1 hw)
      have HNE := Lib.hid (fun e h => lenA_ne0 (L := bitsOf false xs) (wd := wd) (e := e) ((bitsOf false xs).length + 1) (8 * ((t + 7) / 8)) [] false (by omega) hat h)
      generalize readRowA (bitsOf false xs) wd (8 * ((t + 7) / 8)) [] false = ra at *
      obtain ⟨t4, x⟩ := ra
      clear hr3 ho3 hz3 HAL hat
      go_wp2_with fail
      refine HRR.out.mono ?_
      rintro e w4 ⟨hr4, ho4, q4, c4, rfl, hv4, hn4, hl4, hm4, hf4⟩
      have HR4 := Lib.hid hr4
      have HC4 := Lib.hid (HC3.out.only ho4 (fun kk hkk => .inl (by have := HGB.out; omega)))
      have HW4 := Lib.hid (HW3.out.only ho4 (fun kk hkk _ _ e => by have := HGB.out; omega))
      have HB4 := Lib.hid (HB3.out.trans (ho4.below HB3.out.size (fun kk hkk e => by have := HGB.out; omega)))
      have hq := HQ.out
      try simp only at hq
      rcases x with ce | X
      · have hce := HNE.out ce rfl
        have HQ2 := Lib.hid hq
        simp only [rowE, rowL, List.length_nil]
        clear hq hr4 ho4 hv4 hn4 hl4 hm4 hf4 HRR
        go_wp2_with fail
        go_ret2
        rw [HQ2.out]
        exact ⟨HB4.out, rfl⟩
      · have HQ2 := Lib.hid hq.symm
        simp only [rowE, rowL] at hv4 hl4 ⊢
        obtain ⟨m, hm⟩ : ∃ m, m = (changes X).length := ⟨_, rfl⟩
        rw [← hm] at hl4 ⊢
        have hcz : C ≤ w4.heap.size := HC4.out.1
        have hfr : ∀ ad, q4 = some ad → 0 < (changes X).length → C ≤ ad.block ∧ u10.ownBlock ≠ some ad.block ∧ ¬ False := fun ad ha h0 => by
          have h3 := hf4 ad ha
          have h5 := HC3.out.1
          refine ⟨by omega, fun e => ?_, fun e => e⟩
          obtain ⟨vs, h6, _⟩ := HW3.out
          have := (h6.lt _ e).2
          omega
        have HV4 := Lib.hid hv4
        have HFR := Lib.hid hfr
        have HM := Lib.hid hm.symm
        have hkk : (acc.map changes).length = k := by rw [List.length_map]; exact hak
        have HKK := Lib.hid hkk
        have hk1000 : k ≤ 1000 := by omega
        have HAK := Lib.hid hak
        have HL4 := Lib.hid hl4
        clear hq hr4 ho4 hv4 hn4 hl4 hm4 hf4 HRR hfr hm hkk HW3 HB3 HC3 HR3 hak
        go_wp2_with (at_builtin; refine wpList_append_rws rfl _ _ rfl C (fun _ => False) _ (acc.map changes) k HKK.out rfl HW4.out (changes X) q4 m c4 HM.out HV4.out HL4.out HFR.out (fun _ _ e => e) rfl rfl hk1000 hcz ?_)
        intro v5 w5 hw5 hb5 _ _
        have HW5 : Hid (Rws w5 C (fun _ => False) v5 ((acc ++ [X]).map changes)) := Lib.hid (by rw [List.map_append]; exact hw5)
        have HR5 := Lib.hid (rd_only HR4.out (⟨hb5.os, hb5.tape, hb5.output, hb5.size, fun kk hkk hn => hb5.block kk (by omega)⟩ : Only (fun kk => C ≤ kk) w4 w5) (by have := HGB.out; omega) (fun ad _ hlt e => by have := HGB.out; omega))
        have HC5 := Lib.hid (HC4.out.below hb5 (Nat.le_refl _))
        have HB5 := Lib.hid (HB4.out.trans (hb5.mono HGB.out.2.2.2))
        clear hw5 hb5
        go_wp2_with fail
        go_roundw
        case rel => exact ⟨k + 1, t4, acc ++ [X], by omega, by go_num, by rw [List.length_append, HAK.out]; rfl, HR5, HC5, HW5, HB5, HQ2⟩
        case measure => simp [intOf]; omega
    · have hke : k = n := by omega
      have hd : decide ((k : Int) < (n : Int)) = false := by simp; omega
      have HQ : Hid (r = .ok acc) := Lib.hid (by
        rw [← HE.out, show n - k = 0 from by omega]
        rfl)
      obtain ⟨q5, c5, hv5, ht5, _⟩ := HWr.out.tbl
      rw [List.length_map] at hv5
      have HV5 := Lib.hid hv5
      have HT5 := Lib.hid ht5
      clear hv5 ht5
      go_wp2_with fail
      go_ret2
      rw [HQ.out]
      exact ⟨HBr.out, q5, c5, by rw [HV5.out]; rfl, HT5.out⟩
end Go.Proofs.YtgddpjnikgcamaaDoor.Mh


/- A line of a page is read. -/
import Derived.Test.YtmbfgejephgojaaGreatDoorMiW
import Derived.Test.YtmbfgejephgojaaGreatDoorGtN
import Derived.Test.YtmbfgejephgojaaGreatDoorGtE
namespace Go.Proofs.YtmbfgejephgojaaGreatDoor.Gt
open Go.RowKit Go.Proofs.YtmbfgejephgojaaGreatDoor.Oct Go.Proofs.YtmbfgejephgojaaGreatDoor.Bit
open Go.Proofs.YtmbfgejephgojaaGreatDoor.Fx (Tab Cd Out rd_only)
open Go.Proofs.YtmbfgejephgojaaGreatDoor.Mh (RowP readRow_any readAgainst_any readRowA readGA rowL rowE zerosF vrow_far)
open Go.Proofs.YtmbfgejephgojaaGreatDoor.Rn (changes zl zl_length Valid changes_valid)
open Go.Proofs.YtmbfgejephgojaaGreatDoor.Lp (VRow ints ints_length)
open Go.Proofs.YtmbfgejephgojaaGreatDoor.Hf (bit_read)
set_option linter.unusedVariables false
set_option linter.unusedSimpArgs false
set_option maxRecDepth 100000

/-- one bit is read -/
theorem read_one (g : Nat) (p : Option Addr) (cap : Nat) (xs : List UInt8) (t : Nat) (w : World) (hR : Rd w g p cap xs t false) :
    (∀ b, (bitsOf false xs)[t]? = some b → Calls Tryz.prog 51 #[.pointer (some ⟨g, 0, none⟩), .int .i64 1] w fun e w' => e = .returned (.tuple #[.int .u32 (b.toNat : Int), .int .i64 0]) ∧ Rd w' g p cap xs (t + 1) false ∧ Only (· = g) w w') ∧
    ((bitsOf false xs).length ≤ t → Calls Tryz.prog 51 #[.pointer (some ⟨g, 0, none⟩), .int .i64 1] w fun e w' => e = .returned (.tuple #[.int .u32 0, .int .i64 2]) ∧ Rd w' g p cap xs t false ∧ Only (· = g) w w') := by
  have h := read_any g p cap xs t false w 1 hR
  constructor
  · intro b hb
    obtain ⟨hl, hbe⟩ := List.getElem?_eq_some_iff.1 hb
    obtain ⟨e1, e2, e3⟩ := bit_read (low := false) (xs := xs) (a := t) (b := b) (rest := (bitsOf false xs).drop (t + 1)) (by rw [List.drop_eq_getElem_cons hl, hbe])
    refine h.mono ?_
    rintro e w' ⟨rfl, h2, h3, _⟩
    rw [e1, e2]
    rw [e3] at h2
    exact ⟨rfl, h2, h3⟩
  · intro hl
    rw [bitsOf_length] at hl
    have ho : okR 1 (8 * xs.length) t = false := by unfold okR; simp; omega
    have e1 : readV 1 false xs t = 0 := by unfold readV; rw [ho]; rfl
    have e2 : readE 1 (8 * xs.length) t = 2 := by unfold readE; rw [ho]; rfl
    have e3 : readA 1 (8 * xs.length) t = t := by unfold readA; rw [ho]; rfl
    refine h.mono ?_
    rintro e w' ⟨rfl, h2, h3, _⟩
    rw [e1, e2]
    rw [e3] at h2
    exact ⟨rfl, h2, h3⟩
/-- the end of a line, read up to its bit 1: the place behind it -/
def markF (L : List Bool) (p : Nat) : Except Nat Nat :=
  if L.length ≤ p + zerosF (L.drop p) then .error 2
  else if zerosF (L.drop p) < 11 then .error 3
  else .ok (p + zerosF (L.drop p) + 1)
theorem headF_mark (two : Bool) (L : List Bool) (p : Nat) : headF two L p = match markF L p with
    | .error e => .error e
    | .ok q => if two then (match L[q]? with | none => .error 2 | some b => .ok (q + 1, b)) else .ok (q, true) := by
  unfold headF markF
  split
  · rfl
  · split
    · rfl
    · rename_i h1 h2
      cases two
      · simp
      · simp only [true_and, if_true]
        by_cases h3 : L.length ≤ p + zerosF (L.drop p) + 1
        · rw [if_pos h3, List.getElem?_eq_none h3]
        · rw [if_neg h3, List.getElem?_eq_getElem (by omega), List.getD_eq_getElem?_getD, List.getElem?_eq_getElem (by omega)]
          simp
theorem markF_le {L : List Bool} {p q : Nat} (h : markF L p = .ok q) : q ≤ L.length := by
  unfold markF at h
  split at h
  · cases h
  · split at h
    · cases h
    · injection h with h; omega
theorem markF_err {L : List Bool} {p e : Nat} (h : markF L p = .error e) : ((e : Int) != 0) = true := by
  unfold markF at h
  split at h
  · injection h with h; subst h; rfl
  · split at h
    · injection h with h; subst h; rfl
    · cases h
def MarkP (gr : Nat) (p : Option Addr) (cap : Nat) (xs : List UInt8) (w : World) (r : Except Nat Nat) (e : Ending) (w' : World) : Prop :=
  ∃ t1, Rd w' gr p cap xs t1 false ∧ Only (· = gr) w w' ∧ match r with
    | .error ce => e = .returned (.int .i64 (ce : Int))
    | .ok q => e = .returned (.int .i64 0) ∧ t1 = q
set_option maxHeartbeats 4000000 in
theorem readEnd_any (gr : Nat) (p : Option Addr) (cap : Nat) (xs : List UInt8) (t : Nat) (w : World) (hR : Rd w gr p cap xs t false) :
    Calls Tryz.prog 50 #[.pointer (some ⟨gr, 0, none⟩)] w (MarkP gr p cap xs w (markF (bitsOf false xs) t)) := by
  have hm := hR.2.2.2
  have HR := Lib.hid hR
  obtain ⟨L, hL⟩ : ∃ L, L = bitsOf false xs := ⟨_, rfl⟩
  have HL := Lib.hid hL
  have hlen : L.length ≤ 2000000000000000 := by rw [hL, bitsOf_length]; omega
  rw [← hL]
  obtain ⟨r, hr⟩ : ∃ r, r = markF L t := ⟨_, rfl⟩
  have HRE := Lib.hid hr
  rw [← hr]
  clear hR hL hr hm
  go_enter Tryz.func50, Tryz.ntmps50
  go_wp2_with fail
  go_loopw [3, 4, 5] (fun sk _ _ wr => ∃ k : Nat, sk = .int .i64 (k : Int) ∧ k ≤ L.length ∧ Hid (zerosF (L.drop t) = k + zerosF (L.drop (t + k))) ∧ Hid (Rd wr gr p cap xs (t + k) false) ∧ Hid (Only (· = gr) w wr)) (fun sk _ _ _ => L.length + 1 - (intOf sk).toNat)
  case atStart => exact ⟨0, rfl, by omega, Lib.hid (by simp), HR, Lib.hid (Only.refl _ _)⟩
  case round =>
    obtain ⟨k, rfl, hk, HZ, HRr, HOr⟩ := hrel
    have hat : t + k ≤ L.length := by have := HRr.out.2.2.1; rw [HL.out, bitsOf_length]; omega
    obtain ⟨h1, h2⟩ := read_one gr p cap xs (t + k) wr HRr.out
    rw [← HL.out] at h1 h2
    by_cases hend : t + k = L.length
    · have HRD := Lib.hid (h2 (by omega))
      have hz : L.length ≤ t + zerosF (L.drop t) := by have := HZ.out; omega
      have hre : r = .error 2 := by rw [HRE.out]; unfold markF; rw [if_pos hz]
      have HRR := Lib.hid hre
      clear h1 h2 hz hre hend
      go_wp2_with fail
      refine HRD.out.mono ?_
      rintro e w2 ⟨rfl, hr2, ho2⟩
      have HR2 := Lib.hid hr2
      have HO2 := Lib.hid (HOr.out.trans ho2)
      clear hr2 ho2
      go_wp2_with fail
      go_ret
      exact ⟨t + k, HR2.out, HO2.out, by rw [HRR.out]; rfl⟩
    · have hlt : t + k < L.length := by omega
      obtain ⟨b, hb⟩ : ∃ b, L[t + k]? = some b := ⟨_, List.getElem?_eq_getElem hlt⟩
      have HRD := Lib.hid (h1 b hb)
      cases b
      · have hz := zerosF_nought hb
        have HZ2 : Hid (zerosF (L.drop t) = k + 1 + zerosF (L.drop (t + (k + 1)))) := Lib.hid (by have := HZ.out; rw [show t + (k + 1) = t + k + 1 from by omega]; omega)
        clear h1 h2 hb hz hend
        simp only [Bool.toNat_false] at HRD
        go_wp2_with fail
        refine HRD.out.mono ?_
        rintro e w2 ⟨rfl, hr2, ho2⟩
        have HR2 : Hid (Rd w2 gr p cap xs (t + (k + 1)) false) := Lib.hid hr2
        have HO2 := Lib.hid (HOr.out.trans ho2)
        clear hr2 ho2
        go_wp2_with fail
        go_roundw
        case rel => exact ⟨k + 1, by go_num, by omega, HZ2, HR2, HO2⟩
        case measure => simp [intOf]; omega
      · have hz := zerosF_one hb
        have hzk : zerosF (L.drop t) = k := by have := HZ.out; omega
        clear h1 h2 hb hz hend
        simp only [Bool.toNat_true] at HRD
        by_cases h11 : k < 11
        · have hd : decide ((k : Int) < 11) = true := by simp; omega
          have hre : r = .error 3 := by rw [HRE.out]; unfold markF; rw [hzk, if_neg (by omega), if_pos h11]
          have HRR := Lib.hid hre
          clear hre hzk
          go_wp2_with fail
          refine HRD.out.mono ?_
          rintro e w2 ⟨rfl, hr2, ho2⟩
          have HR2 := Lib.hid hr2
          have HO2 := Lib.hid (HOr.out.trans ho2)
          clear hr2 ho2
          go_wp2_with fail
          go_ret
          exact ⟨t + k + 1, HR2.out, HO2.out, by rw [HRR.out]; rfl⟩
        · have hd : decide ((k : Int) < 11) = false := by simp; omega
          have hre : r = .ok (t + k + 1) := by rw [HRE.out]; unfold markF; rw [hzk, if_neg (by omega), if_neg h11]
          have HRR := Lib.hid hre
          clear hre hzk
          go_wp2_with fail
          refine HRD.out.mono ?_
          rintro e w2 ⟨rfl, hr2, ho2⟩
          have HR2 := Lib.hid hr2
          have HO2 := Lib.hid (HOr.out.trans ho2)
          clear hr2 ho2
          go_wp2_with fail
          go_ret
          exact ⟨t + k + 1, HR2.out, HO2.out, by rw [HRR.out]; exact ⟨rfl, rfl⟩⟩
def LineP (gr : Nat) (p : Option Addr) (cap : Nat) (xs : List UInt8) (w : World) (two : Bool) (wd t : Nat) (above : List Bool) (e : Ending) (w' : World) : Prop :=
  ∃ r, RowP gr p cap xs false w r e w' ∧ match headF two (bitsOf false xs) t with
    | .error ce => r.2 = .error ce
    | .ok (q, s) => r = oneF s (bitsOf false xs) wd q above
theorem rowP_more {gr : Nat} {p : Option Addr} {cap : Nat} {xs : List UInt8} {w w1 w' : World} {r : Nat × Except Nat (List Bool)} {e : Ending} (ho : Only (· = gr) w w1) (h : RowP gr p cap xs false w1 r e w') : RowP gr p cap xs false w r e w' := by
  obtain ⟨h1, h2, q, c, h3, h4, h5, h6, h7, h8⟩ := h
  exact ⟨h1, ho.trans h2, q, c, h3, h4, h5, h6, h7, fun a ha => Nat.le_trans ho.2.2.2.1 (h8 a ha)⟩
set_option maxHeartbeats 4000000 in
theorem readLine_any (w : World) (B C c gr : Nat) (p : Option Addr) (cap : Nat) (xs : List UInt8) (t : Nat) (p2 : Option Addr) (m2 c2 : Nat) (above : List Bool) (wd : Nat) (two : Bool) (hC : Cd w B C c) (hO : Out B C gr) (hR : Rd w gr p cap xs t false) (hr2 : VRow w w.heap.size p2 (ints (zl (changes above)))) (hx2 : (changes above).length = m2) (hl2 : m2 ≤ 100000) (hc2 : m2 ≤ c2) (hp2 : ∀ a, p2 = some a → 0 < (changes above).length → a.block ≠ gr) (hab : above.length = wd) (h1 : 1 ≤ wd) (hn : wd ≤ 32768) :
    Calls Tryz.prog 29 #[.pointer (some ⟨gr, 0, none⟩), .pointer (some ⟨c, 0, none⟩), .slice p2 m2 c2, .int .i64 (wd : Int), .bool two] w (LineP gr p cap xs w two wd t above) := by
  have hRE := Lib.hid (readEnd_any gr p cap xs t w hR)
  have hv := changes_valid above
  rw [hab] at hv
  have HC := Lib.hid hC
  have HO := Lib.hid hO
  have HR2 := Lib.hid hr2
  have HX2 := Lib.hid hx2
  have HP2 := Lib.hid hp2
  have HV := Lib.hid hv
  have HHM := Lib.hid (headF_mark two (bitsOf false xs) t)
  have hout : ∀ (w1 : World), Only (· = gr) w w1 → Cd w1 B C c := fun w1 ho => hC.only ho (fun k hk => by rw [hk]; exact hO)
  have hvr : ∀ (w1 : World), Only (· = gr) w w1 → VRow w1 w1.heap.size p2 (ints (zl (changes above))) := fun w1 ho => (vrow_far hr2 ho (Nat.le_refl _) (fun a ha h0 => hp2 a ha (by rwa [ints_length, zl_length] at h0))).mono ho.2.2.2.1
  have HOUT := Lib.hid hout
  have HVR := Lib.hid hvr
  have HME := Lib.hid (fun ce h => markF_err (L := bitsOf false xs) (p := t) (e := ce) h)
  generalize hmk : markF (bitsOf false xs) t = mk at *
  clear hR hC hO hr2 hx2 hp2 hv hab hout hvr hmk
  rcases mk with ce | q
  · have hne : Hid (((ce : Int) != 0) = true) := Lib.hid (HME.out ce rfl)
    go_enter Tryz.func29, Tryz.ntmps29
    go_wp2_with fail
    refine hRE.out.mono ?_
    rintro e w1 ⟨t1, hr1, ho1, rfl⟩
    have HR1 := Lib.hid hr1
    have HO1 := Lib.hid ho1
    have hce := hne.out
    clear hr1 ho1
    go_wp2_with fail
    go_ret2
    exact ⟨(t1, .error ce), Mh.RowP.err HR1.out HO1.out, by rw [HHM.out]⟩
  · cases two
    · go_enter Tryz.func29, Tryz.ntmps29
      go_wp2_with fail
      refine hRE.out.mono ?_
      rintro e w1 ⟨t1, hr1, ho1, rfl, rfl⟩
      have HRW := Lib.hid (readRow_any w1 B C c gr p cap xs t1 false wd (HOUT.out w1 ho1) HO.out hr1 h1 hn)
      have HO1 := Lib.hid ho1
      clear hr1 ho1
      go_wp2_with fail
      refine HRW.out.mono ?_
      rintro e w2 hP
      have hP2 := rowP_more HO1.out hP
      obtain ⟨_, _, q2, cc2, rfl, _⟩ := hP
      have HPP := Lib.hid hP2
      clear hP2
      go_wp2_with fail
      go_ret2
      exact ⟨_, HPP.out, by rw [HHM.out]; rfl⟩
    · go_enter Tryz.func29, Tryz.ntmps29
      go_wp2_with fail
      refine hRE.out.mono ?_
      rintro e w1 ⟨t1, hr1, ho1, rfl, rfl⟩
      obtain ⟨h3, h4⟩ := read_one gr p cap xs t1 w1 hr1
      have HO1 := Lib.hid ho1
      have HH2 := Lib.hid HHM.out
      clear hr1 ho1 HHM HME hRE
      rcases hL : (bitsOf false xs)[t1]? with _ | b
      · have HRD := Lib.hid (h4 (List.getElem?_eq_none_iff.1 hL))
        have hh := HH2.out
        simp only [if_true, hL] at hh
        have HH3 := Lib.hid hh
        clear h3 h4 hL hh HH2
        go_wp2_with fail
        refine HRD.out.mono ?_
        rintro e w2 ⟨rfl, hr2, ho2⟩
        have HR2b := Lib.hid hr2
        have HO2 := Lib.hid (HO1.out.trans ho2)
        clear hr2 ho2
        go_wp2_with fail
        go_ret2
        exact ⟨(t1, .error 2), Mh.RowP.err HR2b.out HO2.out, by rw [HH3.out]⟩
      · have HRD := Lib.hid (h3 b hL)
        have hh := HH2.out
        simp only [if_true, hL] at hh
        have HH3 := Lib.hid hh
        clear h3 h4 hL hh HH2
        cases b
        · simp only [Bool.toNat_false] at HRD
          go_wp2_with fail
          refine HRD.out.mono ?_
          rintro e w2 ⟨rfl, hr2, ho2⟩
          have HO2 := Lib.hid (HO1.out.trans ho2)
          have HRW := Lib.hid (readAgainst_any w2 B C c gr p cap xs (t1 + 1) false p2 m2 c2 (changes above) wd (HOUT.out w2 HO2.out) HO.out hr2 (HVR.out w2 HO2.out) HX2.out hl2 hc2 HP2.out HV.out h1 hn)
          clear hr2 ho2
          go_wp2_with fail
          refine HRW.out.mono ?_
          rintro e w3 hP
          have hP2 := rowP_more HO2.out hP
          obtain ⟨_, _, q2, cc2, rfl, _⟩ := hP
          have HPP := Lib.hid hP2
          clear hP2
          go_wp2_with fail
          go_ret2
          exact ⟨_, HPP.out, by rw [HH3.out]; rfl⟩
        · simp only [Bool.toNat_true] at HRD
          go_wp2_with fail
          refine HRD.out.mono ?_
          rintro e w2 ⟨rfl, hr2, ho2⟩
          have HO2 := Lib.hid (HO1.out.trans ho2)
          have HRW := Lib.hid (readRow_any w2 B C c gr p cap xs (t1 + 1) false wd (HOUT.out w2 HO2.out) HO.out hr2 h1 hn)
          clear hr2 ho2
          go_wp2_with fail
          refine HRW.out.mono ?_
          rintro e w3 hP
          have hP2 := rowP_more HO2.out hP
          obtain ⟨_, _, q2, cc2, rfl, _⟩ := hP
          have HPP := Lib.hid hP2
          clear hP2
          go_wp2_with fail
          go_ret2
          exact ⟨_, HPP.out, by rw [HH3.out]; rfl⟩
end Go.Proofs.YtmbfgejephgojaaGreatDoor.Gt
/- The contract of Decode. -/
namespace Go.Proofs.YtmbfgejephgojaaGreatDoor.Gt
open Go.RowKit Go.Proofs.YtmbfgejephgojaaGreatDoor.Oct Go.Proofs.YtmbfgejephgojaaGreatDoor.Bit
open Go.Proofs.YtmbfgejephgojaaGreatDoor.Fx (Tab Cd Out rd_only codes_any)
open Go.Proofs.YtmbfgejephgojaaGreatDoor.Mh (RowP readRow_any readAgainst_any readRowA readGA rowL rowE zerosF vrow_far DecP ArgR Tbl Rws wpList_append_rws)
open Go.Proofs.YtmbfgejephgojaaGreatDoor.Rn (changes zl zl_length Valid changes_valid)
open Go.Proofs.YtmbfgejephgojaaGreatDoor.Lp (VRow ints ints_length)
set_option linter.unusedVariables false
set_option linter.unusedSimpArgs false
set_option maxRecDepth 100000

theorem gdecode_bad (w : World) (p : Option Addr) (len cap : Nat) (z n : Int) (two : Bool) (hb : decide (1 ≤ z ∧ z ≤ 32768) = false ∨ n < 0) : Calls Tryz.prog 10 #[.slice p len cap, .int .i64 z, .int .i64 n, .bool two] w (ArgR w) := by
  have HOK := Lib.hid (gwidth_any z w)
  obtain ⟨s, hs⟩ : ∃ s, s = decide (1 ≤ z ∧ z ≤ 32768) := ⟨_, rfl⟩
  rw [← hs] at hb HOK
  clear hs
  cases s
  · clear hb
    go_enter Tryz.func10, Tryz.ntmps10
    go_wp2_with fail
    refine HOK.out.mono ?_
    rintro e w' ⟨rfl, rfl⟩
    go_wp2_with fail
    go_ret2
    exact ⟨rfl, rfl⟩
  · have hd : decide (n < 0) = true := by
      rcases hb with h | h
      · cases h
      · simpa using h
    clear hb
    go_enter Tryz.func10, Tryz.ntmps10
    go_wp2_with fail
    refine HOK.out.mono ?_
    rintro e w' ⟨rfl, rfl⟩
    go_wp2_with fail
    go_ret2
    exact ⟨rfl, rfl⟩
/-- a row of places in blocks from C on -/
def AbP (w : World) (C : Nat) (q : Option Addr) (m c : Nat) (d : List Nat) : Prop := VRow w w.heap.size q (ints (zl d)) ∧ d.length = m ∧ m ≤ c ∧ ∀ a, q = some a → 0 < d.length → C ≤ a.block
set_option maxHeartbeats 8000000 in
theorem gdecode_any (w : World) (hT : Tab w) (p : Option Addr) (len cap : Nat) (xs : List UInt8) (wd n : Nat) (two : Bool) (hr : Row w p xs) (hx : xs.length = len) (hnil : p = none → cap = 0) (hl : len ≤ 1000000) (h1 : 1 ≤ wd) (hw : wd ≤ 32768) (hn : n ≤ 1000) :
    Calls Tryz.prog 10 #[.slice p len cap, .int .i64 (wd : Int), .int .i64 (n : Int), .bool two] w (DecP w (readB two (bitsOf false xs) wd n 0 (List.replicate wd false) [])) := by
  have hok := gwidth_any (wd : Int) w
  rw [show decide (1 ≤ (wd : Int) ∧ (wd : Int) ≤ 32768) = true from by simp; omega] at hok
  have HOK := Lib.hid hok
  have HT := Lib.hid hT
  obtain ⟨r, hrd⟩ : ∃ r, r = readB two (bitsOf false xs) wd n 0 (List.replicate wd false) [] := ⟨_, rfl⟩
  have HRD := Lib.hid hrd.symm
  rw [← hrd]
  have HNR := Lib.hid (newReader_any p len cap xs false w hr hx hnil (by omega))
  clear hok hT hr hx hnil hrd
  go_enter Tryz.func10, Tryz.ntmps10
  go_wp2_with fail
  refine HOK.out.mono ?_
  rintro e w' ⟨rfl, rfl⟩
  go_wp2_with fail
  refine HNR.out.mono ?_
  rintro e w1 ⟨hb1, gr, q1, c1, rfl, hg1, hr1, _⟩
  have HB1 := Lib.hid hb1
  have HR1 := Lib.hid hr1
  have HG1 := Lib.hid hg1
  clear hb1 hr1 hg1 HNR
  go_wp2_with fail
  refine (codes_any w1 (HT.out.below HB1.out HT.out.lt)).mono ?_
  rintro e w2 ⟨hb2, c, rfl, hc⟩
  have HB2 := Lib.hid (HB1.out.trans (hb2.mono HB1.out.size))
  have hlt1 := HR1.out.lt
  have HR2 := Lib.hid (HR1.out.below hb2 hlt1)
  have HC2 := Lib.hid hc
  have hz12 := hb2.size
  obtain ⟨B, hB⟩ : ∃ B, B = w1.heap.size := ⟨_, rfl⟩
  obtain ⟨C, hC⟩ : ∃ C, C = w2.heap.size := ⟨_, rfl⟩
  rw [← hB, ← hC] at HC2
  have HGB : Hid (gr < B ∧ B ≤ C ∧ w.heap.size ≤ gr ∧ w.heap.size ≤ C) := Lib.hid ⟨by omega, by omega, HG1.out, by have := HB1.out.size; omega⟩
  have HCZ : Hid (C ≤ w2.heap.size) := Lib.hid (by omega)
  clear hb2 hc hB hC hlt1 hz12 HOK
  go_wp2_with fail
  go_loopw [12, 13, 14, 15, 27] (fun sv sab _ _ sk wr => ∃ (k t : Nat) (acc : List (List Bool)) (above : List Bool) (qa : Option Addr) (ma ca : Nat), k ≤ n ∧ sk = .int .i64 (k : Int) ∧ acc.length = k ∧ sab = .slice qa ma ca ∧ ma ≤ 32768 ∧ Hid (above.length = wd) ∧ Hid (AbP wr C qa ma ca (changes above)) ∧ Hid (Rd wr gr q1 c1 xs t false) ∧ Hid (Cd wr B C c) ∧ Hid (Rws wr C (fun _ => False) sv (acc.map changes)) ∧ Hid (Below w.heap.size w wr) ∧ Hid (readB two (bitsOf false xs) wd (n - k) t above acc = r)) (fun _ _ _ _ sk _ => n - (intOf sk).toNat)
  case atStart => exact ⟨0, 0, [], List.replicate wd false, none, 0, 0, by omega, rfl, rfl, rfl, by omega, Lib.hid (by simp), Lib.hid (by
    rw [changes_white]
    exact ⟨fun h => absurd h (by simp [ints, zl]), rfl, Nat.le_refl _, fun a ha => by cases ha⟩), HR2, HC2, Lib.hid (Rws.nil _ _ _), HB2, HRD⟩
  case round =>
    obtain ⟨k, t, acc, above, qa, ma, ca, hk, rfl, hak, rfl, hma, HABL, HAB, HRr, HCr, HWr, HBr, HE⟩ := hrel
    by_cases hlt : k < n
    · have hd : decide ((k : Int) < (n : Int)) = true := by simp; omega
      have HQ : Hid (r = match headF two (bitsOf false xs) t with
          | .error e => .error e
          | .ok (q, s) => match oneF s (bitsOf false xs) wd q above with
            | (_, .error e) => .error e
            | (b, .ok X) => readB two (bitsOf false xs) wd (n - (k + 1)) b X (acc ++ [X])) := Lib.hid (by
        rw [← HE.out, show n - k = (n - (k + 1)) + 1 from by omega]
        rfl)
      have HLN := Lib.hid (readLine_any wr B C c gr q1 c1 xs t qa ma ca above wd two HCr.out (.inl HGB.out.1) HRr.out HAB.out.1 HAB.out.2.1 (by omega) HAB.out.2.2.1 (fun a ha h0 e => by have h5 := HAB.out.2.2.2 a ha h0; have h6 := HGB.out; omega) HABL.out h1 hw)
      have HNE := Lib.hid (fun e h => headF_err (two := two) (L := bitsOf false xs) (p := t) (e := e) h)
      have HLE := Lib.hid (fun q s h => headF_le (two := two) (L := bitsOf false xs) (p := t) (q := q) (s := s) h)
      unfold LineP at HLN
      generalize headF two (bitsOf false xs) t = hf at *
      clear HE
      go_wp2_with fail
      refine HLN.out.mono ?_
      rintro e w4 ⟨rr, hP, hres⟩
      obtain ⟨t4, x⟩ := rr
      obtain ⟨hr4, ho4, q4, c4, rfl, hv4, hn4, hl4, hm4, hf4⟩ := hP
      have HR4 := Lib.hid hr4
      have HC4 := Lib.hid (HCr.out.only ho4 (fun kk hkk => .inl (by have := HGB.out; omega)))
      have HW4 := Lib.hid (HWr.out.only ho4 (fun kk hkk _ _ e => by have := HGB.out; omega))
      have HB4 := Lib.hid (HBr.out.trans (ho4.below HBr.out.size (fun kk hkk e => by have := HGB.out; omega)))
      have hq := HQ.out
      rcases x with ce | X
      · have hce : ((ce : Int) != 0) = true ∧ r = .error ce := by
          rcases hf with ch | ⟨q, s⟩
          · simp only at hres hq
            injection hres with hres
            subst hres
            refine ⟨?_, hq⟩
            rcases HNE.out ce rfl with e | e <;> (subst e; rfl)
          · simp only at hres hq
            have hle := (HLE.out q s rfl).1
            rw [← hres] at hq
            exact ⟨oneF_ne (single := s) (w := wd) (above := above) hle (by rw [← hres]), hq⟩
        obtain ⟨hce1, hce2⟩ := hce
        have HQ2 := Lib.hid hce2
        simp only [rowE, rowL, List.length_nil]
        clear hq hr4 ho4 hv4 hn4 hl4 hm4 hf4 HLN hres hce2
        go_wp2_with fail
        go_ret2
        rw [HQ2.out]
        exact ⟨HB4.out, rfl⟩
      · have hok2 : r = readB two (bitsOf false xs) wd (n - (k + 1)) t4 X (acc ++ [X]) ∧ X.length = wd := by
          rcases hf with ch | ⟨q, s⟩
          · simp only at hres
            cases hres
          · simp only at hres hq
            have hle := (HLE.out q s rfl).1
            rw [← hres] at hq
            exact ⟨hq, oneF_len (single := s) h1 HABL.out hle (by rw [← hres])⟩
        have HQ2 := Lib.hid hok2.1.symm
        have HXL := Lib.hid hok2.2
        have hmx : (changes X).length ≤ 32768 := by have := Rn.chg_len X false 0; have := hok2.2; unfold changes; omega
        simp only [rowE, rowL] at hv4 hl4 ⊢
        obtain ⟨m, hm⟩ : ∃ m, m = (changes X).length := ⟨_, rfl⟩
        rw [← hm] at hl4 hmx ⊢
        have hcz : C ≤ w4.heap.size := HC4.out.1
        have hfr : ∀ ad, q4 = some ad → 0 < (changes X).length → C ≤ ad.block ∧ u12.ownBlock ≠ some ad.block ∧ ¬ False := fun ad ha h0 => by
          have h3 := hf4 ad ha
          have h5 := HCr.out.1
          refine ⟨by omega, fun e => ?_, fun e => e⟩
          obtain ⟨vs, h6, _⟩ := HWr.out
          have := (h6.lt _ e).2
          omega
        have HV4 := Lib.hid hv4
        have HFR := Lib.hid hfr
        have HM := Lib.hid hm.symm
        have hkk : (acc.map changes).length = k := by rw [List.length_map]; exact hak
        have HKK := Lib.hid hkk
        have hk1000 : k ≤ 1000 := by omega
        have HAK := Lib.hid hak
        have HL4 := Lib.hid hl4
        clear hq hr4 ho4 hv4 hn4 hl4 hm4 hf4 HLN hfr hm hkk hak hres hok2
        go_wp2_with (at_builtin; refine wpList_append_rws rfl _ _ rfl C (fun _ => False) _ (acc.map changes) k HKK.out rfl HW4.out (changes X) q4 m c4 HM.out HV4.out HL4.out HFR.out (fun _ _ e => e) rfl rfl hk1000 hcz ?_)
        intro v5 w5 hw5 hb5 _ ho5
        have HW5 : Hid (Rws w5 C (fun _ => False) v5 ((acc ++ [X]).map changes)) := Lib.hid (by rw [List.map_append]; exact hw5)
        have HR5 := Lib.hid (rd_only HR4.out (⟨hb5.os, hb5.tape, hb5.output, hb5.size, fun kk hkk hn => hb5.block kk (by omega)⟩ : Only (fun kk => C ≤ kk) w4 w5) (by have := HGB.out; omega) (fun ad _ hlt e => by have := HGB.out; omega))
        have HC5 := Lib.hid (HC4.out.below hb5 (Nat.le_refl _))
        have HB5 := Lib.hid (HB4.out.trans (hb5.mono HGB.out.2.2.2))
        have HA5 : Hid (AbP w5 C q4 m c4 (changes X)) := Lib.hid ⟨(vrow_far HV4.out ho5 (Nat.le_refl _) (fun a ha h0 e => (HFR.out a ha (by rwa [ints_length, zl_length] at h0)).2.1 e)).mono ho5.2.2.2.1, HM.out, HL4.out, fun a ha h0 => (HFR.out a ha h0).1⟩
        clear hw5 hb5 ho5
        go_wp2_with fail
        go_roundw
        case rel => exact ⟨k + 1, t4, acc ++ [X], X, q4, m, c4, by omega, by go_num, by rw [List.length_append, HAK.out]; rfl, rfl, hmx, HXL, HA5, HR5, HC5, HW5, HB5, HQ2⟩
        case measure => simp [intOf]; omega
    · have hke : k = n := by omega
      have hd : decide ((k : Int) < (n : Int)) = false := by simp; omega
      have HQ : Hid (r = .ok acc) := Lib.hid (by
        rw [← HE.out, show n - k = 0 from by omega]
        rfl)
      obtain ⟨q5, c5, hv5, ht5, _⟩ := HWr.out.tbl
      rw [List.length_map] at hv5
      have HV5 := Lib.hid hv5
      have HT5 := Lib.hid ht5
      clear hv5 ht5
      go_wp2_with fail
      go_ret2
      rw [HQ.out]
      exact ⟨HBr.out, q5, c5, by rw [HV5.out]; rfl, HT5.out⟩
end Go.Proofs.YtmbfgejephgojaaGreatDoor.Gt

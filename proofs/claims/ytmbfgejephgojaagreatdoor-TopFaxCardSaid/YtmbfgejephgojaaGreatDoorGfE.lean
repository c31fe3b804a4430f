
/- Pages of T.6: what Encode and Decode give. -/
import Derived.Test.YtmbfgejephgojaaGreatDoorMiW
import Derived.Test.YtmbfgejephgojaaGreatDoorGfN
namespace Go.Proofs.YtmbfgejephgojaaGreatDoor.Gf
open Go.RowKit Go.Proofs.YtmbfgejephgojaaGreatDoor.Oct Go.Proofs.YtmbfgejephgojaaGreatDoor.Bit
open Go.Proofs.YtmbfgejephgojaaGreatDoor.Fx (Tab Cd Out OutW WrP CW codes_any rd_only eol)
open Go.Proofs.YtmbfgejephgojaaGreatDoor.Mh (againstA readGA rowL rowE RowP writeAgainst_any readAgainst_any vrow_far Apt EncP DecP ArgR Tbl Rws wpList_append_rws readGA_len readGA_ne wideM)
open Go.Proofs.YtmbfgejephgojaaGreatDoor.Rn (changes zl zl_length Valid changes_valid)
open Go.Proofs.YtmbfgejephgojaaGreatDoor.Lp (VRow ints ints_length)
set_option linter.unusedVariables false
set_option linter.unusedSimpArgs false
set_option maxRecDepth 100000

theorem hwidth_any (n : Int) (w : World) : Calls Tryz.prog 23 #[.int .i64 n] w fun e w' => e = .returned (.bool (wideM n)) ∧ w = w' := by
  unfold wideM
  by_cases h1 : 1 ≤ n
  · have hd : decide (1 ≤ n) = true := by simpa using h1
    have he : decide (1 ≤ n ∧ n ≤ 32768) = decide (n ≤ 32768) := by simp [h1]
    rw [he]
    go_enter Tryz.func23, Tryz.ntmps23
    go_wp2_with fail
    go_ret
    exact ⟨rfl, rfl⟩
  · have hd : decide (1 ≤ n) = false := by simpa using h1
    have he : decide (1 ≤ n ∧ n ≤ 32768) = false := by simp [h1]
    rw [he]
    go_enter Tryz.func23, Tryz.ntmps23
    go_wp2_with fail
    go_ret
    exact ⟨rfl, rfl⟩
theorem hchg_white : ∀ (n : Nat) (k : Nat), Rn.chg false k (List.replicate n false) = []
  | 0, k => rfl
  | n + 1, k => by
    rw [List.replicate_succ, Rn.chg]
    first | exact hchg_white n (k + 1) | (rw [if_pos rfl]; exact hchg_white n (k + 1)) | simp [hchg_white n (k + 1)]
theorem hchanges_white (n : Nat) : changes (List.replicate n false) = [] := hchg_white n 0
theorem topP_len {above : List Bool} {wd : Nat} (ha : above.length = wd) : ∀ (l : List (List Bool)), (∀ X ∈ l, X.length = wd) → (topP above l).length = wd := fun l hl => by
  rcases List.eq_nil_or_concat l with e | ⟨l2, X, e⟩
  · rw [e]; exact ha
  · rw [e, List.concat_eq_append, topP_one]
    exact hl X (by rw [e]; simp)
theorem eofb_text : ({ data := #[48, 48, 48, 48, 48, 48, 48, 48, 48, 48, 48, 49, 48, 48, 48, 48, 48, 48, 48, 48, 48, 48, 48, 49] } : ByteArray) = ds eofb := by decide +kernel
theorem hencode_bad (w : World) (q : Option Addr) (n cap : Nat) (z : Int) (hb : wideM z = false) : Calls Tryz.prog 8 #[.slice q n cap, .int .i64 z] w (ArgR w) := by
  have HOK := Lib.hid (hwidth_any z w)
  rw [hb] at HOK
  clear hb
  go_enter Tryz.func8, Tryz.ntmps8
  go_wp2_with fail
  refine HOK.out.mono ?_
  rintro e w' ⟨rfl, rfl⟩
  go_wp2_with fail
  go_ret2
  exact ⟨rfl, rfl⟩
/-- a row, of whatever width -/
theorem againstA_lenW {w : Nat} {above X : List Bool} (ha : above.length = w) (hX : X.length = w) (hw : w ≤ 400) : (againstA (changes X) (changes above) w 0 false).length ≤ 118 * w + 59 := by
  have h := rowsP_lenW hw [X] above ha (fun Y hY => by rw [List.mem_singleton.1 hY]; exact hX)
  rw [rowsP, rowsP, List.append_nil] at h
  simpa using h
set_option maxHeartbeats 8000000 in
theorem hencode_any (w : World) (hT : Tab w) (q : Option Addr) (n cap : Nat) (Xs : List (List Bool)) (wd : Nat) (hR : Tbl w w.heap.size q (Xs.map changes)) (hn : Xs.length = n) (hn2 : n ≤ 1000) (hl : ∀ X ∈ Xs, X.length = wd) (h1 : 1 ≤ wd) (hw : wd ≤ 400) (K : Nat) (hK : K = 118 * wd + 59) (hKn : K * (n + 1) ≤ 1400000) :
    Calls Tryz.prog 8 #[.slice q n cap, .int .i64 (wd : Int)] w (EncP w (rowsP wd (List.replicate wd false) Xs ++ eofb)) := by
  have hok := hwidth_any (wd : Int) w
  rw [show wideM (wd : Int) = true from by unfold wideM; simp; omega] at hok
  have HOK := Lib.hid hok
  have HT := Lib.hid hT
  have HR := Lib.hid hR
  have HN := Lib.hid hn
  have HL := Lib.hid hl
  have HKK := Lib.hid hK
  clear hok hT hR hn hl hK
  go_enter Tryz.func8, Tryz.ntmps8
  go_wp2_with fail
  refine HOK.out.mono ?_
  rintro e w' ⟨rfl, rfl⟩
  go_wp2_with fail
  refine (newWriter_any false w).mono ?_
  rintro e w1 ⟨hb1, rfl, hw1⟩
  have HB1 := Lib.hid hb1
  have HW1 := Lib.hid hw1
  clear hb1 hw1
  go_wp2_with fail
  refine (codes_any w1 (HT.out.below HB1.out HT.out.lt)).mono ?_
  rintro e w2 ⟨hb2, c, rfl, hc⟩
  have HCW := Lib.hid (CW.first HW1.out rfl HB1.out hb2 hc)
  generalize hgwe : w.heap.size = gw at *
  have HGWE := Lib.hid hgwe
  generalize w1.heap.size = B at *
  generalize w2.heap.size = C at *
  clear hb2 hc HW1 hgwe HOK
  go_wp2_with fail
  go_loopw [8, 10, 11, 20] (fun sab _ _ sk wr => ∃ (k : Nat) (v : Value) (l : List Bool) (qa : Option Addr) (ma ca : Nat), k ≤ n ∧ sk = .int .i64 (k : Int) ∧ sab = .slice qa ma ca ∧ Hid (CW gw w B C c gw v l false wr) ∧ Hid (Apt wr gw v qa ma ca (changes (topP (List.replicate wd false) (Xs.take k)))) ∧ Hid (l = rowsP wd (List.replicate wd false) (Xs.take k)) ∧ ma ≤ 1000) (fun _ _ _ sk _ => n - (intOf sk).toNat)
  case atStart => exact ⟨0, _, [], none, 0, 0, by omega, rfl, rfl, HCW, Lib.hid (by
    rw [List.take_zero, topP_nil, hchanges_white]
    exact ⟨fun h => absurd h (by simp [ints, zl]), rfl, Nat.le_refl _, fun a ha => by cases ha⟩), Lib.hid (by rw [List.take_zero]; rfl), by omega⟩
  case round =>
    obtain ⟨k, v, l, qa, ma, ca, hk, rfl, rfl, HSr, HAr, HLr, hma⟩ := hrel
    have hllk : l.length ≤ K * k := by
      rw [HLr.out, HKK.out]
      have h := rowsP_lenW hw (Xs.take k) (List.replicate wd false) (by simp) (fun X hX => HL.out X (List.mem_of_mem_take hX))
      rwa [List.length_take, Nat.min_eq_left (by rw [HN.out]; exact hk)] at h
    have hkk : K * k + K ≤ 1400000 := by
      have := Nat.mul_le_mul_left K (show k + 1 ≤ n + 1 by omega)
      rw [Nat.mul_succ] at this
      omega
    have hll4 : l.length + K ≤ 1400000 := by omega
    clear hllk hkk
    by_cases hlt : k < n
    · have hkX : k < Xs.length := by rw [HN.out]; exact hlt
      obtain ⟨bb, off, hq, qk, ck, hcell, hvk, hck⟩ := (HR.out.below HSr.out.bel).get (k := k) (by rw [List.length_map]; exact hkX)
      rw [List.getElem_map] at hcell hvk hck
      have hXl := HL.out Xs[k] (List.getElem_mem hkX)
      have hstep : rowsP wd (List.replicate wd false) (Xs.take (k + 1)) = rowsP wd (List.replicate wd false) (Xs.take k) ++ againstA (changes Xs[k]) (changes (topP (List.replicate wd false) (Xs.take k))) wd 0 false := by rw [List.take_succ_eq_append_getElem hkX, rowsP_snoc]
      rw [← HLr.out] at hstep
      have htop := topP_len (above := List.replicate wd false) (wd := wd) (by simp) (Xs.take k) (fun X hX => HL.out X (List.mem_of_mem_take hX))
      have hnx : topP (List.replicate wd false) (Xs.take (k + 1)) = Xs[k] := by rw [List.take_succ_eq_append_getElem hkX, topP_one]
      have HNX := Lib.hid hnx
      generalize topP (List.replicate wd false) (Xs.take k) = TP at *
      generalize Xs[k] = X at *
      have hlf := againstA_lenW htop hXl hw
      rw [← HKK.out] at hlf
      have hv1 := changes_valid X
      rw [hXl] at hv1
      have hv2 := changes_valid TP
      rw [htop] at hv2
      have hmx : (changes X).length ≤ 400 := by have := Rn.chg_len X false 0; unfold changes; omega
      obtain ⟨mk, hmk⟩ : ∃ mk, mk = (changes X).length := ⟨_, rfl⟩
      rw [← hmk] at hcell hck hmx
      have hA1 : Apt wr gw v qk mk ck (changes X) := ⟨hvk.mono HSr.out.dz, hmk.symm, hck, fun a ha h0 hm => by
        obtain ⟨b, o, e, hb, _⟩ := hvk (by rw [ints_length, zl_length]; exact h0)
        rw [ha] at e
        injection e with e
        have h5 := HSr.out.mine _ hm
        rw [e] at h5
        simp only at h5
        omega⟩
      have HWL := Lib.hid (writeAgainst_any wr B C c gw v l false qk mk ck (changes X) qa ma ca (changes TP) wd HSr.out.cd HSr.out.ws HSr.out.out hA1.1 hA1.2.1 (by omega) hA1.2.2.1 hA1.2.2.2 hv1 HAr.out.1 HAr.out.2.1 (by omega) HAr.out.2.2.1 HAr.out.2.2.2 hv2 h1 (by omega) (by omega))
      have HA1 := Lib.hid hA1
      have HST := Lib.hid hstep
      subst hq
      have hd : decide ((k : Int) < (n : Int)) = true := by simp; omega
      have i1 : (0 : Int) ≤ (k : Int) := by omega
      have i2 : (k : Int) < (n : Int) := by omega
      have hma2 : mk ≤ 1000 := by omega
      have HCH : Hid (changes (topP (List.replicate wd false) (Xs.take (k + 1))) = changes X) := Lib.hid (by rw [HNX.out])
      clear hkX hvk hck hXl hstep htop hnx hlf hv1 hv2 hmx hmk hA1 hll4
      go_wp2_with fail
      refine HWL.out.mono ?_
      rintro e w5 ⟨rfl, hT5⟩
      obtain ⟨v5, hW5, ho5, hd5⟩ := hT5
      have H5 := Lib.hid (Mh.CW.wrote2 HSr.out hW5 ho5 hd5)
      have HA5 : Hid (Apt w5 gw v5 qk mk ck (changes (topP (List.replicate wd false) (Xs.take (k + 1))))) := Lib.hid (by rw [HCH.out]; exact HA1.out.wrote ho5 hd5)
      clear hW5 ho5 hd5 HWL
      go_wp2_with fail
      go_roundw
      case rel => exact ⟨k + 1, v5, _, qk, mk, ck, by omega, by go_num, rfl, H5, HA5, Lib.hid HST.out.symm, hma2⟩
      case measure => simp [intOf]; omega
    · have hke : k = n := by omega
      subst hke
      have hd : decide ((k : Int) < (k : Int)) = false := by simp
      have hlT : l = rowsP wd (List.replicate wd false) Xs := by
        have h := HLr.out
        rwa [List.take_of_length_le (by rw [HN.out]; exact Nat.le_refl _)] at h
      have he24 : eofb.length = 24 := rfl
      have hwd := word_any wr gw v l eofb false (by omega) HSr.out.ws
      rw [← eofb_text] at hwd
      have HWD := Lib.hid hwd
      have HLT := Lib.hid hlT
      clear hlT hwd
      go_wp2_with fail
      refine HWD.out.mono ?_
      rintro e w5 ⟨rfl, hT5⟩
      obtain ⟨v5, hW5, ho5, hd5⟩ := hT5
      have H5 := Lib.hid (Mh.CW.wrote2 HSr.out hW5 ho5 hd5)
      have HBY := Lib.hid (bytes_any w5 gw v5 _ false hW5 (by rw [List.length_append]; omega))
      clear hW5 ho5 hd5 HWD he24
      go_wp2_with fail
      refine HBY.out.mono ?_
      rintro e w6 ⟨hb6, q6, c6, rfl, hr6, hc6, hm6, hn6, ha6⟩
      have HBF := Lib.hid (H5.out.bel.trans (hb6.mono H5.out.dz))
      have HR6 := Lib.hid hr6
      have HN6 := Lib.hid hn6
      have HC6 := Lib.hid hc6
      clear hb6 hr6 hn6 hc6 hm6 ha6
      go_wp2_with fail
      go_ret2
      rw [← HLT.out]
      exact ⟨by rw [HGWE.out]; exact HBF.out, q6, c6, rfl, HR6.out, HN6.out, HC6.out⟩
/-- what is looked at ahead is the end of a page just where it stands -/
theorem peek_end {L : List Bool} {t : Nat} (ht : t ≤ L.length) : numE false ((L.drop t ++ zs 32).take 24) = 4097 ↔ atEnd L t := by
  have h0 : numE false eofb = 4097 := by decide +kernel
  have hl : ((L.drop t ++ zs 32).take 24).length = eofb.length := by
    rw [List.length_take, List.length_append, zs_length, show eofb.length = 24 from rfl]
    omega
  constructor
  · intro h
    have he := numE_inj false _ _ hl (h.trans h0.symm)
    by_cases hc : t + 24 ≤ L.length
    · refine ⟨hc, ?_⟩
      rw [← he, List.take_append_of_le_length (by rw [List.length_drop]; omega)]
    · exfalso
      have h23 : ((L.drop t ++ zs 32).take 24)[23]? = eofb[23]? := by rw [he]
      rw [List.getElem?_take, if_pos (by omega), List.getElem?_append_right (by rw [List.length_drop]; omega), List.length_drop] at h23
      unfold zs at h23
      rw [List.getElem?_replicate, if_pos (by omega)] at h23
      rw [show eofb[23]? = some true from rfl] at h23
      cases h23
  · rintro ⟨hc, he⟩
    rw [List.take_append_of_le_length (by rw [List.length_drop]; omega), he, h0]
/-- a row of a page, unless it ends here -/
def rowQ (L : List Bool) (wd t : Nat) (above : List Bool) : Nat × Except Nat (List Bool) := if atEnd L t then (t, .error 2) else readGA L (changes above) wd t 0 [] false
theorem readQ_row (L : List Bool) (wd n t : Nat) (above : List Bool) (acc : List (List Bool)) : readQ L wd (n + 1) t above acc = match rowQ L wd t above with
    | (_, .error e) => .error e
    | (b, .ok X) => readQ L wd n b X (acc ++ [X]) := by
  rw [readQ]
  unfold rowQ
  split <;> rfl
theorem rowQ_ne {L : List Bool} {wd t e : Nat} {above : List Bool} (ht : t ≤ L.length) (h : (rowQ L wd t above).2 = .error e) : ((e : Int) != 0) = true := by
  unfold rowQ at h
  split at h
  · injection h with h; subst h; rfl
  · exact readGA_ne (L.length + 2) t 0 [] false (by omega) ht h
theorem rowQ_len {L : List Bool} {wd t : Nat} {above X : List Bool} (h1 : 1 ≤ wd) (ha : above.length = wd) (ht : t ≤ L.length) (h : (rowQ L wd t above).2 = .ok X) : X.length = wd := by
  unfold rowQ at h
  split at h
  · cases h
  · have hv := changes_valid above
    rw [ha] at hv
    exact readGA_len h1 hv (L.length + 2) t 0 [] false (by omega) ht rfl (by omega) h
theorem rowQ_le {L : List Bool} {wd t : Nat} {above : List Bool} (ht : t ≤ L.length) : (rowQ L wd t above).1 ≤ L.length := by
  unfold rowQ
  split
  · exact ht
  · exact readGA_le (L.length + 2) t 0 [] false (by omega) ht
set_option maxHeartbeats 4000000 in
theorem hreadRow_any (w : World) (B C c gr : Nat) (p : Option Addr) (cap : Nat) (xs : List UInt8) (t : Nat) (p2 : Option Addr) (m2 c2 : Nat) (above : List Bool) (wd : Nat) (hC : Cd w B C c) (hO : Out B C gr) (hR : Rd w gr p cap xs t false) (hr2 : VRow w w.heap.size p2 (ints (zl (changes above)))) (hx2 : (changes above).length = m2) (hl2 : m2 ≤ 100000) (hc2 : m2 ≤ c2) (hp2 : ∀ a, p2 = some a → 0 < (changes above).length → a.block ≠ gr) (hab : above.length = wd) (h1 : 1 ≤ wd) (hn : wd ≤ 32768) :
    Calls Tryz.prog 30 #[.pointer (some ⟨gr, 0, none⟩), .pointer (some ⟨c, 0, none⟩), .slice p2 m2 c2, .int .i64 (wd : Int)] w (RowP gr p cap xs false w (rowQ (bitsOf false xs) wd t above)) := by
  have hv := changes_valid above
  rw [hab] at hv
  have hat : t ≤ (bitsOf false xs).length := by rw [bitsOf_length]; exact hR.2.2.1
  have hpk := peek_any gr p cap xs t false w 24 hR
  rw [show peekE 24 = 0 from by decide] at hpk
  have hpe : peekA 24 false xs t = ((numE false (((bitsOf false xs).drop t ++ zs 32).take 24) : Nat) : Int) := by
    unfold peekA
    rw [show cntB 24 = true from by decide, if_pos rfl]
    rfl
  rw [hpe] at hpk
  have hiff := peek_end hat
  obtain ⟨K, hK⟩ : ∃ K, K = numE false (((bitsOf false xs).drop t ++ zs 32).take 24) := ⟨_, rfl⟩
  rw [← hK] at hpk hiff
  have HPK := Lib.hid hpk
  have HWR := Lib.hid (fun W hC hR hr2 => readAgainst_any W B C c gr p cap xs t false p2 m2 c2 (changes above) wd hC hO hR hr2 hx2 hl2 hc2 hp2 hv h1 hn)
  have HC := Lib.hid hC
  have HR := Lib.hid hR
  have HR2 := Lib.hid hr2
  have hrl := hR.lt
  have HRL := Lib.hid hrl
  by_cases hE : atEnd (bitsOf false xs) t
  · have hq : ((K : Int) == 4097) = true := by have := hiff.2 hE; simp; omega
    have HQ : Hid (rowQ (bitsOf false xs) wd t above = (t, .error 2)) := Lib.hid (by unfold rowQ; rw [if_pos hE])
    clear hK hiff hE hpe hpk hC hO hR hr2 hx2 hp2 hv hab hat hrl HWR HR2
    go_enter Tryz.func30, Tryz.ntmps30
    go_wp2_with fail
    refine HPK.out.mono ?_
    rintro e w1 ⟨rfl, hd1⟩
    have hb1 := hd1.below w.heap.size
    have HO1 := Lib.hid (Only.drawn (· = gr) hd1)
    have HR1 := Lib.hid (HR.out.below hb1 HRL.out)
    clear hd1 hb1
    go_wp2_with fail
    go_ret2
    rw [HQ.out]
    exact Mh.RowP.err HR1.out HO1.out
  · have hq : ((K : Int) == 4097) = false := by
      have : K ≠ 4097 := fun h => hE (hiff.1 h)
      simp
      omega
    have HQ : Hid (rowQ (bitsOf false xs) wd t above = readGA (bitsOf false xs) (changes above) wd t 0 [] false) := Lib.hid (by unfold rowQ; rw [if_neg hE])
    clear hK hiff hE hpe hpk hC hO hR hr2 hx2 hp2 hv hab hat hrl
    go_enter Tryz.func30, Tryz.ntmps30
    go_wp2_with fail
    refine HPK.out.mono ?_
    rintro e w1 ⟨rfl, hd1⟩
    have hb1 := hd1.below w.heap.size
    have HO1 := Lib.hid (Only.drawn (· = gr) hd1)
    have HRW := Lib.hid (HWR.out w1 (HC.out.below hb1 HC.out.1) (HR.out.below hb1 HRL.out) ((HR2.out.below hb1 (Nat.le_refl _)).mono hb1.size))
    clear hd1 hb1
    go_wp2_with fail
    refine HRW.out.mono ?_
    rintro e w2 hP
    obtain ⟨x1, x2, q2, cc2, rfl, x4, x5, x6, x7, x8⟩ := hP
    have HPP : Hid (RowP gr p cap xs false w (rowQ (bitsOf false xs) wd t above) (.returned (.tuple #[.slice q2 (rowL (readGA (bitsOf false xs) (changes above) wd t 0 [] false).2).length cc2, .int .i64 (rowE (readGA (bitsOf false xs) (changes above) wd t 0 [] false).2)])) w2) := Lib.hid (by
      rw [HQ.out]
      exact ⟨x1, HO1.out.trans x2, q2, cc2, rfl, x4, x5, x6, x7, fun a ha => Nat.le_trans HO1.out.2.2.2.1 (x8 a ha)⟩)
    clear x1 x2 x4 x5 x6 x7 x8
    go_wp2_with fail
    go_ret2
    exact HPP.out
theorem hdecode_bad (w : World) (p : Option Addr) (len cap : Nat) (z n : Int) (hb : wideM z = false ∨ n < 0) : Calls Tryz.prog 11 #[.slice p len cap, .int .i64 z, .int .i64 n] w (ArgR w) := by
  have HOK := Lib.hid (hwidth_any z w)
  obtain ⟨s, hs⟩ : ∃ s, s = wideM z := ⟨_, rfl⟩
  rw [← hs] at hb HOK
  clear hs
  cases s
  · clear hb
    go_enter Tryz.func11, Tryz.ntmps11
    go_wp2_with fail
    refine HOK.out.mono ?_
    rintro e w' ⟨rfl, rfl⟩
    go_wp2_with fail
    go_ret2
    exact ⟨rfl, rfl⟩
  · have hd : decide (n < 0) = true := by
      rcases hb with h | h
      · cases h
      · simpa using h
    clear hb
    go_enter Tryz.func11, Tryz.ntmps11
    go_wp2_with fail
    refine HOK.out.mono ?_
    rintro e w' ⟨rfl, rfl⟩
    go_wp2_with fail
    go_ret2
    exact ⟨rfl, rfl⟩
/-- a row of places in blocks from C on -/
def AbQ (w : World) (C : Nat) (q : Option Addr) (m c : Nat) (d : List Nat) : Prop := VRow w w.heap.size q (ints (zl d)) ∧ d.length = m ∧ m ≤ c ∧ ∀ a, q = some a → 0 < d.length → C ≤ a.block
set_option maxHeartbeats 8000000 in
theorem hdecode_any (w : World) (hT : Tab w) (p : Option Addr) (len cap : Nat) (xs : List UInt8) (wd n : Nat) (hr : Row w p xs) (hx : xs.length = len) (hnil : p = none → cap = 0) (hl : len ≤ 1000000) (h1 : 1 ≤ wd) (hw : wd ≤ 32768) (hn : n ≤ 1000) :
    Calls Tryz.prog 11 #[.slice p len cap, .int .i64 (wd : Int), .int .i64 (n : Int)] w (DecP w (readQ (bitsOf false xs) wd n 0 (List.replicate wd false) [])) := by
  have hok := hwidth_any (wd : Int) w
  rw [show wideM (wd : Int) = true from by unfold wideM; simp; omega] at hok
  have HOK := Lib.hid hok
  have HT := Lib.hid hT
  obtain ⟨r, hrd⟩ : ∃ r, r = readQ (bitsOf false xs) wd n 0 (List.replicate wd false) [] := ⟨_, rfl⟩
  have HRD := Lib.hid hrd.symm
  rw [← hrd]
  have HNR := Lib.hid (newReader_any p len cap xs false w hr hx hnil (by omega))
  clear hok hT hr hx hnil hrd
  go_enter Tryz.func11, Tryz.ntmps11
  go_wp2_with fail
  refine HOK.out.mono ?_
  rintro e w' ⟨rfl, rfl⟩
  go_wp2_with fail
  refine HNR.out.mono ?_
  rintro e w1 ⟨hb1, gr, q1, c1, rfl, hg1, hr1, _⟩
  have HB1 := Lib.hid hb1
  have HR1 := Lib.hid hr1
  have HG1 := Lib.hid hg1
  clear hb1 hr1 hg1 HNR
  go_wp2_with fail
  refine (codes_any w1 (HT.out.below HB1.out HT.out.lt)).mono ?_
  rintro e w2 ⟨hb2, c, rfl, hc⟩
  have HB2 := Lib.hid (HB1.out.trans (hb2.mono HB1.out.size))
  have hlt1 := HR1.out.lt
  have HR2 := Lib.hid (HR1.out.below hb2 hlt1)
  have HC2 := Lib.hid hc
  have hz12 := hb2.size
  obtain ⟨B, hB⟩ : ∃ B, B = w1.heap.size := ⟨_, rfl⟩
  obtain ⟨C, hC⟩ : ∃ C, C = w2.heap.size := ⟨_, rfl⟩
  rw [← hB, ← hC] at HC2
  have HGB : Hid (gr < B ∧ B ≤ C ∧ w.heap.size ≤ gr ∧ w.heap.size ≤ C) := Lib.hid ⟨by omega, by omega, HG1.out, by have := HB1.out.size; omega⟩
  have HCZ : Hid (C ≤ w2.heap.size) := Lib.hid (by omega)
  clear hb2 hc hB hC hlt1 hz12 HOK
  go_wp2_with fail
  go_loopw [10, 11, 12, 13, 25] (fun sv sab _ _ sk wr => ∃ (k t : Nat) (acc : List (List Bool)) (above : List Bool) (qa : Option Addr) (ma ca : Nat), k ≤ n ∧ sk = .int .i64 (k : Int) ∧ acc.length = k ∧ sab = .slice qa ma ca ∧ ma ≤ 32768 ∧ Hid (above.length = wd) ∧ Hid (AbQ wr C qa ma ca (changes above)) ∧ Hid (Rd wr gr q1 c1 xs t false) ∧ Hid (Cd wr B C c) ∧ Hid (Rws wr C (fun _ => False) sv (acc.map changes)) ∧ Hid (Below w.heap.size w wr) ∧ Hid (readQ (bitsOf false xs) wd (n - k) t above acc = r)) (fun _ _ _ _ sk _ => n - (intOf sk).toNat)
  case atStart => exact ⟨0, 0, [], List.replicate wd false, none, 0, 0, by omega, rfl, rfl, rfl, by omega, Lib.hid (by simp), Lib.hid (by
    rw [hchanges_white]
    exact ⟨fun h => absurd h (by simp [ints, zl]), rfl, Nat.le_refl _, fun a ha => by cases ha⟩), HR2, HC2, Lib.hid (Rws.nil _ _ _), HB2, HRD⟩
  case round =>
    obtain ⟨k, t, acc, above, qa, ma, ca, hk, rfl, hak, rfl, hma, HABL, HAB, HRr, HCr, HWr, HBr, HE⟩ := hrel
    by_cases hlt : k < n
    · have hd : decide ((k : Int) < (n : Int)) = true := by simp; omega
      have HQ : Hid (r = match rowQ (bitsOf false xs) wd t above with
          | (_, .error e) => .error e
          | (b, .ok X) => readQ (bitsOf false xs) wd (n - (k + 1)) b X (acc ++ [X])) := Lib.hid (by
        rw [← HE.out, show n - k = (n - (k + 1)) + 1 from by omega]
        exact readQ_row _ _ _ _ _ _)
      have hat : t ≤ (bitsOf false xs).length := by rw [bitsOf_length]; exact HRr.out.2.2.1
      have HLN := Lib.hid (hreadRow_any wr B C c gr q1 c1 xs t qa ma ca above wd HCr.out (.inl HGB.out.1) HRr.out HAB.out.1 HAB.out.2.1 (by omega) HAB.out.2.2.1 (fun a ha h0 e => by have h5 := HAB.out.2.2.2 a ha h0; have h6 := HGB.out; omega) HABL.out h1 hw)
      have HNE := Lib.hid (fun e h => rowQ_ne (L := bitsOf false xs) (wd := wd) (t := t) (above := above) (e := e) hat h)
      have HLE := Lib.hid (fun X h => rowQ_len (L := bitsOf false xs) (wd := wd) (t := t) (above := above) (X := X) h1 HABL.out hat h)
      generalize rowQ (bitsOf false xs) wd t above = rr at *
      obtain ⟨t4, x⟩ := rr
      clear HE hat
      go_wp2_with fail
      refine HLN.out.mono ?_
      rintro e w4 ⟨hr4, ho4, q4, c4, rfl, hv4, hn4, hl4, hm4, hf4⟩
      have HR4 := Lib.hid hr4
      have HC4 := Lib.hid (HCr.out.only ho4 (fun kk hkk => .inl (by have := HGB.out; omega)))
      have HW4 := Lib.hid (HWr.out.only ho4 (fun kk hkk _ _ e => by have := HGB.out; omega))
      have HB4 := Lib.hid (HBr.out.trans (ho4.below HBr.out.size (fun kk hkk e => by have := HGB.out; omega)))
      have hq := HQ.out
      try simp only at hq
      rcases x with ce | X
      · have hce1 := HNE.out ce rfl
        have HQ2 := Lib.hid hq
        simp only [rowE, rowL, List.length_nil]
        clear hq hr4 ho4 hv4 hn4 hl4 hm4 hf4 HLN
        go_wp2_with fail
        go_ret2
        rw [HQ2.out]
        exact ⟨HB4.out, rfl⟩
      · have HQ2 := Lib.hid hq.symm
        have hXl := HLE.out X rfl
        have HXL := Lib.hid hXl
        have hmx : (changes X).length ≤ 32768 := by have := Rn.chg_len X false 0; unfold changes; omega
        simp only [rowE, rowL] at hv4 hl4 ⊢
        obtain ⟨m, hm⟩ : ∃ m, m = (changes X).length := ⟨_, rfl⟩
        rw [← hm] at hl4 hmx ⊢
        have hcz : C ≤ w4.heap.size := HC4.out.1
        have hfr : ∀ ad, q4 = some ad → 0 < (changes X).length → C ≤ ad.block ∧ u10.ownBlock ≠ some ad.block ∧ ¬ False := fun ad ha h0 => by
          have h3 := hf4 ad ha
          have h5 := HCr.out.1
          refine ⟨by omega, fun e => ?_, fun e => e⟩
          obtain ⟨vs, h6, _⟩ := HWr.out
          have := (h6.lt _ e).2
          omega
        have HV4 := Lib.hid hv4
        have HFR := Lib.hid hfr
        have HM := Lib.hid hm.symm
        have hkk : (acc.map changes).length = k := by rw [List.length_map]; exact hak
        have HKK := Lib.hid hkk
        have hk1000 : k ≤ 1000 := by omega
        have HAK := Lib.hid hak
        have HL4 := Lib.hid hl4
        clear hq hr4 ho4 hv4 hn4 hl4 hm4 hf4 HLN hfr hm hkk hak hXl
        go_wp2_with (at_builtin; refine wpList_append_rws rfl _ _ rfl C (fun _ => False) _ (acc.map changes) k HKK.out rfl HW4.out (changes X) q4 m c4 HM.out HV4.out HL4.out HFR.out (fun _ _ e => e) rfl rfl hk1000 hcz ?_)
        intro v5 w5 hw5 hb5 _ ho5
        have HW5 : Hid (Rws w5 C (fun _ => False) v5 ((acc ++ [X]).map changes)) := Lib.hid (by rw [List.map_append]; exact hw5)
        have HR5 := Lib.hid (rd_only HR4.out (⟨hb5.os, hb5.tape, hb5.output, hb5.size, fun kk hkk hn => hb5.block kk (by omega)⟩ : Only (fun kk => C ≤ kk) w4 w5) (by have := HGB.out; omega) (fun ad _ hlt e => by have := HGB.out; omega))
        have HC5 := Lib.hid (HC4.out.below hb5 (Nat.le_refl _))
        have HB5 := Lib.hid (HB4.out.trans (hb5.mono HGB.out.2.2.2))
        have HA5 : Hid (AbQ w5 C q4 m c4 (changes X)) := Lib.hid ⟨(vrow_far HV4.out ho5 (Nat.le_refl _) (fun a ha h0 e => (HFR.out a ha (by rwa [ints_length, zl_length] at h0)).2.1 e)).mono ho5.2.2.2.1, HM.out, HL4.out, fun a ha h0 => (HFR.out a ha h0).1⟩
        clear hw5 hb5 ho5
        go_wp2_with fail
        go_roundw
        case rel => exact ⟨k + 1, t4, acc ++ [X], X, q4, m, c4, by omega, by go_num, by rw [List.length_append, HAK.out]; rfl, rfl, hmx, HXL, HA5, HR5, HC5, HW5, HB5, HQ2⟩
        case measure => simp [intOf]; omega
    · have hke : k = n := by omega
      have hd : decide ((k : Int) < (n : Int)) = false := by simp; omega
      have HQ : Hid (r = .ok acc) := Lib.hid (by
        rw [← HE.out, show n - k = 0 from by omega]
        rfl)
      obtain ⟨q5, c5, hv5, ht5, _⟩ := HWr.out.tbl
      rw [List.length_map] at hv5
      have HV5 := Lib.hid hv5
      have HT5 := Lib.hid ht5
      clear hv5 ht5
      go_wp2_with fail
      go_ret2
      rw [HQ.out]
      exact ⟨HBr.out, q5, c5, by rw [HV5.out]; rfl, HT5.out⟩
end Go.Proofs.YtmbfgejephgojaaGreatDoor.Gf

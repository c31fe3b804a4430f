
/- The document's Encode and Decode of pages of T.6. -/
import Derived.Test.YtmbfgejephgojaaDoorGfE
import Derived.Test.YtmbfgejephgojaaDoorMiW
import Derived.Test.YtmbfgejephgojaaDoorMiH
import Derived.Test.YtmbfgejephgojaaDoorMiI
import Derived.Test.YtmbfgejephgojaaDoorMiM
import Derived.Test.YtmbfgejephgojaaDoorBitV
namespace Go.Proofs.YtmbfgejephgojaaDoor.Bit
open Go.RowKit Go.Proofs.YtmbfgejephgojaaDoor.Oct
set_option linter.unusedVariables false
set_option maxRecDepth 20000
set_option maxHeartbeats 600000 in
theorem rbytes_wide (l : List Bool) (low : Bool) (w : World) (hl : l.length ≤ 2000000) : Calls Tryd.prog 24 #[.string (ds l), .bool low] w fun e w' => e = .returned (.string (bs (packB low l))) ∧ Below w.heap.size w w' := by
  have hsz := ds_size l
  have hpl := packB_length low l
  have HPL := Lib.hid hpl
  clear hpl
  go_enter Tryd.func24, Tryd.ntmps24
  rw [zs8]
  go_wp2_with fail
  go_loopw [5, 6] (fun s i wr => ∃ k : Nat, k ≤ (l.length + 7) / 8 ∧ i = .int .i64 ((8 * k : Nat) : Int) ∧ s = .string (bs ((packB low l).take k)) ∧ Below w.heap.size w wr) (fun _ c _ => 8 * ((l.length + 7) / 8) - (intOf c).toNat)
  case atStart => exact ⟨0, by omega, rfl, rfl, Below.refl _ _⟩
  case round =>
    obtain ⟨k, hk, rfl, rfl, hF⟩ := hrel
    by_cases hlt : 8 * k < l.length
    · have hkp : k < (packB low l).length := by rw [HPL.out]; omega
      have hbN : (packB low l)[k] = byteN low l k := packB_get low l k hkp
      have htk : (packB low l).take (k + 1) = (packB low l).take k ++ [byteN low l k] := by rw [take_succ' _ k hkp, hbN]
      have x1 : (ds l).extract (8 * k) l.length = ds (l.drop (8 * k)) := by rw [ds_extract, List.take_of_length_le (by simp)]
      have x2 : ds (l.drop (8 * k)) ++ ds (zs 8) = ds (l.drop (8 * k) ++ zs 8) := ds_append _ _
      have hz1 : (ds (l.drop (8 * k))).size ≤ 2000000 := by rw [ds_size, List.length_drop]; omega
      have hz2 : (ds (zs 8)).size = 8 := by rw [ds_size, zs_length]
      have hz3 : 8 ≤ (ds (l.drop (8 * k) ++ zs 8)).size := by rw [ds_size, List.length_append, zs_length]; omega
      have x3 : (ds (l.drop (8 * k) ++ zs 8)).extract 0 8 = ds (chunk l k) := by rw [ds_extract]; rfl
      have hcl := chunk_length l k
      have hbt := byteN_toNat low l k
      have hbb : (byteN low l k).toNat < 256 := (byteN low l k).toNat_lt
      have hzo : (bs ((packB low l).take k)).size ≤ 2000000 := by rw [bs_size, List.length_take]; omega
      have HTK := Lib.hid htk
      have HCL := Lib.hid hcl
      have HBT := Lib.hid hbt
      have H8 := Lib.hid (show (((8 * k : Nat)) : Int) = 8 * (k : Int) by omega)
      have hd : ((8 * k : Nat) : Int) < (l.length : Int) := by omega
      have ht8 : ((8 : Int) * (k : Int)).toNat = 8 * k := by omega
      clear hbN htk hcl hbt
      have hcvr := fun w' : World => conv_row (w := w'.alloc (.cells #[.int .u8 ((byteN low l k).toNat : Int)] 5)) 1 1 (row_val w' ((byteN low l k).toNat : Int) (byteN low l k) rfl) rfl
      have hzb : (bs [byteN low l k]).size = 1 := by rw [bs_size]; rfl
      cases low
      · have hnm : num (chunk l k) = (byteN false l k).toNat := by rw [HBT.out]; rfl
        have HNM := Lib.hid hnm
        clear hnm
        go_wp2_with fail
        refine (rnumber_any _ _ (by rw [HCL.out]; omega)).mono ?_
        rintro e w' ⟨rfl, rfl⟩
        rw [HNM.out]
        go_wp2_with fail
        go_roundw
        case rel =>
          refine ⟨k + 1, by omega, by go_num, ?_, hF.alloc hF.size _⟩
          rw [HTK.out, ← bs_append]
        case measure => simp [intOf]; omega
      · have hnm : num (chunk l k).reverse = (byteN true l k).toNat := by rw [HBT.out]; rfl
        have HNM := Lib.hid hnm
        clear hnm
        go_wp2_with fail
        refine (dturn_any _ _ (by rw [HCL.out]; omega)).mono ?_
        rintro e w' ⟨rfl, rfl⟩
        go_wp2_with fail
        refine (rnumber_any _ _ (by rw [List.length_reverse, HCL.out]; omega)).mono ?_
        rintro e w' ⟨rfl, rfl⟩
        rw [HNM.out]
        go_wp2_with fail
        go_roundw
        case rel =>
          refine ⟨k + 1, by omega, by go_num, ?_, hF.alloc hF.size _⟩
          rw [HTK.out, ← bs_append]
        case measure => simp [intOf]; omega
    · have hfull : (packB low l).take k = packB low l := List.take_of_length_le (by rw [HPL.out]; omega)
      rw [hfull]
      clear hfull
      have hd : decide (((8 * k : Nat) : Int) < (l.length : Int)) = false := by simp; omega
      go_wp2_with fail
      go_ret
      exact ⟨rfl, hF⟩
end Go.Proofs.YtmbfgejephgojaaDoor.Bit
namespace Go.Proofs.YtmbfgejephgojaaDoor.Gf
open Go.RowKit Go.Proofs.YtmbfgejephgojaaDoor.Oct Go.Proofs.YtmbfgejephgojaaDoor.Bit
open Go.Proofs.YtmbfgejephgojaaDoor.Fx (eol ds_beq ds_list)
open Go.Proofs.YtmbfgejephgojaaDoor.Mh (againstA readGA ragainst_any rreadAgainst_any RRowP rowS rowE rfits_any wideM RDecP Txs txt txt_row txt_length wpList_append_txt ArgR)
open Go.Proofs.YtmbfgejephgojaaDoor.Rn (changes)
open Go.Proofs.YtmbfgejephgojaaDoor.Lp (VRow)
set_option linter.unusedVariables false
set_option linter.unusedSimpArgs false
set_option maxRecDepth 100000

theorem r_nought_text : ({ data := #[48] } : ByteArray) = ds [false] := by decide +kernel
theorem rvwhite_any (n : Nat) (w : World) (hn : n ≤ 40000) : Calls Tryd.prog 22 #[.int .i64 (n : Int)] w fun e w' => e = .returned (.string (ds (List.replicate n false))) ∧ w = w' := by
  have HAP := Lib.hid (fun k : Nat => (ds_append (List.replicate k false) [false]).trans (by rw [← List.replicate_succ']))
  have HSZ := Lib.hid (fun k : Nat => (ds_size (List.replicate k false)).trans (by rw [List.length_replicate]))
  have hz3 : ({ data := #[48] } : ByteArray).size = 1 := rfl
  go_enter Tryd.func22, Tryd.ntmps22
  go_wp2_with fail
  go_loop [3, 4] (fun s i => ∃ k : Nat, k ≤ n ∧ i = .int .i64 (k : Int) ∧ s = .string (ds (List.replicate k false))) (fun _ i => n - (intOf i).toNat)
  case atStart => exact ⟨0, by omega, rfl, rfl⟩
  case round =>
    obtain ⟨k, hk, rfl, rfl⟩ := hrel
    by_cases hlt : k < n
    · have hd : decide ((k : Int) < (n : Int)) = true := by simp; omega
      have hs := HSZ.out k
      have hap := Lib.hid (HAP.out k)
      rw [← r_nought_text] at hap
      generalize hT : ds (List.replicate k false) = T at *
      clear hT
      go_wp2_with fail
      go_round
      case rel => exact ⟨k + 1, by omega, by go_num, by rw [hap.out]⟩
      case measure => simp [intOf]; omega
    · have hke : k = n := by omega
      subst hke
      have hd : decide ((k : Int) < (k : Int)) = false := by simp
      go_wp2_with fail
      go_ret
      exact ⟨rfl, rfl⟩
set_option maxHeartbeats 8000000 in
theorem rhencode_any (w : World) (q : Option Addr) (n c : Nat) (Xs : List (List Bool)) (wd : Nat) (hB : VRow w w.heap.size q (txt Xs)) (hn : Xs.length = n) (hn2 : n ≤ 12) (hl : ∀ X ∈ Xs, X.length = wd) (h1 : 1 ≤ wd) (hw : wd ≤ 300) :
    Calls Tryd.prog 10 #[.slice q n c, .int .i64 (wd : Int)] w fun e w' => e = .returned (.string (bs (packB false (rowsP wd (List.replicate wd false) Xs ++ eofb)))) ∧ Below w.heap.size w w' := by
  have HB := Lib.hid hB
  have HN := Lib.hid hn
  have HL := Lib.hid hl
  have HWH := Lib.hid (fun W => rvwhite_any wd W (by omega))
  clear hB hn hl
  go_enter Tryd.func10, Tryd.ntmps10
  go_wp2_with fail
  refine (HWH.out _).mono ?_
  rintro e w' ⟨rfl, rfl⟩
  go_wp2_with fail
  go_loopw [5, 6, 7] (fun s sa si wr => ∃ (k : Nat) (l : List Bool), k ≤ n ∧ si = .int .i64 (k : Int) ∧ s = .string (ds l) ∧ sa = .string (ds (topP (List.replicate wd false) (Xs.take k))) ∧ Hid (l = rowsP wd (List.replicate wd false) (Xs.take k)) ∧ Hid (Below w.heap.size w wr)) (fun _ _ si _ => n - (intOf si).toNat)
  case atStart => exact ⟨0, [], by omega, rfl, rfl, rfl, Lib.hid rfl, Lib.hid (Below.refl _ _)⟩
  case round =>
    obtain ⟨k, l, hk, rfl, rfl, rfl, HLr, HBr⟩ := hrel
    have hllk : l.length ≤ 35459 * k := by
      rw [HLr.out]
      have h := rowsP_lenW (show wd ≤ 400 by omega) (Xs.take k) (List.replicate wd false) (by simp) (fun X hX => HL.out X (List.mem_of_mem_take hX))
      rw [List.length_take, Nat.min_eq_left (by rw [HN.out]; exact hk)] at h
      exact Nat.le_trans h (Nat.mul_le_mul_right _ (by omega))
    have hll : l.length ≤ 425508 := by omega
    by_cases hlt : k < n
    · have hd : decide ((k : Int) < (n : Int)) = true := by simp; omega
      have hkX : k < Xs.length := by rw [HN.out]; exact hlt
      obtain ⟨bb, off, hq, hbb, hcell⟩ := txt_row (HB.out.below HBr.out (Nat.le_refl _)) hkX
      have hXl := HL.out Xs[k] (List.getElem_mem hkX)
      have i1 : (0 : Int) ≤ (k : Int) := by omega
      have i2 : (k : Int) < (n : Int) := by omega
      have htl := topP_len (above := List.replicate wd false) (wd := wd) (by simp) (Xs.take k) (fun X hX => HL.out X (List.mem_of_mem_take hX))
      have hstep : rowsP wd (List.replicate wd false) (Xs.take (k + 1)) = rowsP wd (List.replicate wd false) (Xs.take k) ++ againstA (changes Xs[k]) (changes (topP (List.replicate wd false) (Xs.take k))) wd 0 false := by rw [List.take_succ_eq_append_getElem hkX, rowsP_snoc]
      rw [← HLr.out] at hstep
      have hnx : topP (List.replicate wd false) (Xs.take (k + 1)) = Xs[k] := by rw [List.take_succ_eq_append_getElem hkX, topP_one]
      have HNX := Lib.hid hnx
      generalize topP (List.replicate wd false) (Xs.take k) = TP at *
      generalize Xs[k] = X at *
      have HAG := Lib.hid (fun W => ragainst_any X TP wd W hXl htl h1 (by omega))
      have hlf := againstA_lenW htl hXl (by omega)
      obtain ⟨F, hF⟩ : ∃ F, F = againstA (changes X) (changes TP) wd 0 false := ⟨_, rfl⟩
      rw [← hF] at hstep HAG hlf
      obtain ⟨TX, hTXd⟩ : ∃ TX, TX = ds X := ⟨_, rfl⟩
      rw [← hTXd] at hcell HAG
      obtain ⟨TT, hTTd⟩ : ∃ TT, TT = ds TP := ⟨_, rfl⟩
      rw [← hTTd] at HAG ⊢
      have hse := ds_size l
      have hsf := ds_size F
      have HAP := Lib.hid (ds_append l F)
      have HST := Lib.hid hstep
      have hsum : ¬ 9223372036854775807 < l.length + F.length := by omega
      have HC := Lib.hid (fun (W : World) (hW : Below w.heap.size wr W) => (hW.cell (p := ⟨bb, off + k, none⟩) hbb).trans hcell)
      have HTX := Lib.hid hTXd
      subst hq
      generalize ds l = DL at *
      generalize ds F = DF at *
      clear hkX hXl htl hstep hnx hlf hF hTXd hTTd hllk hbb
      go_wp2_with fail
      refine (HAG.out _).mono ?_
      rintro e w2 ⟨rfl, hb2⟩
      have HB2 := Lib.hid (HBr.out.trans (hb2.mono HBr.out.size))
      have hc2 := HC.out w2 (hb2.mono HBr.out.size)
      clear hb2 hcell
      go_wp2_with fail
      go_roundw
      case rel => exact ⟨k + 1, l ++ F, by omega, by go_num, by rw [HAP.out], by rw [HNX.out, HTX.out], Lib.hid HST.out.symm, HB2⟩
      case measure => simp [intOf]; omega
    · have hke : k = n := by omega
      subst hke
      have hd : decide ((k : Int) < (k : Int)) = false := by simp
      have hlT : l = rowsP wd (List.replicate wd false) Xs := by
        have h := HLr.out
        rwa [List.take_of_length_le (by rw [HN.out]; exact Nat.le_refl _)] at h
      have he24 : eofb.length = 24 := rfl
      have HBY := Lib.hid (fun W => rbytes_wide (l ++ eofb) false W (by rw [List.length_append]; omega))
      have hap := ds_append l eofb
      rw [← eofb_text] at hap
      have HAP := Lib.hid hap
      have hse := ds_size l
      have hz3 : ({ data := #[48, 48, 48, 48, 48, 48, 48, 48, 48, 48, 48, 49, 48, 48, 48, 48, 48, 48, 48, 48, 48, 48, 48, 49] } : ByteArray).size = 24 := rfl
      rw [← hap] at HBY
      have HLT := Lib.hid hlT
      generalize topP (List.replicate wd false) (Xs.take k) = TP at *
      generalize ds l = DL at *
      clear hlT hllk he24 hap
      go_wp2_with fail
      refine (HBY.out _).mono ?_
      rintro e w3 ⟨rfl, hb3⟩
      have HB3 := Lib.hid (HBr.out.trans (hb3.mono HBr.out.size))
      clear hb3
      go_wp2_with fail
      go_ret
      exact ⟨by rw [HLT.out]; rfl, HB3.out⟩
theorem rhdecode_bad (w : World) (b : ByteArray) (z n : Int) (hb : wideM z = false ∨ n < 0) : Calls Tryd.prog 12 #[.string b, .int .i64 z, .int .i64 n] w (ArgR w) := by
  have HOK := Lib.hid (rfits_any z w)
  obtain ⟨s, hs⟩ : ∃ s, s = wideM z := ⟨_, rfl⟩
  rw [← hs] at hb HOK
  clear hs
  cases s
  · clear hb
    go_enter Tryd.func12, Tryd.ntmps12
    go_wp2_with fail
    refine HOK.out.mono ?_
    rintro e w' ⟨rfl, rfl⟩
    go_wp2_with fail
    go_ret2
    exact ⟨rfl, rfl⟩
  · have hd : decide (n < 0) = true := by
      rcases hb with h | h
      · cases h
      · simpa using h
    clear hb
    go_enter Tryd.func12, Tryd.ntmps12
    go_wp2_with fail
    refine HOK.out.mono ?_
    rintro e w' ⟨rfl, rfl⟩
    go_wp2_with fail
    go_ret2
    exact ⟨rfl, rfl⟩
set_option maxHeartbeats 8000000 in
theorem rhdecode_any (w : World) (xs : List UInt8) (wd n : Nat) (hx : xs.length ≤ 1000) (h1 : 1 ≤ wd) (hw : wd ≤ 300) (hn : n ≤ 1000) :
    Calls Tryd.prog 12 #[.string (bs xs), .int .i64 (wd : Int), .int .i64 (n : Int)] w (RDecP w (readQ (bitsOf false xs) wd n 0 (List.replicate wd false) [])) := by
  have hok := rfits_any (wd : Int) w
  rw [show wideM (wd : Int) = true from by unfold wideM; simp; omega] at hok
  have HOK := Lib.hid hok
  obtain ⟨r, hrd⟩ : ∃ r, r = readQ (bitsOf false xs) wd n 0 (List.replicate wd false) [] := ⟨_, rfl⟩
  have HRD := Lib.hid hrd.symm
  rw [← hrd]
  have HOF := Lib.hid (rof_any xs false w hx)
  have hLl : (bitsOf false xs).length = 8 * xs.length := bitsOf_length false xs
  have hLb : (bitsOf false xs).length ≤ 8000 := by omega
  have HWH := Lib.hid (fun W => rvwhite_any wd W (by omega))
  clear hok hrd hLl
  go_enter Tryd.func12, Tryd.ntmps12
  go_wp2_with fail
  refine HOK.out.mono ?_
  rintro e w' ⟨rfl, rfl⟩
  go_wp2_with fail
  refine HOF.out.mono ?_
  rintro e w1 ⟨rfl, hb1⟩
  have HB1 := Lib.hid hb1
  generalize bitsOf false xs = L at *
  obtain ⟨SL, hSL⟩ : ∃ SL, SL = ds L := ⟨_, rfl⟩
  have hsz : SL.size = L.length := by rw [hSL, ds_size]
  have HSX : Hid (∀ t, SL.extract t (t + 24) = ds ((L.drop t).take 24)) := Lib.hid (fun t => by rw [hSL, ds_extract, Nat.add_sub_cancel_left])
  rw [← hSL]
  have HRA := Lib.hid (fun (Y : List Bool) (hY : Y.length = wd) (a : Nat) (W : World) (ha : a ≤ L.length) => rreadAgainst_any L Y a wd W ha (by omega) hY h1 (by omega))
  rw [← hSL] at HRA
  clear hb1 HOK HOF hSL
  go_wp2_with fail
  refine (HWH.out _).mono ?_
  rintro e w' ⟨rfl, rfl⟩
  go_wp2_with fail
  go_loopw [9, 10, 11, 12, 13, 14, 15] (fun sat sab sv sk _ _ _ wr => ∃ (k t : Nat) (acc : List (List Bool)) (above : List Bool), k ≤ n ∧ sk = .int .i64 (k : Int) ∧ sat = .int .i64 (t : Int) ∧ t ≤ L.length ∧ sab = .string (ds above) ∧ Hid (above.length = wd) ∧ Hid (acc.length = k) ∧ Hid (Txs wr w1.heap.size (fun _ => False) sv acc) ∧ Hid (Below w1.heap.size w1 wr) ∧ Hid (readQ L wd (n - k) t above acc = r)) (fun _ _ _ sk _ _ _ _ => n - (intOf sk).toNat)
  case atStart => exact ⟨0, 0, [], List.replicate wd false, by omega, rfl, rfl, Nat.zero_le _, rfl, Lib.hid (by simp), Lib.hid rfl, Lib.hid (Txs.nil _ _ _), Lib.hid (Below.refl _ _), HRD⟩
  case round =>
    obtain ⟨k, t, acc, above, hk, rfl, rfl, ht, rfl, HABL, HAK, HTx, HBr, HE⟩ := hrel
    by_cases hlt : k < n
    · have hd : decide ((k : Int) < (n : Int)) = true := by simp; omega
      have hq := HE.out
      rw [show n - k = (n - (k + 1)) + 1 from by omega, readQ_row] at hq
      have HBF := Lib.hid (HB1.out.trans (HBr.out.mono HB1.out.size))
      obtain ⟨SA, hSA⟩ : ∃ SA, SA = ds above := ⟨_, rfl⟩
      rw [← hSA]
      have hag : ∀ (W : World), Calls Tryd.prog 29 #[.string SL, .int .i64 (t : Int), .string SA] W fun e w' => RRowP (readGA L (changes above) wd t 0 [] false) e ∧ Below W.heap.size W w' := fun W => by rw [hSA]; exact HRA.out above HABL.out t W ht
      have hne := fun e h => rowQ_ne (L := L) (wd := wd) (t := t) (above := above) (e := e) ht h
      have hle := rowQ_le (L := L) (wd := wd) (t := t) (above := above) ht
      have hln := fun X h => rowQ_len (L := L) (wd := wd) (t := t) (above := above) (X := X) h1 HABL.out ht h
      have i1 : (0 : Int) ≤ (t : Int) := by omega
      clear HE hSA
      by_cases hE : atEnd L t
      · have h24 : decide ((t : Int) + 24 ≤ (L.length : Int)) = true := by have := hE.1; simp; omega
        have h24n : decide (t + 24 ≤ L.length) = true := by have := hE.1; simp; omega
        have h24b := hE.1
        have x1 := HSX.out t
        rw [hE.2, ← eofb_text] at x1
        have hq2 : r = .error 2 := by rw [← hq]; unfold rowQ; rw [if_pos hE]
        have HQ2 := Lib.hid hq2
        clear hE hq hq2 hag hne hle hln
        go_wp2_with fail
        go_ret2
        rw [HQ2.out]
        exact ⟨HBF.out, rfl⟩
      · have hrow : rowQ L wd t above = readGA L (changes above) wd t 0 [] false := by unfold rowQ; rw [if_neg hE]
        rw [hrow] at hq hne hle hln
        have HNE := Lib.hid hne
        have HLE := Lib.hid hle
        have HLN := Lib.hid hln
        have HQQ := Lib.hid hq
        have HAG := Lib.hid hag
        have hcut : t + 24 ≤ L.length → ∃ TT : ByteArray, SL.extract t (t + 24) = TT ∧ TT.size = 24 ∧ (TT.toList == [48, 48, 48, 48, 48, 48, 48, 48, 48, 48, 48, 49, 48, 48, 48, 48, 48, 48, 48, 48, 48, 48, 48, 49]) = false := fun h => by
          refine ⟨_, HSX.out t, by rw [ds_size, List.length_take, List.length_drop]; omega, ?_⟩
          rw [show ([48, 48, 48, 48, 48, 48, 48, 48, 48, 48, 48, 49, 48, 48, 48, 48, 48, 48, 48, 48, 48, 48, 48, 49] : List UInt8) = (ds eofb).toList from by rw [ds_list]; rfl, ds_beq]
          have hne2 : (L.drop t).take 24 ≠ eofb := fun he => hE ⟨h, he⟩
          simpa using hne2
        generalize readGA L (changes above) wd t 0 [] false = ra at *
        obtain ⟨t4, x⟩ := ra
        clear hq hne hle hln hag hE hrow HRA
        by_cases h24b : t + 24 ≤ L.length
        · have h24 : decide ((t : Int) + 24 ≤ (L.length : Int)) = true := by simp; omega
          have h24n : decide (t + 24 ≤ L.length) = true := by simp; omega
          obtain ⟨TT, x1, hz1, hbe⟩ := hcut h24b
          clear hcut
          go_wp2_with fail
          refine (HAG.out _).mono ?_
          rintro e w4 ⟨he4, hb4⟩
          unfold RRowP at he4
          subst he4
          have HB4 := Lib.hid (HBr.out.trans (hb4.mono HBr.out.size))
          have HTx4 := Lib.hid (HTx.out.only (Only.of_below hb4 : Only (fun _ => False) _ _) (fun _ _ _ _ e => e))
          have hq := HQQ.out
          try simp only at hq
          clear hb4
          rcases x with ce | X
          · have hce := HNE.out ce rfl
            have HQ2 := Lib.hid hq
            have HBE := Lib.hid (HB1.out.trans (HB4.out.mono HB1.out.size))
            simp only [rowE, rowS]
            clear hq
            go_wp2_with fail
            go_ret2
            rw [← HQ2.out]
            exact ⟨HBE.out, rfl⟩
          · have HQ2 := Lib.hid hq
            have ht4 : t4 ≤ L.length := HLE.out
            have HXW := Lib.hid (HLN.out X rfl)
            simp only [rowE, rowS]
            obtain ⟨T, hT⟩ : ∃ T, T = ds X := ⟨_, rfl⟩
            rw [← hT]
            have HTT := Lib.hid hT.symm
            have hwz : w1.heap.size ≤ w4.heap.size := HB4.out.size
            have hk1000 : k ≤ 1000 := by omega
            clear hq hT
            go_wp2_with (at_builtin; refine wpList_append_txt rfl _ _ rfl w1.heap.size (fun _ => False) _ acc k HAK.out rfl HTx4.out X T HTT.out (fun _ _ e => e) rfl rfl hk1000 hwz ?_)
            intro v5 w5 hw5 hb5 _ _
            have HT5 := Lib.hid hw5
            have HB5 := Lib.hid (HB4.out.trans hb5)
            clear hw5 hb5
            go_wp2_with fail
            go_roundw
            case rel => exact ⟨k + 1, t4, acc ++ [X], X, by omega, by go_num, rfl, ht4, by rw [HTT.out], HXW, Lib.hid (by rw [List.length_append, HAK.out]; rfl), HT5, HB5, HQ2⟩
            case measure => simp [intOf]; omega
        · have h24 : decide ((t : Int) + 24 ≤ (L.length : Int)) = false := by simp; omega
          have h24n : decide (t + 24 ≤ L.length) = false := by simp; omega
          clear hcut
          go_wp2_with fail
          refine (HAG.out _).mono ?_
          rintro e w4 ⟨he4, hb4⟩
          unfold RRowP at he4
          subst he4
          have HB4 := Lib.hid (HBr.out.trans (hb4.mono HBr.out.size))
          have HTx4 := Lib.hid (HTx.out.only (Only.of_below hb4 : Only (fun _ => False) _ _) (fun _ _ _ _ e => e))
          have hq := HQQ.out
          try simp only at hq
          clear hb4
          rcases x with ce | X
          · have hce := HNE.out ce rfl
            have HQ2 := Lib.hid hq
            have HBE := Lib.hid (HB1.out.trans (HB4.out.mono HB1.out.size))
            simp only [rowE, rowS]
            clear hq
            go_wp2_with fail
            go_ret2
            rw [← HQ2.out]
            exact ⟨HBE.out, rfl⟩
          · have HQ2 := Lib.hid hq
            have ht4 : t4 ≤ L.length := HLE.out
            have HXW := Lib.hid (HLN.out X rfl)
            simp only [rowE, rowS]
            obtain ⟨T, hT⟩ : ∃ T, T = ds X := ⟨_, rfl⟩
            rw [← hT]
            have HTT := Lib.hid hT.symm
            have hwz : w1.heap.size ≤ w4.heap.size := HB4.out.size
            have hk1000 : k ≤ 1000 := by omega
            clear hq hT
            go_wp2_with (at_builtin; refine wpList_append_txt rfl _ _ rfl w1.heap.size (fun _ => False) _ acc k HAK.out rfl HTx4.out X T HTT.out (fun _ _ e => e) rfl rfl hk1000 hwz ?_)
            intro v5 w5 hw5 hb5 _ _
            have HT5 := Lib.hid hw5
            have HB5 := Lib.hid (HB4.out.trans hb5)
            clear hw5 hb5
            go_wp2_with fail
            go_roundw
            case rel => exact ⟨k + 1, t4, acc ++ [X], X, by omega, by go_num, rfl, ht4, by rw [HTT.out], HXW, Lib.hid (by rw [List.length_append, HAK.out]; rfl), HT5, HB5, HQ2⟩
            case measure => simp [intOf]; omega
    · have hke : k = n := by omega
      have hd : decide ((k : Int) < (n : Int)) = false := by simp; omega
      have HQ : Hid (r = .ok acc) := Lib.hid (by
        rw [← HE.out, show n - k = 0 from by omega]
        rfl)
      obtain ⟨q5, c5, hv5, ht5, _⟩ := HTx.out.tbl
      have HV5 := Lib.hid hv5
      have HT5 := Lib.hid ht5
      have HBF := Lib.hid (HB1.out.trans (HBr.out.mono HB1.out.size))
      clear hv5 ht5
      go_wp2_with fail
      go_ret2
      rw [HQ.out]
      exact ⟨HBF.out, q5, c5, by rw [HV5.out]; rfl, HT5.out⟩
end Go.Proofs.YtmbfgejephgojaaDoor.Gf

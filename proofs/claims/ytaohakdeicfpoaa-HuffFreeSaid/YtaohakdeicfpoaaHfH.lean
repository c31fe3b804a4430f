
/- The walk of HuffFree. -/
import Derived.Test.YtaohakdeicfpoaaHfG
import Derived.Laws.Cover1
namespace Go.Proofs.Ytaohakdeicfpoaa.Hf
open Go.RowKit Go.Proofs.Ytaohakdeicfpoaa.Oct Go.Proofs.Ytaohakdeicfpoaa.Bit
set_option linter.unusedVariables false
set_option linter.unusedSimpArgs false
set_option maxRecDepth 100000

theorem dig_less : ∀ (a b : List Bool), a.length = b.length → num a < num b → Op.bytesLess (a.map dig) (b.map dig) = true
  | [], [], _, h => by simp at h
  | [], _ :: _, h, _ => by simp at h
  | _ :: _, [], h, _ => by simp at h
  | x :: a, y :: b, hl, h => by
    have hl' : a.length = b.length := by simpa using hl
    rw [num_cons, num_cons, hl'] at h
    have h1 := num_lt a
    have h2 := num_lt b
    rw [hl'] at h1
    simp only [List.map_cons, Op.bytesLess]
    cases x <;> cases y
    · rw [dig_less a b hl' (by simpa using h)]; simp
    · rfl
    · simp at h; omega
    · rw [dig_less a b hl' (by simpa using h)]; simp
theorem spre_false (s t : List UInt8) (w : World) (h : ¬ s <+: t) (hs : s.length ≤ 1000000) (ht : t.length ≤ 1000000) : Calls Try.prog 35 #[.string (bs t), .string (bs s)] w fun e w' => e = .returned (.bool false) ∧ w = w' := by
  have hzs := bs_size s
  have hzt := bs_size t
  by_cases hl : s.length ≤ t.length
  · have hx := bs_extract t 0 s.length
    rw [List.drop_zero, Nat.sub_zero] at hx
    have hcmp : ((bs (t.take s.length)).toList == (bs s).toList) = false := by
      rw [bs_toList, bs_toList]
      simp
      intro e
      exact h (List.prefix_iff_eq_take.2 e.symm)
    have hd : decide (((bs s).size : Int) ≤ ((bs t).size : Int)) = true := by rw [hzs, hzt]; simp; omega
    have hd2 : (bs s).size ≤ (bs t).size := by omega
    generalize bs (t.take s.length) = u at *
    generalize bs s = S at *
    generalize bs t = T at *
    clear h
    go_enter Try.func35, Try.ntmps35
    go_wp2_with fail
    go_ret
    exact ⟨rfl, rfl⟩
  · have hd : decide (((bs s).size : Int) ≤ ((bs t).size : Int)) = false := by rw [hzs, hzt]; simp; omega
    have hd2 : ¬ (bs s).size ≤ (bs t).size := by omega
    generalize bs s = S at *
    generalize bs t = T at *
    clear h hl
    go_enter Try.func35, Try.ntmps35
    go_wp2_with fail
    go_ret
    exact ⟨rfl, rfl⟩
theorem pre_false (s t : List UInt8) (w : World) (h : ¬ s <+: t) (hs : s.length ≤ 1000000) (ht : t.length ≤ 1000000) : Calls Try.prog 22 #[.string (bs t), .string (bs s)] w fun e w' => e = .returned (.bool false) ∧ w = w' := by
  have HC := Lib.hid (spre_false s t w h hs ht)
  generalize bs s = S at *
  generalize bs t = T at *
  clear h hs ht
  go_enter Try.func22, Try.ntmps22
  go_wp2_with fail
  refine HC.out.mono ?_
  rintro e w' ⟨rfl, rfl⟩
  go_wp2_with fail
  go_ret
  exact ⟨rfl, rfl⟩
/-- what HuffFree asks of two words -/
structure Pair (L : List (List UInt8)) (i j : Nat) (s t : List UInt8) : Prop where
  pre : i ≠ j → s ≠ [] → ¬ s <+: t
  less : i < j → s.length = t.length → s ≠ [] → Op.bytesLess s t = true
theorem canon_pair (N : List Nat) (hL : ∀ i (h : i < N.length), N[i] ≤ 30) (hT : startN N 31 ≤ 1073741824) (i j : Nat) (s t : List UInt8) (hi : (canonB N)[i]? = some s) (hj : (canonB N)[j]? = some t) : Pair (canonB N) i j s t := by
  have hg := (canon_good N hL hT).2
  refine ⟨fun hij hs hp => ?_, fun hij hl hs => ?_⟩
  · have ht : t ≠ [] := by
      intro e
      subst e
      obtain ⟨u, hu⟩ := hp
      exact hs (List.append_eq_nil_iff.1 hu).1
    exact hg i j s t hi hj hij hs ht hp
  · obtain ⟨hi', rfl⟩ := canonB_some N i s hi
    obtain ⟨hj', rfl⟩ := canonB_some N j t hj
    have hn : N[i] = N[j] := by simpa [wordAt_length] using hl
    have h0 : N[i] ≠ 0 := by
      intro e
      apply hs
      rw [List.map_eq_nil_iff]
      exact List.eq_nil_of_length_eq_zero (by rw [wordAt_length, e])
    have h30 := hL i hi'
    refine dig_less _ _ (by rw [wordAt_length, wordAt_length, hn]) ?_
    unfold wordAt
    rw [num_word_of_lt _ _ (pos_small N _ i hi' rfl h0 h30 hT), num_word_of_lt _ _ (pos_small N _ j hj' rfl (by rw [← hn]; exact h0) (by rw [← hn]; exact h30) hT), ← hn]
    exact canon_rise N i j _ hi' rfl hij
set_option maxHeartbeats 4000000 in
theorem free_walk (a : Option Addr) (len cap : Nat) (W : World) (h : IsInts W a len cap) :
    Calls Try.prog 6 #[.slice a len cap] W fun e w' => e = .returned (.bool true) ∧ Below W.heap.size W w' := by
  obtain ⟨zs, hx, hr, _, _, _⟩ := h
  have HX := Lib.hid hx
  have HR := Lib.hid hr
  clear hx hr
  go_enter Try.func6, Try.ntmps6
  go_wp2_with fail
  refine (lives_any _).mono ?_
  rintro e w1 ⟨rfl, hb1⟩
  have HB1 := Lib.hid hb1
  clear hb1
  by_cases hbig : 60 < len
  · have hd : decide ((60 : Int) < (len : Int)) = true := by simp; omega
    go_wp2_with fail
    refine (lives_any _).mono ?_
    rintro e w2 ⟨rfl, hb2⟩
    have HB2 := Lib.hid (HB1.out.trans (hb2.mono HB1.out.size))
    clear hb2
    go_wp2_with fail
    go_ret
    exact ⟨rfl, HB2.out⟩
  · have hd : decide ((60 : Int) < (len : Int)) = false := by simp; omega
    have HCA := Lib.hid (canon_any a len cap zs w1 ((HR.out.below HB1.out (Nat.le_refl _)).mono HB1.out.size) HX.out (by omega))
    go_wp2_with fail
    refine HCA.out.mono ?_
    rintro e w2 ⟨hb2, hres⟩
    have HB2 := Lib.hid (HB1.out.trans (hb2.mono HB1.out.size))
    rcases hres with ⟨hE, rfl⟩ | ⟨hE, q, c, rfl, hv, hq0, hlc, hcm, hqb⟩
    · have hcb : (cErr zs != 0) = true := by simpa using hE
      generalize cErr zs = ce at *
      clear hb2 hE
      go_wp2_with fail
      go_ret
      exact ⟨rfl, HB2.out⟩
    · have hN := lensN_length zs
      have hok : okZ zs = true := by
        rcases h : okZ zs with _ | _
        · unfold cErr at hE; rw [h] at hE; simp at hE
        · rfl
      have hT : startN (lensN zs) 31 ≤ 1073741824 := by
        rcases Nat.lt_or_ge 1073741824 (startN (lensN zs) 31) with h | h
        · unfold cErr at hE; rw [if_pos hok, if_neg (by omega)] at hE; simp at hE
        · exact h
      have HP := Lib.hid (canon_pair (lensN zs) (lensN_max zs hok) hT)
      have HLEN := Lib.hid (show ∀ (i : Nat) (s : List UInt8) (z : Int), (canonB (lensN zs))[i]? = some s → zs[i]? = some z → (s.length : Int) = z by
        intro i s z hs hz
        obtain ⟨hi, rfl⟩ := canonB_some _ i s hs
        obtain ⟨hi2, rfl⟩ := List.getElem?_eq_some_iff.1 hz
        have h1 := lensN_get zs i hi hi2
        have h2 := okZ_get zs hok i hi2
        rw [List.length_map, wordAt_length, h1]
        omega)
      have HS60 := Lib.hid (show ∀ (i : Nat) (s : List UInt8), (canonB (lensN zs))[i]? = some s → s.length ≤ 1000000 by
        intro i s hs
        obtain ⟨hi, rfl⟩ := canonB_some _ i s hs
        have := lensN_max zs hok i hi
        rw [List.length_map, wordAt_length]
        omega)
      have HXL := Lib.hid (show (canonB (lensN zs)).length = len by rw [canonB_length, lensN_length]; exact HX.out)
      have HV := Lib.hid hv
      rw [HX.out]
      generalize hfu : decide (startN (lensN zs) 31 = 1073741824) = fu at *
      clear hfu hN hT hok hE hb2 hv hq0 hlc hcm hqb HCA
      generalize canonB (lensN zs) = L at *
      go_wp2_with fail
      go_loopw [6, 7, 8, 9, 31] (fun u s u2 t i wr => ∃ k : Nat, k ≤ len ∧ i = .int .i64 (k : Int) ∧ Hid (Drawn w2 wr)) (fun _ _ _ _ i _ => len - (intOf i).toNat)
      case atStart => exact ⟨0, by omega, rfl, Lib.hid ⟨0, rfl⟩⟩
      case round =>
        obtain ⟨i, hi, rfl, HD⟩ := hrel
        by_cases hlt : i < len
        · have hil : i < L.length := by rw [HXL.out]; exact hlt
          have hiz : i < zs.length := by rw [HX.out]; exact hlt
          obtain ⟨b1, o1, hq1, _⟩ := HV.out.addr (by rw [strs_length]; omega)
          subst hq1
          obtain ⟨b0, o0, ha0, hbl0⟩ := HR.out.addr (by rw [ints_length]; omega)
          subst ha0
          have hcw : ∀ x : Addr, wr.cell? x = w2.cell? x := by intro x; obtain ⟨n, rfl⟩ := HD.out; rfl
          have hc1 := (hcw _).trans (HV.out.str i hil)
          have hc0 := (hcw _).trans ((HB2.out.cell (p := ⟨b0, o0 + i, none⟩) hbl0).trans (HR.out.int i hiz))
          have hgs : L[i]? = some L[i] := List.getElem?_eq_getElem hil
          have hgz : zs[i]? = some zs[i] := List.getElem?_eq_getElem hiz
          have hlen := HLEN.out i _ _ hgs hgz
          generalize zs[i] = z at hc0 hgz hlen
          generalize L[i] = s at hc1 hgs hlen
          subst hlen
          have HGS := Lib.hid hgs
          have hss := HS60.out i s hgs
          have hsz := bs_size s
          have hem := bs_empty s
          have hlb : (bs s).toList = s := bs_toList s
          have HLB := Lib.hid hlb
          generalize hSe : bs s = S at hc1 hsz hem HLB
          have HSE := Lib.hid hSe
          have hdk : decide ((i : Int) < (len : Int)) = true := by simp; omega
          have i1 : (0 : Int) ≤ (i : Int) := by omega
          have i2 : (i : Int) < (len : Int) := by omega
          have hne0 : (((S.size : Nat) : Int) != ((s.length : Nat) : Int)) = false := by rw [hsz]; simp
          clear hcw hgs hgz hSe hlb
          go_wp2_with fail
          go_loopw [8, 9, 45] (fun u t jv wq => ∃ j : Nat, j ≤ len ∧ jv = .int .i64 (j : Int) ∧ Hid (Drawn w2 wq)) (fun _ _ jv _ => len - (intOf jv).toNat)
          case atStart => exact ⟨0, by omega, rfl, HD⟩
          case round =>
            obtain ⟨j, hj, rfl, HDj⟩ := hrel
            by_cases hltj : j < len
            · have hjl : j < L.length := by rw [HXL.out]; exact hltj
              have hcw : ∀ x : Addr, wr.cell? x = w2.cell? x := by intro x; obtain ⟨n, rfl⟩ := HDj.out; rfl
              have hc2 := (hcw _).trans (HV.out.str j hjl)
              have hgt : L[j]? = some L[j] := List.getElem?_eq_getElem hjl
              generalize L[j] = t at hc2 hgt
              have htt := HS60.out j t hgt
              have hpair := HP.out i j s t HGS.out hgt
              have htz := bs_size t
              have HLT := Lib.hid (bs_toList t)
              have hpre := fun h1 h2 => pre_false s t wr (hpair.pre h1 h2) hss htt
              rw [HSE.out] at hpre
              generalize bs t = T at hc2 htz hpre HLT
              have hdj : decide ((j : Int) < (len : Int)) = true := by simp; omega
              have j1 : (0 : Int) ≤ (j : Int) := by omega
              have j2 : (j : Int) < (len : Int) := by omega
              have HPR := Lib.hid hpre
              have HLS := Lib.hid hpair.less
              clear hcw hgt hpair hpre
              by_cases hij : i = j
              · subst hij
                have hn1 : ((i : Int) != (i : Int)) = false := by simp
                have hn2 : decide ((i : Int) < (i : Int)) = false := by simp
                go_wp2_with fail
                go_roundw
                case rel => exact ⟨i + 1, by omega, by go_num, HDj⟩
                case measure => simp [intOf]; omega
              · have hn1 : ((i : Int) != (j : Int)) = true := by simp; omega
                by_cases hse : s = []
                · have hem' : S.toList.isEmpty = true := by rw [hem, hse]; rfl
                  clear hem
                  by_cases hlt2 : i < j
                  · have hn2 : decide ((i : Int) < (j : Int)) = true := by simp; omega
                    by_cases hle : s.length = t.length
                    · rw [← hle] at htz
                      clear hse hle
                      go_wp2_with fail
                      go_roundw
                      case rel => exact ⟨j + 1, by omega, by go_num, HDj⟩
                      case measure => simp [intOf]; omega
                    · have hq1 : ((s.length : Int) == (t.length : Int)) = false := by simp; omega
                      have hq2 : ¬ ((s.length : Int) = (t.length : Int)) := by omega
                      clear hse hle
                      go_wp2_with fail
                      go_roundw
                      case rel => exact ⟨j + 1, by omega, by go_num, HDj⟩
                      case measure => simp [intOf]; omega
                  · have hn2 : decide ((i : Int) < (j : Int)) = false := by simp; omega
                    clear hse
                    go_wp2_with fail
                    go_roundw
                    case rel => exact ⟨j + 1, by omega, by go_num, HDj⟩
                    case measure => simp [intOf]; omega
                · have HPRE := Lib.hid (HPR.out hij hse)
                  have hem' : S.toList.isEmpty = false := by
                    rw [hem]
                    cases s
                    · exact absurd rfl hse
                    · rfl
                  clear hem
                  by_cases hlt2 : i < j
                  · have hn2 : decide ((i : Int) < (j : Int)) = true := by simp; omega
                    by_cases hle : s.length = t.length
                    · have hls : Op.bytesLess S.toList T.toList = true := by rw [HLB.out, HLT.out]; exact HLS.out hlt2 hle hse
                      rw [← hle] at htz
                      clear hse hle
                      go_wp2_with fail
                      refine HPRE.out.mono ?_
                      rintro e w' ⟨rfl, rfl⟩
                      go_wp2_with fail
                      go_roundw
                      case rel => exact ⟨j + 1, by omega, by go_num, HDj⟩
                      case measure => simp [intOf]; omega
                    · have hq1 : ((s.length : Int) == (t.length : Int)) = false := by simp; omega
                      have hq2 : ¬ ((s.length : Int) = (t.length : Int)) := by omega
                      clear hse hle
                      go_wp2_with fail
                      refine HPRE.out.mono ?_
                      rintro e w' ⟨rfl, rfl⟩
                      go_wp2_with fail
                      go_roundw
                      case rel => exact ⟨j + 1, by omega, by go_num, HDj⟩
                      case measure => simp [intOf]; omega
                  · have hn2 : decide ((i : Int) < (j : Int)) = false := by simp; omega
                    clear hse
                    go_wp2_with fail
                    refine HPRE.out.mono ?_
                    rintro e w' ⟨rfl, rfl⟩
                    go_wp2_with fail
                    go_roundw
                    case rel => exact ⟨j + 1, by omega, by go_num, HDj⟩
                    case measure => simp [intOf]; omega
            · have hje : j = len := by omega
              subst hje
              have hdj : decide ((j : Int) < (j : Int)) = false := by simp
              go_wp2_with fail
              go_roundw
              case rel => exact ⟨i + 1, by omega, by go_num, HDj⟩
              case measure => simp [intOf]; omega
        · have hie : i = len := by omega
          subst hie
          have hdk : decide ((i : Int) < (i : Int)) = false := by simp
          have HBE := Lib.hid (HB2.out.trans (HD.out.below W.heap.size))
          go_wp2_with fail
          go_ret
          exact ⟨rfl, HBE.out⟩
end Go.Proofs.Ytaohakdeicfpoaa.Hf

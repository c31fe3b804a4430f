
/- Codes that tell bytes, from the front; the contract of the document's All. -/
import Derived.Test.YtgdcjhngjdiaoaaLzZ
import Derived.Test.YtgdcjhngjdiaoaaLzN
namespace Go.Proofs.Ytgdcjhngjdiaoaa.Lz
open Go.RowKit Go.Proofs.Ytgdcjhngjdiaoaa.Oct Go.Proofs.Ytgdcjhngjdiaoaa.Bit
set_option linter.unusedVariables false
set_option linter.unusedSimpArgs false
set_option maxRecDepth 100000

set_option maxHeartbeats 400000 in
theorem rof_big (xs : List UInt8) (low : Bool) (w : World) (hs : xs.length ≤ 10000) :
    Calls Try.prog 19 #[.string (bs xs), .bool low] w fun e w' => e = .returned (.string (ds (bitsOf low xs))) ∧ Below w.heap.size w w' := by
  have hsz := bs_size xs
  go_enter Try.func19, Try.ntmps19
  go_wp2_with fail
  go_loopw [5, 6] (fun s i wr => ∃ k : Nat, k ≤ xs.length ∧ i = .int .i64 (k : Int) ∧ s = .string (ds (bitsOf low (xs.take k))) ∧ Below w.heap.size w wr) (fun _ c _ => xs.length - (intOf c).toNat)
  case atStart => exact ⟨0, by omega, rfl, rfl, Below.refl _ _⟩
  case round =>
    obtain ⟨k, hk, rfl, rfl, hF⟩ := hrel
    by_cases hlt : k < xs.length
    · obtain ⟨x, hx⟩ : ∃ x, x = xs[k] := ⟨_, rfl⟩
      have hb : x.toNat < 256 := x.toNat_lt
      have hz2 : (ds (bitsOf low (xs.take k))).size ≤ 80000 := by rw [ds_size, bitsOf_length, List.length_take]; omega
      have hg : ∀ h, (bs xs)[k]'h = x := fun h => (bs_get xs k h hlt).trans hx.symm
      have HG := Lib.hid hg
      have HX := Lib.hid (show xs.take (k + 1) = xs.take k ++ [x] by rw [hx, take_succ' xs k hlt])
      clear hg hx
      go_wp2_with fail
      rw [HG.out]
      rw [show ((x.toNat : Int) % 4294967296) = (x.toNat : Int) by omega]
      refine (rword_any _ 8 _ (by omega) (by omega)).mono ?_
      rintro e w1 ⟨rfl, hb1⟩
      have hF1 : Below w.heap.size w w1 := hF.trans (hb1.mono hF.size)
      have hz1 : (ds (word x.toNat 8)).size = 8 := by rw [ds_size, word_length]
      cases low
      · go_wp2_with fail
        go_roundw
        case rel =>
          refine ⟨k + 1, by omega, by go_num, ?_, hF1⟩
          rw [ds_append, HX.out, bitsOf_append]; simp [bitsOf, bitsB, wordE]
        case measure => simp [intOf]; omega
      · go_wp2_with fail
        refine (dturn_any _ _ (by rw [word_length]; omega)).mono ?_
        rintro e w' ⟨rfl, rfl⟩
        have hz3 : (ds (word x.toNat 8).reverse).size = 8 := by rw [ds_size, List.length_reverse, word_length]
        go_wp2_with fail
        go_roundw
        case rel =>
          refine ⟨k + 1, by omega, by go_num, ?_, hF1⟩
          rw [ds_append, HX.out, bitsOf_append]; simp [bitsOf, bitsB, wordE]
        case measure => simp [intOf]; omega
    · have : k = xs.length := by omega
      subst this
      rw [List.take_length]
      go_wp2_with fail
      go_ret
      exact ⟨rfl, hF⟩
/-- from this state these bits are codes that produce these bytes; the state behind them -/
inductive Goes : St → List Bool → List UInt8 → St → Prop
  | nil {s : St} : Goes s [] [] s
  | cons {s s' z : St} {M : List Bool} {ys t : List UInt8} {c : Nat} : c ≠ 257 → c < 2 ^ widN (258 + s.tab.length) false → step s c = some (s', t) → (t ≠ [] → 258 + s'.tab.length ≤ 4094) → Goes s' M ys z →
      Goes s (wordE false c (widN (258 + s.tab.length) false) ++ M) (t ++ ys) z
theorem Goes.snoc {s z z' : St} {M : List Bool} {ys t : List UInt8} {c : Nat} (h : Goes s M ys z) (h7 : c ≠ 257) (hw : c < 2 ^ widN (258 + z.tab.length) false) (hs : step z c = some (z', t)) (hm : t ≠ [] → 258 + z'.tab.length ≤ 4094) :
    Goes s (M ++ wordE false c (widN (258 + z.tab.length) false)) (ys ++ t) z' := by
  induction h with
  | nil =>
    have := Goes.cons h7 hw hs hm (Goes.nil (s := z'))
    simpa using this
  | cons a1 a2 a3 a4 _ ih =>
    rw [List.append_assoc, List.append_assoc]
    exact Goes.cons a1 a2 a3 a4 (ih hw hs)
theorem Tells.goes {L : List Bool} {s : St} {xs : List UInt8} (h : Tells L s xs) : Goes s0 L xs s := by
  induction h with
  | nil => exact Goes.nil
  | snoc _ h7 hw hs hm ih => exact ih.snoc h7 hw hs hm
theorem code_front {B X : List Bool} {a c w : Nat} (h : B.drop a = wordE false c w ++ X) (hw : c < 2 ^ w) : codeAt false B a w = c ∧ (a ≤ B.length → a + w ≤ B.length) ∧ B.drop (a + w) = X := by
  refine ⟨?_, fun ha => ?_, ?_⟩
  · unfold codeAt
    rw [h, List.take_append_of_le_length (by rw [wordE_length]; exact Nat.le_refl _), List.take_of_length_le (by rw [wordE_length]; exact Nat.le_refl _), numE_wordE false c w hw]
  · have h1 := congrArg List.length h
    rw [List.length_drop, List.length_append, wordE_length] at h1
    omega
  · rw [← List.drop_drop, h]
    have := List.drop_left (l₁ := wordE false c w) (l₂ := X)
    rw [wordE_length] at this
    exact this
/-- the document at work: i rounds, the bytes so far, the greatest table so far -/
def AllSt (w : World) (B : List Bool) (z : St) (p : Nat) (xs : List UInt8) (d i : Nat) (out : List UInt8) (wr : World) : Prop :=
  ∃ (a : Nat) (s : St) (M : List Bool) (ys : List UInt8), StM wr d s a ∧ Good s (a + 1) ∧ a ≤ B.length ∧ i ≤ a ∧ Below w.heap.size w wr ∧ Goes s M ys z ∧ B.drop a = M ++ (wordE false 257 (widN (258 + z.tab.length) false) ++ zs p) ∧ out ++ ys = xs
def AllP (w : World) (xs : List UInt8) (e : Ending) (w' : World) : Prop :=
  Below w.heap.size w w' ∧ ∃ m : Nat, m ≤ 4094 ∧ e = .returned (.tuple #[.string (bs xs), .bool true, .int .i64 (m : Int)])
set_option maxHeartbeats 4000000 in
theorem rall_any (o1 : List UInt8) (B L L' : List Bool) (z : St) (p : Nat) (xs : List UInt8) (w : World) (ho : o1.length ≤ 10000) (hB : bitsOf false o1 = B) (hT : Tells L z xs) (hL : L = wordE false 256 9 ++ L') (hBL : B = L ++ (wordE false 257 (widN (258 + z.tab.length) false) ++ zs p)) (hp : p < 8) (hxs : xs.length ≤ 2000) :
    Calls Try.prog 12 #[.string (bs o1)] w (AllP w xs) := by
  have hbl := bitsOf_length false o1
  rw [hB] at hbl
  have hbb : B.length ≤ 80000 := by omega
  have hro := rof_big o1 false w ho
  rw [hB] at hro
  have HRO := Lib.hid hro
  have hpk := fun W => rpeek_any B 0 9 false W (Nat.zero_le _) (by omega)
  have hpv : rpV 9 false B 0 = 256 := by
    have hc : cntB 9 = true := by decide
    unfold rpV
    rw [hc, if_pos rfl, List.drop_zero]
    unfold peekV
    rw [hBL, hL, List.append_assoc, List.append_assoc, List.take_append_of_le_length (by rw [wordE_length]; decide), List.take_of_length_le (by rw [wordE_length]; decide), numE_wordE false 256 9 (by decide)]
    rfl
  have hpe : peekE 9 = 0 := by decide
  rw [hpv, hpe] at hpk
  have HPK := Lib.hid hpk
  have HGO := Lib.hid hT.goes
  have HBL := Lib.hid hBL
  have hszB := ds_size B
  clear hbl hro hpk hpv hpe hT hL hBL hB
  go_enter Try.func12, Try.ntmps12
  go_wp2_with fail
  refine HRO.out.mono ?_
  rintro e w1 ⟨rfl, hb1⟩
  have HB1 := Lib.hid hb1
  clear hb1
  go_wp2_with fail
  refine (rstart_any _).mono ?_
  rintro e w2 ⟨g2, c2, rfl, hc21, hc22, hs2, hb2, hg2⟩
  obtain ⟨wd, hwd⟩ : ∃ wd, wd = w2.alloc (.cells #[.slice (some ⟨g2, 0, none⟩) 258 c2, .string ⟨#[]⟩, .int .i64 0] 47) := ⟨_, rfl⟩
  have hB2 := HB1.out.trans (hb2.mono HB1.out.size)
  have hA : Below w2.heap.size w2 wd := by rw [hwd]; exact (Below.refl _ _).alloc (Nat.le_refl _) _
  have hst : AllSt w B z p xs w2.heap.size 0 [] wd := by
    refine ⟨0, s0, L, xs, ⟨g2, c2, ?_, ?_, hc21, hc22⟩, Good.start _, Nat.zero_le _, Nat.le_refl _, hB2.trans (hA.mono hB2.size), HGO.out, by rw [List.drop_zero]; exact HBL.out, rfl⟩
    · rw [hwd]
      show (w2.heap.push _)[w2.heap.size]? = _
      rw [Array.getElem?_push_size]
      rfl
    · have := hs2.below hA
      simpa [tabD, s0] using this
  have HST := Lib.hid hst
  have HWD := Lib.hid hwd
  have hdw : w.heap.size ≤ w2.heap.size := hB2.size
  obtain ⟨d, hd⟩ : ∃ d, d = w2.heap.size := ⟨_, rfl⟩
  rw [← hd] at HST hdw
  have HD := Lib.hid hd
  clear hwd hst hs2 hb2 hA hB2 hd hg2
  go_wp2_with fail
  rw [← HD.out, ← HWD.out]
  refine (HPK.out _).mono ?_
  rintro e w' ⟨rfl, rfl⟩
  clear HD HWD hc21 hc22
  go_wp2_with fail
  go_loopw [9, 10, 11] (fun o m i wr => ∃ (out : List UInt8) (mo k : Nat), o = .string (bs out) ∧ m = .int .i64 (mo : Int) ∧ i = .int .i64 (k : Int) ∧ mo ≤ 4094 ∧ out.length ≤ 2000 ∧ AllSt w B z p xs d k out wr) (fun _ _ _ wr => B.length - posS wr d)
  case atStart => exact ⟨[], 0, 0, rfl, rfl, rfl, by omega, by simp, HST.out⟩
  case round =>
    obtain ⟨out, mo, k, rfl, rfl, rfl, hmo, hol, a, s, M, ys, ⟨g, c, hbk, hrow, hgc, hcm⟩, hG, hab, hka, hBw, hgo, hdr, hout⟩ := hrel
    have hsz := bs_size out
    have k0 : wr.cell? ⟨d, 0, none⟩ = some (.slice (some ⟨g, 0, none⟩) (258 + s.tab.length) c) := by simp [World.cell?, hbk]
    have k1 : wr.cell? ⟨d, 1, none⟩ = some (.string (bs s.ahead)) := by simp [World.cell?, hbk]
    have k2 : wr.cell? ⟨d, 2, none⟩ = some (.int .i64 (a : Int)) := by simp [World.cell?, hbk]
    have hd1 : decide ((k : Int) ≤ (B.length : Int)) = true := by simp; omega
    have hd1' : decide (k ≤ B.length) = true := by simp; omega
    have hcv := rcode_any g c s a (a + 1) B false wr hrow hgc hcm hG (by omega) (by omega) hab (by omega)
    have HCV := Lib.hid hcv
    have HBK := Lib.hid hbk
    have HG := Lib.hid hG
    have HB := Lib.hid hBw
    have HP := Lib.hid (posS_of hbk)
    have HOUT := Lib.hid hout
    have hdl : d < wr.heap.size := by
      rcases Nat.lt_or_ge d wr.heap.size with hlt | hge
      · exact hlt
      · rw [Array.getElem?_eq_none hge] at hbk; cases hbk
    have hwd := widN_bd (258 + s.tab.length) false
    clear hcv hbk hG hBw hrow hgc hcm hout
    go_wp2_with fail
    refine HCV.out.mono ?_
    intro e w3 hcv
    unfold CodeV at hcv
    obtain ⟨wd, hwdd⟩ : ∃ wd, wd = widN (258 + s.tab.length) false := ⟨_, rfl⟩
    rw [← hwdd] at hcv hwd
    have HWDD := Lib.hid hwdd
    obtain ⟨hb3, hcut, hrest⟩ := hcv
    have HB3 := Lib.hid (HB.out.trans (hb3.mono HB.out.size))
    have HBK3 := Lib.hid ((hb3.block d hdl).trans HBK.out)
    clear hwdd k0 k1 k2
    rcases hgo with _ | ⟨h7, hw, hst, hm, hgo'⟩
    · obtain ⟨hc, hokk, hdx⟩ := code_front (B := B) (X := zs p) hdr (widN_less _)
      have hok := hokk hab
      rw [← HWDD.out] at hc hok hdx
      obtain ⟨hend, _⟩ := hrest hok
      obtain ⟨A, hA⟩ : ∃ A, A = a + wd := ⟨_, rfl⟩
      rw [← hA] at hend hok hdx
      obtain ⟨q, l, c3, b, rfl⟩ := hend hc
      have hxs2 : out = xs := by rw [← HOUT.out, List.append_nil]
      have x1 : (ds B).extract A B.length = ds (zs p) := by rw [ds_extract, hdx, List.take_of_length_le (by rw [zs_length]; have := congrArg List.length hdx; rw [List.length_drop, zs_length] at this; omega)]
      have z1 : (ds (zs p)).size = p := by rw [ds_size, zs_length]
      have hnum := fun W => rnumber_any (zs p) W (by rw [zs_length]; omega)
      rw [num_zs] at hnum
      have HNUM := Lib.hid hnum
      have HXS := Lib.hid hxs2
      have dp : decide ((p : Int) < 8) = true := by simp; omega
      have dp' : decide (p < 8) = true := by simp; omega
      clear hb3 hcut hrest hend hc hokk hdx hdr hA hnum hxs2
      go_wp2_with fail
      refine (HNUM.out _).mono ?_
      rintro e w' ⟨rfl, rfl⟩
      go_wp2_with fail
      go_ret3
      exact ⟨HB3.out.alloc HB3.out.size _, mo, hmo, by rw [HXS.out]; rfl⟩
    · rename_i s' M' ys' t cc
      rw [List.append_assoc] at hdr
      obtain ⟨hc, hokk, hdx⟩ := code_front (B := B) hdr hw
      have hok := hokk hab
      rw [← HWDD.out] at hc hok hdx
      obtain ⟨_, hr2⟩ := hrest hok
      rw [hc] at hr2
      obtain ⟨_, hgood⟩ := hr2 h7
      obtain ⟨g3, c3, hrow3, hgc3, hcm3, rfl⟩ := hgood s' t hst
      obtain ⟨hG', htl, _⟩ := HG.out.step (by omega) hst
      have hG2 : Good s' (a + wd + 1) := hG'.mono (by omega)
      have hne := StM.far HBK3.out hrow3 (tabD_pos s')
      have hput := StM.put (a2 := a + wd) (z := (a : Int) + (wd : Int)) HBK3.out hne hrow3 hgc3 hcm3 (by omega)
      have hpb := putW_below HB3.out hdw (.slice (some ⟨g3, 0, none⟩) (258 + s'.tab.length) c3) (.string (bs s'.ahead)) (.int .i64 ((a : Int) + (wd : Int)))
      have hposn : posS (putW w3 d (.slice (some ⟨g3, 0, none⟩) (258 + s'.tab.length) c3) (.string (bs s'.ahead)) (.int .i64 ((a : Int) + (wd : Int)))) d = a + wd := by
        obtain ⟨_, _, hbn, _⟩ := hput
        exact posS_of hbn
      have hxs2 : (out ++ t) ++ ys' = xs := by rw [List.append_assoc]; exact HOUT.out
      have hob : (out ++ t).length ≤ 2000 := by
        have := congrArg List.length hxs2
        rw [List.length_append] at this
        omega
      have k0 : w3.cell? ⟨d, 0, none⟩ = some (.slice (some ⟨g, 0, none⟩) (258 + s.tab.length) c) := by simp [World.cell?, HBK3.out]
      have k1 : w3.cell? ⟨d, 1, none⟩ = some (.string (bs s.ahead)) := by simp [World.cell?, HBK3.out]
      have k2 : w3.cell? ⟨d, 2, none⟩ = some (.int .i64 (a : Int)) := by simp [World.cell?, HBK3.out]
      have f0 : ∀ i, w3.frozen? ⟨d, i, none⟩ = false := fun i => by simp [World.frozen?, HBK3.out]
      have hd3 : d < w3.heap.size := Nat.lt_of_lt_of_le hdl hb3.size
      have hap := bs_append out t
      have hst3 := bs_size t
      have hg3 := hrow3.lt
      obtain ⟨K, hK⟩ : ∃ K, K = 258 + s'.tab.length := ⟨_, rfl⟩
      rw [← hK] at hput hpb hposn hgc3 hm ⊢
      obtain ⟨mo2, hmo2⟩ : ∃ mo2 : Nat, mo2 = (out ++ t).length := ⟨_, rfl⟩
      have HO2 := Lib.hid (show (out ++ t).length = mo2 from hmo2.symm)
      rw [← hmo2] at hob
      have HG2 := Lib.hid hG2
      have HPUT := Lib.hid hput
      have HPB := Lib.hid hpb
      have HPN := Lib.hid hposn
      have HXS := Lib.hid hxs2
      have HGO2 := Lib.hid hgo'
      have HDR := Lib.hid hdx
      have HCM := Lib.hid hcm3
      have hkl : k ≤ a := hka
      unfold maxLen at hcm3
      clear hb3 hcut hrest hr2 hc hokk hdx hdr hgood hst hG' hG2 hput hpb hposn hxs2 hgo' hne hrow3 hmo2 hK
      by_cases hte : t = []
      · have he : (bs t).toList.isEmpty = true := by rw [bs_toList, hte]; rfl
        clear hte hm
        go_wp2_with fail
        go_roundw
        case rel => exact ⟨out ++ t, mo, k + 1, rfl, rfl, by go_num, hmo, by rw [HO2.out]; omega, a + wd, s', M', ys', HPUT.out, HG2.out, hok, by omega, HPB.out, HGO2.out, HDR.out, HXS.out⟩
        case measure =>
          have h := HPN.out
          unfold putW at h
          rw [h, HP.out]
          omega
      · have he : (bs t).toList.isEmpty = false := by
          rw [bs_toList]
          rcases hs : t with _ | ⟨x, r⟩
          · exact absurd hs hte
          · rfl
        have hK4 := hm hte
        clear hte hm
        by_cases hlg : mo < K
        · have dM : decide ((mo : Int) < (K : Int)) = true := by simp; omega
          have dM' : decide (mo < K) = true := by simp; omega
          go_wp2_with fail
          go_roundw
          case rel => exact ⟨out ++ t, K, k + 1, rfl, rfl, by go_num, hK4, by rw [HO2.out]; omega, a + wd, s', M', ys', HPUT.out, HG2.out, hok, by omega, HPB.out, HGO2.out, HDR.out, HXS.out⟩
          case measure =>
            have h := HPN.out
            unfold putW at h
            rw [h, HP.out]
            omega
        · have dM : decide ((mo : Int) < (K : Int)) = false := by simp; omega
          have dM' : decide (mo < K) = false := by simp; omega
          go_wp2_with fail
          go_roundw
          case rel => exact ⟨out ++ t, mo, k + 1, rfl, rfl, by go_num, hmo, by rw [HO2.out]; omega, a + wd, s', M', ys', HPUT.out, HG2.out, hok, by omega, HPB.out, HGO2.out, HDR.out, HXS.out⟩
          case measure =>
            have h := HPN.out
            unfold putW at h
            rw [h, HP.out]
            omega
end Go.Proofs.Ytgdcjhngjdiaoaa.Lz

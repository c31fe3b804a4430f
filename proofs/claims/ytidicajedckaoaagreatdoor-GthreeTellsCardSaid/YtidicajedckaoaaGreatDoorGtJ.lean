
/- The document's end, white and Encode. -/
import Derived.Test.YtidicajedckaoaaGreatDoorGtN
import Derived.Test.YtidicajedckaoaaGreatDoorMiV
import Derived.Test.YtidicajedckaoaaGreatDoorMiH
import Derived.Test.YtidicajedckaoaaGreatDoorMiI
import Derived.Test.YtidicajedckaoaaGreatDoorBitV
namespace Go.Proofs.YtidicajedckaoaaGreatDoor.Bit
open Go.RowKit Go.Proofs.YtidicajedckaoaaGreatDoor.Oct
set_option linter.unusedVariables false
set_option maxRecDepth 20000
set_option maxHeartbeats 600000 in
theorem rbytes_big (l : List Bool) (low : Bool) (w : World) (hl : l.length ≤ 2000000) : Calls Tryz.prog 23 #[.string (ds l), .bool low] w fun e w' => e = .returned (.string (bs (packB low l))) ∧ Below w.heap.size w w' := by
  have hsz := ds_size l
  have hpl := packB_length low l
  have HPL := Lib.hid hpl
  clear hpl
  go_enter Tryz.func23, Tryz.ntmps23
  rw [zs8]
  go_wp2_with fail
  go_loopw [5, 6] (fun s i wr => ∃ k : Nat, k ≤ (l.length + 7) / 8 ∧ i = .int .i64 ((8 * k : Nat) : Int) ∧ s = .string (bs ((packB low l).take k)) ∧ Below w.heap.size w wr) (fun _ c _ => 8 * ((l.length + 7) / 8) - (intOf c).toNat)
  case atStart => exact ⟨0, by omega, rfl, rfl, Below.refl _ _⟩
  case round =>
    obtain ⟨k, hk, rfl, rfl, hF⟩ := hrel
    by_cases hlt : 8 * k < l.length
    · have hkp : k < (packB low l).length := by rw [HPL.out]; omega
      have hbN : (packB low l)[k] = byteN low l k := packB_get low l k hkp
      have htk : (packB low l).take (k + 1) = (packB low l).take k ++ [byteN low l k] := by rw [take_succ' _ k hkp, hbN]
      have x1 : (ds l).extract (8 * k) l.length = ds (l.drop (8 * k)) := by rw [ds_extract, List.take_of_length_le (by simp)]
      have x2 : ds (l.drop (8 * k)) ++ ds (zs 8) = ds (l.drop (8 * k) ++ zs 8) := ds_append _ _
      have hz1 : (ds (l.drop (8 * k))).size ≤ 2000000 := by rw [ds_size, List.length_drop]; omega
      have hz2 : (ds (zs 8)).size = 8 := by rw [ds_size, zs_length]
      have hz3 : 8 ≤ (ds (l.drop (8 * k) ++ zs 8)).size := by rw [ds_size, List.length_append, zs_length]; omega
      have x3 : (ds (l.drop (8 * k) ++ zs 8)).extract 0 8 = ds (chunk l k) := by rw [ds_extract]; rfl
      have hcl := chunk_length l k
      have hbt := byteN_toNat low l k
      have hbb : (byteN low l k).toNat < 256 := (byteN low l k).toNat_lt
      have hzo : (bs ((packB low l).take k)).size ≤ 2000000 := by rw [bs_size, List.length_take]; omega
      have HTK := Lib.hid htk
      have HCL := Lib.hid hcl
      have HBT := Lib.hid hbt
      have H8 := Lib.hid (show (((8 * k : Nat)) : Int) = 8 * (k : Int) by omega)
      have hd : ((8 * k : Nat) : Int) < (l.length : Int) := by omega
      have ht8 : ((8 : Int) * (k : Int)).toNat = 8 * k := by omega
      clear hbN htk hcl hbt
      have hcvr := fun w' : World => conv_row (w := w'.alloc (.cells #[.int .u8 ((byteN low l k).toNat : Int)] 5)) 1 1 (row_val w' ((byteN low l k).toNat : Int) (byteN low l k) rfl) rfl
      have hzb : (bs [byteN low l k]).size = 1 := by rw [bs_size]; rfl
      cases low
      · have hnm : num (chunk l k) = (byteN false l k).toNat := by rw [HBT.out]; rfl
        have HNM := Lib.hid hnm
        clear hnm
        go_wp2_with fail
        refine (rnumber_any _ _ (by rw [HCL.out]; omega)).mono ?_
        rintro e w' ⟨rfl, rfl⟩
        rw [HNM.out]
        go_wp2_with fail
        go_roundw
        case rel =>
          refine ⟨k + 1, by omega, by go_num, ?_, hF.alloc hF.size _⟩
          rw [HTK.out, ← bs_append]
        case measure => simp [intOf]; omega
      · have hnm : num (chunk l k).reverse = (byteN true l k).toNat := by rw [HBT.out]; rfl
        have HNM := Lib.hid hnm
        clear hnm
        go_wp2_with fail
        refine (dturn_any _ _ (by rw [HCL.out]; omega)).mono ?_
        rintro e w' ⟨rfl, rfl⟩
        go_wp2_with fail
        refine (rnumber_any _ _ (by rw [List.length_reverse, HCL.out]; omega)).mono ?_
        rintro e w' ⟨rfl, rfl⟩
        rw [HNM.out]
        go_wp2_with fail
        go_roundw
        case rel =>
          refine ⟨k + 1, by omega, by go_num, ?_, hF.alloc hF.size _⟩
          rw [HTK.out, ← bs_append]
        case measure => simp [intOf]; omega
    · have hfull : (packB low l).take k = packB low l := List.take_of_length_le (by rw [HPL.out]; omega)
      rw [hfull]
      clear hfull
      have hd : decide (((8 * k : Nat) : Int) < (l.length : Int)) = false := by simp; omega
      go_wp2_with fail
      go_ret
      exact ⟨rfl, hF⟩
end Go.Proofs.YtidicajedckaoaaGreatDoor.Bit
namespace Go.Proofs.YtidicajedckaoaaGreatDoor.Gt
open Go.RowKit Go.Proofs.YtidicajedckaoaaGreatDoor.Oct Go.Proofs.YtidicajedckaoaaGreatDoor.Bit
open Go.Proofs.YtidicajedckaoaaGreatDoor.Fx (WrP eol)
open Go.Proofs.YtidicajedckaoaaGreatDoor.Mh (endF rowF againstA rrow_any ragainst_any txt txt_row txt_length)
open Go.Proofs.YtidicajedckaoaaGreatDoor.Rn (changes)
open Go.Proofs.YtidicajedckaoaaGreatDoor.Lp (VRow)
set_option linter.unusedVariables false
set_option linter.unusedSimpArgs false
set_option maxRecDepth 100000

theorem r_eol_text : ({ data := #[48, 48, 48, 48, 48, 48, 48, 48, 48, 48, 48, 49] } : ByteArray) = ds eol := by decide +kernel
theorem r_one_text : ({ data := #[49] } : ByteArray) = ds [true] := by decide +kernel
theorem r_nought_text : ({ data := #[48] } : ByteArray) = ds [false] := by decide +kernel
theorem rwhite_any (n : Nat) (w : World) (hn : n ≤ 40000) : Calls Tryz.prog 28 #[.int .i64 (n : Int)] w fun e w' => e = .returned (.string (ds (List.replicate n false))) ∧ w = w' := by
  have HAP := Lib.hid (fun k : Nat => (ds_append (List.replicate k false) [false]).trans (by rw [← List.replicate_succ']))
  have HSZ := Lib.hid (fun k : Nat => (ds_size (List.replicate k false)).trans (by rw [List.length_replicate]))
  have hz3 : ({ data := #[48] } : ByteArray).size = 1 := rfl
  go_enter Tryz.func28, Tryz.ntmps28
  go_wp2_with fail
  go_loop [3, 4] (fun s i => ∃ k : Nat, k ≤ n ∧ i = .int .i64 (k : Int) ∧ s = .string (ds (List.replicate k false))) (fun _ i => n - (intOf i).toNat)
  case atStart => exact ⟨0, by omega, rfl, rfl⟩
  case round =>
    obtain ⟨k, hk, rfl, rfl⟩ := hrel
    by_cases hlt : k < n
    · have hd : decide ((k : Int) < (n : Int)) = true := by simp; omega
      have hs := HSZ.out k
      have hap := Lib.hid (HAP.out k)
      rw [← r_nought_text] at hap
      generalize hT : ds (List.replicate k false) = T at *
      clear hT
      go_wp2_with fail
      go_round
      case rel => exact ⟨k + 1, by omega, by go_num, by rw [hap.out]⟩
      case measure => simp [intOf]; omega
    · have hke : k = n := by omega
      subst hke
      have hd : decide ((k : Int) < (k : Int)) = false := by simp
      go_wp2_with fail
      go_ret
      exact ⟨rfl, rfl⟩
def strN : Value → Nat
  | .string b => b.size
  | _ => 0
theorem endF_no1 (l : List Bool) (single : Bool) : endF l false false single = l ++ eol := by unfold endF; simp
theorem endF_no2 (l : List Bool) (single : Bool) : endF l true false single = l ++ eol ++ [single] := by unfold endF; simp
theorem endF_al1 (l : List Bool) (single : Bool) (c : Nat) (hc : c = (8 - (l.length + 12) % 8) % 8) : endF l false true single = l ++ List.replicate c false ++ eol := by subst hc; unfold endF; simp
theorem endF_al2 (l : List Bool) (single : Bool) (c : Nat) (hc : c = (8 - (l.length + 12) % 8) % 8) : endF l true true single = l ++ List.replicate c false ++ eol ++ [single] := by subst hc; unfold endF; simp
theorem tail_text (X : List Bool) : (ds X ++ ({ data := #[48, 48, 48, 48, 48, 48, 48, 48, 48, 48, 48, 49] } : ByteArray)) = ds (X ++ eol) ∧ ((ds X ++ ({ data := #[48, 48, 48, 48, 48, 48, 48, 48, 48, 48, 48, 49] } : ByteArray)) ++ ({ data := #[49] } : ByteArray)) = ds (X ++ eol ++ [true]) ∧ ((ds X ++ ({ data := #[48, 48, 48, 48, 48, 48, 48, 48, 48, 48, 48, 49] } : ByteArray)) ++ ({ data := #[48] } : ByteArray)) = ds (X ++ eol ++ [false]) := by
  rw [r_eol_text, ds_append]
  exact ⟨rfl, by rw [r_one_text, ds_append], by rw [r_nought_text, ds_append]⟩
set_option maxHeartbeats 4000000 in
theorem rend_any (l : List Bool) (two al ends single : Bool) (every : Int) (w : World) (hl : l.length ≤ 1000000) :
    Calls Tryz.prog 20 #[.string (ds l), .agg #[.bool two, .int .i64 every, .bool al, .bool ends], .bool single] w fun e w' => e = .returned (.string (ds (endF l two al single))) ∧ Below w.heap.size w w' := by
  have hz1 : ({ data := #[48, 48, 48, 48, 48, 48, 48, 48, 48, 48, 48, 49] } : ByteArray).size = 12 := rfl
  have hz2 : ({ data := #[49] } : ByteArray).size = 1 := rfl
  have hz3 : ({ data := #[48] } : ByteArray).size = 1 := rfl
  cases al
  · have HB1 : Hid (Below w.heap.size w (w.alloc (.cells #[.bool two, .int .i64 every, .bool false, .bool ends] 35))) := Lib.hid ((Below.refl _ w).alloc (Nat.le_refl _) _)
    have hs := ds_size l
    have HE1 := Lib.hid (endF_no1 l single)
    have HE2 := Lib.hid (endF_no2 l single)
    have HTT := Lib.hid (tail_text l)
    have hz4 := ByteArray.size_append (a := ds l) (b := { data := #[48, 48, 48, 48, 48, 48, 48, 48, 48, 48, 48, 49] })
    generalize ds l = S at *
    cases two
    · clear HE2
      go_enter Tryz.func20, Tryz.ntmps20
      go_wp2_with fail
      go_ret
      exact ⟨by rw [HE1.out, ← HTT.out.1]; rfl, HB1.out⟩
    · clear HE1
      cases single
      · go_enter Tryz.func20, Tryz.ntmps20
        go_wp2_with fail
        go_ret
        exact ⟨by rw [HE2.out, ← HTT.out.2.2]; rfl, HB1.out⟩
      · go_enter Tryz.func20, Tryz.ntmps20
        go_wp2_with fail
        go_ret
        exact ⟨by rw [HE2.out, ← HTT.out.2.1]; rfl, HB1.out⟩
  · obtain ⟨c, hcn⟩ : ∃ c, c = (8 - (l.length + 12) % 8) % 8 := ⟨_, rfl⟩
    have HE1 := Lib.hid (endF_al1 l single c hcn)
    have HE2 := Lib.hid (endF_al2 l single c hcn)
    have hc7 : c ≤ 7 := by omega
    have hc8 : (l.length + c + 12) % 8 = 0 := by omega
    have hcj : ∀ j, j < c → (l.length + j + 12) % 8 ≠ 0 := fun j hj => by omega
    have HC8 := Lib.hid hc8
    have HCJ := Lib.hid hcj
    clear hcn hc8 hcj
    obtain ⟨w1, hw1⟩ : ∃ w1, w1 = w.alloc (.cells #[.bool two, .int .i64 every, .bool true, .bool ends] 35) := ⟨_, rfl⟩
    have k0 : w1.cell? ⟨w.heap.size, 0, none⟩ = some (.bool two) := by rw [hw1]; simp
    have k2 : w1.cell? ⟨w.heap.size, 2, none⟩ = some (.bool true) := by rw [hw1]; simp
    have HB1 : Hid (Below w.heap.size w w1) := Lib.hid (by rw [hw1]; exact (Below.refl _ w).alloc (Nat.le_refl _) _)
    have HW1 := Lib.hid hw1
    clear hw1
    go_enter Tryz.func20, Tryz.ntmps20
    go_wp2_with fail
    rw [← HW1.out]
    go_wp2_with fail
    go_loop [0] (fun s => ∃ j : Nat, j ≤ c ∧ s = .string (ds (l ++ List.replicate j false))) (fun s => l.length + c - strN s)
    case atStart => exact ⟨0, by omega, by rw [List.replicate_zero, List.append_nil]⟩
    case round =>
      obtain ⟨j, hj, rfl⟩ := hrel
      have hsz := ds_size (l ++ List.replicate j false)
      rw [List.length_append, List.length_replicate] at hsz
      obtain ⟨r, hr⟩ : ∃ r, r = (l.length + j + 12) % 8 := ⟨_, rfl⟩
      have hr8 : r < 8 := by omega
      obtain ⟨m, hm⟩ : ∃ m, m = l.length + j := ⟨_, rfl⟩
      have hm1 : m ≤ 1000007 := by omega
      have ht : ((m : Int) + 12).tmod 8 = (r : Int) := by rw [Int.tmod_eq_emod_of_nonneg (by omega), hr, hm]; omega
      rw [← hm] at hsz
      by_cases hlt : j < c
      · have hr0 : ((r : Int) != 0) = true := by
          have := HCJ.out j hlt
          simp
          omega
        have hap := (ds_append (l ++ List.replicate j false) [false])
        rw [List.append_assoc, ← List.replicate_succ', ← r_nought_text] at hap
        have hsn : (ds (l ++ List.replicate (j + 1) false)).size = m + 1 := by rw [ds_size, List.length_append, List.length_replicate, hm]; omega
        rw [← hap] at hsn
        have HAP := Lib.hid hap
        have HSN := Lib.hid hsn
        have HM := Lib.hid hm
        generalize ds (l ++ List.replicate j false) = T at *
        clear hap hsn hr hm
        go_wp2_with fail
        go_round
        case rel => exact ⟨j + 1, by omega, by rw [HAP.out]⟩
        case measure =>
          simp only [strN]
          have h1 := HSN.out
          have h2 := HM.out
          simp
          omega
      · have hje : j = c := by omega
        have hr0 : ((r : Int) != 0) = false := by
          have := HC8.out
          rw [hje] at hr
          simp
          omega
        have HTT := Lib.hid (tail_text (l ++ List.replicate c false))
        rw [hje] at hsz ⊢
        have hz4 := ByteArray.size_append (a := ds (l ++ List.replicate c false)) (b := { data := #[48, 48, 48, 48, 48, 48, 48, 48, 48, 48, 48, 49] })
        generalize ds (l ++ List.replicate c false) = T at *
        clear hr hm hje
        cases two
        · clear HE2
          go_wp2_with fail
          go_ret
          exact ⟨by rw [HE1.out, ← HTT.out.1]; rfl, HB1.out⟩
        · clear HE1
          cases single
          · go_wp2_with fail
            go_ret
            exact ⟨by rw [HE2.out, ← HTT.out.2.2]; rfl, HB1.out⟩
          · go_wp2_with fail
            go_ret
            exact ⟨by rw [HE2.out, ← HTT.out.2.1]; rfl, HB1.out⟩
/-- the box of options -/
def BxR (w : World) (go : Nat) (every : Int) (two al ends : Bool) : Prop := w.heap[go]? = some (.cells #[.bool two, .int .i64 every, .bool al, .bool ends] 35 (0, 0))
theorem BxR.cells {w : World} {go : Nat} {every : Int} {two al ends : Bool} (h : BxR w go every two al ends) : w.cell? ⟨go, 0, none⟩ = some (.bool two) ∧ w.cell? ⟨go, 1, none⟩ = some (.int .i64 every) ∧ w.cell? ⟨go, 2, none⟩ = some (.bool al) ∧ w.cell? ⟨go, 3, none⟩ = some (.bool ends) := by
  refine ⟨?_, ?_, ?_, ?_⟩ <;> (rw [cell_of_row _ go _ _ _ _ h]; rfl)
theorem BxR.lt {w : World} {go : Nat} {every : Int} {two al ends : Bool} (h : BxR w go every two al ends) : go < w.heap.size := by
  rcases Nat.lt_or_ge go w.heap.size with hlt | hge
  · exact hlt
  · rw [BxR, Array.getElem?_eq_none hge] at h; cases h
theorem BxR.below {w w' : World} {D go : Nat} {every : Int} {two al ends : Bool} (h : BxR w go every two al ends) (hb : Below D w w') (hD : go < D) : BxR w' go every two al ends := by
  have := hb.block go hD
  unfold BxR at *
  rw [this]
  exact h
theorem BxR.put {w : World} {go : Nat} {every : Int} {two al ends : Bool} (h : BxR w go every two al ends) : BxR (w.setCell ⟨go, 2, none⟩ (.bool false)) go every two false ends := by
  unfold BxR at *
  simp [World.setCell, Array.getElem?_modify, h]
theorem BxR.frozen {w : World} {go : Nat} {every : Int} {two al ends : Bool} (h : BxR w go every two al ends) : w.frozen? ⟨go, 2, none⟩ = false := by
  unfold BxR at h
  simp [World.frozen?, h]
theorem topF_lenJ {above : List Bool} {wd : Nat} (ha : above.length = wd) : ∀ (l : List (List Bool)), (∀ X ∈ l, X.length = wd) → (topF above l).length = wd := fun l hl => by
  rcases List.eq_nil_or_concat l with e | ⟨l2, X, e⟩
  · rw [e]; exact ha
  · rw [e, List.concat_eq_append, topF_one]
    exact hl X (by rw [e]; simp)
theorem wrap_km (k : Nat) (h : k ≤ 1000) : IntKind.i64.wrap (k : Int) = (k : Int) := IntWalk.i64_in _ (by omega)
theorem rows_next {two al : Bool} {every wd k : Nat} {above : List Bool} {Xs : List (List Bool)} (hk : k < Xs.length) : rowsF two al every wd 0 above (Xs.take (k + 1)) [] = endF (rowsF two al every wd 0 above (Xs.take k) []) two al (!two || k % every == 0) ++ lineF (!two || k % every == 0) wd (topF above (Xs.take k)) Xs[k] := by
  rw [List.take_succ_eq_append_getElem hk, rowsF_snoc, nextF, List.length_take, Nat.zero_add, Nat.min_eq_left (by omega)]
theorem top_last {above : List Bool} {k : Nat} {Xs : List (List Bool)} (hk : k < Xs.length) : topF above (Xs.take (k + 1)) = Xs[k] := by rw [List.take_succ_eq_append_getElem hk, topF_one]
set_option maxHeartbeats 16000000 in
theorem rgencode_any (w : World) (q : Option Addr) (n c : Nat) (Xs : List (List Bool)) (wd : Nat) (every : Int) (two al ends : Bool) (hB : VRow w w.heap.size q (txt Xs)) (hn : Xs.length = n) (hn2 : n ≤ 12) (hl : ∀ X ∈ Xs, X.length = wd) (h1 : 1 ≤ wd) (hw : wd ≤ 300) (hev : two = true → 1 ≤ every) :
    Calls Tryz.prog 9 #[.slice q n c, .agg #[.bool two, .int .i64 every, .bool al, .bool ends]] w fun e w' => e = .returned (.string (bs (packB false (pageG two al ends every.toNat wd Xs)))) ∧ Below w.heap.size w w' := by
  have HB := Lib.hid hB
  have HN := Lib.hid hn
  have HL := Lib.hid hl
  have HEV := Lib.hid hev
  have hpl := pageG_len (two := two) (aligned := al) (ends := ends) (every := every.toNat) hl (by omega : wd ≤ 400) (by omega)
  have HPL := Lib.hid hpl
  obtain ⟨gb, hgb⟩ : ∃ gb, gb = w.heap.size := ⟨_, rfl⟩
  obtain ⟨w1, hw1⟩ : ∃ w1, w1 = w.alloc (.cells #[.bool two, .int .i64 every, .bool al, .bool ends] 35) := ⟨_, rfl⟩
  have hbx : BxR w1 gb every two al ends := by rw [hw1, hgb]; exact Array.getElem?_push_size
  have hb1 : Below w.heap.size w w1 := by rw [hw1]; exact (Below.refl _ w).alloc (Nat.le_refl _) _
  have HW1 := Lib.hid hw1
  have HGB := Lib.hid hgb
  have HBX := Lib.hid hbx
  have HB1 := Lib.hid hb1
  have HG1 := Lib.hid hbx.lt
  clear hB hn hl hev hpl hgb hw1 hbx hb1
  go_enter Tryz.func9, Tryz.ntmps9
  go_wp2_with fail
  rw [← HW1.out, ← HGB.out]
  go_wp2_with fail
  go_loopw [5, 6, 7] (fun s si _ wr => ∃ (k : Nat) (l : List Bool), k ≤ n ∧ si = .int .i64 (k : Int) ∧ s = .string (ds l) ∧ Hid (l = rowsF two al every.toNat wd 0 (List.replicate wd false) (Xs.take k) []) ∧ Hid (Below w1.heap.size w1 wr)) (fun _ si _ _ => n - (intOf si).toNat)
  case atStart => exact ⟨0, [], by omega, rfl, rfl, Lib.hid rfl, Lib.hid (Below.refl _ _)⟩
  case round =>
    obtain ⟨k, l, hk, rfl, rfl, HLr, HBr⟩ := hrel
    have hllk : l.length ≤ (80300 + 20) * k := by
      rw [HLr.out]
      have h := rowsF_len (two := two) (aligned := al) (every := every.toNat) (c := 80300) (Xs.take k) 0 (List.replicate wd false) [] (by simp) (fun X hX => HL.out X (List.mem_of_mem_take hX)) (fun single above X ha hX => lineF_len ha hX (by omega))
      rw [List.length_take, Nat.min_eq_left (by rw [HN.out]; exact hk)] at h
      simpa using h
    have hll : l.length ≤ 963840 := by omega
    obtain ⟨b0, b1, b2, b3⟩ := (HBX.out.below HBr.out HG1.out).cells
    by_cases hlt : k < n
    · have hd : decide ((k : Int) < (n : Int)) = true := by simp; omega
      have hkX : k < Xs.length := by rw [HN.out]; exact hlt
      obtain ⟨bb, off, hq, hbb, hcell⟩ := txt_row (HB.out.below ((HB1.out.trans (HBr.out.mono HB1.out.size))) (Nat.le_refl _)) hkX
      have hXl := HL.out Xs[k] (List.getElem_mem hkX)
      have hnx := rows_next (two := two) (al := al) (every := every.toNat) (wd := wd) (above := List.replicate wd false) hkX
      rw [← HLr.out] at hnx
      obtain ⟨S, hS⟩ : ∃ S, S = (!two || k % every.toNat == 0) := ⟨_, rfl⟩
      rw [← hS] at hnx
      have i1 : (0 : Int) ≤ (k : Int) := by omega
      have i2 : (k : Int) < (n : Int) := by omega
      have hbb1 : bb < w1.heap.size := by have := HB1.out.size; omega
      have HBB := Lib.hid hbb1
      have HEND := Lib.hid (rend_any l two al ends S every wr (by omega))
      have hel := endF_len l two al S
      have htl := topF_lenJ (above := List.replicate wd false) (wd := wd) (by simp) (Xs.take k) (fun X hX => HL.out X (List.mem_of_mem_take hX))
      have hlf := lineF_len (single := S) htl hXl (by omega)
      obtain ⟨TP, hTP⟩ : ∃ TP, TP = topF (List.replicate wd false) (Xs.take k) := ⟨_, rfl⟩
      obtain ⟨X, hX⟩ : ∃ X, X = Xs[k] := ⟨_, rfl⟩
      rw [← hX, ← hTP] at hnx hlf
      rw [← hTP] at htl
      rw [← hX] at hcell hXl
      obtain ⟨E, hE⟩ : ∃ E, E = endF l two al S := ⟨_, rfl⟩
      rw [← hE] at hnx hel HEND
      obtain ⟨F, hF⟩ : ∃ F, F = lineF S wd TP X := ⟨_, rfl⟩
      rw [← hF] at hnx hlf
      have hse := ds_size E
      have hsf := ds_size F
      have hap := ds_append E F
      have HAP := Lib.hid hap
      have HNX := Lib.hid hnx
      have hel2 : E.length ≤ 963860 := by omega
      clear hap hnx hel hE
      cases S
      · obtain ⟨rfl, hne, hk0⟩ : two = true ∧ ¬ (k % every.toNat = 0) ∧ k ≠ 0 := by
          cases two
          · simp at hS
          · refine ⟨rfl, fun e => ?_, fun e => ?_⟩
            · rw [e] at hS; simp at hS
            · rw [e] at hS; simp at hS
        obtain ⟨km, rfl⟩ : ∃ km, k = km + 1 := ⟨k - 1, by omega⟩
        have hkm : km < Xs.length := by omega
        obtain ⟨bb2, off2, hq2, _, hcell2⟩ := txt_row (HB.out.below ((HB1.out.trans (HBr.out.mono HB1.out.size))) (Nat.le_refl _)) hkm
        rw [hq] at hq2
        injection hq2 with hq2
        injection hq2 with hq21 hq22 _
        subst hq21 hq22
        have hTX : TP = Xs[km] := by rw [hTP]; exact top_last hkm
        rw [← hTX] at hcell2
        have HAG := Lib.hid (fun W => ragainst_any X TP wd W hXl htl h1 (by omega))
        have hFA : F = againstA (changes X) (changes TP) wd 0 false := hF
        rw [← hFA] at HAG
        subst hq
        have hev1 := HEV.out rfl
        obtain ⟨ev, hevn⟩ : ∃ ev : Nat, every = (ev : Int) := ⟨every.toNat, by omega⟩
        have hev0 : (every == 0) = false := by simp; omega
        have hevn0 : ¬ every = 0 := by omega
        have htn : every.toNat = ev := by omega
        obtain ⟨r, hr⟩ : ∃ r, r = (km + 1) % ev := ⟨_, rfl⟩
        have hrk : r ≤ km + 1 := by rw [hr]; exact Nat.mod_le _ _
        have htm : ((km : Int) + 1).tmod every = (r : Int) := by
          rw [hevn, show (km : Int) + 1 = ((km + 1 : Nat) : Int) from by omega, Int.tmod_eq_emod_of_nonneg (by omega), hr]
          omega
        have j1 : (0 : Int) ≤ (km : Int) + 1 := by omega
        have j2 : (km : Int) + 1 < (n : Int) := by omega
        have j3 : (0 : Int) ≤ (km : Int) := by omega
        have j4 : (km : Int) < (n : Int) := by omega
        have hSr : ((r : Int) == 0) = false := by
          rw [htn, ← hr] at hne
          simp
          omega
        obtain ⟨TX, hTXd⟩ : ∃ TX, TX = ds X := ⟨_, rfl⟩
        obtain ⟨TT, hTTd⟩ : ∃ TT, TT = ds TP := ⟨_, rfl⟩
        rw [← hTXd] at hcell
        rw [← hTTd] at hcell2
        rw [← hTXd, ← hTTd] at HAG
        have HC1 := Lib.hid hcell
        have HC2 := Lib.hid hcell2
        clear hkX hkm hXl hS hne hk0 hTX hFA htl hev1 hevn htn hr hcell hcell2 hTXd hTTd hTP hX hllk hF
        have hsum : ¬ 9223372036854775807 < E.length + F.length := by omega
        generalize ds E = DE at *
        generalize ds F = DF at *
        go_wp2_with fail
        refine HEND.out.mono ?_
        rintro e w2 ⟨rfl, hb2⟩
        have HB2 := Lib.hid (HBr.out.trans (hb2.mono HBr.out.size))
        have hcl : ∀ W, Below w1.heap.size wr W → W.cell? ⟨bb, off + (km + 1), none⟩ = some (.string TX) ∧ W.cell? ⟨bb, off + km, none⟩ = some (.string TT) := fun W hW => ⟨(hW.cell (p := ⟨bb, off + (km + 1), none⟩) HBB.out).trans HC1.out, (hW.cell (p := ⟨bb, off + km, none⟩) HBB.out).trans HC2.out⟩
        have hb2w : Below w1.heap.size wr w2 := hb2.mono HBr.out.size
        have HCL := Lib.hid hcl
        have HB2W := Lib.hid hb2w
        have hdd : Below w2.heap.size w2 w2.drew := (show Drawn w2 w2.drew from ⟨1, rfl⟩).below _
        have HDD := Lib.hid hdd
        have hwk := wrap_km km (by omega)
        have kk := hcl w2.drew (hb2w.trans (hdd.mono HB2.out.size))
        clear hb2 hcl hb2w hdd
        go_wp2_with fail
        refine wp_region_held_drew (S := fun W => W.cell? ⟨bb, off + (km + 1), none⟩ = some (.string TX) ∧ W.cell? ⟨bb, off + km, none⟩ = some (.string TT)) (by kernel_rfl) kk (fun hHeld => ?_)
        refine wpAnyH_take (i := 0) (v := ?v1) rfl (by kernel_rfl) (by kernel_rfl) (by kernel_rfl) (fun _ _ _ h => h) (Or.inl ⟨by rfl, fun w hSw => ?y1⟩) hHeld ?r1
        case y1 => (try dsimp only at hSw); first | (go_simp; done) | (go_simp; with_reducible rfl)
        try simp only [Act.put, List.setIfInBounds_toArray, List.set_cons_zero, List.set_cons_succ, List.getElem_toArray, List.getElem_cons_zero, List.getElem_cons_succ]
        refine wpAnyH_take (i := 1) (v := ?v2) rfl (by kernel_rfl) (by kernel_rfl) (by kernel_rfl) (fun _ _ _ h => h) (Or.inl ⟨by rfl, fun w hSw => ?y2⟩) hHeld ?r2
        case y2 => (try dsimp only at hSw); first | (go_simp; done) | (go_simp; with_reducible rfl)
        try simp only [Act.put, List.setIfInBounds_toArray, List.set_cons_zero, List.set_cons_succ, List.getElem_toArray, List.getElem_cons_zero, List.getElem_cons_succ]
        refine wpAnyH_take (i := 2) (v := ?v3) rfl (by kernel_rfl) (by kernel_rfl) (by kernel_rfl) (fun _ _ _ h => h) (Or.inl ⟨by rfl, fun w hSw => ?y3⟩) hHeld ?r3
        case y3 => (try dsimp only at hSw); first | (go_simp; done) | (go_simp; with_reducible rfl)
        try simp only [Act.put, List.setIfInBounds_toArray, List.set_cons_zero, List.set_cons_succ, List.getElem_toArray, List.getElem_cons_zero, List.getElem_cons_succ]
        refine wpAnyH_take (i := 3) (v := ?v4) rfl (by kernel_rfl) (by kernel_rfl) (by kernel_rfl) (fun _ _ _ h => h) (Or.inl ⟨by rfl, fun w hSw => ?y4⟩) hHeld ?r4
        case y4 => (try dsimp only at hSw); first | (go_simp; done) | (go_simp; with_reducible rfl)
        try simp only [Act.put, List.setIfInBounds_toArray, List.set_cons_zero, List.set_cons_succ, List.getElem_toArray, List.getElem_cons_zero, List.getElem_cons_succ]
        refine wpAnyH_take (i := 4) (v := ?v5) rfl (by kernel_rfl) (by kernel_rfl) (by kernel_rfl) (fun _ _ _ h => h) (Or.inl ⟨by rfl, fun w hSw => ?y5⟩) hHeld ?r5
        case y5 => (try dsimp only at hSw); first | (go_simp; done) | (go_simp; with_reducible rfl)
        try simp only [Act.put, List.setIfInBounds_toArray, List.set_cons_zero, List.set_cons_succ, List.getElem_toArray, List.getElem_cons_zero, List.getElem_cons_succ]
        refine wpAnyH_take (i := 5) (v := ?v6) rfl (by kernel_rfl) (by kernel_rfl) (by kernel_rfl) (fun _ _ _ h => h) (Or.inl ⟨by rfl, fun w hSw => ?y6⟩) hHeld ?r6
        case y6 => (try dsimp only at hSw); first | (go_simp; done) | (go_simp; with_reducible rfl)
        try simp only [Act.put, List.setIfInBounds_toArray, List.set_cons_zero, List.set_cons_succ, List.getElem_toArray, List.getElem_cons_zero, List.getElem_cons_succ]
        refine wpAnyH_take (i := 6) (v := ?v7) rfl (by kernel_rfl) (by kernel_rfl) (by kernel_rfl) (fun _ _ _ h => h) (Or.inl ⟨by rfl, fun w hSw => ?y7⟩) hHeld ?r7
        case y7 => (try dsimp only at hSw); first | (go_simp; done) | (go_simp; with_reducible rfl)
        try simp only [Act.put, List.setIfInBounds_toArray, List.set_cons_zero, List.set_cons_succ, List.getElem_toArray, List.getElem_cons_zero, List.getElem_cons_succ]
        refine wpAnyH_take (i := 7) (v := ?v8) rfl (by kernel_rfl) (by kernel_rfl) (by kernel_rfl) (fun _ _ _ h => h) (Or.inl ⟨by rfl, fun w hSw => ?y8⟩) hHeld ?r8
        case y8 => (try dsimp only at hSw); first | (go_simp; done) | (go_simp; with_reducible rfl)
        try simp only [Act.put, List.setIfInBounds_toArray, List.set_cons_zero, List.set_cons_succ, List.getElem_toArray, List.getElem_cons_zero, List.getElem_cons_succ]
        refine wpAnyH_take (i := 8) (v := ?v9) rfl (by kernel_rfl) (by kernel_rfl) (by kernel_rfl) (fun _ _ _ h => h) (Or.inl ⟨by rfl, fun w hSw => ?y9⟩) hHeld ?r9
        case y9 => (try dsimp only at hSw); first | (go_simp; done) | (go_simp; with_reducible rfl)
        try simp only [Act.put, List.setIfInBounds_toArray, List.set_cons_zero, List.set_cons_succ, List.getElem_toArray, List.getElem_cons_zero, List.getElem_cons_succ]
        refine wpAnyH_take (i := 9) (v := ?v10) rfl (by kernel_rfl) (by kernel_rfl) (by kernel_rfl) (fun _ _ _ h => h) (Or.inl ⟨by rfl, fun w hSw => ?y10⟩) hHeld ?r10
        case y10 => (try dsimp only at hSw); first | (go_simp; done) | (go_simp; with_reducible rfl)
        try simp only [Act.put, List.setIfInBounds_toArray, List.set_cons_zero, List.set_cons_succ, List.getElem_toArray, List.getElem_cons_zero, List.getElem_cons_succ]
        refine wpAnyH_ready (rs := [10]) (by kernel_rfl) (by simp) ?_
        refine AllReadyH.cons rfl (fun K hK => ?_) AllReadyH.nil
        go_simp
        refine (HAG.out _).mono ?_
        rintro e w3 ⟨rfl, hb3⟩
        have HB3 := Lib.hid (HB2.out.trans ((HDD.out.mono HB2.out.size).trans (hb3.mono HB2.out.size)))
        have HB3W := Lib.hid (HB2W.out.trans ((HDD.out.mono HB2.out.size).trans (hb3.mono HB2.out.size)))
        clear hb3
        go_wp2_with fail
        refine hK.out _ _ (HCL.out w3 HB3W.out) (fun hHeld2 => ?_)
        clear hK K
        try simp only [Act.put, List.setIfInBounds_toArray, List.set_cons_zero, List.set_cons_succ, List.getElem_toArray, List.getElem_cons_zero, List.getElem_cons_succ]
        refine wpAnyH_take (i := 11) (v := ?v11) rfl (by kernel_rfl) (by kernel_rfl) (by kernel_rfl) (fun _ _ _ h => h) (Or.inl ⟨by rfl, fun w hSw => ?y11⟩) hHeld2 ?r11
        case y11 => (try dsimp only at hSw); first | (go_simp; done) | (go_simp; with_reducible rfl)
        try simp only [Act.put, List.setIfInBounds_toArray, List.set_cons_zero, List.set_cons_succ, List.getElem_toArray, List.getElem_cons_zero, List.getElem_cons_succ]
        refine wpAnyH_take (i := 12) (v := ?v12) rfl (by kernel_rfl) (by kernel_rfl) (by kernel_rfl) (fun _ _ _ h => h) (Or.inl ⟨by rfl, fun w hSw => ?y12⟩) hHeld2 ?r12
        case y12 => (try dsimp only at hSw); first | (go_simp; done) | (go_simp; with_reducible rfl)
        try simp only [Act.put, List.setIfInBounds_toArray, List.set_cons_zero, List.set_cons_succ, List.getElem_toArray, List.getElem_cons_zero, List.getElem_cons_succ]
        refine wpAnyH_done (by kernel_rfl) ?_ _
        clear hHeld hHeld2 kk HCL hwk
        go_wp2_with fail
        go_roundw
        case rel => exact ⟨km + 1 + 1, E ++ F, by omega, by go_num, by rw [HAP.out], Lib.hid HNX.out.symm, HB3⟩
        case measure => simp [intOf]; omega
      · have HRW := Lib.hid (fun W => rrow_any X W (by omega))
        have hFA : F = rowF X := hF
        rw [← hFA] at HRW
        obtain ⟨TX, hTXd⟩ : ∃ TX, TX = ds X := ⟨_, rfl⟩
        rw [← hTXd] at hcell HRW
        have HC1 := Lib.hid hcell
        have hsum : ¬ 9223372036854775807 < E.length + F.length := by omega
        subst hq
        cases two
        · clear hS
          clear hkX hXl hFA htl hcell hTXd hTP hX hllk hF
          generalize ds E = DE at *
          generalize ds F = DF at *
          go_wp2_with fail
          refine HEND.out.mono ?_
          rintro e w2 ⟨rfl, hb2⟩
          have HB2 := Lib.hid (HBr.out.trans (hb2.mono HBr.out.size))
          have hc2 := (hb2.cell (p := ⟨bb, off + k, none⟩) (Nat.lt_of_lt_of_le HBB.out HBr.out.size)).trans HC1.out
          clear hb2
          go_wp2_with fail
          refine (HRW.out _).mono ?_
          rintro e w3 ⟨rfl, hb3⟩
          have HB3 := Lib.hid (HB2.out.trans (hb3.mono HB2.out.size))
          clear hb3 hc2
          go_wp2_with fail
          go_roundw
          case rel => exact ⟨k + 1, E ++ F, by omega, by go_num, by rw [HAP.out], Lib.hid HNX.out.symm, HB3⟩
          case measure => simp [intOf]; omega
        · have hev1 := HEV.out rfl
          obtain ⟨ev, hevn⟩ : ∃ ev : Nat, every = (ev : Int) := ⟨every.toNat, by omega⟩
          have hev0 : (every == 0) = false := by simp; omega
          have hevn0 : ¬ every = 0 := by omega
          have htn : every.toNat = ev := by omega
          obtain ⟨r, hr⟩ : ∃ r, r = k % ev := ⟨_, rfl⟩
          have hrk : r ≤ k := by rw [hr]; exact Nat.mod_le _ _
          have htm : (k : Int).tmod every = (r : Int) := by
            rw [hevn, Int.tmod_eq_emod_of_nonneg (by omega), hr]
            omega
          have hSr : ((r : Int) == 0) = true := by
            rw [htn, ← hr] at hS
            simp at hS
            simp
            omega
          clear hkX hXl hFA htl hcell hTXd hTP hX hllk hF hS hr hevn htn hev1
          generalize ds E = DE at *
          generalize ds F = DF at *
          go_wp2_with fail
          refine HEND.out.mono ?_
          rintro e w2 ⟨rfl, hb2⟩
          have HB2 := Lib.hid (HBr.out.trans (hb2.mono HBr.out.size))
          have hc2 := (hb2.cell (p := ⟨bb, off + k, none⟩) (Nat.lt_of_lt_of_le HBB.out HBr.out.size)).trans HC1.out
          clear hb2
          go_wp2_with fail
          refine (HRW.out _).mono ?_
          rintro e w3 ⟨rfl, hb3⟩
          have HB3 := Lib.hid (HB2.out.trans (hb3.mono HB2.out.size))
          clear hb3 hc2
          go_wp2_with fail
          go_roundw
          case rel => exact ⟨k + 1, E ++ F, by omega, by go_num, by rw [HAP.out], Lib.hid HNX.out.symm, HB3⟩
          case measure => simp [intOf]; omega
    · have hke : k = n := by omega
      subst hke
      have hd : decide ((k : Int) < (k : Int)) = false := by simp
      have hlT : l = rowsF two al every.toNat wd 0 (List.replicate wd false) Xs [] := by
        have h := HLr.out
        rwa [List.take_of_length_le (by rw [HN.out]; exact Nat.le_refl _)] at h
      have HLT := Lib.hid hlT
      have HBF := Lib.hid (HB1.out.trans (HBr.out.mono HB1.out.size))
      clear hlT hllk
      cases ends
      · have HBY := Lib.hid (fun W => rbytes_big l false W (by omega))
        have HPG : Hid (pageG two al false every.toNat wd Xs = l) := Lib.hid (by rw [HLT.out]; rfl)
        generalize ds l = DL at *
        go_wp2_with fail
        refine (HBY.out _).mono ?_
        rintro e w3 ⟨rfl, hb3⟩
        have HB3 := Lib.hid (HBF.out.trans (hb3.mono HBF.out.size))
        clear hb3
        go_wp2_with fail
        go_ret
        exact ⟨by rw [HPG.out]; rfl, HB3.out⟩
      · have HEND := Lib.hid (rend_any l two al true true every wr (by omega))
        have hel := endF_len l two al true
        obtain ⟨E, hE⟩ : ∃ E, E = endF l two al true := ⟨_, rfl⟩
        have HPG : Hid (pageG two al true every.toNat wd Xs = endsF two 5 E) := Lib.hid (by rw [hE, HLT.out]; rfl)
        rw [← hE] at HEND hel
        have hel2 : E.length ≤ 963860 := by omega
        clear hE hel
        generalize ds l = DL at *
        go_wp2_with fail
        refine HEND.out.mono ?_
        rintro e w2 ⟨rfl, hb2⟩
        have hbx2 := (HBX.out.below HBr.out HG1.out).below hb2 (Nat.lt_of_lt_of_le HG1.out HBr.out.size)
        have k2 := hbx2.cells.2.2.1
        have hf := hbx2.frozen
        have hbx3 := hbx2.put
        have HB2 := Lib.hid (HBF.out.trans (hb2.mono HBF.out.size))
        have HBX3 := Lib.hid hbx3
        have hb3 : Below w.heap.size w (w2.setCell ⟨gb, 2, none⟩ (.bool false)) := HB2.out.setCell (p := ⟨gb, 2, none⟩) (by rw [HGB.out]; exact Nat.le_refl _) _
        have HB3 := Lib.hid hb3
        clear hb2 hbx2 hbx3 hb3 b0 b1 b2 b3
        go_wp2_with fail
        generalize w2.setCell ⟨gb, 2, none⟩ (.bool false) = w3 at *
        clear k2 hf
        go_loopw [5, 8] (fun s si wq => ∃ (j : Nat) (L : List Bool), j ≤ 5 ∧ si = .int .i64 (j : Int) ∧ s = .string (ds L) ∧ Hid (L = endsF two j E) ∧ Hid (Below w3.heap.size w3 wq)) (fun _ si _ => 5 - (intOf si).toNat)
        case atStart => exact ⟨0, E, by omega, rfl, rfl, Lib.hid rfl, Lib.hid (Below.refl _ _)⟩
        case round =>
          obtain ⟨j, L, hj, rfl, rfl, HLE, HBq⟩ := hrel
          have hlen := endsF_len two j E
          rw [← HLE.out] at hlen
          have hL : L.length ≤ 963960 := by omega
          by_cases hjt : j < 5
          · have hdj : decide ((j : Int) < 5) = true := by simp; omega
            obtain ⟨c0, c1, c2, c3⟩ := (HBX3.out.below HBq.out HBX3.out.lt).cells
            have HEN2 := Lib.hid (rend_any L two false true true every wr (by omega))
            have HNE : Hid (endF L two false true = endsF two (j + 1) E) := Lib.hid (by rw [HLE.out]; rfl)
            generalize ds L = DL2 at *
            clear hlen
            go_wp2_with fail
            refine HEN2.out.mono ?_
            rintro e w5 ⟨rfl, hb5⟩
            have HB5 := Lib.hid (HBq.out.trans (hb5.mono HBq.out.size))
            clear hb5
            go_wp2_with fail
            go_roundw
            case rel => exact ⟨j + 1, _, by omega, by go_num, rfl, HNE, HB5⟩
            case measure => simp [intOf]; omega
          · have hje : j = 5 := by omega
            have hdj : decide ((j : Int) < 5) = false := by simp; omega
            have HLE5 : Hid (L = endsF two 5 E) := Lib.hid (by rw [HLE.out, hje])
            have HBY := Lib.hid (fun W => rbytes_big L false W (by omega))
            have HB5 := Lib.hid (HB3.out.trans (HBq.out.mono HB3.out.size))
            generalize ds L = DL2 at *
            clear hje hlen HLE
            go_wp2_with fail
            refine (HBY.out _).mono ?_
            rintro e w6 ⟨rfl, hb6⟩
            have HB6 := Lib.hid (HB5.out.trans (hb6.mono HB5.out.size))
            clear hb6
            go_wp2_with fail
            go_ret
            exact ⟨by rw [HPG.out, ← HLE5.out]; rfl, HB6.out⟩
end Go.Proofs.YtidicajedckaoaaGreatDoor.Gt


/- The chapter's example holds; the law's rows of pixels. -/
import Derived.Test.YtmbfgejephgojaaDoorGfE
import Derived.Test.YtmbfgejephgojaaDoorMiW
namespace Go.Proofs.YtmbfgejephgojaaDoor.Gf
open Go.RowKit Go.Proofs.YtmbfgejephgojaaDoor.Oct Go.Proofs.YtmbfgejephgojaaDoor.Bit
open Go.Proofs.YtmbfgejephgojaaDoor.Fx (Tab TrueT)
open Go.Proofs.YtmbfgejephgojaaDoor.Mh (vrow_far DecP EncP Tbl Rws wpList_append_rws Txs txt wpList_append_txt pixB pixB_length and1b one_black one_white IsBytess)
open Go.Proofs.YtmbfgejephgojaaDoor.Rn (changes zl zl_length Valid changes_valid rchanges_new)
open Go.Proofs.YtmbfgejephgojaaDoor.Lp (VRow ints ints_length)
set_option linter.unusedVariables false
set_option linter.unusedSimpArgs false
set_option maxRecDepth 100000

theorem alloc_below (w : World) (o : Obj) : Below w.heap.size w (w.alloc o) := (Below.refl _ w).alloc (Nat.le_refl _) _
theorem alloc_size (w : World) (o : Obj) : (w.alloc o).heap.size = w.heap.size + 1 := by simp
theorem ex_page : packB false (rowsP 8 (List.replicate 8 false) [List.replicate 8 false] ++ eofb) = [128, 8, 0, 128] := by decide +kernel
theorem ex_back : readQ (bitsOf false [128, 8, 0, 128]) 8 1 0 (List.replicate 8 false) [] = .ok [List.replicate 8 false] := by
  have h : ∀ (x : Except Nat (List (List Bool))) (l : List (List Bool)), (match x with | .ok y => decide (y = l) | .error _ => false) = true → x = .ok l := fun x l hx => by
    cases x
    · cases hx
    · simp at hx; rw [hx]
  exact h _ _ (by decide +kernel)
theorem ex_row : [List.replicate 8 false].map changes = [[]] := by rw [List.map_singleton, hchanges_white]
set_option maxHeartbeats 4000000 in
theorem lives_any (w : World) (hT : Tab w) : Calls Tryd.prog 7 #[] w (TrueT w) := by
  have HT := Lib.hid hT
  clear hT
  obtain ⟨w2, hw2⟩ : ∃ w2, w2 = (w.alloc (.cells #[] 3)).alloc (.cells #[.slice (some ⟨w.heap.size, 0, none⟩) 0 0] 41) := ⟨_, rfl⟩
  have hz2 : w2.heap.size = w.heap.size + 2 := by rw [hw2]; simp
  have hbk : w2.heap[w.heap.size + 1]? = some (.cells #[.slice (some ⟨w.heap.size, 0, none⟩) 0 0] 41 (0, 0)) := by
    rw [hw2, show w.heap.size + 1 = (w.alloc (.cells #[] 3)).heap.size from by simp]
    exact Array.getElem?_push_size
  have hb2 : Below w.heap.size w w2 := by rw [hw2]; exact (alloc_below w _).trans ((alloc_below _ _).mono (by simp))
  have htb : Tbl w2 w2.heap.size (some ⟨w.heap.size + 1, 0, none⟩) ([List.replicate 8 false].map changes) := by
    rw [ex_row]
    refine ⟨[.slice (some ⟨w.heap.size, 0, none⟩) 0 0], rfl, fun _ => ⟨w.heap.size + 1, 0, rfl, by omega, fun i hi => ?_⟩, fun k hk => ?_⟩
    · obtain rfl : i = 0 := by simpa using hi
      rw [cell_of_row _ _ _ _ _ _ hbk]
      rfl
    · obtain rfl : k = 0 := by simpa using hk
      exact ⟨_, _, rfl, fun h => absurd h (by simp [ints, zl]), Nat.le_refl _⟩
  have HEN := hencode_any w2 (HT.out.below hb2 HT.out.lt) (some ⟨w.heap.size + 1, 0, none⟩) 1 1 [List.replicate 8 false] 8 htb rfl (by omega) (fun X hX => by rw [List.mem_singleton.1 hX]; rfl) (by omega) (by omega) 1003 rfl (by omega)
  unfold EncP at HEN
  rw [ex_page] at HEN
  have HENC : Hid (Calls Tryd.prog 9 #[.slice (some ⟨w.heap.size + 1, 0, none⟩) 1 1, .int .i64 8] w2 _) := Lib.hid HEN
  have HB2 := Lib.hid hb2
  have HT2 := Lib.hid (HT.out.below hb2 HT.out.lt)
  have ha1 : (w.alloc (.cells #[] 3)).heap.size = w.heap.size + 1 := by simp
  clear hz2 hbk hb2 htb HEN
  go_enter Tryd.func7, Tryd.ntmps7
  go_wp2_with fail
  try rw [ha1]
  try rw [← hw2]
  clear hw2 ha1
  refine HENC.out.mono ?_
  rintro e w3 ⟨hb3, q3, c3, rfl, hr3, hn3, hc3⟩
  have HB3 := Lib.hid (HB2.out.trans (hb3.mono HB2.out.size))
  have hDE := hdecode_any w3 (HT2.out.below hb3 HT2.out.lt) q3 4 c3 [128, 8, 0, 128] 8 1 hr3 rfl hn3 (by omega) (by omega) (by omega) (by omega)
  rw [ex_back] at hDE
  have HDE : Hid (Calls Tryd.prog 11 #[.slice q3 4 c3, .int .i64 8, .int .i64 1] w3 _) := Lib.hid hDE
  have HR3 := Lib.hid hr3
  rw [show ([128, 8, 0, 128] : List UInt8).length = 4 from rfl]
  clear hb3 hr3 hn3 hc3 hDE HENC
  go_wp2_with fail
  refine HDE.out.mono ?_
  rintro e w4 ⟨hb4, q4, c4, rfl, ht4⟩
  rw [ex_row] at ht4
  obtain ⟨b, off, hq, qk, ck, hcell, _, _⟩ := ht4.get (k := 0) (by simp)
  subst hq
  have HB4 := Lib.hid (HB3.out.trans (hb4.mono HB3.out.size))
  have hr4 := HR3.out.below hb4
  have cv := conv_row 4 c3 hr4 rfl
  have hbs : (bs [128, 8, 0, 128]).toList = [128, 8, 0, 128] := bs_toList _
  rw [show ([List.replicate 8 false] : List (List Bool)).length = 1 from rfl]
  simp only [List.length_nil, List.getElem_cons_zero, Nat.add_zero] at hcell
  clear hb4 ht4 hr4 HDE
  go_wp2_with fail
  go_ret
  exact ⟨rfl, HB4.out⟩
def TextsP (w : World) (n len : Nat) (e : Ending) (w' : World) : Prop := Below w.heap.size w w' ∧ (e = .returned (.tuple #[.slice none 0 0, .slice none 0 0, .bool false]) ∨ ∃ (Xs : List (List Bool)) (qs ql : Option Addr) (cs cl : Nat), e = .returned (.tuple #[.slice qs len cs, .slice ql len cl, .bool true]) ∧ Xs.length = len ∧ (∀ X ∈ Xs, X.length = n) ∧ VRow w' w'.heap.size qs (txt Xs) ∧ Tbl w' w'.heap.size ql (Xs.map changes))
/-- two rows that grow in turn: texts of pixels, and their changes -/
def Pair (w : World) (base : Nat) (v7 v8 : Value) (Xs : List (List Bool)) : Prop := Txs w base (fun k => v8.ownBlock = some k) v7 Xs ∧ Rws w base (fun k => v7.ownBlock = some k) v8 (Xs.map changes)
theorem Pair.below {w w' : World} {base : Nat} {v7 v8 : Value} {Xs : List (List Bool)} (h : Pair w base v7 v8 Xs) (hb : Below w.heap.size w w') : Pair w' base v7 v8 Xs :=
  ⟨h.1.only (Only.of_below hb : Only (fun _ => False) _ _) (fun _ _ _ _ e => e), h.2.only (Only.of_below hb : Only (fun _ => False) _ _) (fun _ _ _ _ e => e)⟩
theorem Rws.own_lt {w : World} {base : Nat} {N : Nat → Prop} {v : Value} {R : List (List Nat)} (h : Rws w base N v R) {k : Nat} (hk : v.ownBlock = some k) : k < w.heap.size := by
  obtain ⟨vs, h1, _⟩ := h
  exact (h1.lt k hk).2
set_option maxHeartbeats 8000000 in
theorem texts_any (w : World) (p : Option Addr) (len cap n : Nat) (hbs : IsBytess w p len cap) (hl : len ≤ 20) (hn : n ≤ 300) : Calls Tryd.prog 8 #[.slice p len cap, .int .i64 (n : Int)] w (TextsP w n len) := by
  obtain ⟨hlc, hcm, hrows⟩ := hbs
  have HROWS := Lib.hid hrows
  clear hrows hcm
  go_enter Tryd.func8, Tryd.ntmps8
  go_wp2_with fail
  go_loopw [7, 8, 16] (fun s7 s8 sk wr => ∃ (k : Nat) (Xs : List (List Bool)), k ≤ len ∧ sk = .int .i64 (k : Int) ∧ Hid (Xs.length = k) ∧ Hid (∀ X ∈ Xs, X.length = n) ∧ Hid (Pair wr w.heap.size s7 s8 Xs) ∧ Hid (Below w.heap.size w wr)) (fun _ _ sk _ => len - (intOf sk).toNat)
  case atStart => exact ⟨0, [], by omega, rfl, Lib.hid rfl, Lib.hid (fun X h => by cases h), Lib.hid ⟨Txs.nil _ _ _, Rws.nil _ _ _⟩, Lib.hid (Below.refl _ _)⟩
  case round =>
    obtain ⟨k, Xs, hk, rfl, HXL, HXN, HP, HBr⟩ := hrel
    by_cases hlt : k < len
    · have hd : decide ((k : Int) < (len : Int)) = true := by simp; omega
      obtain ⟨bb, off, rfl, hbb, hcell⟩ := HROWS.out (by omega)
      obtain ⟨qr, lr, cr, xs, hcx, hxl, hxr, hxc⟩ := hcell k hlt
      have hc := (HBr.out.cell (p := ⟨bb, off + k, none⟩) hbb).trans hcx
      have i1 : (0 : Int) ≤ (k : Int) := by omega
      have i2 : (k : Int) < (len : Int) := by omega
      clear hcell hcx hbb
      by_cases hsh : lr < n
      · have hd2 : decide ((lr : Int) < (n : Int)) = true := by simp; omega
        go_wp2_with fail
        go_ret3
        exact ⟨HBr.out, .inl rfl⟩
      · have hd2 : decide (lr < n) = false := by simp; omega
        have hs1 := fun W => head_run W qr lr cr n (by omega)
        have hrow1 := head_row cr n hxr
        have hxn : (xs.take n).length = n := by rw [List.length_take]; omega
        generalize headA qr cr = h1 at *
        generalize xs.take n = xa at *
        have HRX := Lib.hid (hrow1.below HBr.out)
        have HXA := Lib.hid hxn
        clear hxl hxr hrow1 hxn hsh
        go_wp2_with fail
        obtain ⟨wA, rfl⟩ : ∃ wA, wA = wr := ⟨_, rfl⟩
        go_loopw [11, 28] (fun st sj wq => ∃ j : Nat, j ≤ n ∧ sj = .int .i64 (j : Int) ∧ st = .string (ds (pixB (xa.take j))) ∧ Hid (wq = wA)) (fun _ sj _ => n - (intOf sj).toNat)
        case atStart => exact ⟨0, by omega, rfl, rfl, Lib.hid rfl⟩
        case round =>
          obtain ⟨j, hj, rfl, rfl, HWQ⟩ := hrel
          obtain rfl := HWQ.out
          by_cases hjt : j < n
          · have hkl : j < xa.length := by rw [HXA.out]; exact hjt
            obtain ⟨b, off2, hq, hbC, hcells⟩ := HRX.out (by rw [HXA.out]; omega)
            subst hq
            have hcellj := hcells j hkl
            have htk := List.take_succ_eq_append_getElem hkl
            have hd3 : decide ((j : Int) < (n : Int)) = true := by simp; omega
            have j1 : (0 : Int) ≤ (j : Int) := by omega
            have j2 : (j : Int) < (n : Int) := by omega
            have hz2 : (ds (pixB (xa.take j))).size ≤ 100000 := by rw [ds_size, pixB_length, List.length_take]; omega
            have HST : Hid (pixB (xa.take (j + 1)) = pixB (xa.take j) ++ [xa[j].toNat % 2 == 1]) := Lib.hid (by rw [htk]; unfold pixB; rw [List.map_append]; rfl)
            have hxk := xa[j].toNat_lt
            generalize xa[j].toNat = cc at *
            generalize hT : ds (pixB (xa.take j)) = T at *
            have HT := Lib.hid hT
            clear htk hcells hT
            have hz3 : ({ data := #[48, 49] } : ByteArray).size = 2 := rfl
            rcases (show cc % 2 = 0 ∨ cc % 2 = 1 by omega) with q | q
            · have hbit : bits .and .u8 (cc : Int) 1 = 0 := by rw [and1b cc hxk, q]; rfl
              have x1 := one_white
              have hz4 : (ds [false]).size = 1 := by rw [ds_size]; rfl
              rw [q] at HST
              clear q
              go_wp2_with fail
              go_roundw
              case rel => exact ⟨j + 1, by omega, by go_num, by rw [HST.out, ← ds_append, HT.out]; rfl, Lib.hid trivial⟩
              case measure => simp [intOf]; omega
            · have hbit : bits .and .u8 (cc : Int) 1 = 1 := by rw [and1b cc hxk, q]; rfl
              have x1 := one_black
              have hz4 : (ds [true]).size = 1 := by rw [ds_size]; rfl
              rw [q] at HST
              clear q
              go_wp2_with fail
              go_roundw
              case rel => exact ⟨j + 1, by omega, by go_num, by rw [HST.out, ← ds_append, HT.out]; rfl, Lib.hid trivial⟩
              case measure => simp [intOf]; omega
          · have hje : j = n := by omega
            have hd3 : decide (j < n) = false := by simp; omega
            rw [List.take_of_length_le (by rw [HXA.out]; omega)]
            have HXX : Hid ((pixB xa).length = n) := Lib.hid (by rw [pixB_length]; exact HXA.out)
            have HCX := Lib.hid (fun W => rchanges_new (pixB xa) W (by rw [pixB_length, HXA.out]; omega))
            generalize pixB xa = X at *
            obtain ⟨T, hT⟩ : ∃ T, T = ds X := ⟨_, rfl⟩
            rw [← hT] at HCX ⊢
            have HTT := Lib.hid hT.symm
            have hk1000 : k ≤ 1000 := by omega
            have hbz := HBr.out.size
            have hN7 : ∀ kk, wr.heap.size ≤ kk → ¬ (u8.ownBlock = some kk) := fun kk hkk e => by have := Rws.own_lt HP.out.2 e; omega
            have HN7 := Lib.hid hN7
            clear hT hje hN7 hjt
            go_wp2_with (at_builtin; refine wpList_append_txt rfl _ _ rfl w.heap.size (fun kk => u8.ownBlock = some kk) _ Xs k HXL.out rfl HP.out.1 X T HTT.out HN7.out rfl rfl hk1000 hbz ?_)
            intro v9 w5 ht5 hb5 hown5 ho5
            have hr1 := HP.out.2.none (N' := fun kk => u7.ownBlock = some kk ∨ v9.ownBlock = some kk) (fun kk hkk hN hm => by
              rcases hm with e | e
              · exact hN e
              · rcases hown5 kk e with e2 | e2
                · exact hN e2
                · omega)
            have hr2 := hr1.only ho5 (fun kk _ _ hN e => hN (.inl e))
            have hr3 := hr2.none (N' := fun kk => v9.ownBlock = some kk) (fun kk _ hN hm => hN (.inr hm))
            have HB5 := Lib.hid (HBr.out.trans hb5)
            have HT5 := Lib.hid ht5
            have HR5 := Lib.hid hr3
            clear ht5 hb5 hown5 ho5 hr1 hr2 hr3
            go_wp2_with fail
            refine (HCX.out w5).mono ?_
            rintro e w6 ⟨hb6, qx, cx, rfl, hvx, _, hcx, _, hfx⟩
            rw [zl_length] at hcx ⊢
            obtain ⟨mx, hmx⟩ : ∃ mx, mx = (changes X).length := ⟨_, rfl⟩
            rw [← hmx] at hcx ⊢
            have HT6 := Lib.hid (HT5.out.only (Only.of_below hb6 : Only (fun _ => False) _ _) (fun _ _ _ _ e => e))
            have HR6 := Lib.hid (HR5.out.only (Only.of_below hb6 : Only (fun _ => False) _ _) (fun _ _ _ _ e => e))
            have HB6 := Lib.hid (HB5.out.trans (hb6.mono HB5.out.size))
            have hfr : ∀ ad, qx = some ad → 0 < (changes X).length → w.heap.size ≤ ad.block ∧ u8.ownBlock ≠ some ad.block ∧ ¬ (v9.ownBlock = some ad.block) := fun ad ha h0 => by
              have h3 := hfx ad ha
              have h4 := HB5.out.size
              refine ⟨by omega, fun e => ?_, fun e => ?_⟩
              · have := Rws.own_lt HR5.out e; omega
              · have := (HT5.out.1.lt _ e).2; omega
            have HFR := Lib.hid hfr
            have HVX := Lib.hid hvx
            have HMX := Lib.hid hmx.symm
            have HCX2 := Lib.hid hcx
            have hkm : (Xs.map changes).length = k := by rw [List.length_map]; exact HXL.out
            have HKM := Lib.hid hkm
            have hN9 : ∀ kk, w6.heap.size ≤ kk → ¬ (v9.ownBlock = some kk) := fun kk hkk e => by have := (HT6.out.1.lt _ e).2; omega
            have HN9 := Lib.hid hN9
            have hbz6 := HB6.out.size
            clear hb6 hvx hcx hfx hmx hfr hkm hN9 HCX
            go_wp2_with (at_builtin; refine wpList_append_rws rfl _ _ rfl w.heap.size (fun kk => v9.ownBlock = some kk) _ (Xs.map changes) k HKM.out rfl HR6.out (changes X) qx mx cx HMX.out HVX.out HCX2.out HFR.out HN9.out rfl rfl hk1000 hbz6 ?_)
            intro v10 w7 hw7 hb7 hown7 ho7
            have ht7 := HT6.out.only ho7 (fun kk _ _ hN e => hN e)
            have HP7 : Hid (Pair w7 w.heap.size v9 v10 (Xs ++ [X])) := Lib.hid ⟨⟨ht7.1, fun kk hkk e => by
              rcases hown7 kk e with e2 | e2
              · exact ht7.2 kk hkk e2
              · have := (HT6.out.1.lt _ hkk).2; omega⟩, by rw [List.map_append]; exact hw7⟩
            have HB7 := Lib.hid (HB6.out.trans hb7)
            have HX7 : Hid (∀ Y ∈ Xs ++ [X], Y.length = n) := Lib.hid (fun Y hY => by
              rcases List.mem_append.1 hY with e | e
              · exact HXN.out Y e
              · rw [List.mem_singleton.1 e]; exact HXX.out)
            clear hw7 hb7 hown7 ho7 ht7
            go_wp2_with fail
            go_roundw
            case rel => exact ⟨k + 1, Xs ++ [X], by omega, by go_num, Lib.hid (by rw [List.length_append, HXL.out]; rfl), HX7, HP7, HB7⟩
            case measure => simp [intOf]; omega
    · have hke : k = len := by omega
      have hd : decide ((k : Int) < (len : Int)) = false := by simp; omega
      obtain ⟨qs, cs, hvs, hts, _, _⟩ := HP.out.1.tbl
      obtain ⟨ql, cl, hvl, htl, _, _⟩ := HP.out.2.tbl
      rw [List.length_map] at hvl
      have HXE : Hid (Xs.length = len) := Lib.hid (HXL.out.trans hke)
      rw [HXE.out] at hvs hvl
      have HVS := Lib.hid hvs
      have HVL := Lib.hid hvl
      have HTS := Lib.hid hts
      have HTL := Lib.hid htl
      clear hvs hvl hts htl
      go_wp2_with fail
      go_ret3
      exact ⟨HBr.out, .inr ⟨Xs, qs, ql, cs, cl, by rw [HVS.out, HVL.out]; rfl, HXE.out, HXN.out, HTS.out, HTL.out⟩⟩
end Go.Proofs.YtmbfgejephgojaaDoor.Gf

/- HfD, IgK: merged. -/
import Derived.Test.YtkkfkmoikcmhoaaGreatAaj
import Derived.Test.YtkkfkmoikcmhoaaGreatAam
import Derived.Test.YtkkfkmoikcmhoaaGreatAao
import Derived.Test.YtkkfkmoikcmhoaaGreatAap
set_option linter.unusedVariables false
set_option linter.unusedSimpArgs false
namespace Go.Proofs.YtkkfkmoikcmhoaaGreat.Hf
open Go.RowKit Oct Bit
set_option maxRecDepth 100000
theorem Yqm (L : List Nat) (h : L.length ≤ 100000) : startN L 31 ≤ 3328599654400000 := by
 have := Yga L 31
 generalize startN L 31 = T at this ⊢
 omega
def okZ (zs : List Int) : Bool := zs.all fun z => decide (0 ≤ z ∧ z ≤ 30)
def Y2i (zs : List Int) : List Nat := zs.map Int.toNat
theorem Y5p (zs : List Int) : (Y2i zs).length = zs.length := by simp [Y2i]
def Ykw (zs : List Int) : Int := if okZ zs then (if startN (Y2i zs) 31 ≤ 1073741824 then 0 else 3) else 1
def Y2z (L : List Nat) : List (List UInt8) := (Y03 L).map fun m => m.map dig
theorem Y28 (L : List Nat) : (Y2z L).length = L.length := by simp [Y2z, Y0e]
theorem Ybn (L : List Nat) (i : Nat) (h : i < (Y2z L).length) (h' : i < L.length) : (Y2z L)[i] = (Y1g (pos L L[i] i) L[i]).map dig := by
 simp only [Y2z, List.getElem_map]
 rw [Y2m L i _ h']
def Yyp (w : World) (zs : List Int) (e : Ending) (w' : World) : Prop :=
 Below w.heap.size w w' ∧ ((Ykw zs ≠ 0 ∧ e = .returned (.tuple #[.slice none 0 0, .bool false, .int .i64 (Ykw zs)])) ∨
  (Ykw zs = 0 ∧ ∃ q c, e = .returned (.tuple #[.slice q zs.length c, .bool (decide (startN (Y2i zs) 31 = 1073741824)), .int .i64 0]) ∧ VRow w' w'.heap.size q (strs (Y2z (Y2i zs))) ∧ (q = none → c = 0) ∧ zs.length ≤ c ∧ c ≤ maxLen ∧ ∀ a, q = some a → w.heap.size ≤ a.block))
theorem Yth (zs : List Int) (k : Nat) (h : k < zs.length) (h1 : okZ (zs.take k) = true) (h2 : 0 ≤ zs[k]) (h3 : zs[k] ≤ 30) : okZ (zs.take (k + 1)) = true := by
 unfold okZ at *
 rw [List.take_succ_eq_append_getElem h, List.all_append, h1]
 simp [h2, h3]
theorem Yx9 (zs : List Int) (k : Nat) (h : k < zs.length) (h1 : zs[k] < 0 ∨ 30 < zs[k]) : Ykw zs = 1 := by
 have : okZ zs = false := by
  unfold okZ
  rw [List.all_eq_false]
  exact ⟨zs[k], List.getElem_mem h, by simp; omega⟩
 unfold Ykw
 rw [this]
 rfl
theorem Yxa (zs : List Int) (h : okZ zs = true) (k : Nat) (hk : k < zs.length) : 0 ≤ zs[k] ∧ zs[k] ≤ 30 := by
 unfold okZ at h
 rw [List.all_eq_true] at h
 have := h _ (List.getElem_mem hk)
 simpa using this
theorem Yp6 (zs : List Int) (k : Nat) (h : k < (Y2i zs).length) (h' : k < zs.length) : (Y2i zs)[k] = zs[k].toNat := by simp [Y2i]
theorem Yl3 (zs : List Int) (k m : Nat) (h : k < zs.length) (hm : zs[k] = (m : Int)) : (fun j => (Y2i (zs.take (k + 1))).count j) = fun j => if j = m then (Y2i (zs.take k)).count m + 1 else (Y2i (zs.take k)).count j := by
 funext j
 rw [List.take_succ_eq_append_getElem h]
 unfold Y2i
 rw [List.map_append, List.count_append, hm]
 by_cases hj : j = m
 ·subst hj; simp
 ·rw [if_neg hj]
  have : ¬ m = j := fun e => hj e.symm
  simp [this]
def Y5j (vs : List Value) (z : Value) (k : Nat) : List Value := vs.take k ++ List.replicate (vs.length - k) z
theorem Y5k (vs : List Value) (z : Value) (k : Nat) (h : k ≤ vs.length) : (Y5j vs z k).length = vs.length := by simp [Y5j]; omega
theorem Yl8 (vs : List Value) (z : Value) : Y5j vs z 0 = List.replicate vs.length z := by simp [Y5j]
theorem Yoc (vs : List Value) (z : Value) : Y5j vs z vs.length = vs := by simp [Y5j]
theorem Yl7 (vs : List Value) (z : Value) (k : Nat) (h : k < vs.length) : (Y5j vs z k).set k vs[k] = Y5j vs z (k + 1) := by
 unfold Y5j
 rw [List.set_append, if_neg (by simp; omega), List.take_succ_eq_append_getElem h, List.append_assoc]
 congr 1
 rw [List.length_take, Nat.min_eq_left (by omega), Nat.sub_self, show vs.length - k = (vs.length - (k + 1)) + 1 by omega, List.replicate_succ]
 simp
theorem Yl6 (vs : List Value) (z : Value) (k : Nat) (h : k < vs.length) (hz : vs[k] = z) : Y5j vs z k = Y5j vs z (k + 1) := by
 unfold Y5j
 rw [List.take_succ_eq_append_getElem h, List.append_assoc, show vs.length - k = (vs.length - (k + 1)) + 1 by omega, List.replicate_succ, hz]
 rfl
theorem Yad (z : Value) (n : Nat) : (madeCells #[z] n).toList = List.replicate n z := by
 simp [madeCells]
 apply List.ext_getElem <;> simp [Nat.mod_one]
def Y7b (L : List Nat) (k j : Nat) : Nat := if j = 0 then 0 else pos L j k
theorem Ym0 (L : List Nat) : Y9b (Y32 L 31) = Y9b (Y7b L 0) := by
 unfold Y9b
 refine congrArg List.toArray (List.map_congr_left fun j hj => ?_)
 have hj : j < 31 := by simpa using hj
 unfold Y32 Y7b
 rw [if_pos hj]
 split
 ·rename_i h; subst h; rfl
 ·rw [Y97]
theorem Ylz (L : List Nat) (k n : Nat) (h : k < L.length) (hn : L[k] = n) (h0 : n ≠ 0) : (fun i => if i = n then Y7b L k n + share n else Y7b L k i) = Y7b L (k + 1) := by
 funext i
 unfold Y7b
 by_cases hi : i = n
 ·subst hi
  rw [if_pos rfl, if_neg h0, if_neg h0, Y7h L i k h, if_pos hn]
 ·rw [if_neg hi]
  split
  ·rfl
  ·rw [Y7h L i k h, if_neg (fun e => hi (e.symm.trans hn)), Nat.add_zero]
theorem Yly (L : List Nat) (k : Nat) (h : k < L.length) (hn : L[k] = 0) : Y9b (Y7b L k) = Y9b (Y7b L (k + 1)) := by
 congr 1
 funext i
 unfold Y7b
 split
 ·rfl
 ·rename_i hi
  rw [Y7h L i k h, if_neg (fun e => hi (e.symm.trans hn)), Nat.add_zero]
structure CanM (W : World) (nn nw : Nat) (L : List Nat) (vs : List Value) (k : Nat) : Prop where
 b1 : W.heap[nn]? = some (.cells (Y9b (Y7b L k)) 202 (0, 0))
 b2 : W.heap[nw]? = some (.cells (Y5j vs (.string ByteArray.empty) k).toArray 9 (0, 0))
 ne : nn ≠ nw
theorem CanM.lt1 {W : World} {nn nw k : Nat} {L : List Nat} {vs : List Value} (h : CanM W nn nw L vs k) : nn < W.heap.size := by
 rcases Nat.lt_or_ge nn W.heap.size with hlt | hge
 ·exact hlt
 ·have := h.b1; rw [Array.getElem?_eq_none hge] at this; cases this
theorem CanM.lt2 {W : World} {nn nw k : Nat} {L : List Nat} {vs : List Value} (h : CanM W nn nw L vs k) : nw < W.heap.size := by
 rcases Nat.lt_or_ge nw W.heap.size with hlt | hge
 ·exact hlt
 ·have := h.b2; rw [Array.getElem?_eq_none hge] at this; cases this
theorem CanM.below {W W' : World} {nn nw k : Nat} {L : List Nat} {vs : List Value} (h : CanM W nn nw L vs k) (hb : Below W.heap.size W W') : CanM W' nn nw L vs k :=
 ⟨(hb.block nn h.lt1).trans h.b1, (hb.block nw h.lt2).trans h.b2, h.ne⟩
theorem CanM.skip {W : World} {nn nw k : Nat} {L : List Nat} {vs : List Value} (h : CanM W nn nw L vs k) (hk : k < L.length) (hn : L[k] = 0) (hv : k < vs.length) (hz : vs[k] = .string ByteArray.empty) : CanM W nn nw L vs (k + 1) :=
 ⟨by rw [← Yly L k hk hn]; exact h.b1, by rw [← Yl6 vs _ k hv hz]; exact h.b2, h.ne⟩
theorem CanM.put {W : World} {nn nw k n : Nat} {L : List Nat} {vs : List Value} (h : CanM W nn nw L vs k) (hk : k < L.length) (hn : L[k] = n) (h0 : n ≠ 0) (hv : k < vs.length) :
  CanM ((W.setCell ⟨nw, k, none⟩ vs[k]).drew.setCell ⟨nn, n, none⟩ (.int .u64 ((Y7b L k n + share n : Nat) : Int))) nn nw L vs (k + 1) := by
 refine ⟨?_, ?_, h.ne⟩
 ·have h1 : (W.setCell ⟨nw, k, none⟩ vs[k]).drew.heap[nn]? = some (.cells (Y9b (Y7b L k)) 202 (0, 0)) := Y4p h.b1 h.ne.symm k vs[k]
  rw [Y2k h1, Ykd, Ylz L k n hk hn h0]
 ·have h2 : (W.setCell ⟨nw, k, none⟩ vs[k]).drew.heap[nw]? = some (.cells ((Y5j vs (.string ByteArray.empty) k).toArray.setIfInBounds k vs[k]) 9 (0, 0)) := Y2k h.b2 k vs[k]
  rw [List.setIfInBounds_toArray, Yl7 vs _ k hv] at h2
  exact Y4p h2 h.ne n _
theorem Y55 {ops : Array Oper} {rest : List Oper} {op : Oper} {a : Act} {w : World} {Q : Exit → Act → World → Prop} (hgd : op.guard = none) (ty : TypeId) (x y : Operand) (ho : op.op = .store ty x y)
  (c cells : Array Value) (hx : a.eval x = .pointer (some ⟨w.heap.size, 0, none⟩)) (hy : a.eval y = .agg cells)
  (hi : (Tryz.prog.info? ty).map (·.size) = some cells.size) (hc : c.size = cells.size) (h1 : cells.all (·.oneCell') = true)
  (h : wpList Tryz.prog ops Q rest (a.put op.dst undef) (w.alloc (.cells cells ty))) : wpList Tryz.prog ops Q (op :: rest) a (w.alloc (.cells c ty)) :=
 wpList_plain hgd fun _ hK => by
  unfold Oper.wp execOp
  simp only [ho, hx, hy, Sem.run_bind, Sem.run_pure, Result.andThen_ok, run_storeAt_new w ty c cells hi hc h1]
  exact hK _ _ h
theorem Yke (zs : List Int) : Yba (fun j => (Y2i (zs.take 0)).count j) = (#[.int .i64 0, .int .i64 0, .int .i64 0, .int .i64 0, .int .i64 0, .int .i64 0, .int .i64 0, .int .i64 0, .int .i64 0, .int .i64 0, .int .i64 0, .int .i64 0, .int .i64 0, .int .i64 0, .int .i64 0, .int .i64 0, .int .i64 0, .int .i64 0, .int .i64 0, .int .i64 0, .int .i64 0, .int .i64 0, .int .i64 0, .int .i64 0, .int .i64 0, .int .i64 0, .int .i64 0, .int .i64 0, .int .i64 0, .int .i64 0, .int .i64 0] : Array Value) := by
 have e : (fun j => (Y2i (zs.take 0)).count j) = fun _ => 0 := by funext j; simp [Y2i]
 rw [e, Yrd]
 rfl
set_option maxHeartbeats 2000000 in
theorem Yel (p : Option Addr) (len cap : Nat) (zs : List Int) (w : World) (hr : VRow w w.heap.size p (ints zs)) (hx : zs.length = len) (hl : len ≤ 100000) :
  Calls Tryz.prog 106 #[.slice p len cap] w (Yyp w zs) := by
 obtain ⟨i0, hi, hz0, hz1, hz2⟩ := info_parts Tryz.infoStr
 have hB0 : Below w.heap.size w (w.alloc (.cells (Yba (fun j => (Y2i (zs.take 0)).count j)) 201)) := (Below.refl _ w).alloc (Nat.le_refl _) _
 have hM0 : (w.alloc (.cells (Yba (fun j => (Y2i (zs.take 0)).count j)) 201)).heap[w.heap.size]? = some (.cells (Yba (fun j => (Y2i (zs.take 0)).count j)) 201 (0, 0)) := heap_alloc_last w _
 have hM1 : Hid ((w.alloc (.cells (#[.int .i64 0, .int .i64 0, .int .i64 0, .int .i64 0, .int .i64 0, .int .i64 0, .int .i64 0, .int .i64 0, .int .i64 0, .int .i64 0, .int .i64 0, .int .i64 0, .int .i64 0, .int .i64 0, .int .i64 0, .int .i64 0, .int .i64 0, .int .i64 0, .int .i64 0, .int .i64 0, .int .i64 0, .int .i64 0, .int .i64 0, .int .i64 0, .int .i64 0, .int .i64 0, .int .i64 0, .int .i64 0, .int .i64 0, .int .i64 0, .int .i64 0] : Array Value) 201)).heap[w.heap.size]? = some (.cells (Yba (fun j => (Y2i (zs.take 0)).count j)) 201 (0, 0))) := by
  rw [Yke] at hM0 ⊢
  exact hM0
 rw [Yke] at hB0
 have HB0 := Lib.hid hB0
 have HX := Lib.hid hx
 have HR := Lib.hid hr
 clear hB0 hx hr hM0
 go_enter Tryz.func106, Tryz.ntmps106
 go_wp2_with fail
 go_loopw [7, 15] (fun u i wr => ∃ k : Nat, k ≤ len ∧ i = .int .i64 (k : Int) ∧ Hid (okZ (zs.take k) = true) ∧ Hid (wr.heap[w.heap.size]? = some (.cells (Yba (fun j => (Y2i (zs.take k)).count j)) 201 (0, 0))) ∧ Hid (Below w.heap.size w wr)) (fun _ i _ => len - (intOf i).toNat)
 case atStart => exact ⟨0, by omega, rfl, rfl, hM1, HB0⟩
 case round =>
  obtain ⟨k, hk, rfl, HO, HM, HB⟩ := hrel
  by_cases hlt : k < len
  ·have hkz : k < zs.length := by rw [HX.out]; exact hlt
   obtain ⟨b, off, hp, hbl⟩ := HR.out.addr (by rw [Y06]; omega)
   subst hp
   have hc := (HB.out.cell (p := ⟨b, off + k, none⟩) hbl).trans (HR.out.int k hkz)
   have HT := Lib.hid (Yth zs k hkz HO.out)
   have HBAD := Lib.hid (Yx9 zs k hkz)
   have HCT := Lib.hid (fun m => Yl3 zs k m hkz)
   generalize zs[k] = z at hc HT HBAD HCT
   have hd : decide ((k : Int) < (len : Int)) = true := by simp; omega
   have i1 : (0 : Int) ≤ (k : Int) := by omega
   have i2 : (k : Int) < (len : Int) := by omega
   by_cases h0 : z < 0
   ·have hd0 : decide (z < 0) = true := by simpa using h0
    have HE := Lib.hid (HBAD.out (.inl h0))
    go_wp2_with fail
    go_ret3
    exact ⟨HB.out, .inl ⟨by rw [HE.out]; decide, by rw [HE.out]; rfl⟩⟩
   ·have hd0 : decide (z < 0) = false := by simpa using h0
    by_cases h30 : 30 < z
    ·have hd1 : decide (30 < z) = true := by simpa using h30
     have HE := Lib.hid (HBAD.out (.inr h30))
     go_wp2_with fail
     go_ret3
     exact ⟨HB.out, .inl ⟨by rw [HE.out]; decide, by rw [HE.out]; rfl⟩⟩
    ·have hd1 : decide (30 < z) = false := by simpa using h30
     obtain ⟨m, rfl⟩ : ∃ m : Nat, z = (m : Int) := ⟨z.toNat, by omega⟩
     have HT2 := Lib.hid (HT.out (by omega) (by omega))
     have HM2 := Lib.hid (Y2k HM.out m (.int .i64 (((Y2i (zs.take k)).count m + 1 : Nat) : Int)))
     rw [Yux, ← HCT.out m rfl] at HM2
     have hcm := Ygn HM.out m (by omega)
     have hfm := Y23 HM.out m
     have hcl : (Y2i (zs.take k)).count m ≤ 100000 := Nat.le_trans List.count_le_length (by rw [Y5p, List.length_take]; omega)
     have HB2 := Lib.hid (HB.out.setCell (p := ⟨w.heap.size, m, none⟩) (Nat.le_refl _) (.int .i64 (((Y2i (zs.take k)).count m + 1 : Nat) : Int)))
     generalize (Y2i (zs.take k)).count m = c at hcm hcl HM2 HB2
     have j1 : (0 : Int) ≤ (m : Int) := by omega
     have j2 : (m : Int) < 31 := by omega
     have HCC := Lib.hid (show ((c + 1 : Nat) : Int) = (c : Int) + 1 by omega)
     rw [HCC.out] at HM2 HB2
     clear HT HBAD HCT
     go_wp2_with fail
     go_roundw
     case rel => exact ⟨k + 1, by omega, by go_num, HT2, HM2, HB2⟩
     case measure => simp [intOf]; omega
  ·have hkl : k = len := by omega
   subst hkl
   have hd : decide ((k : Int) < (k : Int)) = false := by simp
   have hOk := HO.out
   have hM := HM.out
   rw [← HX.out, List.take_length] at hOk hM
   have hLl := Y5p zs
   obtain ⟨L, hL⟩ : ∃ L, L = Y2i zs := ⟨_, rfl⟩
   have hcE : Ykw zs = if startN L 31 ≤ 1073741824 then 0 else 3 := by unfold Ykw; rw [if_pos hOk, hL]
   rw [← hL] at hM hLl
   rw [HX.out] at hLl
   have HLL := Lib.hid hLl
   have HLE := Lib.hid hL
   have HCE := Lib.hid hcE
   have HOK := Lib.hid hOk
   have hrg := Yei hM
   have hi31 : (Tryz.prog.info? 201).map (·.size) = some (Yba (fun j => L.count j)).toList.length := by rw [Tryz.size31, Array.length_toList, Yrc]
   have HI31 := Lib.hid hi31
   have HRG := Lib.hid hrg
   have HST := Lib.hid (Yml L wr (by omega))
   generalize Yba (fun j => L.count j) = cs at HI31 HRG HST
   clear hM hLl hL hcE hOk hrg hi31 HM HO
   go_wp2_with (refine wpList_load_mid rfl 201 _ rfl w.heap.size 0 rfl cs.toList _ HRG.out Tryz.underlying201 rfl HI31.out ?_)
   refine HST.out.mono ?_
   rintro e w2 ⟨rfl, hb2⟩
   have HB2 := Lib.hid (HB.out.trans (hb2.mono HB.out.size))
   have hT2 : startN L 31 ≤ 3328599654400000 := Yqm L (by rw [HLL.out]; exact hl)
   have hiu : (Tryz.prog.info? 202).map (·.size) = some (Y9b (Y32 L 31)).size := by rw [Tryz.size31u, Yb8]
   have hnz := Ym0 L
   have HV1 := Lib.hid (Ykc (Y32 L 31))
   have HIU := Lib.hid hiu
   have HNZ := Lib.hid hnz
   have hsz31 : (Y9b (Y32 L 31)).size = 31 := Yb8 _
   have HSZ := Lib.hid hsz31
   generalize Y9b (Y32 L 31) = fs at HV1 HIU HNZ HSZ
   generalize hTe : startN L 31 = T at HCE hT2 ⊢
   have HTE := Lib.hid hTe
   clear hb2 hiu hnz hsz31 hTe
   by_cases hover : 1073741824 < T
   ·have hdt : decide (1073741824 < (T : Int)) = true := by simp; omega
    have HE := Lib.hid (show Ykw zs = 3 by rw [HCE.out, if_neg (by omega)])
    go_wp2_with (refine Y55 rfl 202 _ _ rfl _ fs rfl rfl HIU.out HSZ.out.symm HV1.out ?_)
    go_ret3
    exact ⟨HB2.out.alloc HB2.out.size _, .inl ⟨by rw [HE.out]; decide, by rw [HE.out]; rfl⟩⟩
   ·have hdt : decide (1073741824 < (T : Int)) = false := by simp; omega
    have hEQ : ((T : Int) == 1073741824) = decide (T = 1073741824) := by rw [Bool.eq_iff_iff]; simp; omega
    have HEQ := Lib.hid hEQ
    have hover' := Nat.le_of_not_lt hover
    have HE := Lib.hid (show Ykw zs = 0 by rw [HCE.out, if_pos hover'])
    clear hEQ
    go_wp2_with (first | (refine Y55 rfl 202 _ _ rfl _ fs rfl rfl HIU.out HSZ.out.symm HV1.out ?_) | (at_make; refine wpList_make_full _ rfl _ _ 77 rfl (w2.alloc (.cells fs 202)).heap.size 9 i0 (.string ByteArray.empty) 1 Tryz.underlying77 hi hz0 hz1 .i64 .i64 (k : Int) (k : Int) k rfl rfl rfl rfl ?c2 ?c3 ?c4 ?_))
    case c2 => rw [hz2]; omega
    case c3 => unfold maxLen; omega
    case c4 => simp
    intro w3 hown hgrow
    have hb3 : Below (w2.alloc (.cells fs 202)).heap.size (w2.alloc (.cells fs 202)) w3 := (Below.refl _ _).grown hgrow (Nat.le_refl _) (fun k hk => by cases hk)
    have hnn : w3.heap[w2.heap.size]? = some (.cells fs 202 (0, 0)) := (hb3.block _ (by simp)).trans (heap_alloc_last w2 _)
    have hnw := Y2j hown
    have hLl := HLL.out
    obtain ⟨vs, hvs⟩ : ∃ vs, vs = strs (Y2z L) := ⟨_, rfl⟩
    have hvl : vs.length = k := by rw [hvs, Y14, Y28, hLl]
    rw [HNZ.out] at hnn
    rw [Yad, ← hvl, ← Yl8] at hnw
    have HCM := Lib.hid (CanM.mk hnn hnw (by simp))
    have HB3 := Lib.hid (HB2.out.trans ((((Below.refl w2.heap.size w2).alloc (Nat.le_refl _) _).trans (hb3.mono (by simp))).mono HB2.out.size))
    have hn1 : w.heap.size ≤ w2.heap.size := HB2.out.size
    have hn2' : w.heap.size ≤ w2.heap.size + 1 := by omega
    have HVS := Lib.hid hvs
    have HVL := Lib.hid hvl
    generalize hnwe : w2.heap.size + 1 = nw at hnw HCM hn2' ⊢
    generalize w2.heap.size = nn at hnn HCM hn1 ⊢
    clear hnn hnw hown hgrow hb3 hLl hvs hvl HB2 HST HRG HI31 HNZ HV1 HIU HSZ hM1 HB0 hover HCE hT2 hnwe
    go_wp2_with fail
    go_loopw [11, 12, 43] (fun u v i wr => ∃ j : Nat, j ≤ k ∧ i = .int .i64 (j : Int) ∧ Hid (CanM wr nn nw L vs j) ∧ Hid (Below w.heap.size w wr)) (fun _ _ i _ => k - (intOf i).toNat)
    case atStart => exact ⟨0, by omega, rfl, HCM, HB3⟩
    case round =>
     obtain ⟨j, hj, rfl, HM, HB⟩ := hrel
     by_cases hlt : j < k
     ·have hjz : j < zs.length := by rw [HX.out]; exact hlt
      have hjL : j < L.length := by rw [HLL.out]; exact hlt
      have hjv : j < vs.length := by rw [HVL.out]; exact hlt
      obtain ⟨b, off, hp, hbl⟩ := HR.out.addr (by rw [Y06]; omega)
      subst hp
      have hc := (HB.out.cell (p := ⟨b, off + j, none⟩) hbl).trans (HR.out.int j hjz)
      obtain ⟨hz1', hz2'⟩ := Yxa zs HOK.out j hjz
      have hLg : ∀ h : j < L.length, L[j] = zs[j].toNat := by
       intro h
       have := Yp6 zs j (by rw [Y5p]; exact hjz) hjz
       rw [← this]
       congr 1
      have hLj := hLg hjL
      generalize zs[j] = z at hc hz1' hz2' hLj
      obtain ⟨n, rfl⟩ : ∃ n : Nat, z = (n : Int) := ⟨z.toNat, by omega⟩
      have hLj : L[j] = n := hLj
      have hn30 : n ≤ 30 := by omega
      have hvj : vs[j] = .string (ds (Y1g (pos L n j) n)) := by
       have : ∀ h, vs[j]'h = .string (ds (Y1g (pos L n j) n)) := by
        rw [HVS.out]
        intro h
        simp only [strs, List.getElem_map]
        rw [Ybn L j _ hjL, hLj]
        rfl
       exact this hjv
      have HLJ := Lib.hid hLj
      have hd : decide ((j : Int) < (k : Int)) = true := by simp; omega
      have i1 : (0 : Int) ≤ (j : Int) := by omega
      have i2 : (j : Int) < (k : Int) := by omega
      clear hLg hLj
      by_cases h0 : n = 0
      ·subst h0
       have HM2 := Lib.hid (HM.out.skip hjL HLJ.out hjv hvj)
       clear hvj
       go_wp2_with fail
       go_roundw
       case rel => exact ⟨j + 1, by omega, by go_num, HM2, HB⟩
       case measure => simp [intOf]; omega
      ·have hd0 : decide ((0 : Int) < (n : Int)) = true := by simp; omega
       have j1 : (0 : Int) ≤ (n : Int) := by omega
       have j2 : (n : Int) < 31 := by omega
       have hpt := Yi3 L n j hjL HLJ.out h0 hn30
       rw [HTE.out] at hpt
       have hsp := Y1u n
       have hcn := Yb7 HM.out.b1 n (by omega)
       have hne : Y7b L j n = pos L n j := by unfold Y7b; rw [if_neg h0]
       have hnf := hne
       rw [hne] at hcn
       have HFB := Lib.hid (fun W => Yct (pos L n j) n W hn30 (by omega))
       have HPUT := Lib.hid (fun W (h : CanM W nn nw L vs j) => h.put hjL HLJ.out h0 hjv)
       rw [hne, hvj] at HPUT
       have HSH := Lib.hid (fun W => Yg7 n W hn30)
       have HVJ := Lib.hid hvj
       generalize hpv : pos L n j = pv at *
       generalize hsv : share n = sv at *
       clear hpv hvj hne
       go_wp2_with fail
       refine (HFB.out _).mono ?_
       rintro e w4 ⟨rfl, hb4⟩
       have HM4 := Lib.hid (HM.out.below hb4)
       have HB4 := Lib.hid (HB.out.trans (hb4.mono HB.out.size))
       have hcell := HM4.out.b2
       have hw1 : w4.cell? ⟨nw, j, none⟩ = some ((Y5j vs (.string ByteArray.empty) j)[j]'(by rw [Y5k _ _ _ (by omega)]; exact hjv)) := by
        simp [World.cell?, hcell, Y5k vs (.string ByteArray.empty) j (by omega), hjv]
       generalize (Y5j vs (.string ByteArray.empty) j)[j]'(by rw [Y5k _ _ _ (by omega)]; exact hjv) = old at hw1
       have hw2 := Y23 hcell j
       clear hb4 hcell
       generalize hwd : ds (Y1g pv n) = wd at *
       clear hwd
       go_wp2_with fail
       have HC5 := Lib.hid (HPUT.out w4 HM4.out)
       have hc5 : (w4.setCell ⟨nw, j, none⟩ (.string wd)).drew.cell? ⟨nn, n, none⟩ = some (.int .u64 (pv : Int)) := by
        have := Y4p HM4.out.b1 HM4.out.ne.symm j (.string wd)
        exact (Yb7 (W := w4.setCell ⟨nw, j, none⟩ (.string wd)) this n (by omega)).trans (by rw [hnf])
       have hf5 : (w4.setCell ⟨nw, j, none⟩ (.string wd)).drew.frozen? ⟨nn, n, none⟩ = false := by
        have := Y4p HM4.out.b1 HM4.out.ne.symm j (.string wd)
        exact Y23 (W := w4.setCell ⟨nw, j, none⟩ (.string wd)) this n
       have HB5 := Lib.hid ((HB4.out.setCell (p := ⟨nw, j, none⟩) hn2' (.string wd)).trans (Drawn.below (w' := (w4.setCell ⟨nw, j, none⟩ (.string wd)).drew) ⟨1, rfl⟩ w.heap.size))
       have HB6 := Lib.hid (HB5.out.setCell (p := ⟨nn, n, none⟩) hn1 (.int .u64 ((pv + sv : Nat) : Int)))
       have hwr : (pv : Int) + (sv : Int) < 18446744073709551616 := by omega
       have HCC := Lib.hid (show ((pv + sv : Nat) : Int) = (pv : Int) + (sv : Int) by omega)
       rw [HCC.out] at HC5 HB6
       generalize w4.setCell ⟨nw, j, none⟩ (.string wd) = W5 at *
       clear hw1 hw2 hcn HFB hpt hsp
       have hwrap : IntKind.u64.wrap ((pv : Int) + (sv : Int)) = (pv : Int) + (sv : Int) := IntWalk.u64_in _ (by omega)
       refine wp_region_held_drew (S := (fun _ => True)) (by kernel_rfl) trivial (fun hHeld => ?_)
       refine wpAnyH_take (i := 0) (v := ?v1) rfl (by kernel_rfl) (by kernel_rfl) (by kernel_rfl) (fun _ _ _ h => h) (Or.inl ⟨by rfl, fun w hSw => ?y1⟩) hHeld ?r1
       case y1 => (try dsimp only at hSw); first | (go_simp; done) | (go_simp; with_reducible rfl)
       try simp only [Act.put, List.setIfInBounds_toArray, List.set_cons_zero, List.set_cons_succ, List.getElem_toArray, List.getElem_cons_zero, List.getElem_cons_succ]
       refine wpAnyH_take (i := 1) (v := ?v2) rfl (by kernel_rfl) (by kernel_rfl) (by kernel_rfl) (fun _ _ _ h => h) (Or.inl ⟨by rfl, fun w hSw => ?y2⟩) hHeld ?r2
       case y2 => (try dsimp only at hSw); first | (go_simp; done) | (go_simp; with_reducible rfl)
       try simp only [Act.put, List.setIfInBounds_toArray, List.set_cons_zero, List.set_cons_succ, List.getElem_toArray, List.getElem_cons_zero, List.getElem_cons_succ]
       refine wpAnyH_take (i := 3) (v := ?v3) rfl (by kernel_rfl) (by kernel_rfl) (by kernel_rfl) (fun _ _ _ h => h) (Or.inl ⟨by rfl, fun w hSw => ?y3⟩) hHeld ?r3
       case y3 => (try dsimp only at hSw); first | (go_simp; done) | (go_simp; with_reducible rfl)
       try simp only [Act.put, List.setIfInBounds_toArray, List.set_cons_zero, List.set_cons_succ, List.getElem_toArray, List.getElem_cons_zero, List.getElem_cons_succ]
       refine wpAnyH_ready (rs := [2, 4]) (by kernel_rfl) (by simp) ?_
       refine AllReadyH.cons rfl (fun K hK => ?_) (AllReadyH.cons rfl (fun K hK => ?_) AllReadyH.nil)
       ·go_simp
        go_wp2_with fail
        refine hK.out _ _ trivial (fun hHeld1 => ?_)
        clear hK K
        try simp only [Act.put, List.setIfInBounds_toArray, List.set_cons_zero, List.set_cons_succ, List.getElem_toArray, List.getElem_cons_zero, List.getElem_cons_succ]
        refine wpAnyH_ready (rs := [4]) (by kernel_rfl) (by simp) ?_
        refine AllReadyH.cons rfl (fun K hK => ?_) AllReadyH.nil
        go_simp
        refine (HSH.out _).mono ?_
        rintro e w' ⟨rfl, rfl⟩
        go_wp2_with fail
        refine hK.out _ _ trivial (fun hHeld2 => ?_)
        clear hK K
        try simp only [Act.put, List.setIfInBounds_toArray, List.set_cons_zero, List.set_cons_succ, List.getElem_toArray, List.getElem_cons_zero, List.getElem_cons_succ]
        refine wpAnyH_take (i := 5) (v := ?v4) rfl (by kernel_rfl) (by kernel_rfl) (by kernel_rfl) (fun _ _ _ h => h) (Or.inl ⟨by rfl, fun w hSw => ?y4⟩) hHeld2 ?r4
        case y4 => (try dsimp only at hSw); first | (go_simp; done) | (go_simp; with_reducible rfl)
        try simp only [Act.put, List.setIfInBounds_toArray, List.set_cons_zero, List.set_cons_succ, List.getElem_toArray, List.getElem_cons_zero, List.getElem_cons_succ]
        refine wpAnyH_take (i := 6) (v := ?v5) rfl (by kernel_rfl) (by kernel_rfl) (by kernel_rfl) (fun _ _ _ h => h) (Or.inl ⟨by rfl, fun w hSw => ?y5⟩) hHeld2 ?r5
        case y5 => (try dsimp only at hSw); first | (go_simp; done) | (go_simp; with_reducible rfl)
        try simp only [Act.put, List.setIfInBounds_toArray, List.set_cons_zero, List.set_cons_succ, List.getElem_toArray, List.getElem_cons_zero, List.getElem_cons_succ]
        refine wpAnyH_ready (rs := [7]) (by kernel_rfl) (by simp) ?_
        refine AllReadyH.cons rfl (fun K hK => ?_) AllReadyH.nil
        go_simp
        go_wp2_with fail
        refine hK.out _ _ trivial (fun hHeld3 => ?_)
        clear hK K
        try simp only [Act.put, List.setIfInBounds_toArray, List.set_cons_zero, List.set_cons_succ, List.getElem_toArray, List.getElem_cons_zero, List.getElem_cons_succ]
        refine wpAnyH_done (by kernel_rfl) ?_ _
        go_wp2_with fail
        go_roundw
        case rel => exact ⟨j + 1, by omega, by go_num, HC5, HB6⟩
        case measure => simp [intOf]; omega
       ·go_simp
        refine (HSH.out _).mono ?_
        rintro e w' ⟨rfl, rfl⟩
        go_wp2_with fail
        refine hK.out _ _ trivial (fun hHeld1 => ?_)
        clear hK K
        try simp only [Act.put, List.setIfInBounds_toArray, List.set_cons_zero, List.set_cons_succ, List.getElem_toArray, List.getElem_cons_zero, List.getElem_cons_succ]
        refine wpAnyH_ready (rs := [2]) (by kernel_rfl) (by simp) ?_
        refine AllReadyH.cons rfl (fun K hK => ?_) AllReadyH.nil
        go_simp
        go_wp2_with fail
        refine hK.out _ _ trivial (fun hHeld2 => ?_)
        clear hK K
        try simp only [Act.put, List.setIfInBounds_toArray, List.set_cons_zero, List.set_cons_succ, List.getElem_toArray, List.getElem_cons_zero, List.getElem_cons_succ]
        refine wpAnyH_take (i := 5) (v := ?v6) rfl (by kernel_rfl) (by kernel_rfl) (by kernel_rfl) (fun _ _ _ h => h) (Or.inl ⟨by rfl, fun w hSw => ?y6⟩) hHeld2 ?r6
        case y6 => (try dsimp only at hSw); first | (go_simp; done) | (go_simp; with_reducible rfl)
        try simp only [Act.put, List.setIfInBounds_toArray, List.set_cons_zero, List.set_cons_succ, List.getElem_toArray, List.getElem_cons_zero, List.getElem_cons_succ]
        refine wpAnyH_take (i := 6) (v := ?v7) rfl (by kernel_rfl) (by kernel_rfl) (by kernel_rfl) (fun _ _ _ h => h) (Or.inl ⟨by rfl, fun w hSw => ?y7⟩) hHeld2 ?r7
        case y7 => (try dsimp only at hSw); first | (go_simp; done) | (go_simp; with_reducible rfl)
        try simp only [Act.put, List.setIfInBounds_toArray, List.set_cons_zero, List.set_cons_succ, List.getElem_toArray, List.getElem_cons_zero, List.getElem_cons_succ]
        refine wpAnyH_ready (rs := [7]) (by kernel_rfl) (by simp) ?_
        refine AllReadyH.cons rfl (fun K hK => ?_) AllReadyH.nil
        go_simp
        go_wp2_with fail
        refine hK.out _ _ trivial (fun hHeld3 => ?_)
        clear hK K
        try simp only [Act.put, List.setIfInBounds_toArray, List.set_cons_zero, List.set_cons_succ, List.getElem_toArray, List.getElem_cons_zero, List.getElem_cons_succ]
        refine wpAnyH_done (by kernel_rfl) ?_ _
        go_wp2_with fail
        go_roundw
        case rel => exact ⟨j + 1, by omega, by go_num, HC5, HB6⟩
        case measure => simp [intOf]; omega
     ·have hje : j = k := by omega
      subst hje
      have hd : decide ((j : Int) < (j : Int)) = false := by simp
      have hb2 := HM.out.b2
      have hlt2 := HM.out.lt2
      have hvl := HVL.out
      rw [show Y5j vs (.string ByteArray.empty) j = vs from by rw [← hvl]; exact Yoc vs _] at hb2
      have HROW := Lib.hid (Y3a hb2 hlt2)
      have HX2 := Lib.hid (show zs.length = j from HX.out)
      have HFULL := Lib.hid (show ((T : Int) == 1073741824) = decide (startN (Y2i zs) 31 = 1073741824) by rw [HEQ.out, ← HTE.out, HLE.out])
      clear hb2 hlt2 hvl
      go_wp2_with fail
      go_ret3
      refine ⟨HB.out, .inr ⟨HE.out, some ⟨nw, 0, none⟩, j, by rw [HX2.out, ← HFULL.out]; rfl, ?_, (fun h => by cases h), by rw [HX2.out]; exact Nat.le_refl _, by unfold maxLen; omega, fun a h => by injection h with h; subst h; exact hn2'⟩⟩
      have := HROW.out
      rw [HVS.out, HLE.out] at this
      exact this
end Go.Proofs.YtkkfkmoikcmhoaaGreat.Hf
namespace Go.Proofs.YtkkfkmoikcmhoaaGreat.Inf
open Go.RowKit Oct Bit Hf
set_option maxRecDepth 100000
theorem Yh8 {a b : List Bool} (h : a.map dig <+: b.map dig) : a <+: b := by
 rw [List.prefix_iff_eq_take] at h ⊢
 rw [List.length_map, ← List.map_take] at h
 exact Hf.Yh7 h
theorem Y3u (L : List Nat) (i : Nat) (s : List UInt8) (h : (Y2z L)[i]? = some s) : ∃ hi : i < L.length, s = (Y1g (pos L L[i] i) L[i]).map dig := by
 obtain ⟨hi, he⟩ := List.getElem?_eq_some_iff.1 h
 have hi' : i < L.length := by rwa [Y28] at hi
 exact ⟨hi', by rw [← he, Ybn L i hi hi']⟩
theorem Y9o (L : List Nat) (hL : ∀ n ∈ L, n ≤ 30) (hT : startN L 31 ≤ 1073741824) : Hf.Good (Y2z L) := by
 constructor
 ·intro s hs
  obtain ⟨i, hi⟩ := List.mem_iff_getElem?.1 hs
  obtain ⟨_, rfl⟩ := Y3u L i s hi
  exact Ygr _
 ·intro i j s t hi hj hij hs ht hp
  obtain ⟨hi', rfl⟩ := Y3u L i s hi
  obtain ⟨hj', rfl⟩ := Y3u L j t hj
  have h0 : L[i] ≠ 0 := by
   intro e
   apply hs
   rw [List.map_eq_nil_iff]
   exact List.eq_nil_of_length_eq_zero (by rw [Y0h, e])
  exact Y80 L (fun k hk => hL _ (List.getElem_mem hk)) hT i j hi' hj' hij h0 (Yh8 hp)
theorem Y9p (L : List Nat) (hL : ∀ n ∈ L, n ≤ 30) : ∀ s ∈ Y2z L, s.length ≤ 1000000 := by
 intro s hs
 obtain ⟨i, hi⟩ := List.mem_iff_getElem?.1 hs
 obtain ⟨hi', rfl⟩ := Y3u L i s hi
 rw [List.length_map, Y0h]
 have := hL _ (List.getElem_mem hi')
 omega
theorem Y3c (L : List Nat) : Y2i (Y05 L) = L := by
 unfold Y2i Y05
 rw [List.map_map]
 have e : (Int.toNat ∘ fun n : Nat => (n : Int)) = id := by funext n; simp
 rw [e, List.map_id]
theorem Yjj (L : List Nat) (hL : ∀ n ∈ L, n ≤ 30) : okZ (Y05 L) = true := by
 unfold okZ Y05
 rw [List.all_eq_true]
 intro z hz
 obtain ⟨n, hn, rfl⟩ := List.mem_map.1 hz
 have := hL n hn
 simp
 omega
theorem Ynt (L : List Nat) (hL : ∀ n ∈ L, n ≤ 30) (h : startN L 31 ≤ 1073741824) : Ykw (Y05 L) = 0 := by
 unfold Ykw
 rw [if_pos (Yjj L hL), Y3c, if_pos h]
theorem Ynu (L : List Nat) (hL : ∀ n ∈ L, n ≤ 30) (h : ¬ startN L 31 ≤ 1073741824) : Ykw (Y05 L) = 3 := by
 unfold Ykw
 rw [if_pos (Yjj L hL), Y3c, if_neg h]
def Y2p (n k : Nat) : List Value := places k ++ List.replicate (n - k) (.int .i64 0)
theorem Yg3 (n : Nat) : Y2p n 0 = List.replicate n (.int .i64 0) := by simp [Y2p, places, ints]
theorem Yi1 (n : Nat) : Y2p n n = places n := by simp [Y2p]
theorem Y47 (n k : Nat) (h : k ≤ n) : (Y2p n k).length = n := by simp [Y2p, Y1p]; omega
theorem Yi2 (k : Nat) : places (k + 1) = places k ++ [.int .i64 (k : Int)] := by simp [places, ints, List.range_succ]
theorem Yg2 (n k : Nat) (h : k < n) : (Y2p n k).set k (.int .i64 (k : Int)) = Y2p n (k + 1) := by
 unfold Y2p
 rw [List.set_append, if_neg (by rw [Y1p]; omega), Y1p, Nat.sub_self, Yi2, List.append_assoc]
 congr 1
 rw [show n - k = (n - (k + 1)) + 1 from by omega, List.replicate_succ]
 rfl
theorem Yio {w : World} {g : Nat} {vs : List Value} {T : TypeId} {fr : Nat × Nat} (h : w.heap[g]? = some (.cells vs.toArray T fr)) (i : Nat) (u : Value) : (w.setCell ⟨g, i, none⟩ u).heap[g]? = some (.cells (vs.set i u).toArray T fr) := by
 simp [World.setCell, Array.getElem?_modify, h]
def NbP (w : World) (L : List Nat) (e : Ending) (w' : World) : Prop :=
 Below w.heap.size w w' ∧ ((¬ startN L 31 ≤ 1073741824 ∧ e = .returned (.tuple #[.pointer none, .bool false, .int .i64 3])) ∨
  (startN L 31 ≤ 1073741824 ∧ ∃ B g, e = .returned (.tuple #[.pointer (some ⟨g, 0, none⟩), .bool (decide (startN L 31 = 1073741824)), .int .i64 0]) ∧ w.heap.size ≤ B ∧ Bo w' B w'.heap.size g (Y03 L)))
def Yvs (w : World) (n : Nat) (q : Option Addr) (ws : List Value) (H k : Nat) (wr : World) : Prop :=
 Below w.heap.size w wr ∧ wr.heap[H]? = some (.cells (Y2p n k).toArray 3 (0, 0)) ∧ VRow wr H q ws
theorem VRow.set_far {w : World} {C : Nat} {q : Option Addr} {vs : List Value} (h : VRow w C q vs) {i : Nat} (u : Value) : VRow (w.setCell ⟨C, i, none⟩ u) C q vs := by
 intro hp
 obtain ⟨b, off, rfl, hlt, hc⟩ := h hp
 exact ⟨b, off, rfl, hlt, fun j hj => (World.cell?_of_block (w := w) (Below.heap_setCell _ _ _ _ (by show b ≠ C; omega))).trans (hc j hj)⟩
set_option maxHeartbeats 4000000 in
theorem Y6n (p : Option Addr) (cap n : Nat) (L : List Nat) (w : World) (hr : VRow w w.heap.size p (ints (Y05 L))) (hn : L.length = n) (hL : ∀ m ∈ L, m ≤ 30) (hn3 : n ≤ 300) (hnil : p = none → cap = 0) :
  Calls Tryz.prog 121 #[.slice p n cap] w (NbP w L) := by
 obtain ⟨i0, hi, hz0, hz1, hz2⟩ := info_parts Tryz.infoInt
 have HCA := Lib.hid (Yel p n cap (Y05 L) w hr (by rw [Y02]; exact hn) (by omega))
 have HR := Lib.hid hr
 have HN := Lib.hid hn
 have HL := Lib.hid hL
 clear hr hn hL hnil
 by_cases hov : startN L 31 ≤ 1073741824
 ·have HE := Lib.hid (Ynt L HL.out hov)
  have HOV := Lib.hid hov
  have HGOOD := Lib.hid (Y9o L HL.out hov)
  clear hov
  go_enter Tryz.func121, Tryz.ntmps121
  go_wp2_with fail
  refine HCA.out.mono ?_
  rintro e w1 ⟨hb1, hres⟩
  rcases hres with ⟨hne, _⟩ | ⟨_, q, c, rfl, hv, hq0, hqc, hqm, hqa⟩
  ·exact absurd HE.out hne
  rw [Y3c] at hv
  rw [Y02] at hqc
  rw [Y3c, Y02, HN.out]
  rw [HN.out] at hqc
  obtain ⟨full, hfull⟩ : ∃ full, full = decide (startN L 31 = 1073741824) := ⟨_, rfl⟩
  rw [← hfull]
  have HFULL := Lib.hid hfull
  have HB1 := Lib.hid hb1
  have HV := Lib.hid hv
  have HQ0 := Lib.hid hq0
  clear hb1 hv hq0 hqa hfull
  go_wp2_with (at_make; refine wpList_make_full _ rfl _ _ 74 rfl w1.heap.size 3 i0 (.int .i64 0) 1 Tryz.underlying74 hi hz0 hz1 .i64 .i64 (n : Int) (n : Int) n rfl rfl rfl rfl ?c2 ?c3 ?c4 ?_)
  case c2 => rw [hz2]; omega
  case c3 => unfold maxLen; omega
  case c4 => omega
  intro w2 hown hgrow
  have hb2 : Below w1.heap.size w1 w2 := (Below.refl _ _).grown hgrow (Nat.le_refl _) (fun k hk => by cases hk)
  have hblk := Y2j hown
  have hmv : (madeCells #[Value.int .i64 0] n).toList = Y2p n 0 := by rw [Yad, Yg3]
  rw [hmv] at hblk
  have HST := Lib.hid (show Yvs w n q (strs (Y2z L)) w1.heap.size 0 w2 from ⟨HB1.out.trans (hb2.mono HB1.out.size), hblk, HV.out.below hb2 (Nat.le_refl _)⟩)
  have HHs := HB1.out.size
  clear hown hgrow hb2 hblk hmv HV
  generalize hH : w1.heap.size = H at HST HHs ⊢
  clear hH
  go_wp2_with fail
  go_loopw [9, 25] (fun u i wr => ∃ k : Nat, k ≤ n ∧ i = .int .i64 (k : Int) ∧ Hid (Yvs w n q (strs (Y2z L)) H k wr)) (fun u i wr => n - (intOf i).toNat)
  case atStart => exact ⟨0, by omega, rfl, HST⟩
  case round =>
   obtain ⟨k, hk, rfl, HB⟩ := hrel
   by_cases hlt : k < n
   ·have ql : decide ((k : Int) < (n : Int)) = true := by simpa using hlt
    have i1 : (0 : Int) ≤ (k : Int) := by omega
    have i2 : (k : Int) < (n : Int) := by omega
    have hblk := HB.out.2.1
    have u0 : wr.cell? ⟨H, k, none⟩ = some ((Y2p n k)[k]'(by rw [Y47 n k hk]; exact hlt)) := by simp [World.cell?, hblk, Y47 n k hk, hlt]
    have f0 : wr.frozen? ⟨H, k, none⟩ = false := by simp [World.frozen?, hblk]
    generalize (Y2p n k)[k]'(by rw [Y47 n k hk]; exact hlt) = v0 at u0
    have HNX : Hid (Yvs w n q (strs (Y2z L)) H (k + 1) (wr.setCell ⟨H, k, none⟩ (.int .i64 (k : Int)))) := Lib.hid ⟨HB.out.1.setCell (p := ⟨H, k, none⟩) HHs _, by
     rw [← Yg2 n k hlt]
     exact Yio hblk k _, VRow.set_far HB.out.2.2 _⟩
    clear hblk HB HST
    go_wp2_with fail
    go_roundw
    case rel => exact ⟨k + 1, by omega, by first | rfl | (push_cast; rfl), HNX⟩
    case measure => simp [intOf]; omega
   ·have hkn : k = n := by omega
    subst hkn
    have hblk := HB.out.2.1
    have hHlt : H < wr.heap.size := by
     rcases Nat.lt_or_ge H wr.heap.size with h | h
     ·exact h
     ·rw [Array.getElem?_eq_none h] at hblk; cases hblk
    rw [Yi1] at hblk
    have hv2 : VRow wr wr.heap.size (some ⟨H, 0, none⟩) (places k) := Y3a hblk hHlt
    have HNEW := Lib.hid (Yte q (some ⟨H, 0, none⟩) k c k (Y2z L) (places k) wr (HB.out.2.2.mono (Nat.le_of_lt hHlt)) (by rw [Y28, HN.out]) HQ0.out hv2 (Y1p _) (fun h => by cases h) (by omega) (by exact Y96) (Y9p L HL.out))
    have ql : decide ((k : Int) < (k : Int)) = false := by simp
    have HBW := Lib.hid HB.out.1
    clear hblk hv2 HST HB hlt hk
    go_wp2_with fail
    refine HNEW.out.mono ?_
    rintro e w5 ⟨hb5, hres⟩
    rcases hres with ⟨cc, _, _, hng⟩ | ⟨g, rfl, hg1, hg2, hbk⟩
    ·exact absurd HGOOD.out hng
    have hbo : Bo w5 wr.heap.size w5.heap.size g (Y03 L) := by
     unfold Bo
     rw [Y0e, HN.out]
     exact hbk.boU hg1
    have HBO := Lib.hid hbo
    have HB5 := Lib.hid (HBW.out.trans (hb5.mono HBW.out.size))
    have HBZ := Lib.hid HBW.out.size
    clear hb5 hg1 hg2 hbk hbo
    go_wp2_with fail
    go_ret3
    exact ⟨HB5.out, .inr ⟨HOV.out, _, g, by rw [HFULL.out]; rfl, HBZ.out, HBO.out⟩⟩
 ·have HE := Lib.hid (Ynu L HL.out hov)
  have HOV := Lib.hid hov
  clear hov
  go_enter Tryz.func121, Tryz.ntmps121
  go_wp2_with fail
  refine HCA.out.mono ?_
  rintro e w1 ⟨hb1, hres⟩
  rcases hres with ⟨_, rfl⟩ | ⟨he, _⟩
  ·rw [HE.out]
   have HB1 := Lib.hid hb1
   clear hb1
   go_wp2_with fail
   go_ret3
   exact ⟨HB1.out, .inl ⟨HOV.out, rfl⟩⟩
  ·rw [HE.out] at he; cases he
end Go.Proofs.YtkkfkmoikcmhoaaGreat.Inf

/- HfD, IgK, SmM: merged. -/
import Derived.Laws.BitsAllLaws
import Derived.Laws.Strings
import Derived.Laws.BytesArg
import Derived.Test.YtjafcjnkefioeaaRows
import Derived.WalkKit
import Derived.ProofKit
import Derived.WalkLawsBesides
import Derived.Lib.Hide
import Derived.Deep.QuietTactic
import Derived.BigQuiet
import Derived.Outline
import Derived.Laws.NewBlocks
import Derived.Laws.CopyOwn
import Derived.Laws.Concat
import Derived.Laws.Strings2
import Derived.WalkSpells
import Derived.Laws.AppendOwnNone
import Derived.OpenShut
import Derived.Lib.SliceRun
import Derived.Deep.MidRow
import Derived.Deep.WholeRow
import Derived.Laws.ResultCell
import Derived.Deep.RegionHeld3
import Derived.ChangeKeysEq
import Derived.Laws.Pointers
import Derived.Deep.RegionLaw
import Derived.Deep.DeepCutAuto
import Derived.BigRegion
import Derived.Deep.AppendLies
import Derived.Laws.Externs
import Derived.Laws.IdiomCopy
import Derived.Lib.EndianMore
import Derived.Shelf.Spec.SlicesGrow
import Derived.LoopTactic
import Derived.Deep.LoopGhost
import Derived.Sort.LotA
import Derived.Test.YtjafcjnkefioeaaRag
import Derived.Test.YtjafcjnkefioeaaRaj
import Derived.Test.YtjafcjnkefioeaaRam
set_option linter.unusedVariables false
set_option linter.unusedSimpArgs false
/- The contract of huff's Canon. -/
namespace Go.Proofs.Ytjafcjnkefioeaa.Hf
open Go.RowKit Go.Proofs.Ytjafcjnkefioeaa.Oct Go.Proofs.Ytjafcjnkefioeaa.Bit
set_option maxRecDepth 100000
theorem startN_31 (L : List Nat) (h : L.length ≤ 100000) : startN L 31 ≤ 3328599654400000 := by
  have := startN_bd L 31
  generalize startN L 31 = T at this ⊢
  omega
def okZ (zs : List Int) : Bool := zs.all fun z => decide (0 ≤ z ∧ z ≤ 30)
def lensN (zs : List Int) : List Nat := zs.map Int.toNat
theorem lensN_length (zs : List Int) : (lensN zs).length = zs.length := by simp [lensN]
def cErr (zs : List Int) : Int := if okZ zs then (if startN (lensN zs) 31 ≤ 1073741824 then 0 else 3) else 1
def canonB (L : List Nat) : List (List UInt8) := (canonW L).map fun m => m.map dig
theorem canonB_length (L : List Nat) : (canonB L).length = L.length := by simp [canonB, canonW_length]
theorem canonB_get (L : List Nat) (i : Nat) (h : i < (canonB L).length) (h' : i < L.length) : (canonB L)[i] = (wordAt (pos L L[i] i) L[i]).map dig := by
  simp only [canonB, List.getElem_map]
  rw [canonW_get L i _ h']
def CanonP (w : World) (zs : List Int) (e : Ending) (w' : World) : Prop :=
  Below w.heap.size w w' ∧ ((cErr zs ≠ 0 ∧ e = .returned (.tuple #[.slice none 0 0, .bool false, .int .i64 (cErr zs)])) ∨
    (cErr zs = 0 ∧ ∃ q c, e = .returned (.tuple #[.slice q zs.length c, .bool (decide (startN (lensN zs) 31 = 1073741824)), .int .i64 0]) ∧ VRow w' w'.heap.size q (strs (canonB (lensN zs))) ∧ (q = none → c = 0) ∧ zs.length ≤ c ∧ c ≤ maxLen ∧ ∀ a, q = some a → w.heap.size ≤ a.block))
theorem okZ_take (zs : List Int) (k : Nat) (h : k < zs.length) (h1 : okZ (zs.take k) = true) (h2 : 0 ≤ zs[k]) (h3 : zs[k] ≤ 30) : okZ (zs.take (k + 1)) = true := by
  unfold okZ at *
  rw [List.take_succ_eq_append_getElem h, List.all_append, h1]
  simp [h2, h3]
theorem okZ_bad (zs : List Int) (k : Nat) (h : k < zs.length) (h1 : zs[k] < 0 ∨ 30 < zs[k]) : cErr zs = 1 := by
  have : okZ zs = false := by
    unfold okZ
    rw [List.all_eq_false]
    exact ⟨zs[k], List.getElem_mem h, by simp; omega⟩
  unfold cErr
  rw [this]
  rfl
theorem okZ_get (zs : List Int) (h : okZ zs = true) (k : Nat) (hk : k < zs.length) : 0 ≤ zs[k] ∧ zs[k] ≤ 30 := by
  unfold okZ at h
  rw [List.all_eq_true] at h
  have := h _ (List.getElem_mem hk)
  simpa using this
theorem lensN_get (zs : List Int) (k : Nat) (h : k < (lensN zs).length) (h' : k < zs.length) : (lensN zs)[k] = zs[k].toNat := by simp [lensN]
theorem count_take (zs : List Int) (k m : Nat) (h : k < zs.length) (hm : zs[k] = (m : Int)) : (fun j => (lensN (zs.take (k + 1))).count j) = fun j => if j = m then (lensN (zs.take k)).count m + 1 else (lensN (zs.take k)).count j := by
  funext j
  rw [List.take_succ_eq_append_getElem h]
  unfold lensN
  rw [List.map_append, List.count_append, hm]
  by_cases hj : j = m
  · subst hj; simp
  · rw [if_neg hj]
    have : ¬ m = j := fun e => hj e.symm
    simp [this]
def fillV (vs : List Value) (z : Value) (k : Nat) : List Value := vs.take k ++ List.replicate (vs.length - k) z
theorem fillV_length (vs : List Value) (z : Value) (k : Nat) (h : k ≤ vs.length) : (fillV vs z k).length = vs.length := by simp [fillV]; omega
theorem fillV_zero (vs : List Value) (z : Value) : fillV vs z 0 = List.replicate vs.length z := by simp [fillV]
theorem fillV_all (vs : List Value) (z : Value) : fillV vs z vs.length = vs := by simp [fillV]
theorem fillV_step (vs : List Value) (z : Value) (k : Nat) (h : k < vs.length) : (fillV vs z k).set k vs[k] = fillV vs z (k + 1) := by
  unfold fillV
  rw [List.set_append, if_neg (by simp; omega), List.take_succ_eq_append_getElem h, List.append_assoc]
  congr 1
  rw [List.length_take, Nat.min_eq_left (by omega), Nat.sub_self, show vs.length - k = (vs.length - (k + 1)) + 1 by omega, List.replicate_succ]
  simp
theorem fillV_same (vs : List Value) (z : Value) (k : Nat) (h : k < vs.length) (hz : vs[k] = z) : fillV vs z k = fillV vs z (k + 1) := by
  unfold fillV
  rw [List.take_succ_eq_append_getElem h, List.append_assoc, show vs.length - k = (vs.length - (k + 1)) + 1 by omega, List.replicate_succ, hz]
  rfl
theorem made_vals (z : Value) (n : Nat) : (madeCells #[z] n).toList = List.replicate n z := by
  simp [madeCells]
  apply List.ext_getElem <;> simp [Nat.mod_one]
def nextF (L : List Nat) (k j : Nat) : Nat := if j = 0 then 0 else pos L j k
theorem nextF_zero (L : List Nat) : vecU (startF L 31) = vecU (nextF L 0) := by
  unfold vecU
  refine congrArg List.toArray (List.map_congr_left fun j hj => ?_)
  have hj : j < 31 := by simpa using hj
  unfold startF nextF
  rw [if_pos hj]
  split
  · rename_i h; subst h; rfl
  · rw [pos_zero]
theorem nextF_step (L : List Nat) (k n : Nat) (h : k < L.length) (hn : L[k] = n) (h0 : n ≠ 0) : (fun i => if i = n then nextF L k n + share n else nextF L k i) = nextF L (k + 1) := by
  funext i
  unfold nextF
  by_cases hi : i = n
  · subst hi
    rw [if_pos rfl, if_neg h0, if_neg h0, pos_succ L i k h, if_pos hn]
  · rw [if_neg hi]
    split
    · rfl
    · rw [pos_succ L i k h, if_neg (fun e => hi (e.symm.trans hn)), Nat.add_zero]
theorem nextF_skip (L : List Nat) (k : Nat) (h : k < L.length) (hn : L[k] = 0) : vecU (nextF L k) = vecU (nextF L (k + 1)) := by
  congr 1
  funext i
  unfold nextF
  split
  · rfl
  · rename_i hi
    rw [pos_succ L i k h, if_neg (fun e => hi (e.symm.trans hn)), Nat.add_zero]
structure CanM (W : World) (nn nw : Nat) (L : List Nat) (vs : List Value) (k : Nat) : Prop where
  b1 : W.heap[nn]? = some (.cells (vecU (nextF L k)) 108 (0, 0))
  b2 : W.heap[nw]? = some (.cells (fillV vs (.string ByteArray.empty) k).toArray 9 (0, 0))
  ne : nn ≠ nw
theorem CanM.lt1 {W : World} {nn nw k : Nat} {L : List Nat} {vs : List Value} (h : CanM W nn nw L vs k) : nn < W.heap.size := by
  rcases Nat.lt_or_ge nn W.heap.size with hlt | hge
  · exact hlt
  · have := h.b1; rw [Array.getElem?_eq_none hge] at this; cases this
theorem CanM.lt2 {W : World} {nn nw k : Nat} {L : List Nat} {vs : List Value} (h : CanM W nn nw L vs k) : nw < W.heap.size := by
  rcases Nat.lt_or_ge nw W.heap.size with hlt | hge
  · exact hlt
  · have := h.b2; rw [Array.getElem?_eq_none hge] at this; cases this
theorem CanM.below {W W' : World} {nn nw k : Nat} {L : List Nat} {vs : List Value} (h : CanM W nn nw L vs k) (hb : Below W.heap.size W W') : CanM W' nn nw L vs k :=
  ⟨(hb.block nn h.lt1).trans h.b1, (hb.block nw h.lt2).trans h.b2, h.ne⟩
theorem CanM.skip {W : World} {nn nw k : Nat} {L : List Nat} {vs : List Value} (h : CanM W nn nw L vs k) (hk : k < L.length) (hn : L[k] = 0) (hv : k < vs.length) (hz : vs[k] = .string ByteArray.empty) : CanM W nn nw L vs (k + 1) :=
  ⟨by rw [← nextF_skip L k hk hn]; exact h.b1, by rw [← fillV_same vs _ k hv hz]; exact h.b2, h.ne⟩
theorem CanM.put {W : World} {nn nw k n : Nat} {L : List Nat} {vs : List Value} (h : CanM W nn nw L vs k) (hk : k < L.length) (hn : L[k] = n) (h0 : n ≠ 0) (hv : k < vs.length) :
    CanM ((W.setCell ⟨nw, k, none⟩ vs[k]).drew.setCell ⟨nn, n, none⟩ (.int .u64 ((nextF L k n + share n : Nat) : Int))) nn nw L vs (k + 1) := by
  refine ⟨?_, ?_, h.ne⟩
  · have h1 : (W.setCell ⟨nw, k, none⟩ vs[k]).drew.heap[nn]? = some (.cells (vecU (nextF L k)) 108 (0, 0)) := blk_far h.b1 h.ne.symm k vs[k]
    rw [blk_set h1, vecU_set, nextF_step L k n hk hn h0]
  · have h2 : (W.setCell ⟨nw, k, none⟩ vs[k]).drew.heap[nw]? = some (.cells ((fillV vs (.string ByteArray.empty) k).toArray.setIfInBounds k vs[k]) 9 (0, 0)) := blk_set h.b2 k vs[k]
    rw [List.setIfInBounds_toArray, fillV_step vs _ k hv] at h2
    exact blk_far h2 h.ne n _
theorem wpList_store_new {ops : Array Oper} {rest : List Oper} {op : Oper} {a : Act} {w : World} {Q : Exit → Act → World → Prop} (hgd : op.guard = none) (ty : TypeId) (x y : Operand) (ho : op.op = .store ty x y)
    (c cells : Array Value) (hx : a.eval x = .pointer (some ⟨w.heap.size, 0, none⟩)) (hy : a.eval y = .agg cells)
    (hi : (Try.prog.info? ty).map (·.size) = some cells.size) (hc : c.size = cells.size) (h1 : cells.all (·.oneCell') = true)
    (h : wpList Try.prog ops Q rest (a.put op.dst undef) (w.alloc (.cells cells ty))) : wpList Try.prog ops Q (op :: rest) a (w.alloc (.cells c ty)) :=
  wpList_plain hgd fun _ hK => by
    unfold Oper.wp execOp
    simp only [ho, hx, hy, Sem.run_bind, Sem.run_pure, Result.andThen_ok, run_storeAt_new w ty c cells hi hc h1]
    exact hK _ _ h
theorem vec_none (zs : List Int) : vecI (fun j => (lensN (zs.take 0)).count j) = (#[.int .i64 0, .int .i64 0, .int .i64 0, .int .i64 0, .int .i64 0, .int .i64 0, .int .i64 0, .int .i64 0, .int .i64 0, .int .i64 0, .int .i64 0, .int .i64 0, .int .i64 0, .int .i64 0, .int .i64 0, .int .i64 0, .int .i64 0, .int .i64 0, .int .i64 0, .int .i64 0, .int .i64 0, .int .i64 0, .int .i64 0, .int .i64 0, .int .i64 0, .int .i64 0, .int .i64 0, .int .i64 0, .int .i64 0, .int .i64 0, .int .i64 0] : Array Value) := by
  have e : (fun j => (lensN (zs.take 0)).count j) = fun _ => 0 := by funext j; simp [lensN]
  rw [e, vecI_zero]
  rfl
set_option maxHeartbeats 2000000 in
theorem canon_any (p : Option Addr) (len cap : Nat) (zs : List Int) (w : World) (hr : VRow w w.heap.size p (ints zs)) (hx : zs.length = len) (hl : len ≤ 100000) :
    Calls Try.prog 39 #[.slice p len cap] w (CanonP w zs) := by
  obtain ⟨i0, hi, hz0, hz1, hz2⟩ := info_parts Try.infoStr
  have hB0 : Below w.heap.size w (w.alloc (.cells (vecI (fun j => (lensN (zs.take 0)).count j)) 106)) := (Below.refl _ w).alloc (Nat.le_refl _) _
  have hM0 : (w.alloc (.cells (vecI (fun j => (lensN (zs.take 0)).count j)) 106)).heap[w.heap.size]? = some (.cells (vecI (fun j => (lensN (zs.take 0)).count j)) 106 (0, 0)) := heap_alloc_last w _
  have hM1 : Hid ((w.alloc (.cells (#[.int .i64 0, .int .i64 0, .int .i64 0, .int .i64 0, .int .i64 0, .int .i64 0, .int .i64 0, .int .i64 0, .int .i64 0, .int .i64 0, .int .i64 0, .int .i64 0, .int .i64 0, .int .i64 0, .int .i64 0, .int .i64 0, .int .i64 0, .int .i64 0, .int .i64 0, .int .i64 0, .int .i64 0, .int .i64 0, .int .i64 0, .int .i64 0, .int .i64 0, .int .i64 0, .int .i64 0, .int .i64 0, .int .i64 0, .int .i64 0, .int .i64 0] : Array Value) 106)).heap[w.heap.size]? = some (.cells (vecI (fun j => (lensN (zs.take 0)).count j)) 106 (0, 0))) := by
    rw [vec_none] at hM0 ⊢
    exact hM0
  rw [vec_none] at hB0
  have HB0 := Lib.hid hB0
  have HX := Lib.hid hx
  have HR := Lib.hid hr
  clear hB0 hx hr hM0
  go_enter Try.func39, Try.ntmps39
  go_wp2_with fail
  go_loopw [7, 15] (fun u i wr => ∃ k : Nat, k ≤ len ∧ i = .int .i64 (k : Int) ∧ Hid (okZ (zs.take k) = true) ∧ Hid (wr.heap[w.heap.size]? = some (.cells (vecI (fun j => (lensN (zs.take k)).count j)) 106 (0, 0))) ∧ Hid (Below w.heap.size w wr)) (fun _ i _ => len - (intOf i).toNat)
  case atStart => exact ⟨0, by omega, rfl, rfl, hM1, HB0⟩
  case round =>
    obtain ⟨k, hk, rfl, HO, HM, HB⟩ := hrel
    by_cases hlt : k < len
    · have hkz : k < zs.length := by rw [HX.out]; exact hlt
      obtain ⟨b, off, hp, hbl⟩ := HR.out.addr (by rw [ints_length]; omega)
      subst hp
      have hc := (HB.out.cell (p := ⟨b, off + k, none⟩) hbl).trans (HR.out.int k hkz)
      have HT := Lib.hid (okZ_take zs k hkz HO.out)
      have HBAD := Lib.hid (okZ_bad zs k hkz)
      have HCT := Lib.hid (fun m => count_take zs k m hkz)
      generalize zs[k] = z at hc HT HBAD HCT
      have hd : decide ((k : Int) < (len : Int)) = true := by simp; omega
      have i1 : (0 : Int) ≤ (k : Int) := by omega
      have i2 : (k : Int) < (len : Int) := by omega
      by_cases h0 : z < 0
      · have hd0 : decide (z < 0) = true := by simpa using h0
        have HE := Lib.hid (HBAD.out (.inl h0))
        go_wp2_with fail
        go_ret3
        exact ⟨HB.out, .inl ⟨by rw [HE.out]; decide, by rw [HE.out]; rfl⟩⟩
      · have hd0 : decide (z < 0) = false := by simpa using h0
        by_cases h30 : 30 < z
        · have hd1 : decide (30 < z) = true := by simpa using h30
          have HE := Lib.hid (HBAD.out (.inr h30))
          go_wp2_with fail
          go_ret3
          exact ⟨HB.out, .inl ⟨by rw [HE.out]; decide, by rw [HE.out]; rfl⟩⟩
        · have hd1 : decide (30 < z) = false := by simpa using h30
          obtain ⟨m, rfl⟩ : ∃ m : Nat, z = (m : Int) := ⟨z.toNat, by omega⟩
          have HT2 := Lib.hid (HT.out (by omega) (by omega))
          have HM2 := Lib.hid (blk_set HM.out m (.int .i64 (((lensN (zs.take k)).count m + 1 : Nat) : Int)))
          rw [vecI_set, ← HCT.out m rfl] at HM2
          have hcm := vecI_cell HM.out m (by omega)
          have hfm := blk_frozen HM.out m
          have hcl : (lensN (zs.take k)).count m ≤ 100000 := Nat.le_trans List.count_le_length (by rw [lensN_length, List.length_take]; omega)
          have HB2 := Lib.hid (HB.out.setCell (p := ⟨w.heap.size, m, none⟩) (Nat.le_refl _) (.int .i64 (((lensN (zs.take k)).count m + 1 : Nat) : Int)))
          generalize (lensN (zs.take k)).count m = c at hcm hcl HM2 HB2
          have j1 : (0 : Int) ≤ (m : Int) := by omega
          have j2 : (m : Int) < 31 := by omega
          have HCC := Lib.hid (show ((c + 1 : Nat) : Int) = (c : Int) + 1 by omega)
          rw [HCC.out] at HM2 HB2
          clear HT HBAD HCT
          go_wp2_with fail
          go_roundw
          case rel => exact ⟨k + 1, by omega, by go_num, HT2, HM2, HB2⟩
          case measure => simp [intOf]; omega
    · have hkl : k = len := by omega
      subst hkl
      have hd : decide ((k : Int) < (k : Int)) = false := by simp
      have hOk := HO.out
      have hM := HM.out
      rw [← HX.out, List.take_length] at hOk hM
      have hLl := lensN_length zs
      obtain ⟨L, hL⟩ : ∃ L, L = lensN zs := ⟨_, rfl⟩
      have hcE : cErr zs = if startN L 31 ≤ 1073741824 then 0 else 3 := by unfold cErr; rw [if_pos hOk, hL]
      rw [← hL] at hM hLl
      rw [HX.out] at hLl
      have HLL := Lib.hid hLl
      have HLE := Lib.hid hL
      have HCE := Lib.hid hcE
      have HOK := Lib.hid hOk
      have hrg := blk_range hM
      have hi31 : (Try.prog.info? 106).map (·.size) = some (vecI (fun j => L.count j)).toList.length := by rw [Try.size31, Array.length_toList, vecI_size]
      have HI31 := Lib.hid hi31
      have HRG := Lib.hid hrg
      have HST := Lib.hid (starts_any L wr (by omega))
      generalize vecI (fun j => L.count j) = cs at HI31 HRG HST
      clear hM hLl hL hcE hOk hrg hi31 HM HO
      go_wp2_with (refine wpList_load_mid rfl 106 _ rfl w.heap.size 0 rfl cs.toList _ HRG.out Try.underlying106 rfl HI31.out ?_)
      refine HST.out.mono ?_
      rintro e w2 ⟨rfl, hb2⟩
      have HB2 := Lib.hid (HB.out.trans (hb2.mono HB.out.size))
      have hT2 : startN L 31 ≤ 3328599654400000 := startN_31 L (by rw [HLL.out]; exact hl)
      have hiu : (Try.prog.info? 108).map (·.size) = some (vecU (startF L 31)).size := by rw [Try.size31u, vecU_size]
      have hnz := nextF_zero L
      have HV1 := Lib.hid (vecU_one (startF L 31))
      have HIU := Lib.hid hiu
      have HNZ := Lib.hid hnz
      have hsz31 : (vecU (startF L 31)).size = 31 := vecU_size _
      have HSZ := Lib.hid hsz31
      generalize vecU (startF L 31) = fs at HV1 HIU HNZ HSZ
      generalize hTe : startN L 31 = T at HCE hT2 ⊢
      have HTE := Lib.hid hTe
      clear hb2 hiu hnz hsz31 hTe
      by_cases hover : 1073741824 < T
      · have hdt : decide (1073741824 < (T : Int)) = true := by simp; omega
        have HE := Lib.hid (show cErr zs = 3 by rw [HCE.out, if_neg (by omega)])
        go_wp2_with (refine wpList_store_new rfl 108 _ _ rfl _ fs rfl rfl HIU.out HSZ.out.symm HV1.out ?_)
        go_ret3
        exact ⟨HB2.out.alloc HB2.out.size _, .inl ⟨by rw [HE.out]; decide, by rw [HE.out]; rfl⟩⟩
      · have hdt : decide (1073741824 < (T : Int)) = false := by simp; omega
        have hEQ : ((T : Int) == 1073741824) = decide (T = 1073741824) := by rw [Bool.eq_iff_iff]; simp; omega
        have HEQ := Lib.hid hEQ
        have hover' := Nat.le_of_not_lt hover
        have HE := Lib.hid (show cErr zs = 0 by rw [HCE.out, if_pos hover'])
        clear hEQ
        go_wp2_with (first | (refine wpList_store_new rfl 108 _ _ rfl _ fs rfl rfl HIU.out HSZ.out.symm HV1.out ?_) | (at_make; refine wpList_make_full _ rfl _ _ 81 rfl (w2.alloc (.cells fs 108)).heap.size 9 i0 (.string ByteArray.empty) 1 Try.underlying81 hi hz0 hz1 .i64 .i64 (k : Int) (k : Int) k rfl rfl rfl rfl ?c2 ?c3 ?c4 ?_))
        case c2 => rw [hz2]; omega
        case c3 => unfold maxLen; omega
        case c4 => simp
        intro w3 hown hgrow
        have hb3 : Below (w2.alloc (.cells fs 108)).heap.size (w2.alloc (.cells fs 108)) w3 := (Below.refl _ _).grown hgrow (Nat.le_refl _) (fun k hk => by cases hk)
        have hnn : w3.heap[w2.heap.size]? = some (.cells fs 108 (0, 0)) := (hb3.block _ (by simp)).trans (heap_alloc_last w2 _)
        have hnw := blk_of_own hown
        have hLl := HLL.out
        obtain ⟨vs, hvs⟩ : ∃ vs, vs = strs (canonB L) := ⟨_, rfl⟩
        have hvl : vs.length = k := by rw [hvs, strs_length, canonB_length, hLl]
        rw [HNZ.out] at hnn
        rw [made_vals, ← hvl, ← fillV_zero] at hnw
        have HCM := Lib.hid (CanM.mk hnn hnw (by simp))
        have HB3 := Lib.hid (HB2.out.trans ((((Below.refl w2.heap.size w2).alloc (Nat.le_refl _) _).trans (hb3.mono (by simp))).mono HB2.out.size))
        have hn1 : w.heap.size ≤ w2.heap.size := HB2.out.size
        have hn2' : w.heap.size ≤ w2.heap.size + 1 := by omega
        have HVS := Lib.hid hvs
        have HVL := Lib.hid hvl
        generalize hnwe : w2.heap.size + 1 = nw at hnw HCM hn2' ⊢
        generalize w2.heap.size = nn at hnn HCM hn1 ⊢
        clear hnn hnw hown hgrow hb3 hLl hvs hvl HB2 HST HRG HI31 HNZ HV1 HIU HSZ hM1 HB0 hover HCE hT2 hnwe
        go_wp2_with fail
        go_loopw [11, 12, 43] (fun u v i wr => ∃ j : Nat, j ≤ k ∧ i = .int .i64 (j : Int) ∧ Hid (CanM wr nn nw L vs j) ∧ Hid (Below w.heap.size w wr)) (fun _ _ i _ => k - (intOf i).toNat)
        case atStart => exact ⟨0, by omega, rfl, HCM, HB3⟩
        case round =>
          obtain ⟨j, hj, rfl, HM, HB⟩ := hrel
          by_cases hlt : j < k
          · have hjz : j < zs.length := by rw [HX.out]; exact hlt
            have hjL : j < L.length := by rw [HLL.out]; exact hlt
            have hjv : j < vs.length := by rw [HVL.out]; exact hlt
            obtain ⟨b, off, hp, hbl⟩ := HR.out.addr (by rw [ints_length]; omega)
            subst hp
            have hc := (HB.out.cell (p := ⟨b, off + j, none⟩) hbl).trans (HR.out.int j hjz)
            obtain ⟨hz1', hz2'⟩ := okZ_get zs HOK.out j hjz
            have hLg : ∀ h : j < L.length, L[j] = zs[j].toNat := by
              intro h
              have := lensN_get zs j (by rw [lensN_length]; exact hjz) hjz
              rw [← this]
              congr 1
            have hLj := hLg hjL
            generalize zs[j] = z at hc hz1' hz2' hLj
            obtain ⟨n, rfl⟩ : ∃ n : Nat, z = (n : Int) := ⟨z.toNat, by omega⟩
            have hLj : L[j] = n := hLj
            have hn30 : n ≤ 30 := by omega
            have hvj : vs[j] = .string (ds (wordAt (pos L n j) n)) := by
              have : ∀ h, vs[j]'h = .string (ds (wordAt (pos L n j) n)) := by
                rw [HVS.out]
                intro h
                simp only [strs, List.getElem_map]
                rw [canonB_get L j _ hjL, hLj]
                rfl
              exact this hjv
            have HLJ := Lib.hid hLj
            have hd : decide ((j : Int) < (k : Int)) = true := by simp; omega
            have i1 : (0 : Int) ≤ (j : Int) := by omega
            have i2 : (j : Int) < (k : Int) := by omega
            clear hLg hLj
            by_cases h0 : n = 0
            · subst h0
              have HM2 := Lib.hid (HM.out.skip hjL HLJ.out hjv hvj)
              clear hvj
              go_wp2_with fail
              go_roundw
              case rel => exact ⟨j + 1, by omega, by go_num, HM2, HB⟩
              case measure => simp [intOf]; omega
            · have hd0 : decide ((0 : Int) < (n : Int)) = true := by simp; omega
              have j1 : (0 : Int) ≤ (n : Int) := by omega
              have j2 : (n : Int) < 31 := by omega
              have hpt := pos_all L n j hjL HLJ.out h0 hn30
              rw [HTE.out] at hpt
              have hsp := share_pos n
              have hcn := vecU_cell HM.out.b1 n (by omega)
              have hne : nextF L j n = pos L n j := by unfold nextF; rw [if_neg h0]
              have hnf := hne
              rw [hne] at hcn
              have HFB := Lib.hid (fun W => firstBits_any (pos L n j) n W hn30 (by omega))
              have HPUT := Lib.hid (fun W (h : CanM W nn nw L vs j) => h.put hjL HLJ.out h0 hjv)
              rw [hne, hvj] at HPUT
              have HSH := Lib.hid (fun W => share_any n W hn30)
              have HVJ := Lib.hid hvj
              generalize hpv : pos L n j = pv at *
              generalize hsv : share n = sv at *
              clear hpv hvj hne
              go_wp2_with fail
              refine (HFB.out _).mono ?_
              rintro e w4 ⟨rfl, hb4⟩
              have HM4 := Lib.hid (HM.out.below hb4)
              have HB4 := Lib.hid (HB.out.trans (hb4.mono HB.out.size))
              have hcell := HM4.out.b2
              have hw1 : w4.cell? ⟨nw, j, none⟩ = some ((fillV vs (.string ByteArray.empty) j)[j]'(by rw [fillV_length _ _ _ (by omega)]; exact hjv)) := by
                simp [World.cell?, hcell, fillV_length vs (.string ByteArray.empty) j (by omega), hjv]
              generalize (fillV vs (.string ByteArray.empty) j)[j]'(by rw [fillV_length _ _ _ (by omega)]; exact hjv) = old at hw1
              have hw2 := blk_frozen hcell j
              clear hb4 hcell
              generalize hwd : ds (wordAt pv n) = wd at *
              clear hwd
              go_wp2_with fail
              have HC5 := Lib.hid (HPUT.out w4 HM4.out)
              have hc5 : (w4.setCell ⟨nw, j, none⟩ (.string wd)).drew.cell? ⟨nn, n, none⟩ = some (.int .u64 (pv : Int)) := by
                have := blk_far HM4.out.b1 HM4.out.ne.symm j (.string wd)
                exact (vecU_cell (W := w4.setCell ⟨nw, j, none⟩ (.string wd)) this n (by omega)).trans (by rw [hnf])
              have hf5 : (w4.setCell ⟨nw, j, none⟩ (.string wd)).drew.frozen? ⟨nn, n, none⟩ = false := by
                have := blk_far HM4.out.b1 HM4.out.ne.symm j (.string wd)
                exact blk_frozen (W := w4.setCell ⟨nw, j, none⟩ (.string wd)) this n
              have HB5 := Lib.hid ((HB4.out.setCell (p := ⟨nw, j, none⟩) hn2' (.string wd)).trans (Drawn.below (w' := (w4.setCell ⟨nw, j, none⟩ (.string wd)).drew) ⟨1, rfl⟩ w.heap.size))
              have HB6 := Lib.hid (HB5.out.setCell (p := ⟨nn, n, none⟩) hn1 (.int .u64 ((pv + sv : Nat) : Int)))
              have hwr : (pv : Int) + (sv : Int) < 18446744073709551616 := by omega
              have HCC := Lib.hid (show ((pv + sv : Nat) : Int) = (pv : Int) + (sv : Int) by omega)
              rw [HCC.out] at HC5 HB6
              generalize w4.setCell ⟨nw, j, none⟩ (.string wd) = W5 at *
              clear hw1 hw2 hcn HFB hpt hsp
              have hwrap : IntKind.u64.wrap ((pv : Int) + (sv : Int)) = (pv : Int) + (sv : Int) := IntWalk.u64_in _ (by omega)
              refine wp_region_held_drew (S := (fun _ => True)) (by kernel_rfl) trivial (fun hHeld => ?_)
              refine wpAnyH_take (i := 0) (v := ?v1) rfl (by kernel_rfl) (by kernel_rfl) (by kernel_rfl) (fun _ _ _ h => h) (Or.inl ⟨by rfl, fun w hSw => ?y1⟩) hHeld ?r1
              case y1 => (try dsimp only at hSw); first | (go_simp; done) | (go_simp; with_reducible rfl)
              try simp only [Act.put, List.setIfInBounds_toArray, List.set_cons_zero, List.set_cons_succ, List.getElem_toArray, List.getElem_cons_zero, List.getElem_cons_succ]
              refine wpAnyH_take (i := 1) (v := ?v2) rfl (by kernel_rfl) (by kernel_rfl) (by kernel_rfl) (fun _ _ _ h => h) (Or.inl ⟨by rfl, fun w hSw => ?y2⟩) hHeld ?r2
              case y2 => (try dsimp only at hSw); first | (go_simp; done) | (go_simp; with_reducible rfl)
              try simp only [Act.put, List.setIfInBounds_toArray, List.set_cons_zero, List.set_cons_succ, List.getElem_toArray, List.getElem_cons_zero, List.getElem_cons_succ]
              refine wpAnyH_take (i := 3) (v := ?v3) rfl (by kernel_rfl) (by kernel_rfl) (by kernel_rfl) (fun _ _ _ h => h) (Or.inl ⟨by rfl, fun w hSw => ?y3⟩) hHeld ?r3
              case y3 => (try dsimp only at hSw); first | (go_simp; done) | (go_simp; with_reducible rfl)
              try simp only [Act.put, List.setIfInBounds_toArray, List.set_cons_zero, List.set_cons_succ, List.getElem_toArray, List.getElem_cons_zero, List.getElem_cons_succ]
              refine wpAnyH_ready (rs := [2, 4]) (by kernel_rfl) (by simp) ?_
              refine AllReadyH.cons rfl (fun K hK => ?_) (AllReadyH.cons rfl (fun K hK => ?_) AllReadyH.nil)
              · go_simp
                go_wp2_with fail
                refine hK.out _ _ trivial (fun hHeld1 => ?_)
                clear hK K
                try simp only [Act.put, List.setIfInBounds_toArray, List.set_cons_zero, List.set_cons_succ, List.getElem_toArray, List.getElem_cons_zero, List.getElem_cons_succ]
                refine wpAnyH_ready (rs := [4]) (by kernel_rfl) (by simp) ?_
                refine AllReadyH.cons rfl (fun K hK => ?_) AllReadyH.nil
                go_simp
                refine (HSH.out _).mono ?_
                rintro e w' ⟨rfl, rfl⟩
                go_wp2_with fail
                refine hK.out _ _ trivial (fun hHeld2 => ?_)
                clear hK K
                try simp only [Act.put, List.setIfInBounds_toArray, List.set_cons_zero, List.set_cons_succ, List.getElem_toArray, List.getElem_cons_zero, List.getElem_cons_succ]
                refine wpAnyH_take (i := 5) (v := ?v4) rfl (by kernel_rfl) (by kernel_rfl) (by kernel_rfl) (fun _ _ _ h => h) (Or.inl ⟨by rfl, fun w hSw => ?y4⟩) hHeld2 ?r4
                case y4 => (try dsimp only at hSw); first | (go_simp; done) | (go_simp; with_reducible rfl)
                try simp only [Act.put, List.setIfInBounds_toArray, List.set_cons_zero, List.set_cons_succ, List.getElem_toArray, List.getElem_cons_zero, List.getElem_cons_succ]
                refine wpAnyH_take (i := 6) (v := ?v5) rfl (by kernel_rfl) (by kernel_rfl) (by kernel_rfl) (fun _ _ _ h => h) (Or.inl ⟨by rfl, fun w hSw => ?y5⟩) hHeld2 ?r5
                case y5 => (try dsimp only at hSw); first | (go_simp; done) | (go_simp; with_reducible rfl)
                try simp only [Act.put, List.setIfInBounds_toArray, List.set_cons_zero, List.set_cons_succ, List.getElem_toArray, List.getElem_cons_zero, List.getElem_cons_succ]
                refine wpAnyH_ready (rs := [7]) (by kernel_rfl) (by simp) ?_
                refine AllReadyH.cons rfl (fun K hK => ?_) AllReadyH.nil
                go_simp
                go_wp2_with fail
                refine hK.out _ _ trivial (fun hHeld3 => ?_)
                clear hK K
                try simp only [Act.put, List.setIfInBounds_toArray, List.set_cons_zero, List.set_cons_succ, List.getElem_toArray, List.getElem_cons_zero, List.getElem_cons_succ]
                refine wpAnyH_done (by kernel_rfl) ?_ _
                go_wp2_with fail
                go_roundw
                case rel => exact ⟨j + 1, by omega, by go_num, HC5, HB6⟩
                case measure => simp [intOf]; omega
              · go_simp
                refine (HSH.out _).mono ?_
                rintro e w' ⟨rfl, rfl⟩
                go_wp2_with fail
                refine hK.out _ _ trivial (fun hHeld1 => ?_)
                clear hK K
                try simp only [Act.put, List.setIfInBounds_toArray, List.set_cons_zero, List.set_cons_succ, List.getElem_toArray, List.getElem_cons_zero, List.getElem_cons_succ]
                refine wpAnyH_ready (rs := [2]) (by kernel_rfl) (by simp) ?_
                refine AllReadyH.cons rfl (fun K hK => ?_) AllReadyH.nil
                go_simp
                go_wp2_with fail
                refine hK.out _ _ trivial (fun hHeld2 => ?_)
                clear hK K
                try simp only [Act.put, List.setIfInBounds_toArray, List.set_cons_zero, List.set_cons_succ, List.getElem_toArray, List.getElem_cons_zero, List.getElem_cons_succ]
                refine wpAnyH_take (i := 5) (v := ?v6) rfl (by kernel_rfl) (by kernel_rfl) (by kernel_rfl) (fun _ _ _ h => h) (Or.inl ⟨by rfl, fun w hSw => ?y6⟩) hHeld2 ?r6
                case y6 => (try dsimp only at hSw); first | (go_simp; done) | (go_simp; with_reducible rfl)
                try simp only [Act.put, List.setIfInBounds_toArray, List.set_cons_zero, List.set_cons_succ, List.getElem_toArray, List.getElem_cons_zero, List.getElem_cons_succ]
                refine wpAnyH_take (i := 6) (v := ?v7) rfl (by kernel_rfl) (by kernel_rfl) (by kernel_rfl) (fun _ _ _ h => h) (Or.inl ⟨by rfl, fun w hSw => ?y7⟩) hHeld2 ?r7
                case y7 => (try dsimp only at hSw); first | (go_simp; done) | (go_simp; with_reducible rfl)
                try simp only [Act.put, List.setIfInBounds_toArray, List.set_cons_zero, List.set_cons_succ, List.getElem_toArray, List.getElem_cons_zero, List.getElem_cons_succ]
                refine wpAnyH_ready (rs := [7]) (by kernel_rfl) (by simp) ?_
                refine AllReadyH.cons rfl (fun K hK => ?_) AllReadyH.nil
                go_simp
                go_wp2_with fail
                refine hK.out _ _ trivial (fun hHeld3 => ?_)
                clear hK K
                try simp only [Act.put, List.setIfInBounds_toArray, List.set_cons_zero, List.set_cons_succ, List.getElem_toArray, List.getElem_cons_zero, List.getElem_cons_succ]
                refine wpAnyH_done (by kernel_rfl) ?_ _
                go_wp2_with fail
                go_roundw
                case rel => exact ⟨j + 1, by omega, by go_num, HC5, HB6⟩
                case measure => simp [intOf]; omega
          · have hje : j = k := by omega
            subst hje
            have hd : decide ((j : Int) < (j : Int)) = false := by simp
            have hb2 := HM.out.b2
            have hlt2 := HM.out.lt2
            have hvl := HVL.out
            rw [show fillV vs (.string ByteArray.empty) j = vs from by rw [← hvl]; exact fillV_all vs _] at hb2
            have HROW := Lib.hid (vrow_blk hb2 hlt2)
            have HX2 := Lib.hid (show zs.length = j from HX.out)
            have HFULL := Lib.hid (show ((T : Int) == 1073741824) = decide (startN (lensN zs) 31 = 1073741824) by rw [HEQ.out, ← HTE.out, HLE.out])
            clear hb2 hlt2 hvl
            go_wp2_with fail
            go_ret3
            refine ⟨HB.out, .inr ⟨HE.out, some ⟨nw, 0, none⟩, j, by rw [HX2.out, ← HFULL.out]; rfl, ?_, (fun h => by cases h), by rw [HX2.out]; exact Nat.le_refl _, by unfold maxLen; omega, fun a h => by injection h with h; subst h; exact hn2'⟩⟩
            have := HROW.out
            rw [HVS.out, HLE.out] at this
            exact this
end Go.Proofs.Ytjafcjnkefioeaa.Hf
/- The contracts of newBook, completeBook and isSmall. -/
namespace Go.Proofs.Ytjafcjnkefioeaa.Inf
open Go.RowKit Go.Proofs.Ytjafcjnkefioeaa.Oct Go.Proofs.Ytjafcjnkefioeaa.Bit Go.Proofs.Ytjafcjnkefioeaa.Hf
set_option maxRecDepth 100000
theorem dig_prefix8 {a b : List Bool} (h : a.map dig <+: b.map dig) : a <+: b := by
  rw [List.prefix_iff_eq_take] at h ⊢
  rw [List.length_map, ← List.map_take] at h
  exact Hf.dig_inj h
theorem canonB_some8 (L : List Nat) (i : Nat) (s : List UInt8) (h : (canonB L)[i]? = some s) : ∃ hi : i < L.length, s = (wordAt (pos L L[i] i) L[i]).map dig := by
  obtain ⟨hi, he⟩ := List.getElem?_eq_some_iff.1 h
  have hi' : i < L.length := by rwa [canonB_length] at hi
  exact ⟨hi', by rw [← he, canonB_get L i hi hi']⟩
theorem canon_good8 (L : List Nat) (hL : ∀ n ∈ L, n ≤ 30) (hT : startN L 31 ≤ 1073741824) : Hf.Good (canonB L) := by
  constructor
  · intro s hs
    obtain ⟨i, hi⟩ := List.mem_iff_getElem?.1 hs
    obtain ⟨_, rfl⟩ := canonB_some8 L i s hi
    exact wordB_dig _
  · intro i j s t hi hj hij hs ht hp
    obtain ⟨hi', rfl⟩ := canonB_some8 L i s hi
    obtain ⟨hj', rfl⟩ := canonB_some8 L j t hj
    have h0 : L[i] ≠ 0 := by
      intro e
      apply hs
      rw [List.map_eq_nil_iff]
      exact List.eq_nil_of_length_eq_zero (by rw [wordAt_length, e])
    exact canon_free L (fun k hk => hL _ (List.getElem_mem hk)) hT i j hi' hj' hij h0 (dig_prefix8 hp)
theorem canon_short (L : List Nat) (hL : ∀ n ∈ L, n ≤ 30) : ∀ s ∈ canonB L, s.length ≤ 1000000 := by
  intro s hs
  obtain ⟨i, hi⟩ := List.mem_iff_getElem?.1 hs
  obtain ⟨hi', rfl⟩ := canonB_some8 L i s hi
  rw [List.length_map, wordAt_length]
  have := hL _ (List.getElem_mem hi')
  omega
theorem lensN_cast (L : List Nat) : lensN (castZ L) = L := by
  unfold lensN castZ
  rw [List.map_map]
  have e : (Int.toNat ∘ fun n : Nat => (n : Int)) = id := by funext n; simp
  rw [e, List.map_id]
theorem okZ_cast (L : List Nat) (hL : ∀ n ∈ L, n ≤ 30) : okZ (castZ L) = true := by
  unfold okZ castZ
  rw [List.all_eq_true]
  intro z hz
  obtain ⟨n, hn, rfl⟩ := List.mem_map.1 hz
  have := hL n hn
  simp
  omega
theorem cErr_ok (L : List Nat) (hL : ∀ n ∈ L, n ≤ 30) (h : startN L 31 ≤ 1073741824) : cErr (castZ L) = 0 := by
  unfold cErr
  rw [if_pos (okZ_cast L hL), lensN_cast, if_pos h]
end Go.Proofs.Ytjafcjnkefioeaa.Inf
/- Merging two sorted halves by turning them about a place (SymMerge): the plain facts, over an array; no program in sight. -/
namespace Go.Proofs.Ytjafcjnkefioeaa.Sm
open Go.Sort
variable {α : Type} [Inhabited α] {lt : α → α → Bool}
def swR (a b : Nat) : Nat → Array α → Array α
  | 0, d => d
  | n + 1, d => swp (swR a b n d) (a + n) (b + n)
theorem swR_size (a b n : Nat) (d : Array α) : (swR a b n d).size = d.size := by
  induction n with
  | zero => rfl
  | succ n ih => simp only [swR, size_swp, ih]
theorem swR_perm {lo hi a b n : Nat} {d : Array α} (h1 : lo ≤ a) (h2 : a + n ≤ b) (h3 : b + n ≤ hi) (h4 : hi ≤ d.size) : PermIn lo hi d (swR a b n d) := by
  induction n with
  | zero => exact permIn_refl _ _ _
  | succ n ih => exact permIn_trans _ _ _ _ _ (ih (by omega) (by omega)) (swp_permIn _ lo hi _ _ (by omega) (by omega) (by omega) (by omega) (by rw [swR_size]; omega))
theorem swR_get {a b n : Nat} {d : Array α} (h2 : a + n ≤ b) (h3 : b + n ≤ d.size) (k : Nat) :
    (swR a b n d)[k]! = if a ≤ k ∧ k < a + n then d[k - a + b]! else if b ≤ k ∧ k < b + n then d[k - b + a]! else d[k]! := by
  induction n generalizing k with
  | zero => rw [if_neg (by omega), if_neg (by omega)]; rfl
  | succ n ih =>
    have hs := swR_size a b n d
    simp only [swR]
    rw [swp_get _ (by omega) (by omega), ih (by omega) (by omega), ih (by omega) (by omega), ih (by omega) (by omega)]
    by_cases h4 : k = b + n
    · subst h4
      rw [if_pos rfl, if_neg (by omega), if_neg (by omega), if_neg (by omega), if_pos (by omega)]
      congr 1; omega
    · rw [if_neg h4]
      by_cases h5 : k = a + n
      · subst h5
        rw [if_pos rfl, if_neg (by omega), if_neg (by omega), if_pos (by omega)]
        congr 1; omega
      · rw [if_neg h5]
        by_cases h6 : a ≤ k ∧ k < a + n
        · rw [if_pos h6, if_pos (by omega)]
        · rw [if_neg h6, if_neg (show ¬ (a ≤ k ∧ k < a + (n + 1)) by omega)]
          by_cases h7 : b ≤ k ∧ k < b + n
          · rw [if_pos h7, if_pos (by omega)]
          · rw [if_neg h7, if_neg (by omega)]
def rotG (a m b : Nat) (d : Array α) (k : Nat) : α := if k < a ∨ b ≤ k then d[k]! else if k < a + (b - m) then d[k + (m - a)]! else d[k - (b - m)]!
theorem rotG_out {a m b : Nat} {d : Array α} {k : Nat} (h : k < a ∨ b ≤ k) : rotG a m b d k = d[k]! := by unfold rotG; rw [if_pos h]
theorem rotG_left {a m b : Nat} {d : Array α} {k : Nat} (h1 : a ≤ k) (h2 : k < a + (b - m)) (h3 : m ≤ b) (h4 : a ≤ m) : rotG a m b d k = d[k + (m - a)]! := by unfold rotG; rw [if_neg (by omega), if_pos h2]
theorem rotG_right {a m b : Nat} {d : Array α} {k : Nat} (h1 : a + (b - m) ≤ k) (h2 : k < b) : rotG a m b d k = d[k - (b - m)]! := by unfold rotG; rw [if_neg (by omega), if_neg (by omega)]
theorem rotG_none1 {a b : Nat} {d : Array α} (k : Nat) : rotG a a b d k = d[k]! := by
  unfold rotG
  split
  · rfl
  · rename_i h
    split
    · congr 1; omega
    · omega
theorem rotG_none2 {a b : Nat} {d : Array α} (h : a ≤ b) (k : Nat) : rotG a b b d k = d[k]! := by
  unfold rotG
  split
  · rfl
  · rename_i h
    split
    · omega
    · congr 1; omega
theorem rot_more {m i j : Nat} {d : Array α} (hi : i ≤ m) (hj : j < i) (hs : m + j ≤ d.size) (k : Nat) : rotG (m - (i - j)) m (m + j) (swR (m - i) m j d) k = rotG (m - i) m (m + j) d k := by
  have g := fun k => swR_get (d := d) (a := m - i) (b := m) (n := j) (by omega) hs k
  unfold rotG
  by_cases h1 : k < m - i ∨ m + j ≤ k
  · rw [if_pos (by omega), if_pos h1, g, if_neg (by omega), if_neg (by omega)]
  · rw [if_neg h1]
    by_cases h2 : k < m - i + (m + j - m)
    · rw [if_pos h2, if_pos (by omega), g, if_pos (by omega)]
      congr 1; omega
    · rw [if_neg h2, if_neg (by omega)]
      by_cases h3 : k < m - (i - j) + (m + j - m)
      · rw [if_pos h3, g, if_neg (by omega), if_pos (by omega)]
        congr 1; omega
      · rw [if_neg h3, g, if_neg (by omega), if_neg (by omega)]
theorem rot_less {m i j : Nat} {d : Array α} (hi : i ≤ m) (hj : i < j) (hs : m + j ≤ d.size) (k : Nat) : rotG (m - i) m (m + (j - i)) (swR (m - i) (m + j - i) i d) k = rotG (m - i) m (m + j) d k := by
  have g := fun k => swR_get (d := d) (a := m - i) (b := m + j - i) (n := i) (by omega) (by omega) k
  unfold rotG
  by_cases h1 : k < m - i ∨ m + j ≤ k
  · rw [if_pos (by omega), if_pos h1, g, if_neg (by omega), if_neg (by omega)]
  · rw [if_neg h1]
    by_cases h2 : k < m - i ∨ m + (j - i) ≤ k
    · rw [if_pos h2, if_neg (by omega), g, if_neg (by omega), if_pos (by omega)]
      congr 1; omega
    · rw [if_neg h2]
      by_cases h3 : k < m - i + (m + (j - i) - m)
      · rw [if_pos h3, if_pos (by omega), g]
        by_cases h4 : k + (m - (m - i)) < m + j - i
        · rw [if_neg (by omega), if_neg (by omega)]
        · omega
      · rw [if_neg h3, g, if_pos (by omega)]
        by_cases h4 : k < m - i + (m + j - m)
        · rw [if_pos h4]; congr 1; omega
        · omega
theorem rot_same {m i : Nat} {d : Array α} (hi : i ≤ m) (hs : m + i ≤ d.size) (k : Nat) : (swR (m - i) m i d)[k]! = rotG (m - i) m (m + i) d k := by
  rw [swR_get (by omega) hs]
  unfold rotG
  by_cases h1 : k < m - i ∨ m + i ≤ k
  · rw [if_pos h1, if_neg (by omega), if_neg (by omega)]
  · rw [if_neg h1]
    by_cases h2 : k < m - i + (m + i - m)
    · rw [if_pos h2, if_pos (by omega)]; congr 1; omega
    · rw [if_neg h2, if_neg (by omega), if_pos (by omega)]; congr 1; omega
theorem SortedIn.join {a m b : Nat} {d : Array α} (h1 : SortedIn lt a m d) (h2 : SortedIn lt m b d) (hx : ∀ x y, a ≤ x → x < m → m ≤ y → y < b → lt d[y]! d[x]! = false) : SortedIn lt a b d := by
  intro i j hi hij hj
  by_cases h : j < m
  · exact h1 i j hi hij h
  · by_cases h' : i < m
    · exact hx i j hi h' (by omega) hj
    · exact h2 i j (by omega) hij hj
theorem SortedIn.sub {a b a' b' : Nat} {d : Array α} (h : SortedIn lt a b d) (h1 : a ≤ a') (h2 : b' ≤ b) : SortedIn lt a' b' d := fun i j hi hij hj => h i j (by omega) hij (by omega)
theorem SortedIn.le {a b : Nat} {d : Array α} (hS : SWO lt) (h : SortedIn lt a b d) {i j : Nat} (hi : a ≤ i) (hij : i ≤ j) (hj : j < b) : lt d[j]! d[i]! = false := by
  rcases Nat.lt_or_ge i j with h' | h'
  · exact h i j hi h' hj
  · have : i = j := by omega
    subst this
    exact hS.irrefl _
theorem sorted_one {a : Nat} {d : Array α} : SortedIn lt a (a + 1) d := fun i j hi hij hj => by omega
theorem sorted_none {a b : Nat} {d : Array α} (h : b ≤ a + 1) : SortedIn lt a b d := fun i j hi hij hj => by omega
structure Cut (lt : α → α → Bool) (a s m e b : Nat) (d : Array α) : Prop where
  hs : a ≤ s
  hm : s ≤ m
  he : m ≤ e
  hb : e ≤ b
  x1 : ∀ x y, a ≤ x → x < s → e ≤ y → y < b → lt d[y]! d[x]! = false
  x2 : ∀ x y, m ≤ x → x < e → s ≤ y → y < m → lt d[y]! d[x]! = false
section
variable {a s m e b : Nat} {d d' : Array α} (hS : SWO lt) (h1 : SortedIn lt a m d) (h2 : SortedIn lt m b d) (C : Cut lt a s m e b d) (hd : ∀ k, d'[k]! = rotG s m e d k)
include hS h1 h2 C hd
omit hS h2 in
theorem cut_one : SortedIn lt a s d' := fun i j hi hij hj => by
  rw [hd, hd, rotG_out (by omega), rotG_out (by omega)]
  exact h1 i j hi hij (Nat.lt_of_lt_of_le hj C.hm)
omit hS h1 in
theorem cut_two : SortedIn lt s (s + (e - m)) d' := fun i j hi hij hj => by
  have := C.hm; have := C.he
  rw [hd, hd, rotG_left (by omega) (by omega) C.he C.hm, rotG_left (by omega) (by omega) C.he C.hm]
  exact h2 _ _ (by omega) (by omega) (by have := C.hb; omega)
omit hS h2 in
theorem cut_three : SortedIn lt (s + (e - m)) e d' := fun i j hi hij hj => by
  have := C.hm; have := C.he
  rw [hd, hd, rotG_right (by omega) (by omega), rotG_right (by omega) (by omega)]
  exact h1 _ _ (by have := C.hs; omega) (by omega) (by omega)
omit hS h1 in
theorem cut_four : SortedIn lt e b d' := fun i j hi hij hj => by
  rw [hd, hd, rotG_out (by omega), rotG_out (by omega)]
  exact h2 i j (by have := C.he; omega) hij hj
omit hS in
theorem cut_apart (x y : Nat) (hx : a ≤ x) (hx2 : x < s + (e - m)) (hy : s + (e - m) ≤ y) (hy2 : y < b) : lt d'[y]! d'[x]! = false := by
  have h3 := C.hm; have h4 := C.he; have h5 := C.hs; have h6 := C.hb
  rw [hd, hd]
  by_cases hxs : x < s
  · rw [rotG_out (k := x) (by omega)]
    by_cases hye : y < e
    · rw [rotG_right hy hye]
      exact h1 _ _ hx (by omega) (by omega)
    · rw [rotG_out (by omega)]
      exact C.x1 x y hx hxs (by omega) hy2
  · rw [rotG_left (by omega) hx2 h4 h3]
    by_cases hye : y < e
    · rw [rotG_right hy hye]
      exact C.x2 _ _ (by omega) (by omega) (by omega) (by omega)
    · rw [rotG_out (by omega)]
      exact h2 _ _ (by omega) (by omega) hy2
end
theorem merge_left {a m i b : Nat} {d d' : Array α} (hS : SWO lt) (hm : m = a + 1) (h2 : SortedIn lt m b d) (hi : m ≤ i) (hib : i ≤ b) (hlo : ∀ q, m ≤ q → q < i → lt d[q]! d[a]! = true) (hhi : ∀ q, i ≤ q → q < b → lt d[q]! d[a]! = false)
    (hd : ∀ k, d'[k]! = rotG a m i d k) : SortedIn lt a b d' := by
  have C : Cut lt a a m i b d := ⟨Nat.le_refl _, by omega, hi, hib, fun x y _ _ => by omega, fun x y hx hx2 hy hy2 => by
    have : y = a := by omega
    subst this
    exact hS.asymmA (hlo x hx hx2)⟩
  have h1 : SortedIn lt a m d := by subst hm; exact sorted_one
  refine SortedIn.join (m := a + (i - m)) (cut_two h2 C hd) ?_ (cut_apart h1 h2 C hd)
  refine SortedIn.join (m := i) (cut_three h1 C hd) (cut_four h2 C hd) ?_
  intro x y hx hx2 hy hy2
  rw [hd, hd, rotG_right hx hx2, rotG_out (by omega), show x - (i - m) = a by omega]
  exact hhi y hy hy2
theorem merge_right {a m i b : Nat} {d d' : Array α} (hS : SWO lt) (hb : b = m + 1) (h1 : SortedIn lt a m d) (hi : a ≤ i) (him : i ≤ m) (hlo : ∀ q, a ≤ q → q < i → lt d[m]! d[q]! = false) (hhi : ∀ q, i ≤ q → q < m → lt d[m]! d[q]! = true)
    (hd : ∀ k, d'[k]! = rotG i m b d k) : SortedIn lt a b d' := by
  have C : Cut lt a i m b b d := ⟨hi, him, by omega, Nat.le_refl _, fun x y _ _ => by omega, fun x y hx hx2 hy hy2 => by
    have : x = m := by omega
    subst this
    exact hS.asymmA (hhi y hy hy2)⟩
  have h2 : SortedIn lt m b d := by subst hb; exact sorted_one
  refine SortedIn.join (m := i + (b - m)) ?_ (cut_three h1 C hd) (cut_apart h1 h2 C hd)
  refine SortedIn.join (m := i) (cut_one h1 C hd) (cut_two h2 C hd) ?_
  intro x y hx hx2 hy hy2
  rw [hd, hd, rotG_out (k := x) (by omega), rotG_left hy hy2 C.he C.hm, show y + (m - i) = m by omega]
  exact hlo x hx hx2
structure Srch (lt : α → α → Bool) (d : Array α) (p lo hi start r : Nat) : Prop where
  h1 : lo ≤ start
  h2 : start ≤ r
  h3 : r ≤ hi
  below : lo < start → lt d[p - (start - 1)]! d[start - 1]! = false
  above : r < hi → lt d[p - r]! d[r]! = true
theorem Srch.cut {a m b mid start : Nat} {d : Array α} (hS : SWO lt) (h1 : SortedIn lt a m d) (h2 : SortedIn lt m b d) (ham : a < m) (hmb : m < b) (hmid : mid = (a + b) / 2) {lo hi : Nat} (hlo : lo = if mid < m then mid + m - b else a) (hhi : hi = if mid < m then mid else m)
    (H : Srch lt d (mid + m - 1) lo hi start start) : Cut lt a start m (mid + m - start) b d := by
  have e1 := H.h1; have e2 := H.h3
  have hA : a ≤ start ∧ start ≤ m ∧ m ≤ mid + m - start ∧ mid + m - start ≤ b := by
    by_cases h : mid < m
    · rw [if_pos h] at hlo hhi; omega
    · rw [if_neg h] at hlo hhi; omega
  refine ⟨hA.1, hA.2.1, hA.2.2.1, hA.2.2.2, ?_, ?_⟩
  · intro x y hx hx2 hy hy2
    by_cases hl : lo < start
    · have hb := H.below hl
      rw [show mid + m - 1 - (start - 1) = mid + m - start by omega] at hb
      have hye := SortedIn.le hS h2 hA.2.2.1 hy hy2
      have hxs := SortedIn.le hS h1 hx (show x ≤ start - 1 by omega) (by omega)
      exact hS.ntrans _ _ _ (hS.ntrans _ _ _ hye hb) hxs
    · exfalso
      by_cases h : mid < m
      · rw [if_pos h] at hlo; omega
      · rw [if_neg h] at hlo; omega
  · intro x y hx hx2 hy hy2
    by_cases hl : start < hi
    · have hb := hS.asymmA (H.above hl)
      rw [show mid + m - 1 - start = mid + m - start - 1 by omega] at hb
      have hys := SortedIn.le hS h1 hA.1 hy hy2
      have hxe := SortedIn.le hS h2 hx (show x ≤ mid + m - start - 1 by omega) (by omega)
      exact hS.ntrans _ _ _ (hS.ntrans _ _ _ hys hb) hxe
    · exfalso
      by_cases h : mid < m
      · rw [if_pos h] at hhi; omega
      · rw [if_neg h] at hhi; omega
theorem halves {a mid b : Nat} {d e f : Array α} (hb : b ≤ d.size) (ha : a ≤ mid) (hmb : mid ≤ b) (hx : ∀ x y, a ≤ x → x < mid → mid ≤ y → y < b → lt d[y]! d[x]! = false) (p1 : PermIn a mid d e) (s1 : SortedIn lt a mid e) (p2 : PermIn mid b e f) (s2 : SortedIn lt mid b f) :
    PermIn a b d f ∧ SortedIn lt a b f := by
  have hes : e.size = d.size := p1.1
  refine ⟨permIn_trans _ _ _ _ _ (permIn_mono _ _ _ _ _ _ (Nat.le_refl _) hmb hb p1) (permIn_mono _ _ _ _ _ _ ha (Nat.le_refl _) (by omega) p2), ?_⟩
  have s1' : SortedIn lt a mid f := s1.congrA (fun p hp => p2.2.1 p (Or.inl hp))
  refine SortedIn.join s1' s2 ?_
  intro x y hx1 hx2 hy1 hy2
  have q1 : ∀ y', mid ≤ y' → y' < b → ∀ x', a ≤ x' → x' < mid → lt d[y']! e[x']! = false := fun y' h1 h2 => permIn_all d e a mid (fun v => lt d[y']! v = false) (by omega) p1 (fun i hi hi2 => hx i y' hi hi2 h1 h2)
  have q2 : ∀ x', a ≤ x' → x' < mid → ∀ y', mid ≤ y' → y' < b → lt f[y']! e[x']! = false := fun x' h1 h2 => permIn_all e f mid b (fun v => lt v e[x']! = false) (by omega) p2 (fun i hi hi2 => by
    rw [p1.2.1 i (Or.inr hi)]
    exact q1 i hi hi2 x' h1 h2)
  rw [p2.2.1 x (Or.inl hx2)]
  exact q2 x hx1 hx2 y hy1 hy2
theorem sorted_out {a b a' b' : Nat} {d d' : Array α} (hp : PermIn a b d d') (h : SortedIn lt a' b' d) (ho : b' ≤ a ∨ b ≤ a') : SortedIn lt a' b' d' := fun i j hi hij hj => by
  rw [hp.2.1 i (by omega), hp.2.1 j (by omega)]
  exact h i j hi hij hj
end Go.Proofs.Ytjafcjnkefioeaa.Sm

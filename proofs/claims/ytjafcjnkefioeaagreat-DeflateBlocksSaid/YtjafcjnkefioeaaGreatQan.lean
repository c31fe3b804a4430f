/- DfD, IgD, IgE, HfD: merged. -/
import Derived.Laws.BitsAllLaws
import Derived.Laws.Strings
import Derived.Laws.BytesArg
import Derived.Test.YtjafcjnkefioeaaGreatRows
import Derived.WalkKit
import Derived.ProofKit
import Derived.WalkLawsBesides
import Derived.Lib.Hide
import Derived.Deep.QuietTactic
import Derived.BigQuiet
import Derived.Outline
import Derived.Laws.NewBlocks
import Derived.Laws.CopyOwn
import Derived.Laws.Concat
import Derived.Laws.Strings2
import Derived.WalkSpells
import Derived.Laws.AppendOwnNone
import Derived.OpenShut
import Derived.Lib.SliceRun
import Derived.ChangeKeysEq
import Derived.Laws.Pointers
import Derived.Deep.AppendLies
import Derived.Deep.RegionHeld3
import Derived.Laws.Externs
import Derived.Laws.IdiomCopy
import Derived.Lib.EndianMore
import Derived.Deep.RegionLaw
import Derived.Shelf.Spec.SlicesGrow
import Derived.LoopTactic
import Derived.Deep.LoopGhost
import Derived.Deep.DeepCutAuto
import Derived.BigRegion
import Derived.Deep.MidRow
import Derived.Deep.WholeRow
import Derived.Laws.ResultCell
import Derived.Test.YtjafcjnkefioeaaGreatQag
import Derived.Test.YtjafcjnkefioeaaGreatQak
import Derived.Test.YtjafcjnkefioeaaGreatQam
set_option linter.unusedVariables false
set_option linter.unusedSimpArgs false
/- The contract of mark: a symbol's word, and the bits that follow it. -/
namespace Go.Proofs.YtjafcjnkefioeaaGreat.Df
open Go.RowKit Go.Proofs.YtjafcjnkefioeaaGreat.Oct Go.Proofs.YtjafcjnkefioeaaGreat.Bit Go.Proofs.YtjafcjnkefioeaaGreat.Hf Go.Proofs.YtjafcjnkefioeaaGreat.Inf
set_option maxRecDepth 100000
def BoS (w : World) (F : Nat → Prop) (g : Nat) (W : List (List Bool)) : Prop := ∃ C ms, Foot F (fun w' => Bk w' C g (wordsU W) ms) w
theorem BoS.only {F S : Nat → Prop} {w w' : World} {g : Nat} {W : List (List Bool)} (h : BoS w F g W) (ho : Only S w w') (hS : ∀ k, F k → ¬ S k) : BoS w' F g W := by
  obtain ⟨C, ms, hf⟩ := h
  exact ⟨C, ms, hf.only ho hS⟩
theorem BoS.below {F : Nat → Prop} {w w' : World} {g : Nat} {W : List (List Bool)} (h : BoS w F g W) (hb : Below w.heap.size w w') : BoS w' F g W :=
  h.only (S := fun _ => False) (Only.of_below hb) fun _ _ e => e
theorem BoS.ent {F : Nat → Prop} {w w' : World} {g : Nat} {W : List (List Bool)} {K : Ke} {v : Value} (h : BoS w F g W) (hf : Far K v F) (ho : Only (Mine K.gw v) w w') : BoS w' F g W := by
  obtain ⟨C, ms, hb⟩ := h
  exact ⟨C, ms, hb.ent hf ho⟩
set_option maxHeartbeats 1000000 in
theorem mark_any (w : World) (E0 : Ke) (v : Value) (l : List Bool) (F : Nat → Prop) (g : Nat) (W : List (List Bool)) (i x n : Nat) (m : List Bool) (h : En w E0 v l) (hB : BoS w F g W) (hi : W[i]? = some m) (hm : m ≠ []) (hn : n ≤ 13) (hx : x < 2 ^ n) (hl : l.length + m.length + n ≤ 2000000) :
    Calls Tryz.prog 59 #[.pointer (some ⟨E0.e, 0, none⟩), .pointer (some ⟨g, 0, none⟩), .agg #[.int .i64 (i : Int), .int .i64 (x : Int), .int .i64 (n : Int)]] w fun e w' => e = .returned (.tuple #[]) ∧ EnT w E0 v (l ++ (m ++ wordE true x n)) w' := by
  obtain ⟨C, ms, hf⟩ := hB
  obtain ⟨wa, hwa⟩ : ∃ wa, wa = w.alloc (.cells #[.int .i64 (i : Int), .int .i64 (x : Int), .int .i64 (n : Int)] 117) := ⟨_, rfl⟩
  have hba : Below w.heap.size w wa := by rw [hwa]; exact (Below.refl _ w).alloc (Nat.le_refl _) _
  have hbd : Below w.heap.size w wa.drew := hba.trans ((show Drawn wa wa.drew from ⟨1, rfl⟩).below _)
  have hEd := h.below hbd
  have hwr := bwrite_in wa.drew C g _ ms E0.gw v l m true i (hf.below hbd).now (by rw [wordsU]; simp [hi]) hm hEd.ws (by omega)
  have hmk : Mk wa w.heap.size (.int .i64 (i : Int)) (.int .i64 (x : Int)) (.int .i64 (n : Int)) := by rw [hwa]; exact Array.getElem?_push_size
  have k0 : wa.drew.cell? ⟨E0.e, 0, none⟩ = some (.pointer (some ⟨E0.gw, 0, none⟩)) := hEd.c0
  have k1 : wa.drew.cell? ⟨w.heap.size, 0, none⟩ = some (.int .i64 (i : Int)) := hmk.c0
  have hx2 : x < 4294967296 := Nat.lt_of_lt_of_le hx (Nat.le_trans (Nat.pow_le_pow_right (by omega) hn) (by decide))
  have HWR := Lib.hid hwr
  have HED := Lib.hid hEd
  have HBD := Lib.hid hbd
  have HMK := Lib.hid hmk
  have HWA := Lib.hid hwa
  have hgl := h.ge
  have hkl := h.lt'
  have hvl := Lib.hid (own_lt h)
  have hz : wa.drew.heap.size = w.heap.size + 1 := by show wa.heap.size = _; rw [hwa]; simp
  clear hwr hEd hbd hmk h hf hwa hba
  go_enter Tryz.func59, Tryz.ntmps59
  go_wp2_with fail
  rw [← HWA.out]
  refine wp_region_held_drew (S := (fun w' => w'.cell? ⟨E0.e, 0, none⟩ = some (.pointer (some ⟨E0.gw, 0, none⟩)) ∧ w'.cell? ⟨w.heap.size, 0, none⟩ = some (.int .i64 (i : Int)))) (by kernel_rfl) ⟨k0, k1⟩ (fun hHeld => ?_)
  refine wpAnyH_take (i := 0) (v := ?v1) rfl (by kernel_rfl) (by kernel_rfl) (by kernel_rfl) (fun _ _ _ h => h) (Or.inl ⟨by rfl, fun w hSw => ?y1⟩) hHeld ?r1
  case y1 => (try dsimp only at hSw); first | (go_simp; done) | (go_simp; with_reducible rfl)
  try simp only [Act.put, List.setIfInBounds_toArray, List.set_cons_zero, List.set_cons_succ, List.getElem_toArray, List.getElem_cons_zero, List.getElem_cons_succ]
  refine wpAnyH_take (i := 1) (v := ?v2) rfl (by kernel_rfl) (by kernel_rfl) (by kernel_rfl) (fun _ _ _ h => h) (Or.inl ⟨by rfl, fun w hSw => ?y2⟩) hHeld ?r2
  case y2 => (try dsimp only at hSw); first | (go_simp; done) | (go_simp; with_reducible rfl)
  try simp only [Act.put, List.setIfInBounds_toArray, List.set_cons_zero, List.set_cons_succ, List.getElem_toArray, List.getElem_cons_zero, List.getElem_cons_succ]
  refine wpAnyH_take (i := 2) (v := ?v3) rfl (by kernel_rfl) (by kernel_rfl) (by kernel_rfl) (fun _ _ _ h => h) (Or.inl ⟨by rfl, fun w hSw => ?y3⟩) hHeld ?r3
  case y3 => (try dsimp only at hSw); first | (go_simp; done) | (go_simp; with_reducible rfl)
  try simp only [Act.put, List.setIfInBounds_toArray, List.set_cons_zero, List.set_cons_succ, List.getElem_toArray, List.getElem_cons_zero, List.getElem_cons_succ]
  refine wpAnyH_take (i := 3) (v := ?v4) rfl (by kernel_rfl) (by kernel_rfl) (by kernel_rfl) (fun _ _ _ h => h) (Or.inl ⟨by rfl, fun w hSw => ?y4⟩) hHeld ?r4
  case y4 => (try dsimp only at hSw); first | (go_simp; done) | (go_simp; with_reducible rfl)
  try simp only [Act.put, List.setIfInBounds_toArray, List.set_cons_zero, List.set_cons_succ, List.getElem_toArray, List.getElem_cons_zero, List.getElem_cons_succ]
  refine wpAnyH_take (i := 4) (v := ?v5) rfl (by kernel_rfl) (by kernel_rfl) (by kernel_rfl) (fun _ _ _ h => h) (Or.inl ⟨by rfl, fun w hSw => ?y5⟩) hHeld ?r5
  case y5 => (try dsimp only at hSw); first | (go_simp; done) | (go_simp; with_reducible rfl)
  try simp only [Act.put, List.setIfInBounds_toArray, List.set_cons_zero, List.set_cons_succ, List.getElem_toArray, List.getElem_cons_zero, List.getElem_cons_succ]
  refine wpAnyH_take (i := 5) (v := ?v6) rfl (by kernel_rfl) (by kernel_rfl) (by kernel_rfl) (fun _ _ _ h => h) (Or.inl ⟨by rfl, fun w hSw => ?y6⟩) hHeld ?r6
  case y6 => (try dsimp only at hSw); first | (go_simp; done) | (go_simp; with_reducible rfl)
  try simp only [Act.put, List.setIfInBounds_toArray, List.set_cons_zero, List.set_cons_succ, List.getElem_toArray, List.getElem_cons_zero, List.getElem_cons_succ]
  refine wpAnyH_take (i := 6) (v := ?v7) rfl (by kernel_rfl) (by kernel_rfl) (by kernel_rfl) (fun _ _ _ h => h) (Or.inl ⟨by rfl, fun w hSw => ?y7⟩) hHeld ?r7
  case y7 => (try dsimp only at hSw); first | (go_simp; done) | (go_simp; with_reducible rfl)
  try simp only [Act.put, List.setIfInBounds_toArray, List.set_cons_zero, List.set_cons_succ, List.getElem_toArray, List.getElem_cons_zero, List.getElem_cons_succ]
  refine wpAnyH_take (i := 7) (v := ?v8) rfl (by kernel_rfl) (by kernel_rfl) (by kernel_rfl) (fun _ _ _ h => h) (Or.inl ⟨by rfl, fun w hSw => ?y8⟩) hHeld ?r8
  case y8 => (try dsimp only at hSw); first | (go_simp; done) | (go_simp; with_reducible rfl)
  try simp only [Act.put, List.setIfInBounds_toArray, List.set_cons_zero, List.set_cons_succ, List.getElem_toArray, List.getElem_cons_zero, List.getElem_cons_succ]
  refine wpAnyH_ready (rs := [8]) (by kernel_rfl) (by simp) ?_
  refine AllReadyH.cons rfl (fun K hK => ?_) AllReadyH.nil
  go_simp
  refine HWR.out.mono ?_
  rintro e w1 ⟨rfl, ht⟩
  obtain ⟨v1, hE1, ho1, hd1⟩ := HED.out.wst ht
  have hfar : ∀ k, k = w.heap.size → ¬ Mine E0.gw v k := fun k hk e => by
    subst hk
    rcases e with e | e
    · omega
    · have := hvl.out _ e; omega
  have hm1 : Mk w1 w.heap.size (.int .i64 (i : Int)) (.int .i64 (x : Int)) (.int .i64 (n : Int)) := (ho1.2.2.2.2 _ (by omega) (hfar _ rfl)).trans (show wa.drew.heap[w.heap.size]? = _ from HMK.out)
  have hS1 : w1.cell? ⟨E0.e, 0, none⟩ = some (.pointer (some ⟨E0.gw, 0, none⟩)) ∧ w1.cell? ⟨w.heap.size, 0, none⟩ = some (.int .i64 (i : Int)) := ⟨hE1.c0, hm1.c0⟩
  have HKE := Lib.hid (keep_any w1 E0 v1 _ hE1)
  have HE1 := Lib.hid hE1
  have HO1 := Lib.hid ho1
  have HD1 := Lib.hid hd1
  have HM1 := Lib.hid hm1
  clear hE1 ho1 hd1 hm1 ht hfar
  go_wp2_with fail
  refine hK.out _ _ hS1 (fun hHeld1 => ?_)
  clear hK K
  try simp only [Act.put, List.setIfInBounds_toArray, List.set_cons_zero, List.set_cons_succ, List.getElem_toArray, List.getElem_cons_zero, List.getElem_cons_succ]
  refine wpAnyH_ready (rs := [9]) (by kernel_rfl) (by simp) ?_
  refine AllReadyH.cons rfl (fun K hK => ?_) AllReadyH.nil
  go_simp
  refine HKE.out.mono ?_
  rintro e w2 ⟨rfl, hb2⟩
  have hE2 := HE1.out.below hb2
  have hm2 := HM1.out.below hb2 HM1.out.lt
  have hS2 : w2.cell? ⟨E0.e, 0, none⟩ = some (.pointer (some ⟨E0.gw, 0, none⟩)) ∧ w2.cell? ⟨w.heap.size, 0, none⟩ = some (.int .i64 (i : Int)) := ⟨hE2.c0, hm2.c0⟩
  have HE2 := Lib.hid hE2
  have HM2 := Lib.hid hm2
  have HB2 := Lib.hid hb2
  clear hE2 hm2 hb2
  go_wp2_with fail
  refine hK.out _ _ hS2 (fun hHeld2 => ?_)
  clear hK K
  try simp only [Act.put, List.setIfInBounds_toArray, List.set_cons_zero, List.set_cons_succ, List.getElem_toArray, List.getElem_cons_zero, List.getElem_cons_succ]
  refine wpAnyH_done (by kernel_rfl) ?_ _
  have c1 := HM2.out.c1
  have c2 := HM2.out.c2
  have HNU := Lib.hid (number_any w2 E0 v1 _ x n HE2.out (by omega) hx hx2 (by rw [List.length_append]; omega))
  clear k0 k1
  go_wp2_with fail
  refine HNU.out.mono ?_
  rintro e w3 ⟨rfl, ht⟩
  have HT := Lib.hid ht
  clear ht
  go_wp2_with fail
  go_end0
  refine ⟨rfl, ?_⟩
  have h1 : EnT w1 E0 v1 (l ++ m ++ wordE true x n) w3 := EnT.more ((Only.of_below (S := fun _ => False) HB2.out).mono (fun _ _ e => False.elim e)) (fun _ e => .inl e) HT.out
  have h2 := EnT.more HO1.out HD1.out h1
  rw [List.append_assoc] at h2
  exact EnT.more ((Only.of_below (S := fun _ => False) HBD.out).mono (fun _ _ e => False.elim e)) (fun _ e => .inl e) h2
end Go.Proofs.YtjafcjnkefioeaaGreat.Df
/- The contract of a decoder's copied. -/
namespace Go.Proofs.YtjafcjnkefioeaaGreat.Inf
open Go.RowKit Go.Proofs.YtjafcjnkefioeaaGreat.Oct Go.Proofs.YtjafcjnkefioeaaGreat.Bit Go.Proofs.YtjafcjnkefioeaaGreat.Hf
set_option maxRecDepth 100000
theorem look_len (W : List (List Bool)) : ∀ (l p : List Bool) (i k : Nat), lookW W p l = .ok (i, k) → i < W.length
  | [], p, i, k, h => by cases h
  | b :: t, p, i, k, h => by
    rw [lookW] at h
    split at h
    · rename_i hm
      cases h
      exact List.idxOf_lt_length_of_mem hm
    · split at h
      · exact look_len W t _ i k h
      · cases h
def copyR (B : List (List Bool)) (L : List Bool) (most i a : Nat) (out : List UInt8) : R (List UInt8) :=
  (numberR false L i a).then fun n a => (nextR B L a).then fun k a => (numberR true L k a).then fun d a =>
    if out.length < d then .error 3 else if most < out.length + n then .error 8 else .ok (copyN out d n, a)
theorem froms_big : ∀ far : Bool, ∀ i, i < (froms far).length → 1 ≤ (froms far).getD i 0 ∧ (froms far).getD i 0 ≤ 30000 ∧ (extras far).getD i 0 ≤ 13 := by decide +kernel
end Go.Proofs.YtjafcjnkefioeaaGreat.Inf
/- The contract of a decoder's coded: what code words stand for, up to the end of the block. -/
namespace Go.Proofs.YtjafcjnkefioeaaGreat.Inf
open Go.RowKit Go.Proofs.YtjafcjnkefioeaaGreat.Oct Go.Proofs.YtjafcjnkefioeaaGreat.Bit Go.Proofs.YtjafcjnkefioeaaGreat.Hf
set_option maxRecDepth 100000
theorem then_then {α β γ : Type} (x : R α) (f : α → Nat → R β) (g : β → Nat → R γ) : (x.then f).then g = x.then fun v a => (f v a).then g := by
  rcases x with e | ⟨v, a⟩ <;> rfl
theorem blockA_two (A B : List (List Bool)) (L : List Bool) (most at_ : Nat) (out : List UInt8) (h : at_ ≤ L.length) : blockA A B L most at_ out = (nextR A L at_).then fun v a =>
    if v = 256 then .ok (out, a)
    else if v < 256 then (if most ≤ out.length then .error 8 else blockA A B L most a (out ++ [UInt8.ofNat v]))
    else (copyR B L most (v - 257) a out).then fun o a => blockA A B L most a o := by
  rw [blockA_eq A B L most at_ out h]
  refine then_congr fun v a _ => ?_
  split
  · rfl
  · split
    · rfl
    · unfold copyR
      rw [then_then]
      refine then_congr fun n b _ => ?_
      rw [then_then]
      refine then_congr fun k c _ => ?_
      rw [then_then]
      refine then_congr fun d e _ => ?_
      split
      · rfl
      · split
        · rfl
        · rfl
end Go.Proofs.YtjafcjnkefioeaaGreat.Inf
/- The contract of huff's Canon. -/
namespace Go.Proofs.YtjafcjnkefioeaaGreat.Hf
open Go.RowKit Go.Proofs.YtjafcjnkefioeaaGreat.Oct Go.Proofs.YtjafcjnkefioeaaGreat.Bit
set_option maxRecDepth 100000
theorem startN_31 (L : List Nat) (h : L.length ≤ 100000) : startN L 31 ≤ 3328599654400000 := by
  have := startN_bd L 31
  generalize startN L 31 = T at this ⊢
  omega
def okZ (zs : List Int) : Bool := zs.all fun z => decide (0 ≤ z ∧ z ≤ 30)
def lensN (zs : List Int) : List Nat := zs.map Int.toNat
theorem lensN_length (zs : List Int) : (lensN zs).length = zs.length := by simp [lensN]
def cErr (zs : List Int) : Int := if okZ zs then (if startN (lensN zs) 31 ≤ 1073741824 then 0 else 3) else 1
def canonB (L : List Nat) : List (List UInt8) := (canonW L).map fun m => m.map dig
theorem canonB_length (L : List Nat) : (canonB L).length = L.length := by simp [canonB, canonW_length]
theorem canonB_get (L : List Nat) (i : Nat) (h : i < (canonB L).length) (h' : i < L.length) : (canonB L)[i] = (wordAt (pos L L[i] i) L[i]).map dig := by
  simp only [canonB, List.getElem_map]
  rw [canonW_get L i _ h']
def CanonP (w : World) (zs : List Int) (e : Ending) (w' : World) : Prop :=
  Below w.heap.size w w' ∧ ((cErr zs ≠ 0 ∧ e = .returned (.tuple #[.slice none 0 0, .bool false, .int .i64 (cErr zs)])) ∨
    (cErr zs = 0 ∧ ∃ q c, e = .returned (.tuple #[.slice q zs.length c, .bool (decide (startN (lensN zs) 31 = 1073741824)), .int .i64 0]) ∧ VRow w' w'.heap.size q (strs (canonB (lensN zs))) ∧ (q = none → c = 0) ∧ zs.length ≤ c ∧ c ≤ maxLen ∧ ∀ a, q = some a → w.heap.size ≤ a.block))
theorem okZ_take (zs : List Int) (k : Nat) (h : k < zs.length) (h1 : okZ (zs.take k) = true) (h2 : 0 ≤ zs[k]) (h3 : zs[k] ≤ 30) : okZ (zs.take (k + 1)) = true := by
  unfold okZ at *
  rw [List.take_succ_eq_append_getElem h, List.all_append, h1]
  simp [h2, h3]
theorem okZ_bad (zs : List Int) (k : Nat) (h : k < zs.length) (h1 : zs[k] < 0 ∨ 30 < zs[k]) : cErr zs = 1 := by
  have : okZ zs = false := by
    unfold okZ
    rw [List.all_eq_false]
    exact ⟨zs[k], List.getElem_mem h, by simp; omega⟩
  unfold cErr
  rw [this]
  rfl
theorem okZ_get (zs : List Int) (h : okZ zs = true) (k : Nat) (hk : k < zs.length) : 0 ≤ zs[k] ∧ zs[k] ≤ 30 := by
  unfold okZ at h
  rw [List.all_eq_true] at h
  have := h _ (List.getElem_mem hk)
  simpa using this
theorem lensN_get (zs : List Int) (k : Nat) (h : k < (lensN zs).length) (h' : k < zs.length) : (lensN zs)[k] = zs[k].toNat := by simp [lensN]
theorem count_take (zs : List Int) (k m : Nat) (h : k < zs.length) (hm : zs[k] = (m : Int)) : (fun j => (lensN (zs.take (k + 1))).count j) = fun j => if j = m then (lensN (zs.take k)).count m + 1 else (lensN (zs.take k)).count j := by
  funext j
  rw [List.take_succ_eq_append_getElem h]
  unfold lensN
  rw [List.map_append, List.count_append, hm]
  by_cases hj : j = m
  · subst hj; simp
  · rw [if_neg hj]
    have : ¬ m = j := fun e => hj e.symm
    simp [this]
def fillV (vs : List Value) (z : Value) (k : Nat) : List Value := vs.take k ++ List.replicate (vs.length - k) z
theorem fillV_length (vs : List Value) (z : Value) (k : Nat) (h : k ≤ vs.length) : (fillV vs z k).length = vs.length := by simp [fillV]; omega
theorem fillV_zero (vs : List Value) (z : Value) : fillV vs z 0 = List.replicate vs.length z := by simp [fillV]
theorem fillV_all (vs : List Value) (z : Value) : fillV vs z vs.length = vs := by simp [fillV]
theorem fillV_step (vs : List Value) (z : Value) (k : Nat) (h : k < vs.length) : (fillV vs z k).set k vs[k] = fillV vs z (k + 1) := by
  unfold fillV
  rw [List.set_append, if_neg (by simp; omega), List.take_succ_eq_append_getElem h, List.append_assoc]
  congr 1
  rw [List.length_take, Nat.min_eq_left (by omega), Nat.sub_self, show vs.length - k = (vs.length - (k + 1)) + 1 by omega, List.replicate_succ]
  simp
theorem fillV_same (vs : List Value) (z : Value) (k : Nat) (h : k < vs.length) (hz : vs[k] = z) : fillV vs z k = fillV vs z (k + 1) := by
  unfold fillV
  rw [List.take_succ_eq_append_getElem h, List.append_assoc, show vs.length - k = (vs.length - (k + 1)) + 1 by omega, List.replicate_succ, hz]
  rfl
theorem made_vals (z : Value) (n : Nat) : (madeCells #[z] n).toList = List.replicate n z := by
  simp [madeCells]
  apply List.ext_getElem <;> simp [Nat.mod_one]
def nextF (L : List Nat) (k j : Nat) : Nat := if j = 0 then 0 else pos L j k
theorem nextF_zero (L : List Nat) : vecU (startF L 31) = vecU (nextF L 0) := by
  unfold vecU
  refine congrArg List.toArray (List.map_congr_left fun j hj => ?_)
  have hj : j < 31 := by simpa using hj
  unfold startF nextF
  rw [if_pos hj]
  split
  · rename_i h; subst h; rfl
  · rw [pos_zero]
theorem nextF_step (L : List Nat) (k n : Nat) (h : k < L.length) (hn : L[k] = n) (h0 : n ≠ 0) : (fun i => if i = n then nextF L k n + share n else nextF L k i) = nextF L (k + 1) := by
  funext i
  unfold nextF
  by_cases hi : i = n
  · subst hi
    rw [if_pos rfl, if_neg h0, if_neg h0, pos_succ L i k h, if_pos hn]
  · rw [if_neg hi]
    split
    · rfl
    · rw [pos_succ L i k h, if_neg (fun e => hi (e.symm.trans hn)), Nat.add_zero]
theorem nextF_skip (L : List Nat) (k : Nat) (h : k < L.length) (hn : L[k] = 0) : vecU (nextF L k) = vecU (nextF L (k + 1)) := by
  congr 1
  funext i
  unfold nextF
  split
  · rfl
  · rename_i hi
    rw [pos_succ L i k h, if_neg (fun e => hi (e.symm.trans hn)), Nat.add_zero]
structure CanM (W : World) (nn nw : Nat) (L : List Nat) (vs : List Value) (k : Nat) : Prop where
  b1 : W.heap[nn]? = some (.cells (vecU (nextF L k)) 165 (0, 0))
  b2 : W.heap[nw]? = some (.cells (fillV vs (.string ByteArray.empty) k).toArray 9 (0, 0))
  ne : nn ≠ nw
theorem CanM.lt1 {W : World} {nn nw k : Nat} {L : List Nat} {vs : List Value} (h : CanM W nn nw L vs k) : nn < W.heap.size := by
  rcases Nat.lt_or_ge nn W.heap.size with hlt | hge
  · exact hlt
  · have := h.b1; rw [Array.getElem?_eq_none hge] at this; cases this
theorem CanM.lt2 {W : World} {nn nw k : Nat} {L : List Nat} {vs : List Value} (h : CanM W nn nw L vs k) : nw < W.heap.size := by
  rcases Nat.lt_or_ge nw W.heap.size with hlt | hge
  · exact hlt
  · have := h.b2; rw [Array.getElem?_eq_none hge] at this; cases this
theorem CanM.below {W W' : World} {nn nw k : Nat} {L : List Nat} {vs : List Value} (h : CanM W nn nw L vs k) (hb : Below W.heap.size W W') : CanM W' nn nw L vs k :=
  ⟨(hb.block nn h.lt1).trans h.b1, (hb.block nw h.lt2).trans h.b2, h.ne⟩
theorem CanM.skip {W : World} {nn nw k : Nat} {L : List Nat} {vs : List Value} (h : CanM W nn nw L vs k) (hk : k < L.length) (hn : L[k] = 0) (hv : k < vs.length) (hz : vs[k] = .string ByteArray.empty) : CanM W nn nw L vs (k + 1) :=
  ⟨by rw [← nextF_skip L k hk hn]; exact h.b1, by rw [← fillV_same vs _ k hv hz]; exact h.b2, h.ne⟩
theorem CanM.put {W : World} {nn nw k n : Nat} {L : List Nat} {vs : List Value} (h : CanM W nn nw L vs k) (hk : k < L.length) (hn : L[k] = n) (h0 : n ≠ 0) (hv : k < vs.length) :
    CanM ((W.setCell ⟨nw, k, none⟩ vs[k]).drew.setCell ⟨nn, n, none⟩ (.int .u64 ((nextF L k n + share n : Nat) : Int))) nn nw L vs (k + 1) := by
  refine ⟨?_, ?_, h.ne⟩
  · have h1 : (W.setCell ⟨nw, k, none⟩ vs[k]).drew.heap[nn]? = some (.cells (vecU (nextF L k)) 165 (0, 0)) := blk_far h.b1 h.ne.symm k vs[k]
    rw [blk_set h1, vecU_set, nextF_step L k n hk hn h0]
  · have h2 : (W.setCell ⟨nw, k, none⟩ vs[k]).drew.heap[nw]? = some (.cells ((fillV vs (.string ByteArray.empty) k).toArray.setIfInBounds k vs[k]) 9 (0, 0)) := blk_set h.b2 k vs[k]
    rw [List.setIfInBounds_toArray, fillV_step vs _ k hv] at h2
    exact blk_far h2 h.ne n _
theorem wpList_store_new {ops : Array Oper} {rest : List Oper} {op : Oper} {a : Act} {w : World} {Q : Exit → Act → World → Prop} (hgd : op.guard = none) (ty : TypeId) (x y : Operand) (ho : op.op = .store ty x y)
    (c cells : Array Value) (hx : a.eval x = .pointer (some ⟨w.heap.size, 0, none⟩)) (hy : a.eval y = .agg cells)
    (hi : (Tryz.prog.info? ty).map (·.size) = some cells.size) (hc : c.size = cells.size) (h1 : cells.all (·.oneCell') = true)
    (h : wpList Tryz.prog ops Q rest (a.put op.dst undef) (w.alloc (.cells cells ty))) : wpList Tryz.prog ops Q (op :: rest) a (w.alloc (.cells c ty)) :=
  wpList_plain hgd fun _ hK => by
    unfold Oper.wp execOp
    simp only [ho, hx, hy, Sem.run_bind, Sem.run_pure, Result.andThen_ok, run_storeAt_new w ty c cells hi hc h1]
    exact hK _ _ h
theorem vec_none (zs : List Int) : vecI (fun j => (lensN (zs.take 0)).count j) = (#[.int .i64 0, .int .i64 0, .int .i64 0, .int .i64 0, .int .i64 0, .int .i64 0, .int .i64 0, .int .i64 0, .int .i64 0, .int .i64 0, .int .i64 0, .int .i64 0, .int .i64 0, .int .i64 0, .int .i64 0, .int .i64 0, .int .i64 0, .int .i64 0, .int .i64 0, .int .i64 0, .int .i64 0, .int .i64 0, .int .i64 0, .int .i64 0, .int .i64 0, .int .i64 0, .int .i64 0, .int .i64 0, .int .i64 0, .int .i64 0, .int .i64 0] : Array Value) := by
  have e : (fun j => (lensN (zs.take 0)).count j) = fun _ => 0 := by funext j; simp [lensN]
  rw [e, vecI_zero]
  rfl
set_option maxHeartbeats 2000000 in
theorem canon_any (p : Option Addr) (len cap : Nat) (zs : List Int) (w : World) (hr : VRow w w.heap.size p (ints zs)) (hx : zs.length = len) (hl : len ≤ 100000) :
    Calls Tryz.prog 61 #[.slice p len cap] w (CanonP w zs) := by
  obtain ⟨i0, hi, hz0, hz1, hz2⟩ := info_parts Tryz.infoStr
  have hB0 : Below w.heap.size w (w.alloc (.cells (vecI (fun j => (lensN (zs.take 0)).count j)) 163)) := (Below.refl _ w).alloc (Nat.le_refl _) _
  have hM0 : (w.alloc (.cells (vecI (fun j => (lensN (zs.take 0)).count j)) 163)).heap[w.heap.size]? = some (.cells (vecI (fun j => (lensN (zs.take 0)).count j)) 163 (0, 0)) := heap_alloc_last w _
  have hM1 : Hid ((w.alloc (.cells (#[.int .i64 0, .int .i64 0, .int .i64 0, .int .i64 0, .int .i64 0, .int .i64 0, .int .i64 0, .int .i64 0, .int .i64 0, .int .i64 0, .int .i64 0, .int .i64 0, .int .i64 0, .int .i64 0, .int .i64 0, .int .i64 0, .int .i64 0, .int .i64 0, .int .i64 0, .int .i64 0, .int .i64 0, .int .i64 0, .int .i64 0, .int .i64 0, .int .i64 0, .int .i64 0, .int .i64 0, .int .i64 0, .int .i64 0, .int .i64 0, .int .i64 0] : Array Value) 163)).heap[w.heap.size]? = some (.cells (vecI (fun j => (lensN (zs.take 0)).count j)) 163 (0, 0))) := by
    rw [vec_none] at hM0 ⊢
    exact hM0
  rw [vec_none] at hB0
  have HB0 := Lib.hid hB0
  have HX := Lib.hid hx
  have HR := Lib.hid hr
  clear hB0 hx hr hM0
  go_enter Tryz.func61, Tryz.ntmps61
  go_wp2_with fail
  go_loopw [7, 15] (fun u i wr => ∃ k : Nat, k ≤ len ∧ i = .int .i64 (k : Int) ∧ Hid (okZ (zs.take k) = true) ∧ Hid (wr.heap[w.heap.size]? = some (.cells (vecI (fun j => (lensN (zs.take k)).count j)) 163 (0, 0))) ∧ Hid (Below w.heap.size w wr)) (fun _ i _ => len - (intOf i).toNat)
  case atStart => exact ⟨0, by omega, rfl, rfl, hM1, HB0⟩
  case round =>
    obtain ⟨k, hk, rfl, HO, HM, HB⟩ := hrel
    by_cases hlt : k < len
    · have hkz : k < zs.length := by rw [HX.out]; exact hlt
      obtain ⟨b, off, hp, hbl⟩ := HR.out.addr (by rw [ints_length]; omega)
      subst hp
      have hc := (HB.out.cell (p := ⟨b, off + k, none⟩) hbl).trans (HR.out.int k hkz)
      have HT := Lib.hid (okZ_take zs k hkz HO.out)
      have HBAD := Lib.hid (okZ_bad zs k hkz)
      have HCT := Lib.hid (fun m => count_take zs k m hkz)
      generalize zs[k] = z at hc HT HBAD HCT
      have hd : decide ((k : Int) < (len : Int)) = true := by simp; omega
      have i1 : (0 : Int) ≤ (k : Int) := by omega
      have i2 : (k : Int) < (len : Int) := by omega
      by_cases h0 : z < 0
      · have hd0 : decide (z < 0) = true := by simpa using h0
        have HE := Lib.hid (HBAD.out (.inl h0))
        go_wp2_with fail
        go_ret3
        exact ⟨HB.out, .inl ⟨by rw [HE.out]; decide, by rw [HE.out]; rfl⟩⟩
      · have hd0 : decide (z < 0) = false := by simpa using h0
        by_cases h30 : 30 < z
        · have hd1 : decide (30 < z) = true := by simpa using h30
          have HE := Lib.hid (HBAD.out (.inr h30))
          go_wp2_with fail
          go_ret3
          exact ⟨HB.out, .inl ⟨by rw [HE.out]; decide, by rw [HE.out]; rfl⟩⟩
        · have hd1 : decide (30 < z) = false := by simpa using h30
          obtain ⟨m, rfl⟩ : ∃ m : Nat, z = (m : Int) := ⟨z.toNat, by omega⟩
          have HT2 := Lib.hid (HT.out (by omega) (by omega))
          have HM2 := Lib.hid (blk_set HM.out m (.int .i64 (((lensN (zs.take k)).count m + 1 : Nat) : Int)))
          rw [vecI_set, ← HCT.out m rfl] at HM2
          have hcm := vecI_cell HM.out m (by omega)
          have hfm := blk_frozen HM.out m
          have hcl : (lensN (zs.take k)).count m ≤ 100000 := Nat.le_trans List.count_le_length (by rw [lensN_length, List.length_take]; omega)
          have HB2 := Lib.hid (HB.out.setCell (p := ⟨w.heap.size, m, none⟩) (Nat.le_refl _) (.int .i64 (((lensN (zs.take k)).count m + 1 : Nat) : Int)))
          generalize (lensN (zs.take k)).count m = c at hcm hcl HM2 HB2
          have j1 : (0 : Int) ≤ (m : Int) := by omega
          have j2 : (m : Int) < 31 := by omega
          have HCC := Lib.hid (show ((c + 1 : Nat) : Int) = (c : Int) + 1 by omega)
          rw [HCC.out] at HM2 HB2
          clear HT HBAD HCT
          go_wp2_with fail
          go_roundw
          case rel => exact ⟨k + 1, by omega, by go_num, HT2, HM2, HB2⟩
          case measure => simp [intOf]; omega
    · have hkl : k = len := by omega
      subst hkl
      have hd : decide ((k : Int) < (k : Int)) = false := by simp
      have hOk := HO.out
      have hM := HM.out
      rw [← HX.out, List.take_length] at hOk hM
      have hLl := lensN_length zs
      obtain ⟨L, hL⟩ : ∃ L, L = lensN zs := ⟨_, rfl⟩
      have hcE : cErr zs = if startN L 31 ≤ 1073741824 then 0 else 3 := by unfold cErr; rw [if_pos hOk, hL]
      rw [← hL] at hM hLl
      rw [HX.out] at hLl
      have HLL := Lib.hid hLl
      have HLE := Lib.hid hL
      have HCE := Lib.hid hcE
      have HOK := Lib.hid hOk
      have hrg := blk_range hM
      have hi31 : (Tryz.prog.info? 163).map (·.size) = some (vecI (fun j => L.count j)).toList.length := by rw [Tryz.size31, Array.length_toList, vecI_size]
      have HI31 := Lib.hid hi31
      have HRG := Lib.hid hrg
      have HST := Lib.hid (starts_any L wr (by omega))
      generalize vecI (fun j => L.count j) = cs at HI31 HRG HST
      clear hM hLl hL hcE hOk hrg hi31 HM HO
      go_wp2_with (refine wpList_load_mid rfl 163 _ rfl w.heap.size 0 rfl cs.toList _ HRG.out Tryz.underlying163 rfl HI31.out ?_)
      refine HST.out.mono ?_
      rintro e w2 ⟨rfl, hb2⟩
      have HB2 := Lib.hid (HB.out.trans (hb2.mono HB.out.size))
      have hT2 : startN L 31 ≤ 3328599654400000 := startN_31 L (by rw [HLL.out]; exact hl)
      have hiu : (Tryz.prog.info? 165).map (·.size) = some (vecU (startF L 31)).size := by rw [Tryz.size31u, vecU_size]
      have hnz := nextF_zero L
      have HV1 := Lib.hid (vecU_one (startF L 31))
      have HIU := Lib.hid hiu
      have HNZ := Lib.hid hnz
      have hsz31 : (vecU (startF L 31)).size = 31 := vecU_size _
      have HSZ := Lib.hid hsz31
      generalize vecU (startF L 31) = fs at HV1 HIU HNZ HSZ
      generalize hTe : startN L 31 = T at HCE hT2 ⊢
      have HTE := Lib.hid hTe
      clear hb2 hiu hnz hsz31 hTe
      by_cases hover : 1073741824 < T
      · have hdt : decide (1073741824 < (T : Int)) = true := by simp; omega
        have HE := Lib.hid (show cErr zs = 3 by rw [HCE.out, if_neg (by omega)])
        go_wp2_with (refine wpList_store_new rfl 165 _ _ rfl _ fs rfl rfl HIU.out HSZ.out.symm HV1.out ?_)
        go_ret3
        exact ⟨HB2.out.alloc HB2.out.size _, .inl ⟨by rw [HE.out]; decide, by rw [HE.out]; rfl⟩⟩
      · have hdt : decide (1073741824 < (T : Int)) = false := by simp; omega
        have hEQ : ((T : Int) == 1073741824) = decide (T = 1073741824) := by rw [Bool.eq_iff_iff]; simp; omega
        have HEQ := Lib.hid hEQ
        have hover' := Nat.le_of_not_lt hover
        have HE := Lib.hid (show cErr zs = 0 by rw [HCE.out, if_pos hover'])
        clear hEQ
        go_wp2_with (first | (refine wpList_store_new rfl 165 _ _ rfl _ fs rfl rfl HIU.out HSZ.out.symm HV1.out ?_) | (at_make; refine wpList_make_full _ rfl _ _ 97 rfl (w2.alloc (.cells fs 165)).heap.size 9 i0 (.string ByteArray.empty) 1 Tryz.underlying97 hi hz0 hz1 .i64 .i64 (k : Int) (k : Int) k rfl rfl rfl rfl ?c2 ?c3 ?c4 ?_))
        case c2 => rw [hz2]; omega
        case c3 => unfold maxLen; omega
        case c4 => simp
        intro w3 hown hgrow
        have hb3 : Below (w2.alloc (.cells fs 165)).heap.size (w2.alloc (.cells fs 165)) w3 := (Below.refl _ _).grown hgrow (Nat.le_refl _) (fun k hk => by cases hk)
        have hnn : w3.heap[w2.heap.size]? = some (.cells fs 165 (0, 0)) := (hb3.block _ (by simp)).trans (heap_alloc_last w2 _)
        have hnw := blk_of_own hown
        have hLl := HLL.out
        obtain ⟨vs, hvs⟩ : ∃ vs, vs = strs (canonB L) := ⟨_, rfl⟩
        have hvl : vs.length = k := by rw [hvs, strs_length, canonB_length, hLl]
        rw [HNZ.out] at hnn
        rw [made_vals, ← hvl, ← fillV_zero] at hnw
        have HCM := Lib.hid (CanM.mk hnn hnw (by simp))
        have HB3 := Lib.hid (HB2.out.trans ((((Below.refl w2.heap.size w2).alloc (Nat.le_refl _) _).trans (hb3.mono (by simp))).mono HB2.out.size))
        have hn1 : w.heap.size ≤ w2.heap.size := HB2.out.size
        have hn2' : w.heap.size ≤ w2.heap.size + 1 := by omega
        have HVS := Lib.hid hvs
        have HVL := Lib.hid hvl
        generalize hnwe : w2.heap.size + 1 = nw at hnw HCM hn2' ⊢
        generalize w2.heap.size = nn at hnn HCM hn1 ⊢
        clear hnn hnw hown hgrow hb3 hLl hvs hvl HB2 HST HRG HI31 HNZ HV1 HIU HSZ hM1 HB0 hover HCE hT2 hnwe
        go_wp2_with fail
        go_loopw [11, 12, 43] (fun u v i wr => ∃ j : Nat, j ≤ k ∧ i = .int .i64 (j : Int) ∧ Hid (CanM wr nn nw L vs j) ∧ Hid (Below w.heap.size w wr)) (fun _ _ i _ => k - (intOf i).toNat)
        case atStart => exact ⟨0, by omega, rfl, HCM, HB3⟩
        case round =>
          obtain ⟨j, hj, rfl, HM, HB⟩ := hrel
          by_cases hlt : j < k
          · have hjz : j < zs.length := by rw [HX.out]; exact hlt
            have hjL : j < L.length := by rw [HLL.out]; exact hlt
            have hjv : j < vs.length := by rw [HVL.out]; exact hlt
            obtain ⟨b, off, hp, hbl⟩ := HR.out.addr (by rw [ints_length]; omega)
            subst hp
            have hc := (HB.out.cell (p := ⟨b, off + j, none⟩) hbl).trans (HR.out.int j hjz)
            obtain ⟨hz1', hz2'⟩ := okZ_get zs HOK.out j hjz
            have hLg : ∀ h : j < L.length, L[j] = zs[j].toNat := by
              intro h
              have := lensN_get zs j (by rw [lensN_length]; exact hjz) hjz
              rw [← this]
              congr 1
            have hLj := hLg hjL
            generalize zs[j] = z at hc hz1' hz2' hLj
            obtain ⟨n, rfl⟩ : ∃ n : Nat, z = (n : Int) := ⟨z.toNat, by omega⟩
            have hLj : L[j] = n := hLj
            have hn30 : n ≤ 30 := by omega
            have hvj : vs[j] = .string (ds (wordAt (pos L n j) n)) := by
              have : ∀ h, vs[j]'h = .string (ds (wordAt (pos L n j) n)) := by
                rw [HVS.out]
                intro h
                simp only [strs, List.getElem_map]
                rw [canonB_get L j _ hjL, hLj]
                rfl
              exact this hjv
            have HLJ := Lib.hid hLj
            have hd : decide ((j : Int) < (k : Int)) = true := by simp; omega
            have i1 : (0 : Int) ≤ (j : Int) := by omega
            have i2 : (j : Int) < (k : Int) := by omega
            clear hLg hLj
            by_cases h0 : n = 0
            · subst h0
              have HM2 := Lib.hid (HM.out.skip hjL HLJ.out hjv hvj)
              clear hvj
              go_wp2_with fail
              go_roundw
              case rel => exact ⟨j + 1, by omega, by go_num, HM2, HB⟩
              case measure => simp [intOf]; omega
            · have hd0 : decide ((0 : Int) < (n : Int)) = true := by simp; omega
              have j1 : (0 : Int) ≤ (n : Int) := by omega
              have j2 : (n : Int) < 31 := by omega
              have hpt := pos_all L n j hjL HLJ.out h0 hn30
              rw [HTE.out] at hpt
              have hsp := share_pos n
              have hcn := vecU_cell HM.out.b1 n (by omega)
              have hne : nextF L j n = pos L n j := by unfold nextF; rw [if_neg h0]
              have hnf := hne
              rw [hne] at hcn
              have HFB := Lib.hid (fun W => firstBits_any (pos L n j) n W hn30 (by omega))
              have HPUT := Lib.hid (fun W (h : CanM W nn nw L vs j) => h.put hjL HLJ.out h0 hjv)
              rw [hne, hvj] at HPUT
              have HSH := Lib.hid (fun W => share_any n W hn30)
              have HVJ := Lib.hid hvj
              generalize hpv : pos L n j = pv at *
              generalize hsv : share n = sv at *
              clear hpv hvj hne
              go_wp2_with fail
              refine (HFB.out _).mono ?_
              rintro e w4 ⟨rfl, hb4⟩
              have HM4 := Lib.hid (HM.out.below hb4)
              have HB4 := Lib.hid (HB.out.trans (hb4.mono HB.out.size))
              have hcell := HM4.out.b2
              have hw1 : w4.cell? ⟨nw, j, none⟩ = some ((fillV vs (.string ByteArray.empty) j)[j]'(by rw [fillV_length _ _ _ (by omega)]; exact hjv)) := by
                simp [World.cell?, hcell, fillV_length vs (.string ByteArray.empty) j (by omega), hjv]
              generalize (fillV vs (.string ByteArray.empty) j)[j]'(by rw [fillV_length _ _ _ (by omega)]; exact hjv) = old at hw1
              have hw2 := blk_frozen hcell j
              clear hb4 hcell
              generalize hwd : ds (wordAt pv n) = wd at *
              clear hwd
              go_wp2_with fail
              have HC5 := Lib.hid (HPUT.out w4 HM4.out)
              have hc5 : (w4.setCell ⟨nw, j, none⟩ (.string wd)).drew.cell? ⟨nn, n, none⟩ = some (.int .u64 (pv : Int)) := by
                have := blk_far HM4.out.b1 HM4.out.ne.symm j (.string wd)
                exact (vecU_cell (W := w4.setCell ⟨nw, j, none⟩ (.string wd)) this n (by omega)).trans (by rw [hnf])
              have hf5 : (w4.setCell ⟨nw, j, none⟩ (.string wd)).drew.frozen? ⟨nn, n, none⟩ = false := by
                have := blk_far HM4.out.b1 HM4.out.ne.symm j (.string wd)
                exact blk_frozen (W := w4.setCell ⟨nw, j, none⟩ (.string wd)) this n
              have HB5 := Lib.hid ((HB4.out.setCell (p := ⟨nw, j, none⟩) hn2' (.string wd)).trans (Drawn.below (w' := (w4.setCell ⟨nw, j, none⟩ (.string wd)).drew) ⟨1, rfl⟩ w.heap.size))
              have HB6 := Lib.hid (HB5.out.setCell (p := ⟨nn, n, none⟩) hn1 (.int .u64 ((pv + sv : Nat) : Int)))
              have hwr : (pv : Int) + (sv : Int) < 18446744073709551616 := by omega
              have HCC := Lib.hid (show ((pv + sv : Nat) : Int) = (pv : Int) + (sv : Int) by omega)
              rw [HCC.out] at HC5 HB6
              generalize w4.setCell ⟨nw, j, none⟩ (.string wd) = W5 at *
              clear hw1 hw2 hcn HFB hpt hsp
              have hwrap : IntKind.u64.wrap ((pv : Int) + (sv : Int)) = (pv : Int) + (sv : Int) := IntWalk.u64_in _ (by omega)
              refine wp_region_held_drew (S := (fun _ => True)) (by kernel_rfl) trivial (fun hHeld => ?_)
              refine wpAnyH_take (i := 0) (v := ?v1) rfl (by kernel_rfl) (by kernel_rfl) (by kernel_rfl) (fun _ _ _ h => h) (Or.inl ⟨by rfl, fun w hSw => ?y1⟩) hHeld ?r1
              case y1 => (try dsimp only at hSw); first | (go_simp; done) | (go_simp; with_reducible rfl)
              try simp only [Act.put, List.setIfInBounds_toArray, List.set_cons_zero, List.set_cons_succ, List.getElem_toArray, List.getElem_cons_zero, List.getElem_cons_succ]
              refine wpAnyH_take (i := 1) (v := ?v2) rfl (by kernel_rfl) (by kernel_rfl) (by kernel_rfl) (fun _ _ _ h => h) (Or.inl ⟨by rfl, fun w hSw => ?y2⟩) hHeld ?r2
              case y2 => (try dsimp only at hSw); first | (go_simp; done) | (go_simp; with_reducible rfl)
              try simp only [Act.put, List.setIfInBounds_toArray, List.set_cons_zero, List.set_cons_succ, List.getElem_toArray, List.getElem_cons_zero, List.getElem_cons_succ]
              refine wpAnyH_take (i := 3) (v := ?v3) rfl (by kernel_rfl) (by kernel_rfl) (by kernel_rfl) (fun _ _ _ h => h) (Or.inl ⟨by rfl, fun w hSw => ?y3⟩) hHeld ?r3
              case y3 => (try dsimp only at hSw); first | (go_simp; done) | (go_simp; with_reducible rfl)
              try simp only [Act.put, List.setIfInBounds_toArray, List.set_cons_zero, List.set_cons_succ, List.getElem_toArray, List.getElem_cons_zero, List.getElem_cons_succ]
              refine wpAnyH_ready (rs := [2, 4]) (by kernel_rfl) (by simp) ?_
              refine AllReadyH.cons rfl (fun K hK => ?_) (AllReadyH.cons rfl (fun K hK => ?_) AllReadyH.nil)
              · go_simp
                go_wp2_with fail
                refine hK.out _ _ trivial (fun hHeld1 => ?_)
                clear hK K
                try simp only [Act.put, List.setIfInBounds_toArray, List.set_cons_zero, List.set_cons_succ, List.getElem_toArray, List.getElem_cons_zero, List.getElem_cons_succ]
                refine wpAnyH_ready (rs := [4]) (by kernel_rfl) (by simp) ?_
                refine AllReadyH.cons rfl (fun K hK => ?_) AllReadyH.nil
                go_simp
                refine (HSH.out _).mono ?_
                rintro e w' ⟨rfl, rfl⟩
                go_wp2_with fail
                refine hK.out _ _ trivial (fun hHeld2 => ?_)
                clear hK K
                try simp only [Act.put, List.setIfInBounds_toArray, List.set_cons_zero, List.set_cons_succ, List.getElem_toArray, List.getElem_cons_zero, List.getElem_cons_succ]
                refine wpAnyH_take (i := 5) (v := ?v4) rfl (by kernel_rfl) (by kernel_rfl) (by kernel_rfl) (fun _ _ _ h => h) (Or.inl ⟨by rfl, fun w hSw => ?y4⟩) hHeld2 ?r4
                case y4 => (try dsimp only at hSw); first | (go_simp; done) | (go_simp; with_reducible rfl)
                try simp only [Act.put, List.setIfInBounds_toArray, List.set_cons_zero, List.set_cons_succ, List.getElem_toArray, List.getElem_cons_zero, List.getElem_cons_succ]
                refine wpAnyH_take (i := 6) (v := ?v5) rfl (by kernel_rfl) (by kernel_rfl) (by kernel_rfl) (fun _ _ _ h => h) (Or.inl ⟨by rfl, fun w hSw => ?y5⟩) hHeld2 ?r5
                case y5 => (try dsimp only at hSw); first | (go_simp; done) | (go_simp; with_reducible rfl)
                try simp only [Act.put, List.setIfInBounds_toArray, List.set_cons_zero, List.set_cons_succ, List.getElem_toArray, List.getElem_cons_zero, List.getElem_cons_succ]
                refine wpAnyH_ready (rs := [7]) (by kernel_rfl) (by simp) ?_
                refine AllReadyH.cons rfl (fun K hK => ?_) AllReadyH.nil
                go_simp
                go_wp2_with fail
                refine hK.out _ _ trivial (fun hHeld3 => ?_)
                clear hK K
                try simp only [Act.put, List.setIfInBounds_toArray, List.set_cons_zero, List.set_cons_succ, List.getElem_toArray, List.getElem_cons_zero, List.getElem_cons_succ]
                refine wpAnyH_done (by kernel_rfl) ?_ _
                go_wp2_with fail
                go_roundw
                case rel => exact ⟨j + 1, by omega, by go_num, HC5, HB6⟩
                case measure => simp [intOf]; omega
              · go_simp
                refine (HSH.out _).mono ?_
                rintro e w' ⟨rfl, rfl⟩
                go_wp2_with fail
                refine hK.out _ _ trivial (fun hHeld1 => ?_)
                clear hK K
                try simp only [Act.put, List.setIfInBounds_toArray, List.set_cons_zero, List.set_cons_succ, List.getElem_toArray, List.getElem_cons_zero, List.getElem_cons_succ]
                refine wpAnyH_ready (rs := [2]) (by kernel_rfl) (by simp) ?_
                refine AllReadyH.cons rfl (fun K hK => ?_) AllReadyH.nil
                go_simp
                go_wp2_with fail
                refine hK.out _ _ trivial (fun hHeld2 => ?_)
                clear hK K
                try simp only [Act.put, List.setIfInBounds_toArray, List.set_cons_zero, List.set_cons_succ, List.getElem_toArray, List.getElem_cons_zero, List.getElem_cons_succ]
                refine wpAnyH_take (i := 5) (v := ?v6) rfl (by kernel_rfl) (by kernel_rfl) (by kernel_rfl) (fun _ _ _ h => h) (Or.inl ⟨by rfl, fun w hSw => ?y6⟩) hHeld2 ?r6
                case y6 => (try dsimp only at hSw); first | (go_simp; done) | (go_simp; with_reducible rfl)
                try simp only [Act.put, List.setIfInBounds_toArray, List.set_cons_zero, List.set_cons_succ, List.getElem_toArray, List.getElem_cons_zero, List.getElem_cons_succ]
                refine wpAnyH_take (i := 6) (v := ?v7) rfl (by kernel_rfl) (by kernel_rfl) (by kernel_rfl) (fun _ _ _ h => h) (Or.inl ⟨by rfl, fun w hSw => ?y7⟩) hHeld2 ?r7
                case y7 => (try dsimp only at hSw); first | (go_simp; done) | (go_simp; with_reducible rfl)
                try simp only [Act.put, List.setIfInBounds_toArray, List.set_cons_zero, List.set_cons_succ, List.getElem_toArray, List.getElem_cons_zero, List.getElem_cons_succ]
                refine wpAnyH_ready (rs := [7]) (by kernel_rfl) (by simp) ?_
                refine AllReadyH.cons rfl (fun K hK => ?_) AllReadyH.nil
                go_simp
                go_wp2_with fail
                refine hK.out _ _ trivial (fun hHeld3 => ?_)
                clear hK K
                try simp only [Act.put, List.setIfInBounds_toArray, List.set_cons_zero, List.set_cons_succ, List.getElem_toArray, List.getElem_cons_zero, List.getElem_cons_succ]
                refine wpAnyH_done (by kernel_rfl) ?_ _
                go_wp2_with fail
                go_roundw
                case rel => exact ⟨j + 1, by omega, by go_num, HC5, HB6⟩
                case measure => simp [intOf]; omega
          · have hje : j = k := by omega
            subst hje
            have hd : decide ((j : Int) < (j : Int)) = false := by simp
            have hb2 := HM.out.b2
            have hlt2 := HM.out.lt2
            have hvl := HVL.out
            rw [show fillV vs (.string ByteArray.empty) j = vs from by rw [← hvl]; exact fillV_all vs _] at hb2
            have HROW := Lib.hid (vrow_blk hb2 hlt2)
            have HX2 := Lib.hid (show zs.length = j from HX.out)
            have HFULL := Lib.hid (show ((T : Int) == 1073741824) = decide (startN (lensN zs) 31 = 1073741824) by rw [HEQ.out, ← HTE.out, HLE.out])
            clear hb2 hlt2 hvl
            go_wp2_with fail
            go_ret3
            refine ⟨HB.out, .inr ⟨HE.out, some ⟨nw, 0, none⟩, j, by rw [HX2.out, ← HFULL.out]; rfl, ?_, (fun h => by cases h), by rw [HX2.out]; exact Nat.le_refl _, by unfold maxLen; omega, fun a h => by injection h with h; subst h; exact hn2'⟩⟩
            have := HROW.out
            rw [HVS.out, HLE.out] at this
            exact this
end Go.Proofs.YtjafcjnkefioeaaGreat.Hf

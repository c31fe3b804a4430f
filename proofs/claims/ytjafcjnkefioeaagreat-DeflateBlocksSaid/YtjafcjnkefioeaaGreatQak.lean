/- IgJ, IfN, IfQ, HfR, IfA, IgA, DfB: merged. -/
import Derived.Laws.BitsAllLaws
import Derived.Laws.Strings
import Derived.Laws.BytesArg
import Derived.Test.YtjafcjnkefioeaaGreatRows
import Derived.WalkKit
import Derived.ProofKit
import Derived.WalkLawsBesides
import Derived.Lib.Hide
import Derived.Deep.QuietTactic
import Derived.BigQuiet
import Derived.Outline
import Derived.Laws.NewBlocks
import Derived.Laws.CopyOwn
import Derived.Laws.Concat
import Derived.Laws.Strings2
import Derived.WalkSpells
import Derived.Laws.AppendOwnNone
import Derived.OpenShut
import Derived.Lib.SliceRun
import Derived.Laws.Externs
import Derived.Laws.IdiomCopy
import Derived.Lib.EndianMore
import Derived.Deep.RegionLaw
import Derived.Shelf.Spec.SlicesGrow
import Derived.LoopTactic
import Derived.Deep.LoopGhost
import Derived.Deep.AppendLies
import Derived.ChangeKeysEq
import Derived.Laws.Pointers
import Derived.Deep.DeepCutAuto
import Derived.BigRegion
import Derived.Deep.RegionHeld3
import Derived.Test.YtjafcjnkefioeaaGreatQah
import Derived.Test.YtjafcjnkefioeaaGreatQai
import Derived.Test.YtjafcjnkefioeaaGreatQaj
set_option linter.unusedVariables false
set_option linter.unusedSimpArgs false
/- The contracts of bases, Lens and Dists. -/
namespace Go.Proofs.YtjafcjnkefioeaaGreat.Inf
open Go.RowKit Go.Shelf Go.Proofs.YtjafcjnkefioeaaGreat.Oct Go.Proofs.YtjafcjnkefioeaaGreat.Bit Go.Proofs.YtjafcjnkefioeaaGreat.Hf
set_option maxRecDepth 100000
def exN (g i : Nat) : Nat := i / g - 1
def frN (f g : Nat) : Nat → Nat
  | 0 => f
  | k + 1 => frN f g k + 2 ^ exN g k
def tabN (f g n : Nat) : List (Nat × Nat) := (List.range n).map fun i => (frN f g i, exN g i)
def bcells : List (Nat × Nat) → List Value
  | [] => []
  | x :: r => .int .i64 (x.1 : Int) :: .int .i64 (x.2 : Int) :: bcells r
theorem bcells_append : ∀ a b : List (Nat × Nat), bcells (a ++ b) = bcells a ++ bcells b
  | [], b => rfl
  | x :: r, b => by simp [bcells, bcells_append r b]
theorem bcells_length : ∀ a : List (Nat × Nat), (bcells a).length = a.length * 2
  | [] => rfl
  | x :: r => by simp [bcells, bcells_length r]; omega
theorem bcells_get : ∀ (a : List (Nat × Nat)) (i : Nat) (x : Nat × Nat), a[i]? = some x → (bcells a)[i * 2]? = some (.int .i64 (x.1 : Int)) ∧ (bcells a)[i * 2 + 1]? = some (.int .i64 (x.2 : Int))
  | [], i, x, h => by cases h
  | y :: r, 0, x, h => by
    injection h with h
    subst h
    exact ⟨rfl, rfl⟩
  | y :: r, i + 1, x, h => by
    have := bcells_get r i x h
    rw [show (i + 1) * 2 = i * 2 + 1 + 1 from by omega]
    exact this
theorem bcells_set : ∀ (a : List (Nat × Nat)) (i : Nat) (x : Nat × Nat), ((bcells a).set (i * 2) (.int .i64 (x.1 : Int))).set (i * 2 + 1) (.int .i64 (x.2 : Int)) = bcells (a.set i x)
  | [], i, x => by simp [bcells]
  | y :: r, 0, x => rfl
  | y :: r, i + 1, x => by
    have := bcells_set r i x
    rw [show (i + 1) * 2 = i * 2 + 1 + 1 from by omega]
    simp only [bcells, List.set_cons_succ]
    rw [this]
def fillB (ps : List (Nat × Nat)) (k : Nat) : List (Nat × Nat) := ps.take k ++ List.replicate (ps.length - k) (0, 0)
theorem fillB_length (ps : List (Nat × Nat)) (k : Nat) (h : k ≤ ps.length) : (fillB ps k).length = ps.length := by simp [fillB]; omega
theorem fillB_step (ps : List (Nat × Nat)) (k : Nat) (h : k < ps.length) : (fillB ps k).set k ps[k] = fillB ps (k + 1) := by
  unfold fillB
  rw [List.set_append, if_neg (by simp; omega)]
  rw [List.take_succ_eq_append_getElem h, List.append_assoc]
  congr 1
  rw [List.length_take, Nat.min_eq_left (Nat.le_of_lt h), Nat.sub_self, show ps.length - k = (ps.length - (k + 1)) + 1 from by omega, List.replicate_succ]
  rfl
theorem blk_set8 {w : World} {g : Nat} {vs : List Value} {T : TypeId} {fr : Nat × Nat} (h : w.heap[g]? = some (.cells vs.toArray T fr)) (i : Nat) (u : Value) : (w.setCell ⟨g, i, none⟩ u).heap[g]? = some (.cells (vs.set i u).toArray T fr) := by
  simp [World.setCell, Array.getElem?_modify, h]
theorem Tryz.infoBase : (Tryz.prog.info? 63).map (fun i => (i.zero, i.size, i.bytes)) = some (some (.agg #[.int .i64 0, .int .i64 0]), 2, 16) := by kernel_rfl
theorem made_base (n : Nat) : (madeCells #[Value.int .i64 0, .int .i64 0] (n * 2)).toList = bcells (List.replicate n (0, 0)) := by
  have h1 : ∀ (m : Nat) (j : Nat), (bcells (List.replicate m (0, 0)))[j]? = if j < m * 2 then some (.int .i64 0) else none := by
    intro m
    induction m with
    | zero => intro j; simp [bcells]
    | succ m ih =>
      intro j
      rw [List.replicate_succ, bcells]
      match j with
      | 0 => simp
      | 1 => rw [List.getElem?_cons_succ, List.getElem?_cons_zero, if_pos (by omega)]; rfl
      | j + 2 =>
        rw [List.getElem?_cons_succ, List.getElem?_cons_succ, ih j]
        by_cases h : j < m * 2
        · rw [if_pos h, if_pos (by omega)]
        · rw [if_neg h, if_neg (by omega)]
  apply List.ext_getElem?
  intro j
  rw [h1]
  by_cases h : j < n * 2
  · rw [if_pos h]
    have h2 : j % 2 = 0 ∨ j % 2 = 1 := by omega
    rcases h2 with h2 | h2 <;> simp [madeCells, h2, h]
  · rw [if_neg h]
    simp [madeCells, h]
theorem blk_two {w : World} {B T n g : Nat} {xs : List Value} (h : w.ownsRow B T 2 (.slice (some ⟨g, 0, none⟩) n n) n xs) : w.heap[g]? = some (.cells xs.toArray T (0, 0)) := by
  rcases h.2 with ⟨hv, _⟩ | ⟨g', cap, cur, hv, _, hh, _, _, hs, ht⟩
  · cases hv
  · injection hv with e1 _ e3
    injection e1 with e1
    injection e1 with e1
    subst e1
    subst e3
    have e : cur = xs.toArray := by
      rw [← ht, List.take_of_length_le (by simp [hs])]
    rw [hh, e]
def BasP (w : World) (L : List (Nat × Nat)) (e : Ending) (w' : World) : Prop :=
  ∃ v, e = .returned v ∧ Below w.heap.size w w' ∧ w'.ownsRow w.heap.size 63 2 v L.length (bcells L)
def BasSt (w : World) (H : Nat) (L : List (Nat × Nat)) (k : Nat) (wr : World) : Prop := Below w.heap.size w wr ∧ wr.heap[H]? = some (.cells (bcells (fillB L k)).toArray 63 (0, 0))
theorem w64_small (z : Int) (h0 : 0 ≤ z) (h1 : z ≤ 1000000) : wrap64 z = z := by
  unfold wrap64
  omega
theorem pow_small (x : Nat) (hx : x ≤ 13) : ∃ y : Nat, (2 : Int) ^ x = (y : Int) ∧ 2 ^ x = y ∧ y ≤ 8192 := by
  refine ⟨2 ^ x, by simp, rfl, ?_⟩
  have hb : (2 : Nat) ^ x ≤ 2 ^ 13 := Nat.pow_le_pow_right (by omega) hx
  exact Nat.le_trans hb (by decide)
theorem add_pow (fr x n : Nat) (hf : fr ≤ 100000) (hx : x ≤ 13) (hn : n = fr + 2 ^ x) : wrap64 ((fr : Int) + wrap64 ((2 : Int) ^ x)) = (n : Int) := by
  obtain ⟨y, h1, h2, h3⟩ := pow_small x hx
  rw [h2] at hn
  rw [h1, w64_small (y : Int) (by omega) (by omega), w64_small _ (by omega) (by omega)]
  omega
theorem frN_bd_near : ∀ k, k ≤ 28 → frN 3 4 k ≤ 100000 := by decide +kernel
theorem frN_bd_far : ∀ k, k ≤ 30 → frN 1 2 k ≤ 100000 := by decide +kernel
set_option maxHeartbeats 1000000 in
theorem bases_near (w : World) : Calls Tryz.prog 24 #[.int .i64 3, .int .i64 4, .int .i64 28] w (BasP w (tabN 3 4 28)) := by
  obtain ⟨i0, hi, hz0, hz1, hz2⟩ := info_parts Tryz.infoBase
  go_enter Tryz.func24, Tryz.ntmps24
  go_wp2_with (at_make; refine wpList_make_full _ rfl _ _ 37 rfl w.heap.size 63 i0 (.agg #[.int .i64 0, .int .i64 0]) 2 Tryz.underlying37 hi hz0 hz1 .i64 .i64 28 28 28 rfl rfl rfl rfl ?c2 ?c3 ?c4 ?_)
  case c2 => rw [hz2]; omega
  case c3 => unfold maxLen; omega
  case c4 => omega
  intro w1 hown hgrow
  have hb1 : Below w.heap.size w w1 := (Below.refl _ _).grown hgrow (Nat.le_refl _) (fun k hk => by cases hk)
  obtain ⟨L, hL⟩ : ∃ L, L = tabN 3 4 28 := ⟨_, rfl⟩
  have hLl : L.length = 28 := by rw [hL]; simp [tabN]
  have hrow : w1.heap[w.heap.size]? = some (.cells (bcells (fillB L 0)).toArray 63 (0, 0)) := by
    have h0 : fillB L 0 = List.replicate 28 (0, 0) := by unfold fillB; rw [hLl]; rfl
    rw [h0, ← made_base 28]
    exact blk_two hown
  have HST := Lib.hid (show BasSt w w.heap.size L 0 w1 from ⟨hb1, hrow⟩)
  have HL := Lib.hid hL
  have HLL := Lib.hid hLl
  have hwl : w.heap.size ≤ w.heap.size := Nat.le_refl _
  generalize hH : w.heap.size = H at hown HST ⊢
  have hwl : w.heap.size ≤ H := by omega
  clear hown hgrow hb1 hrow hL hLl hH
  go_wp2_with fail
  go_loopw [0, 8, 9, 14] (fun f u x i wr => ∃ k : Nat, k ≤ 28 ∧ f = .int .i64 ((frN 3 4 k : Nat) : Int) ∧ i = .int .i64 (k : Int) ∧ Hid (BasSt w H L k wr)) (fun f u x i wr => 28 - (intOf i).toNat)
  case atStart => exact ⟨0, by omega, rfl, rfl, HST⟩
  case round =>
    obtain ⟨k, hk, rfl, rfl, HB⟩ := hrel
    by_cases hlt : k < 28
    · have hkL : k < L.length := by rw [HLL.out]; exact hlt
      have hblk := HB.out.2
      have hl1 : (bcells (fillB L k)).length = 28 * 2 := by rw [bcells_length, fillB_length L k (by omega), HLL.out]
      have u0 : wr.cell? ⟨H, k * 2, none⟩ = some ((bcells (fillB L k))[k * 2]'(by omega)) := by simp [World.cell?, hblk, hl1, show k * 2 < 28 * 2 from by omega]
      have u1 : wr.cell? ⟨H, k * 2 + 1, none⟩ = some ((bcells (fillB L k))[k * 2 + 1]'(by omega)) := by simp [World.cell?, hblk, hl1, show k * 2 + 1 < 28 * 2 from by omega]
      have f0 : ∀ i, wr.frozen? ⟨H, i, none⟩ = false := by intro i; simp [World.frozen?, hblk]
      have f00 := f0 (k * 2)
      have f01 := f0 (k * 2 + 1)
      obtain ⟨x, hx⟩ : ∃ x, x = exN 4 k := ⟨_, rfl⟩
      have hx2 : x = k / 4 - 1 := hx
      have hmx : max 0 ((k : Int) / 4 - 1) = (x : Int) := by omega
      have hx13 : x ≤ 13 := by omega
      generalize (bcells (fillB L k))[k * 2]'(by omega) = v0 at u0
      generalize (bcells (fillB L k))[k * 2 + 1]'(by omega) = v1 at u1
      obtain ⟨fr, hfr⟩ : ∃ fr, frN 3 4 k = fr := ⟨_, rfl⟩
      have hnext : frN 3 4 (k + 1) = fr + 2 ^ x := by rw [← hfr, hx]; rfl
      have hgetL : L[k] = (fr, x) := by simp [HL.out, tabN, hfr, hx]
      have hfb : fr ≤ 100000 := by rw [← hfr]; exact frN_bd_near k hk
      have hadd : wrap64 ((fr : Int) + wrap64 ((2 : Int) ^ x)) = ((frN 3 4 (k + 1) : Nat) : Int) := add_pow fr x _ hfb hx13 hnext
      have HNX : Hid (BasSt w H L (k + 1) ((wr.setCell ⟨H, k * 2, none⟩ (.int .i64 (fr : Int))).setCell ⟨H, k * 2 + 1, none⟩ (.int .i64 (x : Int)))) := Lib.hid ⟨(HB.out.1.setCell (p := ⟨H, k * 2, none⟩) hwl _).setCell (p := ⟨H, k * 2 + 1, none⟩) hwl _, by
        have h2 := blk_set8 (blk_set8 hblk (k * 2) (.int .i64 (fr : Int))) (k * 2 + 1) (.int .i64 (x : Int))
        have h3 := bcells_set (fillB L k) k (fr, x)
        simp only at h3
        rw [h3, ← hgetL, fillB_step L k hkL] at h2
        exact h2⟩
      have HADD := Lib.hid hadd
      rw [hfr]
      clear hblk f0 hx2 hx hadd hnext hfr hgetL HB HST hl1
      go_wp2_with fail
      go_roundw
      case rel => exact ⟨k + 1, by omega, by rw [HADD.out], by first | rfl | (push_cast; rfl), HNX⟩
      case measure => simp [intOf]; omega
    · have hkn : k = 28 := by omega
      subst hkn
      have HB2 := HB.out.2
      have hfin : fillB L 28 = L := by
        unfold fillB
        rw [List.take_of_length_le (by rw [HLL.out]; omega), HLL.out]
        simp
      rw [hfin] at HB2
      clear hlt hk
      go_wp2_with fail
      go_ret
      refine ⟨_, rfl, HB.out.1, ?_⟩
      rw [← HL.out, HLL.out]
      exact ⟨by rw [bcells_length, HLL.out], .inr ⟨H, 28, _, rfl, hwl, HB2, Nat.le_refl _, by unfold maxLen; omega, by simp [bcells_length, HLL.out], by rw [List.take_of_length_le (by simp [bcells_length, HLL.out])]⟩⟩
set_option maxHeartbeats 1000000 in
theorem bases_far (w : World) : Calls Tryz.prog 24 #[.int .i64 1, .int .i64 2, .int .i64 30] w (BasP w (tabN 1 2 30)) := by
  obtain ⟨i0, hi, hz0, hz1, hz2⟩ := info_parts Tryz.infoBase
  go_enter Tryz.func24, Tryz.ntmps24
  go_wp2_with (at_make; refine wpList_make_full _ rfl _ _ 37 rfl w.heap.size 63 i0 (.agg #[.int .i64 0, .int .i64 0]) 2 Tryz.underlying37 hi hz0 hz1 .i64 .i64 30 30 30 rfl rfl rfl rfl ?c2 ?c3 ?c4 ?_)
  case c2 => rw [hz2]; omega
  case c3 => unfold maxLen; omega
  case c4 => omega
  intro w1 hown hgrow
  have hb1 : Below w.heap.size w w1 := (Below.refl _ _).grown hgrow (Nat.le_refl _) (fun k hk => by cases hk)
  obtain ⟨L, hL⟩ : ∃ L, L = tabN 1 2 30 := ⟨_, rfl⟩
  have hLl : L.length = 30 := by rw [hL]; simp [tabN]
  have hrow : w1.heap[w.heap.size]? = some (.cells (bcells (fillB L 0)).toArray 63 (0, 0)) := by
    have h0 : fillB L 0 = List.replicate 30 (0, 0) := by unfold fillB; rw [hLl]; rfl
    rw [h0, ← made_base 30]
    exact blk_two hown
  have HST := Lib.hid (show BasSt w w.heap.size L 0 w1 from ⟨hb1, hrow⟩)
  have HL := Lib.hid hL
  have HLL := Lib.hid hLl
  have hwl : w.heap.size ≤ w.heap.size := Nat.le_refl _
  generalize hH : w.heap.size = H at hown HST ⊢
  have hwl : w.heap.size ≤ H := by omega
  clear hown hgrow hb1 hrow hL hLl hH
  go_wp2_with fail
  go_loopw [0, 8, 9, 14] (fun f u x i wr => ∃ k : Nat, k ≤ 30 ∧ f = .int .i64 ((frN 1 2 k : Nat) : Int) ∧ i = .int .i64 (k : Int) ∧ Hid (BasSt w H L k wr)) (fun f u x i wr => 30 - (intOf i).toNat)
  case atStart => exact ⟨0, by omega, rfl, rfl, HST⟩
  case round =>
    obtain ⟨k, hk, rfl, rfl, HB⟩ := hrel
    by_cases hlt : k < 30
    · have hkL : k < L.length := by rw [HLL.out]; exact hlt
      have hblk := HB.out.2
      have hl1 : (bcells (fillB L k)).length = 30 * 2 := by rw [bcells_length, fillB_length L k (by omega), HLL.out]
      have u0 : wr.cell? ⟨H, k * 2, none⟩ = some ((bcells (fillB L k))[k * 2]'(by omega)) := by simp [World.cell?, hblk, hl1, show k * 2 < 30 * 2 from by omega]
      have u1 : wr.cell? ⟨H, k * 2 + 1, none⟩ = some ((bcells (fillB L k))[k * 2 + 1]'(by omega)) := by simp [World.cell?, hblk, hl1, show k * 2 + 1 < 30 * 2 from by omega]
      have f0 : ∀ i, wr.frozen? ⟨H, i, none⟩ = false := by intro i; simp [World.frozen?, hblk]
      have f00 := f0 (k * 2)
      have f01 := f0 (k * 2 + 1)
      obtain ⟨x, hx⟩ : ∃ x, x = exN 2 k := ⟨_, rfl⟩
      have hx2 : x = k / 2 - 1 := hx
      have hmx : max 0 ((k : Int) / 2 - 1) = (x : Int) := by omega
      have hx13 : x ≤ 13 := by omega
      generalize (bcells (fillB L k))[k * 2]'(by omega) = v0 at u0
      generalize (bcells (fillB L k))[k * 2 + 1]'(by omega) = v1 at u1
      obtain ⟨fr, hfr⟩ : ∃ fr, frN 1 2 k = fr := ⟨_, rfl⟩
      have hnext : frN 1 2 (k + 1) = fr + 2 ^ x := by rw [← hfr, hx]; rfl
      have hgetL : L[k] = (fr, x) := by simp [HL.out, tabN, hfr, hx]
      have hfb : fr ≤ 100000 := by rw [← hfr]; exact frN_bd_far k hk
      have hadd : wrap64 ((fr : Int) + wrap64 ((2 : Int) ^ x)) = ((frN 1 2 (k + 1) : Nat) : Int) := add_pow fr x _ hfb hx13 hnext
      have HNX : Hid (BasSt w H L (k + 1) ((wr.setCell ⟨H, k * 2, none⟩ (.int .i64 (fr : Int))).setCell ⟨H, k * 2 + 1, none⟩ (.int .i64 (x : Int)))) := Lib.hid ⟨(HB.out.1.setCell (p := ⟨H, k * 2, none⟩) hwl _).setCell (p := ⟨H, k * 2 + 1, none⟩) hwl _, by
        have h2 := blk_set8 (blk_set8 hblk (k * 2) (.int .i64 (fr : Int))) (k * 2 + 1) (.int .i64 (x : Int))
        have h3 := bcells_set (fillB L k) k (fr, x)
        simp only at h3
        rw [h3, ← hgetL, fillB_step L k hkL] at h2
        exact h2⟩
      have HADD := Lib.hid hadd
      rw [hfr]
      clear hblk f0 hx2 hx hadd hnext hfr hgetL HB HST hl1
      go_wp2_with fail
      go_roundw
      case rel => exact ⟨k + 1, by omega, by rw [HADD.out], by first | rfl | (push_cast; rfl), HNX⟩
      case measure => simp [intOf]; omega
    · have hkn : k = 30 := by omega
      subst hkn
      have HB2 := HB.out.2
      have hfin : fillB L 30 = L := by
        unfold fillB
        rw [List.take_of_length_le (by rw [HLL.out]; omega), HLL.out]
        simp
      rw [hfin] at HB2
      clear hlt hk
      go_wp2_with fail
      go_ret
      refine ⟨_, rfl, HB.out.1, ?_⟩
      rw [← HL.out, HLL.out]
      exact ⟨by rw [bcells_length, HLL.out], .inr ⟨H, 30, _, rfl, hwl, HB2, Nat.le_refl _, by unfold maxLen; omega, by simp [bcells_length, HLL.out], by rw [List.take_of_length_le (by simp [bcells_length, HLL.out])]⟩⟩
def pairsN (far : Bool) : List (Nat × Nat) := (froms far).zip (extras far)
theorem near_pairs : tabN 3 4 28 ++ [(258, 0)] = pairsN false := by decide +kernel
theorem far_pairs : tabN 1 2 30 = pairsN true := by decide +kernel
theorem pairs_get : ∀ far : Bool, ∀ i, i < (froms far).length → (pairsN far)[i]? = some ((froms far).getD i 0, (extras far).getD i 0) := by decide +kernel
def TabP (w : World) (far : Bool) (e : Ending) (w' : World) : Prop :=
  ∃ v, e = .returned v ∧ Below w.heap.size w w' ∧ w'.ownsRow w.heap.size 63 2 v (froms far).length (bcells (pairsN far))
theorem dists_any (w : World) : Calls Tryz.prog 13 #[] w (TabP w true) := by
  go_enter Tryz.func13, Tryz.ntmps13
  go_wp2_with fail
  refine (bases_far w).mono ?_
  rintro e w1 ⟨v, rfl, hb, ho⟩
  go_wp2_with fail
  go_ret
  rw [far_pairs] at ho
  exact ⟨v, rfl, hb, ho⟩
set_option maxHeartbeats 1000000 in
theorem lens_any (w : World) : Calls Tryz.prog 12 #[] w (TabP w false) := by
  obtain ⟨i0, hi, hz0, hz1, hz2⟩ := info_parts Tryz.infoBase
  go_enter Tryz.func12, Tryz.ntmps12
  go_wp2_with fail
  refine (bases_near w).mono ?_
  rintro e w1 ⟨v, rfl, hb, ho⟩
  rw [show (tabN 3 4 28).length = 28 from by simp [tabN]] at ho
  have hba : Below w1.heap.size w1 (w1.alloc (.cells #[.int .i64 258, .int .i64 0] 63)) := (Below.refl _ w1).alloc (Nat.le_refl _) _
  have hblk : (w1.alloc (.cells #[.int .i64 258, .int .i64 0] 63)).heap[w1.heap.size]? = some (.cells #[.int .i64 258, .int .i64 0] 63 (0, 0)) := Array.getElem?_push_size
  have hnews := World.news_of_block hblk
  have hoa : (w1.alloc (.cells #[.int .i64 258, .int .i64 0] 63)).ownsRow w.heap.size 63 2 v 28 (bcells (tabN 3 4 28)) := by
    refine ⟨ho.1, ?_⟩
    rcases ho.2 with hn | ⟨g, cap, cur, rfl, hbs, hh, r⟩
    · exact .inl hn
    · have hlt : g < w1.heap.size := by
        rcases Nat.lt_or_ge g w1.heap.size with hlt | hge
        · exact hlt
        · rw [Array.getElem?_eq_none hge] at hh; cases hh
      exact .inr ⟨g, cap, cur, rfl, hbs, (hba.block g hlt).trans hh, r⟩
  have HB := Lib.hid (hb.trans (hba.mono hb.size))
  have HO := Lib.hid hoa
  have HNW := Lib.hid hnews
  have HBZ := Lib.hid HB.out.size
  clear hb ho hba hblk hnews hoa
  go_wp2_with (at_builtin; refine wpList_append_lies _ rfl _ _ 37 rfl w.heap.size 63 i0 (.agg #[.int .i64 0, .int .i64 0]) 2 16 Tryz.underlying37 hi hz0 hz1 hz2 rfl (by decide) v 28 (bcells (tabN 3 4 28)) rfl HO.out ⟨w1.heap.size, 0, none⟩ 1 1 [.int .i64 258, .int .i64 0] rfl rfl HNW.out (by intro u hu; simp at hu; rcases hu with rfl | rfl <;> rfl) (by decide) (by unfold maxLen; omega) (by omega) HBZ.out _ rfl ?_)
  intro g1 cap1 w2 hown2 hgrow2 _ _
  have hb2 := (Below.refl w.heap.size (w1.alloc (.cells #[.int .i64 258, .int .i64 0] 63))).grown hgrow2 HBZ.out (fun k hk => (HO.out.lt k hk).1)
  have HB2 := Lib.hid (HB.out.trans hb2)
  have HO2 := Lib.hid hown2
  clear hown2 hgrow2 hb2
  go_wp2_with fail
  go_ret
  refine ⟨_, rfl, HB2.out, ?_⟩
  rw [← near_pairs, bcells_append]
  exact HO2.out
end Go.Proofs.YtjafcjnkefioeaaGreat.Inf
/- Blocks with a lower bound, and with enough rounds; what is cut off, and what stands behind; no program in sight. -/
namespace Go.Proofs.YtjafcjnkefioeaaGreat.Inf
open Go.Proofs.YtjafcjnkefioeaaGreat.Bit Go.Proofs.YtjafcjnkefioeaaGreat.Hf
/- enough rounds -/
theorem then_congr {α β : Type} {x : R α} {f g : α → Nat → R β} (h : ∀ v a, x = .ok (v, a) → f v a = g v a) : x.then f = x.then g := by
  cases x with
  | error e => rfl
  | ok v => exact h v.1 v.2 rfl
theorem withW_congr {β : Type} {x : Except Nat (List (List Bool))} {f g : List (List Bool) → R β} (h : ∀ W, f W = g W) : withW x f = withW x g := by
  cases x with
  | error e => rfl
  | ok v => exact h v
theorem Hon.le {α : Type} {at_ : Nat} {p : List Bool → R α} (h : Hon at_ p) {L : List Bool} (hL : at_ ≤ L.length) {v : α} {a : Nat} (e : p L = .ok (v, a)) : at_ ≤ a ∧ a ≤ L.length := (h L hL).1 v a e
theorem block_fuel (A B : List (List Bool)) (L : List Bool) (most : Nat) : ∀ (f g at_ : Nat) (out : List UInt8), at_ ≤ L.length → L.length < f + at_ → L.length < g + at_ → blockR A B L most f at_ out = blockR A B L most g at_ out
  | 0, g, at_, out, h, hf, hg => by omega
  | f + 1, 0, at_, out, h, hf, hg => by omega
  | f + 1, g + 1, at_, out, h, hf, hg => by
    rw [blockR, blockR]
    refine then_congr fun v a hv => ?_
    have h1 := next_lt hv
    have h2 := (hon_next A at_).le h hv
    split
    · rfl
    · split
      · split
        · rfl
        · exact block_fuel A B L most f g a _ h2.2 (by omega) (by omega)
      · refine then_congr fun n b hb => ?_
        have h3 := (hon_number false _ a).le h2.2 hb
        refine then_congr fun k c hc => ?_
        have h4 := (hon_next B b).le h3.2 hc
        refine then_congr fun d e he => ?_
        have h5 := (hon_number true k c).le h4.2 he
        split
        · rfl
        · split
          · rfl
          · exact block_fuel A B L most f g e _ h5.2 (by omega) (by omega)
theorem num_at {L : List Bool} {at_ n v a : Nat} (h : numR L at_ n = .ok (v, a)) : a = at_ + n := by
  unfold numR at h
  split at h
  · cases h; rfl
  · cases h
theorem one_fuel (L : List Bool) (most f g h at_ : Nat) (out : List UInt8) (ha : at_ ≤ L.length) (hf : L.length < f + at_) (hg : L.length < g + at_) : oneR L most f h at_ out = oneR L most g h at_ out := by
  unfold oneR
  split
  · rfl
  · split
    · exact block_fuel _ _ L most f g at_ out ha hf hg
    · split
      · unfold toldR
        refine then_congr fun n a hn => ?_
        have h1 := (hon_three at_).le ha hn
        split
        · rfl
        · refine then_congr fun l b hb => ?_
          have h2 := (hon_meta _ 0 a _).le h1.2 hb
          refine withW_congr fun W => then_congr fun all c hc => ?_
          have h3 := (hon_lens W _ _ b []).le h2.2 hc
          split
          · rfl
          · exact withW_congr fun A => withW_congr fun B => block_fuel A B L most f g c out h3.2 (by omega) (by omega)
      · rfl
theorem infl_fuel (L : List Bool) (most g1 g2 : Nat) (hg1 : L.length < g1) (hg2 : L.length < g2) : ∀ (f g at_ : Nat) (out : List UInt8), at_ ≤ L.length → L.length < f + at_ → L.length < g + at_ → inflR L most g1 f at_ out = inflR L most g2 g at_ out
  | 0, g, at_, out, h, hf, hg => by omega
  | f + 1, 0, at_, out, h, hf, hg => by omega
  | f + 1, g + 1, at_, out, h, hf, hg => by
    rw [inflR, inflR]
    refine then_congr fun v a hv => ?_
    have h1 := num_at hv
    have h2 := (hon_num at_ 3).le h hv
    rw [one_fuel L most g1 g2 v a out h2.2 (by omega) (by omega)]
    refine then_congr fun o b hb => ?_
    have h3 := (hon_one most g2 v a out).le h2.2 hb
    split
    · rfl
    · exact infl_fuel L most g1 g2 hg1 hg2 f g b o h3.2 (by omega) (by omega)
end Go.Proofs.YtjafcjnkefioeaaGreat.Inf
/- Blocks without a count of rounds: one round at a time; no program in sight. -/
namespace Go.Proofs.YtjafcjnkefioeaaGreat.Inf
open Go.Proofs.YtjafcjnkefioeaaGreat.Bit Go.Proofs.YtjafcjnkefioeaaGreat.Hf
def blockA (A B : List (List Bool)) (L : List Bool) (most at_ : Nat) (out : List UInt8) : R (List UInt8) := blockR A B L most (L.length + 1 - at_) at_ out
theorem blockA_of (A B : List (List Bool)) (L : List Bool) (most f at_ : Nat) (out : List UInt8) (h : at_ ≤ L.length) (hf : L.length < f + at_) : blockR A B L most f at_ out = blockA A B L most at_ out :=
  block_fuel A B L most f _ at_ out h hf (by omega)
theorem blockA_eq (A B : List (List Bool)) (L : List Bool) (most at_ : Nat) (out : List UInt8) (h : at_ ≤ L.length) : blockA A B L most at_ out = (nextR A L at_).then fun v a =>
    if v = 256 then .ok (out, a)
    else if v < 256 then (if most ≤ out.length then .error 8 else blockA A B L most a (out ++ [UInt8.ofNat v]))
    else (numberR false L (v - 257) a).then fun n a => (nextR B L a).then fun k a => (numberR true L k a).then fun d a =>
      if out.length < d then .error 3 else if most < out.length + n then .error 8 else blockA A B L most a (copyN out d n) := by
  unfold blockA
  rw [show L.length + 1 - at_ = (L.length - at_) + 1 from by omega, blockR]
  refine then_congr fun v a hv => ?_
  have h1 := next_lt hv
  have h2 := (hon_next A at_).le h hv
  split
  · rfl
  · split
    · split
      · rfl
      · exact block_fuel A B L most _ _ a _ h2.2 (by omega) (by omega)
    · refine then_congr fun n b hb => ?_
      have h3 := (hon_number false _ a).le h2.2 hb
      refine then_congr fun k c hc => ?_
      have h4 := (hon_next B b).le h3.2 hc
      refine then_congr fun d e he => ?_
      have h5 := (hon_number true k c).le h4.2 he
      split
      · rfl
      · split
        · rfl
        · exact block_fuel A B L most _ _ e _ h5.2 (by omega) (by omega)
theorem lens_fuel (W : List (List Bool)) (n : Nat) (L : List Bool) : ∀ (f g at_ : Nat) (all : List Nat), n < f + all.length → n < g + all.length → 1 ≤ f → 1 ≤ g → lensR W n L f at_ all = lensR W n L g at_ all
  | 0, g, at_, all, hf, hg, h1, h2 => by omega
  | f + 1, 0, at_, all, hf, hg, h1, h2 => by omega
  | f + 1, g + 1, at_, all, hf, hg, h1, h2 => by
    rw [lensR, lensR]
    by_cases hn : n ≤ all.length
    · rw [if_pos hn, if_pos hn]
    · rw [if_neg hn, if_neg hn]
      refine then_congr fun v a hv => ?_
      split
      · rfl
      · refine then_congr fun m b hb => lens_fuel W n L f g b _ ?_ ?_ (by omega) (by omega)
        · have := timesV_pos v
          simp
          omega
        · have := timesV_pos v
          simp
          omega
def lensA (W : List (List Bool)) (n : Nat) (L : List Bool) (at_ : Nat) (all : List Nat) : R (List Nat) := lensR W n L (n + 1 - all.length) at_ all
theorem lensA_end (W : List (List Bool)) (n : Nat) (L : List Bool) (at_ : Nat) (all : List Nat) (h : all.length = n) : lensA W n L at_ all = .ok (all, at_) := by
  unfold lensA
  rw [show n + 1 - all.length = 0 + 1 from by omega, lensR, if_pos (by omega), if_pos h]
theorem lensA_eq (W : List (List Bool)) (n : Nat) (L : List Bool) (at_ : Nat) (all : List Nat) (h : all.length < n) : lensA W n L at_ all = (nextR W L at_).then fun v a =>
    if v = 16 ∧ all = [] then .error 3
    else (numR L a (wideV v)).then fun more a =>
      if n < all.length + (timesV v + more) then .error 3 else lensA W n L a (all ++ List.replicate (timesV v + more) (valueV v all)) := by
  unfold lensA
  rw [show n + 1 - all.length = (n - all.length) + 1 from by omega, lensR, if_neg (by omega)]
  refine then_congr fun v a hv => ?_
  split
  · rfl
  · refine then_congr fun m b hb => ?_
    have := timesV_pos v
    split
    · rename_i hc
      rw [show n - all.length = (n - all.length - 1) + 1 from by omega, lensR, if_pos (by simp; omega), if_neg (by simp; omega)]
    · exact lens_fuel W n L _ _ b _ (by simp; omega) (by simp; omega) (by omega) (by simp; omega)
def toldA (L : List Bool) (most at_ : Nat) (out : List UInt8) : R (List UInt8) :=
  (threeR L at_).then fun n a =>
    if n.1 > 286 ∨ n.2.1 > 30 then .error 3
    else (metaR L n.2.2 0 a (List.replicate 19 0)).then fun l a => withW (wordsR l false) fun W =>
      (lensA W (n.1 + n.2.1) L a []).then fun all a =>
        if all.getD 256 0 = 0 then .error 3
        else withW (wordsR (all.take n.1) false) fun A => withW (wordsR (all.drop n.1) true) fun B => blockA A B L most a out
def oneA (L : List Bool) (most h at_ : Nat) (out : List UInt8) : R (List UInt8) :=
  if h / 2 = 0 then storedR L most at_ out
  else if h / 2 = 1 then blockA (canonW fixedA) (canonW fixedB) L most at_ out
  else if h / 2 = 2 then toldA L most at_ out
  else .error 3
theorem oneA_of (L : List Bool) (most f h at_ : Nat) (out : List UInt8) (ha : at_ ≤ L.length) (hf : L.length < f) : oneR L most f h at_ out = oneA L most h at_ out := by
  unfold oneR oneA
  split
  · rfl
  · split
    · exact blockA_of _ _ L most f at_ out ha (by omega)
    · split
      · unfold toldR toldA
        refine then_congr fun n a hn => ?_
        have h1 := (hon_three at_).le ha hn
        split
        · rfl
        · refine then_congr fun l b hb => ?_
          have h2 := (hon_meta _ 0 a _).le h1.2 hb
          refine withW_congr fun W => then_congr fun all c hc => ?_
          have h3 := (hon_lens W _ _ b []).le h2.2 hc
          split
          · rfl
          · exact withW_congr fun A => withW_congr fun B => blockA_of A B L most f c out h3.2 (by omega)
      · rfl
def inflA (L : List Bool) (most at_ : Nat) (out : List UInt8) : R (List UInt8) := inflR L most (L.length + 1) (L.length + 1 - at_) at_ out
theorem inflA_eq (L : List Bool) (most at_ : Nat) (out : List UInt8) (h : at_ ≤ L.length) : inflA L most at_ out = (numR L at_ 3).then fun v a => (oneA L most v a out).then fun o a =>
    if v % 2 = 1 then .ok (o, a) else inflA L most a o := by
  unfold inflA
  rw [show L.length + 1 - at_ = (L.length - at_) + 1 from by omega, inflR]
  refine then_congr fun v a hv => ?_
  have h1 := num_at hv
  have h2 := (hon_num at_ 3).le h hv
  rw [← oneA_of L most (L.length + 1) v a out h2.2 (by omega)]
  refine then_congr fun o b hb => ?_
  have h3 := (hon_one most (L.length + 1) v a out).le h2.2 hb
  split
  · rfl
  · exact infl_fuel L most _ _ (by omega) (by omega) _ _ b o h3.2 (by omega) (by omega)
theorem inflate_eq (xs : List UInt8) (most : Nat) : inflate xs most = (match inflA (bitsOf true xs) most 0 [] with
    | .ok (o, a) => .ok (o, (a + 7) / 8)
    | .error e => .error e) := by
  unfold inflate inflA
  rw [bitsOf_length, Nat.sub_zero]
  rfl
end Go.Proofs.YtjafcjnkefioeaaGreat.Inf
/- The contract of a book's Read over numbers, whatever the bits are. -/
namespace Go.Proofs.YtjafcjnkefioeaaGreat.Hf
open Go.RowKit Go.Proofs.YtjafcjnkefioeaaGreat.Oct Go.Proofs.YtjafcjnkefioeaaGreat.Bit Go.Proofs.YtjafcjnkefioeaaGreat.Inf
set_option maxRecDepth 100000
def wordsU (W : List (List Bool)) : List (List UInt8) := W.map fun m => m.map dig
theorem wordsU_length (W : List (List Bool)) : (wordsU W).length = W.length := by simp [wordsU]
theorem dig_inj {a b : List Bool} (h : a.map dig = b.map dig) : a = b := by
  have hinj : ∀ a b : Bool, dig a = dig b → a = b := by intro a b; cases a <;> cases b <;> simp [dig]
  exact (List.map_inj_right (f := dig) (fun a b => hinj a b)).1 h
section
variable {W : List (List Bool)} {A : List Bool → Option (Nat × Nat)} {E : List Bool → Option Nat}
end
end Go.Proofs.YtjafcjnkefioeaaGreat.Hf
/- Read, Peek of a number of bits, against the plain words; which word is the first. -/
namespace Go.Proofs.YtjafcjnkefioeaaGreat.Inf
open Go.RowKit Go.Proofs.YtjafcjnkefioeaaGreat.Oct Go.Proofs.YtjafcjnkefioeaaGreat.Bit Go.Proofs.YtjafcjnkefioeaaGreat.Hf
set_option maxRecDepth 100000
theorem idx_first {W : List (List Bool)} {q : List Bool} {i : Nat} (h : W[i]? = some q) (hn : ∀ j, j < i → W[j]? ≠ some q) : W.idxOf q = i := by
  have hm : q ∈ W := List.mem_of_getElem? h
  have hl := List.idxOf_lt_length_of_mem hm
  have hg : W[W.idxOf q]? = some q := by rw [List.getElem?_eq_getElem hl, List.getElem_idxOf]
  rcases Nat.lt_trichotomy (W.idxOf q) i with h1 | h1 | h1
  · exact absurd hg (hn _ h1)
  · exact h1
  · refine absurd h1 (Nat.not_lt.2 ?_)
    obtain ⟨hi, he⟩ := List.getElem?_eq_some_iff.1 h
    exact Nat.le_of_not_lt fun hc => by
      have := List.not_of_lt_findIdx (p := (· == q)) (xs := W) (i := i) hc
      simp [he] at this
end Go.Proofs.YtjafcjnkefioeaaGreat.Inf
/- A decoder of blocks in memory; the contract of literal. -/
namespace Go.Proofs.YtjafcjnkefioeaaGreat.Inf
open Go.RowKit Go.Proofs.YtjafcjnkefioeaaGreat.Oct Go.Proofs.YtjafcjnkefioeaaGreat.Bit Go.Proofs.YtjafcjnkefioeaaGreat.Hf
set_option maxRecDepth 100000
theorem only_grown {w w' : World} {row : Option Nat} (hg : w.grownBy w' row) : Only (fun k => row = some k) w w' :=
  ⟨hg.os, hg.tape, hg.output, hg.size, fun k hk hs => hg.block k hk (fun e => hs e.symm)⟩
def places (n : Nat) : List Value := ints ((List.range n).map fun i : Nat => (i : Int))
structure Kon where
  d : Nat
  gr : Nat
  p : Option Addr
  cap : Nat
  xs : List UInt8
  most : Nat
  bl : Nat
  cl : Nat
  bd : Nat
  cd : Nat
structure Fix where
  B : Nat
  C : Nat
  ga : Nat
  gb : Nat
def TabR (w : World) (b : Nat) (far : Bool) : Prop := ∀ i, i < (froms far).length →
  w.cell? ⟨b, i * 2, none⟩ = some (.int .i64 (((froms far).getD i 0 : Nat) : Int)) ∧ w.cell? ⟨b, i * 2 + 1, none⟩ = some (.int .i64 (((extras far).getD i 0 : Nat) : Int))
section
variable {w w' : World} {K : Kon} {a : Nat} {v : Value} {out : List UInt8} {F : Option Fix}
end
theorem news8 (w : World) (x : UInt8) : ∀ j u, (cellsOf [x])[j]? = some u → (w.alloc (.cells #[.int .u8 (x.toNat : Int)] 5)).cell? ((⟨w.heap.size, 0, none⟩ : Addr).add j) = some u := by
  intro j u hj
  obtain ⟨hj', rfl⟩ := cellsOf_get hj
  have : j = 0 := by simpa using hj'
  subst this
  rw [add_plain]
  simp
end Go.Proofs.YtjafcjnkefioeaaGreat.Inf
/- What stays in memory whatever else turns; an encoder in memory; keep, number, begin. -/
namespace Go.Proofs.YtjafcjnkefioeaaGreat.Df
open Go.RowKit Go.Proofs.YtjafcjnkefioeaaGreat.Oct Go.Proofs.YtjafcjnkefioeaaGreat.Bit Go.Proofs.YtjafcjnkefioeaaGreat.Hf Go.Proofs.YtjafcjnkefioeaaGreat.Inf
set_option maxRecDepth 100000
def Foot (F : Nat → Prop) (P : World → Prop) (w : World) : Prop := (∀ k, F k → k < w.heap.size) ∧ ∀ w' : World, w.heap.size ≤ w'.heap.size → (∀ k, F k → w'.heap[k]? = w.heap[k]?) → P w'
theorem Foot.now {F : Nat → Prop} {P : World → Prop} {w : World} (h : Foot F P w) : P w := h.2 w (Nat.le_refl _) fun _ _ => rfl
theorem Foot.only {F S : Nat → Prop} {P : World → Prop} {w w' : World} (h : Foot F P w) (ho : Only S w w') (hS : ∀ k, F k → ¬ S k) : Foot F P w' :=
  ⟨fun k hk => Nat.lt_of_lt_of_le (h.1 k hk) ho.2.2.2.1, fun w2 hz hs => h.2 w2 (Nat.le_trans ho.2.2.2.1 hz) fun k hk => (hs k hk).trans (ho.2.2.2.2 k (h.1 k hk) (hS k hk))⟩
theorem Foot.below {F : Nat → Prop} {P : World → Prop} {w w' : World} (h : Foot F P w) (hb : Below w.heap.size w w') : Foot F P w' :=
  h.only (S := fun _ => False) (Only.of_below hb) fun _ _ e => e
theorem Foot.mono {F : Nat → Prop} {P Q : World → Prop} {w : World} (h : Foot F P w) (hq : ∀ w', P w' → Q w') : Foot F Q w := ⟨h.1, fun w' hz hs => hq w' (h.2 w' hz hs)⟩
def At (p : Option Addr) (k : Nat) : Prop := ∃ a, p = some a ∧ a.block = k
theorem foot_vrow {w : World} {p : Option Addr} {vs : List Value} (h : VRow w w.heap.size p vs) (h0 : 0 < vs.length) : Foot (At p) (fun w' => VRow w' w'.heap.size p vs) w := by
  obtain ⟨b, off, rfl, hb, hc⟩ := h h0
  refine ⟨fun k ⟨a, e, hk⟩ => by injection e with e; subst e; rw [← hk]; exact hb, fun w' hz hs _ => ⟨b, off, rfl, Nat.lt_of_lt_of_le hb hz, fun i hi => (World.cell?_of_block (hs b ⟨_, rfl, rfl⟩)).trans (hc i hi)⟩⟩
theorem foot_row {w : World} {p : Option Addr} {xs : List UInt8} (h : Row w p xs) (h0 : 0 < xs.length) : Foot (At p) (fun w' => Row w' p xs) w := by
  obtain ⟨b, off, rfl, hb, hc⟩ := h h0
  refine ⟨fun k ⟨a, e, hk⟩ => by injection e with e; subst e; rw [← hk]; exact hb, fun w' hz hs _ => ⟨b, off, rfl, Nat.lt_of_lt_of_le hb hz, fun i hi => (World.cell?_of_block (hs b ⟨_, rfl, rfl⟩)).trans (hc i hi)⟩⟩
structure Ke where
  e : Nat
  gw : Nat
  bl : Nat
  cl : Nat
  bd : Nat
  cd : Nat
structure En (w : World) (K : Ke) (v : Value) (l : List Bool) : Prop where
  blk : w.heap[K.e]? = some (.cells #[.pointer (some ⟨K.gw, 0, none⟩), .slice (some ⟨K.bl, 0, none⟩) 29 K.cl, .slice (some ⟨K.bd, 0, none⟩) 30 K.cd, .int .i64 0] 40 (0, 0))
  ws : Ws w K.gw v l true
  tl : TabR w K.bl false
  td : TabR w K.bd true
  ge : K.gw < K.e
  gl : K.gw < K.bl ∧ K.gw < K.bd
  lt : K.bl < K.e ∧ K.bd < K.e
  vv : ∀ k, v.ownBlock = some k → K.e < k
  cl : 29 ≤ K.cl ∧ 30 ≤ K.cd
section
variable {w w' w1 w2 : World} {K : Ke} {v v1 : Value} {l l' : List Bool}
theorem En.c0 (h : En w K v l) : w.cell? ⟨K.e, 0, none⟩ = some (.pointer (some ⟨K.gw, 0, none⟩)) := by simp [World.cell?, h.blk]
theorem En.c1 (h : En w K v l) : w.cell? ⟨K.e, 1, none⟩ = some (.slice (some ⟨K.bl, 0, none⟩) 29 K.cl) := by simp [World.cell?, h.blk]
theorem En.c2 (h : En w K v l) : w.cell? ⟨K.e, 2, none⟩ = some (.slice (some ⟨K.bd, 0, none⟩) 30 K.cd) := by simp [World.cell?, h.blk]
theorem En.c3 (h : En w K v l) : w.cell? ⟨K.e, 3, none⟩ = some (.int .i64 0) := by simp [World.cell?, h.blk]
theorem En.fz (h : En w K v l) (i : Nat) : w.frozen? ⟨K.e, i, none⟩ = false := by simp [World.frozen?, h.blk]
theorem En.lt' (h : En w K v l) : K.e < w.heap.size := by
  rcases Nat.lt_or_ge K.e w.heap.size with hlt | hge
  · exact hlt
  · have := h.blk; rw [Array.getElem?_eq_none hge] at this; cases this
theorem tab_same {b : Nat} {far : Bool} (h : TabR w b far) (hb : w'.heap[b]? = w.heap[b]?) : TabR w' b far := fun i hi =>
  ⟨(World.cell?_of_block hb).trans (h i hi).1, (World.cell?_of_block hb).trans (h i hi).2⟩
theorem own_lt (h : En w K v l) (k : Nat) (hk : v.ownBlock = some k) : k < w.heap.size := by
  have h1 : w.ownsRow 0 5 1 v (packB true l).length (cellsOf (packB true l)) := h.ws.2.1
  rcases h1.2 with ⟨e, _⟩ | ⟨g, cap, cur, rfl, hb, hh, r⟩
  · rw [e] at hk; cases hk
  · injection hk with hk
    subst hk
    rcases Nat.lt_or_ge g w.heap.size with hlt | hge
    · exact hlt
    · rw [Array.getElem?_eq_none hge] at hh; cases hh
theorem En.only {S : Nat → Prop} (h : En w K v l) (ho : Only S w w') (he : ∀ k, k ≤ K.e → ¬ S k) (hv : ∀ k, v.ownBlock = some k → ¬ S k) : En w' K v l := by
  have hlt := h.lt'
  have h1 := h.ge
  have h2 := h.lt
  exact ⟨(ho.2.2.2.2 _ hlt (he _ (Nat.le_refl _))).trans h.blk, Wr.only h.ws ho (he _ (by omega)) hv, tab_same h.tl (ho.2.2.2.2 _ (by omega) (he _ (by omega))),
    tab_same h.td (ho.2.2.2.2 _ (by omega) (he _ (by omega))), h.ge, h.gl, h.lt, h.vv, h.cl⟩
theorem En.below (h : En w K v l) (hb : Below w.heap.size w w') : En w' K v l := h.only (S := fun _ => False) (Only.of_below hb) (fun _ _ e => e) (fun _ _ e => e)
def EnT (w : World) (K : Ke) (v : Value) (l : List Bool) (w' : World) : Prop :=
  ∃ v', En w' K v' l ∧ Only (Mine K.gw v) w w' ∧ ∀ k, v'.ownBlock = some k → v.ownBlock = some k ∨ w.heap.size ≤ k
theorem En.wst (h : En w K v l) (ht : WsT w K.gw v l' true w') : EnT w K v l' w' := by
  obtain ⟨v', hw, ho, hd⟩ := ht
  have hlt := h.lt'
  have h1 := h.ge
  have h2 := h.lt
  have h3 := h.gl
  have hm : ∀ k, k ≤ K.e → k ≠ K.gw → ¬ Mine K.gw v k := fun k hk hne e => by
    rcases e with e | e
    · exact hne e
    · have := h.vv k e; omega
  refine ⟨v', ⟨(ho.2.2.2.2 _ hlt (hm _ (Nat.le_refl _) (by omega))).trans h.blk, hw, tab_same h.tl (ho.2.2.2.2 _ (by omega) (hm _ (by omega) (by omega))),
    tab_same h.td (ho.2.2.2.2 _ (by omega) (hm _ (by omega) (by omega))), h.ge, h.gl, h.lt, fun k hk => ?_, h.cl⟩, ho, hd⟩
  rcases hd k hk with e | e
  · exact h.vv k e
  · omega
theorem EnT.more (ho : Only (Mine K.gw v) w w1) (hd : ∀ k, v1.ownBlock = some k → v.ownBlock = some k ∨ w.heap.size ≤ k) (h : EnT w1 K v1 l w2) : EnT w K v l w2 := by
  obtain ⟨v2, hW, ho2, hd2⟩ := h
  have hz := ho.2.2.2.1
  refine ⟨v2, hW, ⟨ho2.1.trans ho.1, ho2.2.1.trans ho.2.1, ho2.2.2.1.trans ho.2.2.1, Nat.le_trans hz ho2.2.2.2.1, fun k hk hn => ?_⟩, fun k hk => ?_⟩
  · refine (ho2.2.2.2.2 k (by omega) (fun hm => hn ?_)).trans (ho.2.2.2.2 k hk hn)
    rcases hm with h | h
    · exact .inl h
    · rcases hd k h with h | h
      · exact .inr h
      · omega
  · rcases hd2 k hk with h | h
    · exact hd k h
    · exact .inr (by omega)
theorem EnT.below (h : En w K v l) (hb : Below w.heap.size w w') : EnT w K v l w' := ⟨v, h.below hb, (Only.of_below (S := fun _ => False) hb).mono (fun _ _ e => False.elim e), fun _ e => .inl e⟩
def Far (K : Ke) (v : Value) (F : Nat → Prop) : Prop := ∀ k, F k → k ≠ K.gw ∧ v.ownBlock ≠ some k
theorem Foot.ent {F : Nat → Prop} {P : World → Prop} (h : Foot F P w) (hf : Far K v F) (ho : Only (Mine K.gw v) w w') : Foot F P w' :=
  h.only ho fun k hk e => by
    rcases e with e | e
    · exact (hf k hk).1 e
    · exact (hf k hk).2 e
theorem Far.ent {F : Nat → Prop} {P : World → Prop} (h : Foot F P w) (hf : Far K v F) (hd : ∀ k, v1.ownBlock = some k → v.ownBlock = some k ∨ w.heap.size ≤ k) : Far K v1 F := fun k hk =>
  ⟨(hf k hk).1, fun e => by
    rcases hd k e with e | e
    · exact (hf k hk).2 e
    · have := h.1 k hk; omega⟩
theorem far_new {F : Nat → Prop} (h : En w K v l) (hF : ∀ k, F k → w.heap.size ≤ k) : Far K v F := fun k hk => by
  have h1 := hF k hk
  have h2 := h.lt'
  have h3 := h.ge
  exact ⟨by omega, fun e => by have := own_lt h k e; omega⟩
end
theorem or_any (b : Nat) (w : World) (h : ∀ i, i < 2 → w.cell? ⟨b, i, none⟩ = some (.int .i64 0)) : Calls Tryz.prog 91 #[.slice (some ⟨b, 0, none⟩) 2 2] w fun e w' => e = .returned (.int .i64 0) ∧ w' = w := by
  have H := Lib.hid h
  clear h
  go_enter Tryz.func91, Tryz.ntmps91
  go_wp2_with fail
  go_loopw [8] (fun i wr => ∃ k : Nat, k ≤ 2 ∧ i = .int .i64 (k : Int) ∧ wr = w) (fun i _ => 2 - (intOf i).toNat)
  case atStart => exact ⟨0, by omega, rfl, rfl⟩
  case round =>
    obtain ⟨k, hk, rfl, rfl⟩ := hrel
    by_cases hlt : k < 2
    · have q : decide ((k : Int) < 2) = true := decide_eq_true (by omega)
      have hc := H.out k hlt
      have hc2 : wr.cell? ⟨b, 0 + k, none⟩ = some (.int .i64 0) := by rw [Nat.zero_add]; exact hc
      go_wp2_with fail
      go_roundw
      case rel => exact ⟨k + 1, by omega, by first | rfl | (push_cast; rfl), by first | rfl | trivial⟩
      case measure => simp [intOf]; omega
    · have q : decide ((k : Int) < 2) = false := by simp; omega
      go_wp2_with fail
      go_ret
      exact ⟨rfl, rfl⟩
theorem set_same {w : World} {b i : Nat} {cs : Array Value} {T : TypeId} {fr : Nat × Nat} {v : Value} (h : w.heap[b]? = some (.cells cs T fr)) (hv : cs[i]? = some v) : (w.setCell ⟨b, i, none⟩ v).heap = w.heap := by
  apply Array.ext_getElem?
  intro j
  by_cases hj : b = j
  · subst hj
    simp only [World.setCell, Array.getElem?_modify, h]
    simp only [if_true, Option.map_some]
    congr 2
    rw [if_neg (by simp)]
    apply Array.ext_getElem?
    intro k
    rw [Array.getElem?_setIfInBounds]
    by_cases hk : i = k
    · subst hk; rw [if_pos rfl]; split
      · exact hv.symm
      · rename_i hge
        rw [Array.getElem?_eq_none (by omega)]
    · rw [if_neg hk]
  · simp [World.setCell, Array.getElem?_modify, hj]
theorem set_below {w : World} {b i B : Nat} {v : Value} (h : (w.setCell ⟨b, i, none⟩ v).heap = w.heap) : Below B w (w.setCell ⟨b, i, none⟩ v) :=
  ⟨rfl, rfl, rfl, by rw [h]; exact Nat.le_refl _, fun k hk => by rw [h]⟩
theorem keep_any (w : World) (K : Ke) (v : Value) (l : List Bool) (h : En w K v l) :
    Calls Tryz.prog 55 #[.pointer (some ⟨K.e, 0, none⟩), .int .i64 0] w fun e w' => e = .returned (.tuple #[]) ∧ Below w.heap.size w w' := by
  have c3 := h.c3
  have hlt := h.lt'
  have hba : Below w.heap.size w (w.alloc (.cells #[.int .i64 0, .int .i64 0] 24)) := (Below.refl _ w).alloc (Nat.le_refl _) _
  have hE := h.below hba
  have fz := hE.fz 3
  have hor := or_any w.heap.size (w.alloc (.cells #[.int .i64 0, .int .i64 0] 24)) (fun i hi => by
    have e : i = 0 ∨ i = 1 := by omega
    rcases e with rfl | rfl
    · simp
    · simp)
  have HOR := Lib.hid hor
  have hsame := set_same (i := 3) (v := .int .i64 0) h.blk rfl
  have hb1 : Below w.heap.size w (w.setCell ⟨K.e, 3, none⟩ (.int .i64 0)) := set_below hsame
  have HB := Lib.hid (hb1.alloc hb1.size (.cells #[.int .i64 0, .int .i64 0] 24))
  clear h hor hE hba hsame hb1
  go_enter Tryz.func55, Tryz.ntmps55
  go_wp2_with fail
  refine HOR.out.mono ?_
  rintro e w' ⟨rfl, rfl⟩
  go_wp2_with fail
  go_end0
  exact ⟨rfl, HB.out⟩
theorem number_any (w : World) (K : Ke) (v : Value) (l : List Bool) (m n : Nat) (h : En w K v l) (hn : n ≤ 32) (hm : m < 2 ^ n) (hm2 : m < 4294967296) (hl : l.length ≤ 2000000) :
    Calls Tryz.prog 28 #[.pointer (some ⟨K.e, 0, none⟩), .int .i64 (m : Int), .int .i64 (n : Int)] w fun e w' => e = .returned (.tuple #[]) ∧ EnT w K v (l ++ wordE true m n) w' := by
  have c0 := h.c0
  have hlt := h.lt'
  have hc : cntB (n : Int) = true := by unfold cntB; simp; omega
  have how : okW m (n : Int) = true := by unfold okW; rw [hc]; simpa using hm
  have hw := write_any w K.gw v l true m (n : Int) hm2 hl h.ws
  unfold WrtP at hw
  rw [show wrE m (n : Int) = 0 from by unfold wrE; rw [hc, how]; rfl, show wrL true l m (n : Int) = l ++ wordE true m n from by unfold wrL; rw [how]; rfl] at hw
  have HW := Lib.hid hw
  have H := Lib.hid h
  have wm : IntKind.u32.wrap (m : Int) = (m : Int) := by rw [IntKind.wrap_u32]; omega
  clear h hw hc how hm hl hn
  go_enter Tryz.func28, Tryz.ntmps28
  go_wp2_with fail
  refine HW.out.mono ?_
  rintro e w1 ⟨rfl, ht⟩
  have hT := H.out.wst ht
  obtain ⟨v1, hE1, ho1, hd1⟩ := hT
  have HE1 := Lib.hid hE1
  have HO1 := Lib.hid ho1
  have HD1 := Lib.hid hd1
  clear ht hE1 ho1 hd1
  go_wp2_with fail
  refine (keep_any w1 K v1 _ HE1.out).mono ?_
  rintro e w2 ⟨rfl, hb2⟩
  have HB2 := Lib.hid hb2
  clear hb2
  go_wp2_with fail
  go_end0
  exact ⟨rfl, EnT.more HO1.out HD1.out (EnT.below HE1.out HB2.out)⟩
theorem begin_bits (b k : Nat) (hb : b < 2) (hk : k < 4) : wordE true (b + 2 * k) 3 = wordE true b 1 ++ wordE true k 2 := by
  have hk4 : k = 0 ∨ k = 1 ∨ k = 2 ∨ k = 3 := by omega
  have hb2 : b = 0 ∨ b = 1 := by omega
  rcases hk4 with rfl | rfl | rfl | rfl <;> rcases hb2 with rfl | rfl <;> rfl
theorem begin_one (w : World) (K : Ke) (v : Value) (l : List Bool) (last : Bool) (b k : Nat) (hb : b = if last then 1 else 0) (h : En w K v l) (hk : k < 4) (hl : l.length + 3 ≤ 2000000) :
    Calls Tryz.prog 26 #[.pointer (some ⟨K.e, 0, none⟩), .bool last, .int .i64 (k : Int)] w fun e w' => e = .returned (.tuple #[]) ∧ EnT w K v (l ++ wordE true (b + 2 * k) 3) w' := by
  have hb2 : b < 2 := by cases last <;> simp at hb <;> omega
  have E1 := Lib.hid (begin_bits b k hb2 hk)
  have HN := Lib.hid (number_any w K v l b 1 h (by omega) hb2 (by omega) (by omega))
  have HL := Lib.hid (show (l ++ wordE true b 1).length ≤ 2000000 by rw [List.length_append, wordE_length]; omega)
  have hk2 : k < 2 ^ 2 := hk
  clear h hl hb2
  cases last
  · have hb0 : b = 0 := by simpa using hb
    subst hb0
    have HN2 : Hid (Calls Tryz.prog 28 #[.pointer (some ⟨K.e, 0, none⟩), .int .i64 0, .int .i64 1] w fun e w' => e = .returned (.tuple #[]) ∧ EnT w K v (l ++ wordE true 0 1) w') := HN
    have HN3 : Hid (∀ w1 v1, En w1 K v1 (l ++ wordE true 0 1) → Calls Tryz.prog 28 #[.pointer (some ⟨K.e, 0, none⟩), .int .i64 (k : Int), .int .i64 2] w1 fun e w' => e = .returned (.tuple #[]) ∧ EnT w1 K v1 (l ++ wordE true 0 1 ++ wordE true k 2) w') := Lib.hid fun w1 v1 hE => number_any w1 K v1 _ k 2 hE (by omega) hk2 (by omega) HL.out
    clear HN
    clear hb
    go_enter  Tryz.func26, Tryz.ntmps26
    go_wp2_with fail
    refine HN2.out.mono ?_
    rintro e w1 ⟨rfl, v1, hE1, ho1, hd1⟩
    have HE1 := Lib.hid hE1
    have HO1 := Lib.hid ho1
    have HD1 := Lib.hid hd1
    clear hE1 ho1 hd1
    go_wp2_with fail
    refine (HN3.out w1 v1 HE1.out).mono ?_
    rintro e w2 ⟨rfl, ht⟩
    have HT := Lib.hid ht
    clear ht
    go_wp2_with fail
    go_end0
    refine ⟨rfl, ?_⟩
    have := EnT.more HO1.out HD1.out HT.out
    rwa [List.append_assoc, ← E1.out] at this
  · have hb0 : b = 1 := by simpa using hb
    subst hb0
    have HN2 : Hid (Calls Tryz.prog 28 #[.pointer (some ⟨K.e, 0, none⟩), .int .i64 1, .int .i64 1] w fun e w' => e = .returned (.tuple #[]) ∧ EnT w K v (l ++ wordE true 1 1) w') := HN
    have HN3 : Hid (∀ w1 v1, En w1 K v1 (l ++ wordE true 1 1) → Calls Tryz.prog 28 #[.pointer (some ⟨K.e, 0, none⟩), .int .i64 (k : Int), .int .i64 2] w1 fun e w' => e = .returned (.tuple #[]) ∧ EnT w1 K v1 (l ++ wordE true 1 1 ++ wordE true k 2) w') := Lib.hid fun w1 v1 hE => number_any w1 K v1 _ k 2 hE (by omega) hk2 (by omega) HL.out
    clear HN
    clear hb
    go_enter  Tryz.func26, Tryz.ntmps26
    go_wp2_with fail
    refine HN2.out.mono ?_
    rintro e w1 ⟨rfl, v1, hE1, ho1, hd1⟩
    have HE1 := Lib.hid hE1
    have HO1 := Lib.hid ho1
    have HD1 := Lib.hid hd1
    clear hE1 ho1 hd1
    go_wp2_with fail
    refine (HN3.out w1 v1 HE1.out).mono ?_
    rintro e w2 ⟨rfl, ht⟩
    have HT := Lib.hid ht
    clear ht
    go_wp2_with fail
    go_end0
    refine ⟨rfl, ?_⟩
    have := EnT.more HO1.out HD1.out HT.out
    rwa [List.append_assoc, ← E1.out] at this
theorem begin_any (w : World) (K : Ke) (v : Value) (l : List Bool) (last : Bool) (k : Nat) (h : En w K v l) (hk : k < 4) (hl : l.length + 3 ≤ 2000000) :
    Calls Tryz.prog 26 #[.pointer (some ⟨K.e, 0, none⟩), .bool last, .int .i64 (k : Int)] w fun e w' => e = .returned (.tuple #[]) ∧ EnT w K v (l ++ wordE true ((if last then 1 else 0) + 2 * k) 3) w' :=
  begin_one w K v l last _ k rfl h hk hl
end Go.Proofs.YtjafcjnkefioeaaGreat.Df

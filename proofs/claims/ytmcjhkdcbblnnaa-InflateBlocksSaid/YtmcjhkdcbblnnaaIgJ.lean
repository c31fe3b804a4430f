
/- The contracts of bases, Lens and Dists. -/
import Derived.Test.YtmcjhkdcbblnnaaIgI
import Derived.Deep.AppendLies
namespace Go.Proofs.Ytmcjhkdcbblnnaa.Inf
open Go.RowKit Go.Shelf Go.Proofs.Ytmcjhkdcbblnnaa.Oct Go.Proofs.Ytmcjhkdcbblnnaa.Bit Go.Proofs.Ytmcjhkdcbblnnaa.Hf
set_option linter.unusedVariables false
set_option linter.unusedSimpArgs false
set_option maxRecDepth 100000

def exN (g i : Nat) : Nat := i / g - 1
def frN (f g : Nat) : Nat → Nat
  | 0 => f
  | k + 1 => frN f g k + 2 ^ exN g k
/-- what bases gives -/
def tabN (f g n : Nat) : List (Nat × Nat) := (List.range n).map fun i => (frN f g i, exN g i)
def bcells : List (Nat × Nat) → List Value
  | [] => []
  | x :: r => .int .i64 (x.1 : Int) :: .int .i64 (x.2 : Int) :: bcells r
theorem bcells_append : ∀ a b : List (Nat × Nat), bcells (a ++ b) = bcells a ++ bcells b
  | [], b => rfl
  | x :: r, b => by simp [bcells, bcells_append r b]
theorem bcells_length : ∀ a : List (Nat × Nat), (bcells a).length = a.length * 2
  | [] => rfl
  | x :: r => by simp [bcells, bcells_length r]; omega
theorem bcells_get : ∀ (a : List (Nat × Nat)) (i : Nat) (x : Nat × Nat), a[i]? = some x → (bcells a)[i * 2]? = some (.int .i64 (x.1 : Int)) ∧ (bcells a)[i * 2 + 1]? = some (.int .i64 (x.2 : Int))
  | [], i, x, h => by cases h
  | y :: r, 0, x, h => by
    injection h with h
    subst h
    exact ⟨rfl, rfl⟩
  | y :: r, i + 1, x, h => by
    have := bcells_get r i x h
    rw [show (i + 1) * 2 = i * 2 + 1 + 1 from by omega]
    exact this
theorem bcells_set : ∀ (a : List (Nat × Nat)) (i : Nat) (x : Nat × Nat), ((bcells a).set (i * 2) (.int .i64 (x.1 : Int))).set (i * 2 + 1) (.int .i64 (x.2 : Int)) = bcells (a.set i x)
  | [], i, x => by simp [bcells]
  | y :: r, 0, x => rfl
  | y :: r, i + 1, x => by
    have := bcells_set r i x
    rw [show (i + 1) * 2 = i * 2 + 1 + 1 from by omega]
    simp only [bcells, List.set_cons_succ]
    rw [this]
theorem bcells_one : ∀ (a : List (Nat × Nat)), ∀ u ∈ bcells a, u.oneCell' = true
  | [], u, h => by cases h
  | x :: r, u, h => by
    rcases List.mem_cons.1 h with rfl | h
    · rfl
    · rcases List.mem_cons.1 h with rfl | h
      · rfl
      · exact bcells_one r u h
def fillB (ps : List (Nat × Nat)) (k : Nat) : List (Nat × Nat) := ps.take k ++ List.replicate (ps.length - k) (0, 0)
theorem fillB_length (ps : List (Nat × Nat)) (k : Nat) (h : k ≤ ps.length) : (fillB ps k).length = ps.length := by simp [fillB]; omega
theorem fillB_step (ps : List (Nat × Nat)) (k : Nat) (h : k < ps.length) : (fillB ps k).set k ps[k] = fillB ps (k + 1) := by
  unfold fillB
  rw [List.set_append, if_neg (by simp; omega)]
  rw [List.take_succ_eq_append_getElem h, List.append_assoc]
  congr 1
  rw [List.length_take, Nat.min_eq_left (Nat.le_of_lt h), Nat.sub_self, show ps.length - k = (ps.length - (k + 1)) + 1 from by omega, List.replicate_succ]
  rfl
theorem blk_set8 {w : World} {g : Nat} {vs : List Value} {T : TypeId} {fr : Nat × Nat} (h : w.heap[g]? = some (.cells vs.toArray T fr)) (i : Nat) (u : Value) : (w.setCell ⟨g, i, none⟩ u).heap[g]? = some (.cells (vs.set i u).toArray T fr) := by
  simp [World.setCell, Array.getElem?_modify, h]
theorem Try.infoBase : (Try.prog.info? 40).map (fun i => (i.zero, i.size, i.bytes)) = some (some (.agg #[.int .i64 0, .int .i64 0]), 2, 16) := by kernel_rfl
theorem made_base (n : Nat) : (madeCells #[Value.int .i64 0, .int .i64 0] (n * 2)).toList = bcells (List.replicate n (0, 0)) := by
  have h1 : ∀ (m : Nat) (j : Nat), (bcells (List.replicate m (0, 0)))[j]? = if j < m * 2 then some (.int .i64 0) else none := by
    intro m
    induction m with
    | zero => intro j; simp [bcells]
    | succ m ih =>
      intro j
      rw [List.replicate_succ, bcells]
      match j with
      | 0 => simp
      | 1 => rw [List.getElem?_cons_succ, List.getElem?_cons_zero, if_pos (by omega)]; rfl
      | j + 2 =>
        rw [List.getElem?_cons_succ, List.getElem?_cons_succ, ih j]
        by_cases h : j < m * 2
        · rw [if_pos h, if_pos (by omega)]
        · rw [if_neg h, if_neg (by omega)]
  apply List.ext_getElem?
  intro j
  rw [h1]
  by_cases h : j < n * 2
  · rw [if_pos h]
    have h2 : j % 2 = 0 ∨ j % 2 = 1 := by omega
    rcases h2 with h2 | h2 <;> simp [madeCells, h2, h]
  · rw [if_neg h]
    simp [madeCells, h]
theorem blk_two {w : World} {B T n g : Nat} {xs : List Value} (h : w.ownsRow B T 2 (.slice (some ⟨g, 0, none⟩) n n) n xs) : w.heap[g]? = some (.cells xs.toArray T (0, 0)) := by
  rcases h.2 with ⟨hv, _⟩ | ⟨g', cap, cur, hv, _, hh, _, _, hs, ht⟩
  · cases hv
  · injection hv with e1 _ e3
    injection e1 with e1
    injection e1 with e1
    subst e1
    subst e3
    have e : cur = xs.toArray := by
      rw [← ht, List.take_of_length_le (by simp [hs])]
    rw [hh, e]
/-- what bases gives -/
def BasP (w : World) (L : List (Nat × Nat)) (e : Ending) (w' : World) : Prop :=
  ∃ v, e = .returned v ∧ Below w.heap.size w w' ∧ w'.ownsRow w.heap.size 40 2 v L.length (bcells L)
def BasSt (w : World) (H : Nat) (L : List (Nat × Nat)) (k : Nat) (wr : World) : Prop := Below w.heap.size w wr ∧ wr.heap[H]? = some (.cells (bcells (fillB L k)).toArray 40 (0, 0))
theorem w64_small (z : Int) (h0 : 0 ≤ z) (h1 : z ≤ 1000000) : wrap64 z = z := by
  unfold wrap64
  omega
theorem pow_small (x : Nat) (hx : x ≤ 13) : ∃ y : Nat, (2 : Int) ^ x = (y : Int) ∧ 2 ^ x = y ∧ y ≤ 8192 := by
  refine ⟨2 ^ x, by simp, rfl, ?_⟩
  have hb : (2 : Nat) ^ x ≤ 2 ^ 13 := Nat.pow_le_pow_right (by omega) hx
  exact Nat.le_trans hb (by decide)
theorem add_pow (fr x n : Nat) (hf : fr ≤ 100000) (hx : x ≤ 13) (hn : n = fr + 2 ^ x) : wrap64 ((fr : Int) + wrap64 ((2 : Int) ^ x)) = (n : Int) := by
  obtain ⟨y, h1, h2, h3⟩ := pow_small x hx
  rw [h2] at hn
  rw [h1, w64_small (y : Int) (by omega) (by omega), w64_small _ (by omega) (by omega)]
  omega
theorem frN_bd_near : ∀ k, k ≤ 28 → frN 3 4 k ≤ 100000 := by decide +kernel
theorem frN_bd_far : ∀ k, k ≤ 30 → frN 1 2 k ≤ 100000 := by decide +kernel
set_option maxHeartbeats 1000000 in
theorem bases_near (w : World) : Calls Try.prog 31 #[.int .i64 3, .int .i64 4, .int .i64 28] w (BasP w (tabN 3 4 28)) := by
  obtain ⟨i0, hi, hz0, hz1, hz2⟩ := info_parts Try.infoBase
  go_enter Try.func31, Try.ntmps31
  go_wp2_with (at_make; refine wpList_make_full _ rfl _ _ 36 rfl w.heap.size 40 i0 (.agg #[.int .i64 0, .int .i64 0]) 2 Try.underlying36 hi hz0 hz1 .i64 .i64 28 28 28 rfl rfl rfl rfl ?c2 ?c3 ?c4 ?_)
  case c2 => rw [hz2]; omega
  case c3 => unfold maxLen; omega
  case c4 => omega
  intro w1 hown hgrow
  have hb1 : Below w.heap.size w w1 := (Below.refl _ _).grown hgrow (Nat.le_refl _) (fun k hk => by cases hk)
  obtain ⟨L, hL⟩ : ∃ L, L = tabN 3 4 28 := ⟨_, rfl⟩
  have hLl : L.length = 28 := by rw [hL]; simp [tabN]
  have hrow : w1.heap[w.heap.size]? = some (.cells (bcells (fillB L 0)).toArray 40 (0, 0)) := by
    have h0 : fillB L 0 = List.replicate 28 (0, 0) := by unfold fillB; rw [hLl]; rfl
    rw [h0, ← made_base 28]
    exact blk_two hown
  have HST := Lib.hid (show BasSt w w.heap.size L 0 w1 from ⟨hb1, hrow⟩)
  have HL := Lib.hid hL
  have HLL := Lib.hid hLl
  have hwl : w.heap.size ≤ w.heap.size := Nat.le_refl _
  generalize hH : w.heap.size = H at hown HST ⊢
  have hwl : w.heap.size ≤ H := by omega
  clear hown hgrow hb1 hrow hL hLl hH
  go_wp2_with fail
  go_loopw [0, 8, 9, 14] (fun f u x i wr => ∃ k : Nat, k ≤ 28 ∧ f = .int .i64 ((frN 3 4 k : Nat) : Int) ∧ i = .int .i64 (k : Int) ∧ Hid (BasSt w H L k wr)) (fun f u x i wr => 28 - (intOf i).toNat)
  case atStart => exact ⟨0, by omega, rfl, rfl, HST⟩
  case round =>
    obtain ⟨k, hk, rfl, rfl, HB⟩ := hrel
    by_cases hlt : k < 28
    · have hkL : k < L.length := by rw [HLL.out]; exact hlt
      have hblk := HB.out.2
      have hl1 : (bcells (fillB L k)).length = 28 * 2 := by rw [bcells_length, fillB_length L k (by omega), HLL.out]
      have u0 : wr.cell? ⟨H, k * 2, none⟩ = some ((bcells (fillB L k))[k * 2]'(by omega)) := by simp [World.cell?, hblk, hl1, show k * 2 < 28 * 2 from by omega]
      have u1 : wr.cell? ⟨H, k * 2 + 1, none⟩ = some ((bcells (fillB L k))[k * 2 + 1]'(by omega)) := by simp [World.cell?, hblk, hl1, show k * 2 + 1 < 28 * 2 from by omega]
      have f0 : ∀ i, wr.frozen? ⟨H, i, none⟩ = false := by intro i; simp [World.frozen?, hblk]
      have f00 := f0 (k * 2)
      have f01 := f0 (k * 2 + 1)
      obtain ⟨x, hx⟩ : ∃ x, x = exN 4 k := ⟨_, rfl⟩
      have hx2 : x = k / 4 - 1 := hx
      have hmx : max 0 ((k : Int) / 4 - 1) = (x : Int) := by omega
      have hx13 : x ≤ 13 := by omega
      generalize (bcells (fillB L k))[k * 2]'(by omega) = v0 at u0
      generalize (bcells (fillB L k))[k * 2 + 1]'(by omega) = v1 at u1
      obtain ⟨fr, hfr⟩ : ∃ fr, frN 3 4 k = fr := ⟨_, rfl⟩
      have hnext : frN 3 4 (k + 1) = fr + 2 ^ x := by rw [← hfr, hx]; rfl
      have hgetL : L[k] = (fr, x) := by simp [HL.out, tabN, hfr, hx]
      have hfb : fr ≤ 100000 := by rw [← hfr]; exact frN_bd_near k hk
      have hadd : wrap64 ((fr : Int) + wrap64 ((2 : Int) ^ x)) = ((frN 3 4 (k + 1) : Nat) : Int) := add_pow fr x _ hfb hx13 hnext
      have HNX : Hid (BasSt w H L (k + 1) ((wr.setCell ⟨H, k * 2, none⟩ (.int .i64 (fr : Int))).setCell ⟨H, k * 2 + 1, none⟩ (.int .i64 (x : Int)))) := Lib.hid ⟨(HB.out.1.setCell (p := ⟨H, k * 2, none⟩) hwl _).setCell (p := ⟨H, k * 2 + 1, none⟩) hwl _, by
        have h2 := blk_set8 (blk_set8 hblk (k * 2) (.int .i64 (fr : Int))) (k * 2 + 1) (.int .i64 (x : Int))
        have h3 := bcells_set (fillB L k) k (fr, x)
        simp only at h3
        rw [h3, ← hgetL, fillB_step L k hkL] at h2
        exact h2⟩
      have HADD := Lib.hid hadd
      rw [hfr]
      clear hblk f0 hx2 hx hadd hnext hfr hgetL HB HST hl1
      go_wp2_with fail
      go_roundw
      case rel => exact ⟨k + 1, by omega, by rw [HADD.out], by first | rfl | (push_cast; rfl), HNX⟩
      case measure => simp [intOf]; omega
    · have hkn : k = 28 := by omega
      subst hkn
      have HB2 := HB.out.2
      have hfin : fillB L 28 = L := by
        unfold fillB
        rw [List.take_of_length_le (by rw [HLL.out]; omega), HLL.out]
        simp
      rw [hfin] at HB2
      clear hlt hk
      go_wp2_with fail
      go_ret
      refine ⟨_, rfl, HB.out.1, ?_⟩
      rw [← HL.out, HLL.out]
      exact ⟨by rw [bcells_length, HLL.out], .inr ⟨H, 28, _, rfl, hwl, HB2, Nat.le_refl _, by unfold maxLen; omega, by simp [bcells_length, HLL.out], by rw [List.take_of_length_le (by simp [bcells_length, HLL.out])]⟩⟩
set_option maxHeartbeats 1000000 in
theorem bases_far (w : World) : Calls Try.prog 31 #[.int .i64 1, .int .i64 2, .int .i64 30] w (BasP w (tabN 1 2 30)) := by
  obtain ⟨i0, hi, hz0, hz1, hz2⟩ := info_parts Try.infoBase
  go_enter Try.func31, Try.ntmps31
  go_wp2_with (at_make; refine wpList_make_full _ rfl _ _ 36 rfl w.heap.size 40 i0 (.agg #[.int .i64 0, .int .i64 0]) 2 Try.underlying36 hi hz0 hz1 .i64 .i64 30 30 30 rfl rfl rfl rfl ?c2 ?c3 ?c4 ?_)
  case c2 => rw [hz2]; omega
  case c3 => unfold maxLen; omega
  case c4 => omega
  intro w1 hown hgrow
  have hb1 : Below w.heap.size w w1 := (Below.refl _ _).grown hgrow (Nat.le_refl _) (fun k hk => by cases hk)
  obtain ⟨L, hL⟩ : ∃ L, L = tabN 1 2 30 := ⟨_, rfl⟩
  have hLl : L.length = 30 := by rw [hL]; simp [tabN]
  have hrow : w1.heap[w.heap.size]? = some (.cells (bcells (fillB L 0)).toArray 40 (0, 0)) := by
    have h0 : fillB L 0 = List.replicate 30 (0, 0) := by unfold fillB; rw [hLl]; rfl
    rw [h0, ← made_base 30]
    exact blk_two hown
  have HST := Lib.hid (show BasSt w w.heap.size L 0 w1 from ⟨hb1, hrow⟩)
  have HL := Lib.hid hL
  have HLL := Lib.hid hLl
  have hwl : w.heap.size ≤ w.heap.size := Nat.le_refl _
  generalize hH : w.heap.size = H at hown HST ⊢
  have hwl : w.heap.size ≤ H := by omega
  clear hown hgrow hb1 hrow hL hLl hH
  go_wp2_with fail
  go_loopw [0, 8, 9, 14] (fun f u x i wr => ∃ k : Nat, k ≤ 30 ∧ f = .int .i64 ((frN 1 2 k : Nat) : Int) ∧ i = .int .i64 (k : Int) ∧ Hid (BasSt w H L k wr)) (fun f u x i wr => 30 - (intOf i).toNat)
  case atStart => exact ⟨0, by omega, rfl, rfl, HST⟩
  case round =>
    obtain ⟨k, hk, rfl, rfl, HB⟩ := hrel
    by_cases hlt : k < 30
    · have hkL : k < L.length := by rw [HLL.out]; exact hlt
      have hblk := HB.out.2
      have hl1 : (bcells (fillB L k)).length = 30 * 2 := by rw [bcells_length, fillB_length L k (by omega), HLL.out]
      have u0 : wr.cell? ⟨H, k * 2, none⟩ = some ((bcells (fillB L k))[k * 2]'(by omega)) := by simp [World.cell?, hblk, hl1, show k * 2 < 30 * 2 from by omega]
      have u1 : wr.cell? ⟨H, k * 2 + 1, none⟩ = some ((bcells (fillB L k))[k * 2 + 1]'(by omega)) := by simp [World.cell?, hblk, hl1, show k * 2 + 1 < 30 * 2 from by omega]
      have f0 : ∀ i, wr.frozen? ⟨H, i, none⟩ = false := by intro i; simp [World.frozen?, hblk]
      have f00 := f0 (k * 2)
      have f01 := f0 (k * 2 + 1)
      obtain ⟨x, hx⟩ : ∃ x, x = exN 2 k := ⟨_, rfl⟩
      have hx2 : x = k / 2 - 1 := hx
      have hmx : max 0 ((k : Int) / 2 - 1) = (x : Int) := by omega
      have hx13 : x ≤ 13 := by omega
      generalize (bcells (fillB L k))[k * 2]'(by omega) = v0 at u0
      generalize (bcells (fillB L k))[k * 2 + 1]'(by omega) = v1 at u1
      obtain ⟨fr, hfr⟩ : ∃ fr, frN 1 2 k = fr := ⟨_, rfl⟩
      have hnext : frN 1 2 (k + 1) = fr + 2 ^ x := by rw [← hfr, hx]; rfl
      have hgetL : L[k] = (fr, x) := by simp [HL.out, tabN, hfr, hx]
      have hfb : fr ≤ 100000 := by rw [← hfr]; exact frN_bd_far k hk
      have hadd : wrap64 ((fr : Int) + wrap64 ((2 : Int) ^ x)) = ((frN 1 2 (k + 1) : Nat) : Int) := add_pow fr x _ hfb hx13 hnext
      have HNX : Hid (BasSt w H L (k + 1) ((wr.setCell ⟨H, k * 2, none⟩ (.int .i64 (fr : Int))).setCell ⟨H, k * 2 + 1, none⟩ (.int .i64 (x : Int)))) := Lib.hid ⟨(HB.out.1.setCell (p := ⟨H, k * 2, none⟩) hwl _).setCell (p := ⟨H, k * 2 + 1, none⟩) hwl _, by
        have h2 := blk_set8 (blk_set8 hblk (k * 2) (.int .i64 (fr : Int))) (k * 2 + 1) (.int .i64 (x : Int))
        have h3 := bcells_set (fillB L k) k (fr, x)
        simp only at h3
        rw [h3, ← hgetL, fillB_step L k hkL] at h2
        exact h2⟩
      have HADD := Lib.hid hadd
      rw [hfr]
      clear hblk f0 hx2 hx hadd hnext hfr hgetL HB HST hl1
      go_wp2_with fail
      go_roundw
      case rel => exact ⟨k + 1, by omega, by rw [HADD.out], by first | rfl | (push_cast; rfl), HNX⟩
      case measure => simp [intOf]; omega
    · have hkn : k = 30 := by omega
      subst hkn
      have HB2 := HB.out.2
      have hfin : fillB L 30 = L := by
        unfold fillB
        rw [List.take_of_length_le (by rw [HLL.out]; omega), HLL.out]
        simp
      rw [hfin] at HB2
      clear hlt hk
      go_wp2_with fail
      go_ret
      refine ⟨_, rfl, HB.out.1, ?_⟩
      rw [← HL.out, HLL.out]
      exact ⟨by rw [bcells_length, HLL.out], .inr ⟨H, 30, _, rfl, hwl, HB2, Nat.le_refl _, by unfold maxLen; omega, by simp [bcells_length, HLL.out], by rw [List.take_of_length_le (by simp [bcells_length, HLL.out])]⟩⟩
/-- the pairs of a table -/
def pairsN (far : Bool) : List (Nat × Nat) := (froms far).zip (extras far)
theorem near_pairs : tabN 3 4 28 ++ [(258, 0)] = pairsN false := by decide +kernel
theorem far_pairs : tabN 1 2 30 = pairsN true := by decide +kernel
theorem pairs_get : ∀ far : Bool, ∀ i, i < (froms far).length → (pairsN far)[i]? = some ((froms far).getD i 0, (extras far).getD i 0) := by decide +kernel
theorem pairs_len : (pairsN false).length = 29 ∧ (pairsN true).length = 30 := by decide +kernel
/-- what Lens and Dists give -/
def TabP (w : World) (far : Bool) (e : Ending) (w' : World) : Prop :=
  ∃ v, e = .returned v ∧ Below w.heap.size w w' ∧ w'.ownsRow w.heap.size 40 2 v (froms far).length (bcells (pairsN far))
theorem dists_any (w : World) : Calls Try.prog 15 #[] w (TabP w true) := by
  go_enter Try.func15, Try.ntmps15
  go_wp2_with fail
  refine (bases_far w).mono ?_
  rintro e w1 ⟨v, rfl, hb, ho⟩
  go_wp2_with fail
  go_ret
  rw [far_pairs] at ho
  exact ⟨v, rfl, hb, ho⟩
set_option maxHeartbeats 1000000 in
theorem lens_any (w : World) : Calls Try.prog 14 #[] w (TabP w false) := by
  obtain ⟨i0, hi, hz0, hz1, hz2⟩ := info_parts Try.infoBase
  go_enter Try.func14, Try.ntmps14
  go_wp2_with fail
  refine (bases_near w).mono ?_
  rintro e w1 ⟨v, rfl, hb, ho⟩
  rw [show (tabN 3 4 28).length = 28 from by simp [tabN]] at ho
  have hba : Below w1.heap.size w1 (w1.alloc (.cells #[.int .i64 258, .int .i64 0] 40)) := (Below.refl _ w1).alloc (Nat.le_refl _) _
  have hblk : (w1.alloc (.cells #[.int .i64 258, .int .i64 0] 40)).heap[w1.heap.size]? = some (.cells #[.int .i64 258, .int .i64 0] 40 (0, 0)) := Array.getElem?_push_size
  have hnews := World.news_of_block hblk
  have hoa : (w1.alloc (.cells #[.int .i64 258, .int .i64 0] 40)).ownsRow w.heap.size 40 2 v 28 (bcells (tabN 3 4 28)) := by
    refine ⟨ho.1, ?_⟩
    rcases ho.2 with hn | ⟨g, cap, cur, rfl, hbs, hh, r⟩
    · exact .inl hn
    · have hlt : g < w1.heap.size := by
        rcases Nat.lt_or_ge g w1.heap.size with hlt | hge
        · exact hlt
        · rw [Array.getElem?_eq_none hge] at hh; cases hh
      exact .inr ⟨g, cap, cur, rfl, hbs, (hba.block g hlt).trans hh, r⟩
  have HB := Lib.hid (hb.trans (hba.mono hb.size))
  have HO := Lib.hid hoa
  have HNW := Lib.hid hnews
  have HBZ := Lib.hid HB.out.size
  clear hb ho hba hblk hnews hoa
  go_wp2_with (at_builtin; refine wpList_append_lies _ rfl _ _ 36 rfl w.heap.size 40 i0 (.agg #[.int .i64 0, .int .i64 0]) 2 16 Try.underlying36 hi hz0 hz1 hz2 rfl (by decide) v 28 (bcells (tabN 3 4 28)) rfl HO.out ⟨w1.heap.size, 0, none⟩ 1 1 [.int .i64 258, .int .i64 0] rfl rfl HNW.out (by intro u hu; simp at hu; rcases hu with rfl | rfl <;> rfl) (by decide) (by unfold maxLen; omega) (by omega) HBZ.out _ rfl ?_)
  intro g1 cap1 w2 hown2 hgrow2 _ _
  have hb2 := (Below.refl w.heap.size (w1.alloc (.cells #[.int .i64 258, .int .i64 0] 40))).grown hgrow2 HBZ.out (fun k hk => (HO.out.lt k hk).1)
  have HB2 := Lib.hid (HB.out.trans hb2)
  have HO2 := Lib.hid hown2
  clear hown2 hgrow2 hb2
  go_wp2_with fail
  go_ret
  refine ⟨_, rfl, HB2.out, ?_⟩
  rw [← near_pairs, bcells_append]
  exact HO2.out
end Go.Proofs.Ytmcjhkdcbblnnaa.Inf

/- IgI, IgJ, IfN, IfQ, HfR, IgA: merged. -/
import Derived.Laws.BitsAllLaws
import Derived.Laws.Strings
import Derived.Laws.BytesArg
import Derived.Test.YtjafcjnkefioeaaRows
import Derived.WalkKit
import Derived.ProofKit
import Derived.WalkLawsBesides
import Derived.Lib.Hide
import Derived.Deep.QuietTactic
import Derived.BigQuiet
import Derived.Outline
import Derived.Laws.NewBlocks
import Derived.Laws.CopyOwn
import Derived.Laws.Concat
import Derived.Laws.Strings2
import Derived.WalkSpells
import Derived.Laws.AppendOwnNone
import Derived.OpenShut
import Derived.Lib.SliceRun
import Derived.Laws.Externs
import Derived.Laws.IdiomCopy
import Derived.Lib.EndianMore
import Derived.Deep.RegionLaw
import Derived.Shelf.Spec.SlicesGrow
import Derived.LoopTactic
import Derived.Deep.LoopGhost
import Derived.Deep.AppendLies
import Derived.ChangeKeysEq
import Derived.Laws.Pointers
import Derived.Deep.DeepCutAuto
import Derived.BigRegion
import Derived.Test.YtjafcjnkefioeaaRah
import Derived.Test.YtjafcjnkefioeaaRai
set_option linter.unusedVariables false
set_option linter.unusedSimpArgs false
/- The contracts of Fixed and of Order. -/
namespace Go.Proofs.Ytjafcjnkefioeaa.Inf
open Go.RowKit Go.Shelf Go.Proofs.Ytjafcjnkefioeaa.Oct Go.Proofs.Ytjafcjnkefioeaa.Bit Go.Proofs.Ytjafcjnkefioeaa.Hf
set_option maxRecDepth 100000
def castZ (L : List Nat) : List Int := L.map fun n : Nat => (n : Int)
theorem castZ_length (L : List Nat) : (castZ L).length = L.length := by simp [castZ]
theorem rep_step (w0 w : World) (hb : Below w0.heap.size w0 w) (z N : Int) (n : Nat) (hN : N = (n : Int)) (h1 : 1 ≤ n) (hn : n ≤ 1000) :
    Calls Try.prog 36 #[.slice (some ⟨w.heap.size, 0, none⟩) 1 1, .int .i64 N] (w.alloc (.cells #[.int .i64 z] 3)) fun e w' => ∃ b, e = .returned (.slice (some ⟨b, 0, none⟩) n n) ∧ Below w0.heap.size w0 w' ∧ Below w.heap.size w w' ∧ VRow w' w'.heap.size (some ⟨b, 0, none⟩) (ints (List.replicate n z)) := by
  subst hN
  have hba : Below w.heap.size w (w.alloc (.cells #[.int .i64 z] 3)) := (Below.refl _ w).alloc (Nat.le_refl _) _
  have hv : VRow (w.alloc (.cells #[.int .i64 z] 3)) (w.alloc (.cells #[.int .i64 z] 3)).heap.size (some ⟨w.heap.size, 0, none⟩) (ints [z]) := vrow_blk (vs := ints [z]) (T := 3) (fr := (0, 0)) (Array.getElem?_push_size) (by simp)
  refine (repI_any _ 1 z n _ hv h1 hn).mono ?_
  rintro e w' ⟨rfl, hb2, hv2⟩
  have h3 : Below w.heap.size w w' := hba.trans (hb2.mono (by simp))
  exact ⟨_, rfl, hb.trans (h3.mono hb.size), h3, hv2⟩
def FixdP (w : World) (e : Ending) (w' : World) : Prop :=
  Below w.heap.size w w' ∧ ∃ q c r d, e = .returned (.tuple #[.slice q 288 c, .slice r 30 d]) ∧ VRow w' w'.heap.size q (ints (castZ fixedA)) ∧ (q = none → c = 0) ∧ VRow w' w'.heap.size r (ints (castZ fixedB)) ∧ (r = none → d = 0)
theorem fixedA_flat : ([List.replicate 144 8, List.replicate 112 9, List.replicate 24 7, List.replicate 8 8] : List (List Int)).flatten = castZ fixedA := by decide +kernel
theorem fixedB_flat : (List.replicate 30 5 : List Int) = castZ fixedB := by decide +kernel
set_option maxHeartbeats 1000000 in
theorem fixed_any (w : World) : Calls Try.prog 20 #[] w (FixdP w) := by
  go_enter Try.func20, Try.ntmps20
  go_wp2_with fail
  refine (rep_step w w (Below.refl _ _) 8 144 144 rfl (by omega) (by omega)).mono ?_
  rintro e w1 ⟨b1, rfl, hB1, _, hv1⟩
  have HB1 := Lib.hid hB1
  have HV1 := Lib.hid hv1
  clear hB1 hv1
  go_wp2_with fail
  refine (rep_step w w1 HB1.out 9 112 112 rfl (by omega) (by omega)).mono ?_
  rintro e w2 ⟨b2, rfl, hB2, hb2, hv2⟩
  have HB2 := Lib.hid hB2
  have HV2 := Lib.hid hv2
  have HV12 := Lib.hid ((HV1.out.below hb2 (Nat.le_refl _)).mono hb2.size)
  clear hB2 hv2 hb2
  go_wp2_with fail
  refine (rep_step w w2 HB2.out 7 24 24 rfl (by omega) (by omega)).mono ?_
  rintro e w3 ⟨b3, rfl, hB3, hb3, hv3⟩
  have HB3 := Lib.hid hB3
  have HV3 := Lib.hid hv3
  have HV13 := Lib.hid ((HV12.out.below hb3 (Nat.le_refl _)).mono hb3.size)
  have HV23 := Lib.hid ((HV2.out.below hb3 (Nat.le_refl _)).mono hb3.size)
  clear hB3 hv3 hb3
  go_wp2_with fail
  refine (rep_step w w3 HB3.out 8 8 8 rfl (by omega) (by omega)).mono ?_
  rintro e w4 ⟨b4, rfl, hB4, hb4, hv4⟩
  have HB4 := Lib.hid hB4
  obtain ⟨w5, hw5⟩ : ∃ w5, w5 = w4.alloc (.cells #[.slice (some ⟨b1, 0, none⟩) 144 144, .slice (some ⟨b2, 0, none⟩) 112 112, .slice (some ⟨b3, 0, none⟩) 24 24, .slice (some ⟨b4, 0, none⟩) 8 8] 51) := ⟨_, rfl⟩
  have hb5 : Below w4.heap.size w4 w5 := by rw [hw5]; exact (Below.refl _ w4).alloc (Nat.le_refl _) _
  have hblk : w5.heap[w4.heap.size]? = some (.cells #[.slice (some ⟨b1, 0, none⟩) 144 144, .slice (some ⟨b2, 0, none⟩) 112 112, .slice (some ⟨b3, 0, none⟩) 24 24, .slice (some ⟨b4, 0, none⟩) 8 8] 51 (0, 0)) := by rw [hw5]; exact Array.getElem?_push_size
  have hrows : RowsAt w5 w4.heap.size [List.replicate 144 8, List.replicate 112 9, List.replicate 24 7, List.replicate 8 8] := by
    have lift : ∀ {p : Option Addr} {vs : List Value}, VRow w4 w4.heap.size p vs → VRow w5 w5.heap.size p vs := fun h => (h.below hb5 (Nat.le_refl _)).mono hb5.size
    intro k hk
    match k, hk with
    | 0, _ => exact ⟨some ⟨b1, 0, none⟩, 144, by simp [World.cell?, hblk], lift ((HV13.out.below hb4 (Nat.le_refl _)).mono hb4.size), (fun h => by cases h), by simp⟩
    | 1, _ => exact ⟨some ⟨b2, 0, none⟩, 112, by simp [World.cell?, hblk], lift ((HV23.out.below hb4 (Nat.le_refl _)).mono hb4.size), (fun h => by cases h), by simp⟩
    | 2, _ => exact ⟨some ⟨b3, 0, none⟩, 24, by simp [World.cell?, hblk], lift ((HV3.out.below hb4 (Nat.le_refl _)).mono hb4.size), (fun h => by cases h), by simp⟩
    | 3, _ => exact ⟨some ⟨b4, 0, none⟩, 8, by simp [World.cell?, hblk], lift hv4, (fun h => by cases h), by simp⟩
  have HCAT := Lib.hid (concatI_any w4.heap.size 4 _ w5 (by rw [hw5]; simp) hrows (by simp) (by simp))
  have HB5 := Lib.hid (HB4.out.trans (hb5.mono HB4.out.size))
  have HW5 := Lib.hid hw5
  clear hB4 hv4 hb4 hb5 hblk hrows hw5
  go_wp2_with fail
  rw [← HW5.out]
  refine HCAT.out.mono ?_
  rintro e w6 ⟨v, rfl, ho, hb6⟩
  rw [fixedA_flat] at ho
  obtain ⟨q, c, rfl, hq0, hqc, hqm, hqr, _⟩ := vrow_own ho (ints_length _)
  have HB6 := Lib.hid (HB5.out.trans (hb6.mono HB5.out.size))
  have HQ := Lib.hid hqr
  have HQ0 := Lib.hid hq0
  clear ho hb6 hqr hq0 hqc hqm
  go_wp2_with fail
  refine (rep_step w w6 HB6.out 5 30 30 rfl (by omega) (by omega)).mono ?_
  rintro e w7 ⟨b7, rfl, hB7, hb7, hv7⟩
  have HB7 := Lib.hid hB7
  have HV7 := Lib.hid hv7
  have HQ7 := Lib.hid ((HQ.out.below hb7 (Nat.le_refl _)).mono hb7.size)
  clear hB7 hv7 hb7
  go_wp2_with fail
  go_ret2
  exact ⟨HB7.out, q, c, _, _, rfl, HQ7.out, HQ0.out, by rw [← fixedB_flat]; exact HV7.out, fun h => by cases h⟩
def OrdP (w : World) (e : Ending) (w' : World) : Prop := e = .returned (.slice (some ⟨w.heap.size, 0, none⟩) 19 19) ∧ Below w.heap.size w w' ∧ VRow w' w'.heap.size (some ⟨w.heap.size, 0, none⟩) (ints (castZ order))
theorem order_any (w : World) : Calls Try.prog 71 #[] w (OrdP w) := by
  go_enter Try.func71, Try.ntmps71
  go_wp2_with fail
  go_ret
  exact ⟨rfl, (Below.refl _ w).alloc (Nat.le_refl _) _, vrow_blk (vs := ints (castZ order)) (T := 3) (fr := (0, 0)) (Array.getElem?_push_size) (by simp)⟩
end Go.Proofs.Ytjafcjnkefioeaa.Inf
/- The contracts of bases, Lens and Dists. -/
namespace Go.Proofs.Ytjafcjnkefioeaa.Inf
open Go.RowKit Go.Shelf Go.Proofs.Ytjafcjnkefioeaa.Oct Go.Proofs.Ytjafcjnkefioeaa.Bit Go.Proofs.Ytjafcjnkefioeaa.Hf
set_option maxRecDepth 100000
def exN (g i : Nat) : Nat := i / g - 1
def frN (f g : Nat) : Nat → Nat
  | 0 => f
  | k + 1 => frN f g k + 2 ^ exN g k
def tabN (f g n : Nat) : List (Nat × Nat) := (List.range n).map fun i => (frN f g i, exN g i)
def bcells : List (Nat × Nat) → List Value
  | [] => []
  | x :: r => .int .i64 (x.1 : Int) :: .int .i64 (x.2 : Int) :: bcells r
theorem bcells_append : ∀ a b : List (Nat × Nat), bcells (a ++ b) = bcells a ++ bcells b
  | [], b => rfl
  | x :: r, b => by simp [bcells, bcells_append r b]
theorem bcells_length : ∀ a : List (Nat × Nat), (bcells a).length = a.length * 2
  | [] => rfl
  | x :: r => by simp [bcells, bcells_length r]; omega
theorem bcells_get : ∀ (a : List (Nat × Nat)) (i : Nat) (x : Nat × Nat), a[i]? = some x → (bcells a)[i * 2]? = some (.int .i64 (x.1 : Int)) ∧ (bcells a)[i * 2 + 1]? = some (.int .i64 (x.2 : Int))
  | [], i, x, h => by cases h
  | y :: r, 0, x, h => by
    injection h with h
    subst h
    exact ⟨rfl, rfl⟩
  | y :: r, i + 1, x, h => by
    have := bcells_get r i x h
    rw [show (i + 1) * 2 = i * 2 + 1 + 1 from by omega]
    exact this
theorem bcells_set : ∀ (a : List (Nat × Nat)) (i : Nat) (x : Nat × Nat), ((bcells a).set (i * 2) (.int .i64 (x.1 : Int))).set (i * 2 + 1) (.int .i64 (x.2 : Int)) = bcells (a.set i x)
  | [], i, x => by simp [bcells]
  | y :: r, 0, x => rfl
  | y :: r, i + 1, x => by
    have := bcells_set r i x
    rw [show (i + 1) * 2 = i * 2 + 1 + 1 from by omega]
    simp only [bcells, List.set_cons_succ]
    rw [this]
def fillB (ps : List (Nat × Nat)) (k : Nat) : List (Nat × Nat) := ps.take k ++ List.replicate (ps.length - k) (0, 0)
theorem fillB_length (ps : List (Nat × Nat)) (k : Nat) (h : k ≤ ps.length) : (fillB ps k).length = ps.length := by simp [fillB]; omega
theorem fillB_step (ps : List (Nat × Nat)) (k : Nat) (h : k < ps.length) : (fillB ps k).set k ps[k] = fillB ps (k + 1) := by
  unfold fillB
  rw [List.set_append, if_neg (by simp; omega)]
  rw [List.take_succ_eq_append_getElem h, List.append_assoc]
  congr 1
  rw [List.length_take, Nat.min_eq_left (Nat.le_of_lt h), Nat.sub_self, show ps.length - k = (ps.length - (k + 1)) + 1 from by omega, List.replicate_succ]
  rfl
theorem blk_set8 {w : World} {g : Nat} {vs : List Value} {T : TypeId} {fr : Nat × Nat} (h : w.heap[g]? = some (.cells vs.toArray T fr)) (i : Nat) (u : Value) : (w.setCell ⟨g, i, none⟩ u).heap[g]? = some (.cells (vs.set i u).toArray T fr) := by
  simp [World.setCell, Array.getElem?_modify, h]
theorem Try.infoBase : (Try.prog.info? 45).map (fun i => (i.zero, i.size, i.bytes)) = some (some (.agg #[.int .i64 0, .int .i64 0]), 2, 16) := by kernel_rfl
theorem made_base (n : Nat) : (madeCells #[Value.int .i64 0, .int .i64 0] (n * 2)).toList = bcells (List.replicate n (0, 0)) := by
  have h1 : ∀ (m : Nat) (j : Nat), (bcells (List.replicate m (0, 0)))[j]? = if j < m * 2 then some (.int .i64 0) else none := by
    intro m
    induction m with
    | zero => intro j; simp [bcells]
    | succ m ih =>
      intro j
      rw [List.replicate_succ, bcells]
      match j with
      | 0 => simp
      | 1 => rw [List.getElem?_cons_succ, List.getElem?_cons_zero, if_pos (by omega)]; rfl
      | j + 2 =>
        rw [List.getElem?_cons_succ, List.getElem?_cons_succ, ih j]
        by_cases h : j < m * 2
        · rw [if_pos h, if_pos (by omega)]
        · rw [if_neg h, if_neg (by omega)]
  apply List.ext_getElem?
  intro j
  rw [h1]
  by_cases h : j < n * 2
  · rw [if_pos h]
    have h2 : j % 2 = 0 ∨ j % 2 = 1 := by omega
    rcases h2 with h2 | h2 <;> simp [madeCells, h2, h]
  · rw [if_neg h]
    simp [madeCells, h]
theorem blk_two {w : World} {B T n g : Nat} {xs : List Value} (h : w.ownsRow B T 2 (.slice (some ⟨g, 0, none⟩) n n) n xs) : w.heap[g]? = some (.cells xs.toArray T (0, 0)) := by
  rcases h.2 with ⟨hv, _⟩ | ⟨g', cap, cur, hv, _, hh, _, _, hs, ht⟩
  · cases hv
  · injection hv with e1 _ e3
    injection e1 with e1
    injection e1 with e1
    subst e1
    subst e3
    have e : cur = xs.toArray := by
      rw [← ht, List.take_of_length_le (by simp [hs])]
    rw [hh, e]
def BasP (w : World) (L : List (Nat × Nat)) (e : Ending) (w' : World) : Prop :=
  ∃ v, e = .returned v ∧ Below w.heap.size w w' ∧ w'.ownsRow w.heap.size 45 2 v L.length (bcells L)
def BasSt (w : World) (H : Nat) (L : List (Nat × Nat)) (k : Nat) (wr : World) : Prop := Below w.heap.size w wr ∧ wr.heap[H]? = some (.cells (bcells (fillB L k)).toArray 45 (0, 0))
theorem w64_small (z : Int) (h0 : 0 ≤ z) (h1 : z ≤ 1000000) : wrap64 z = z := by
  unfold wrap64
  omega
theorem pow_small (x : Nat) (hx : x ≤ 13) : ∃ y : Nat, (2 : Int) ^ x = (y : Int) ∧ 2 ^ x = y ∧ y ≤ 8192 := by
  refine ⟨2 ^ x, by simp, rfl, ?_⟩
  have hb : (2 : Nat) ^ x ≤ 2 ^ 13 := Nat.pow_le_pow_right (by omega) hx
  exact Nat.le_trans hb (by decide)
theorem add_pow (fr x n : Nat) (hf : fr ≤ 100000) (hx : x ≤ 13) (hn : n = fr + 2 ^ x) : wrap64 ((fr : Int) + wrap64 ((2 : Int) ^ x)) = (n : Int) := by
  obtain ⟨y, h1, h2, h3⟩ := pow_small x hx
  rw [h2] at hn
  rw [h1, w64_small (y : Int) (by omega) (by omega), w64_small _ (by omega) (by omega)]
  omega
theorem frN_bd_near : ∀ k, k ≤ 28 → frN 3 4 k ≤ 100000 := by decide +kernel
theorem frN_bd_far : ∀ k, k ≤ 30 → frN 1 2 k ≤ 100000 := by decide +kernel
set_option maxHeartbeats 1000000 in
theorem bases_near (w : World) : Calls Try.prog 15 #[.int .i64 3, .int .i64 4, .int .i64 28] w (BasP w (tabN 3 4 28)) := by
  obtain ⟨i0, hi, hz0, hz1, hz2⟩ := info_parts Try.infoBase
  go_enter Try.func15, Try.ntmps15
  go_wp2_with (at_make; refine wpList_make_full _ rfl _ _ 32 rfl w.heap.size 45 i0 (.agg #[.int .i64 0, .int .i64 0]) 2 Try.underlying32 hi hz0 hz1 .i64 .i64 28 28 28 rfl rfl rfl rfl ?c2 ?c3 ?c4 ?_)
  case c2 => rw [hz2]; omega
  case c3 => unfold maxLen; omega
  case c4 => omega
  intro w1 hown hgrow
  have hb1 : Below w.heap.size w w1 := (Below.refl _ _).grown hgrow (Nat.le_refl _) (fun k hk => by cases hk)
  obtain ⟨L, hL⟩ : ∃ L, L = tabN 3 4 28 := ⟨_, rfl⟩
  have hLl : L.length = 28 := by rw [hL]; simp [tabN]
  have hrow : w1.heap[w.heap.size]? = some (.cells (bcells (fillB L 0)).toArray 45 (0, 0)) := by
    have h0 : fillB L 0 = List.replicate 28 (0, 0) := by unfold fillB; rw [hLl]; rfl
    rw [h0, ← made_base 28]
    exact blk_two hown
  have HST := Lib.hid (show BasSt w w.heap.size L 0 w1 from ⟨hb1, hrow⟩)
  have HL := Lib.hid hL
  have HLL := Lib.hid hLl
  have hwl : w.heap.size ≤ w.heap.size := Nat.le_refl _
  generalize hH : w.heap.size = H at hown HST ⊢
  have hwl : w.heap.size ≤ H := by omega
  clear hown hgrow hb1 hrow hL hLl hH
  go_wp2_with fail
  go_loopw [0, 8, 9, 14] (fun f u x i wr => ∃ k : Nat, k ≤ 28 ∧ f = .int .i64 ((frN 3 4 k : Nat) : Int) ∧ i = .int .i64 (k : Int) ∧ Hid (BasSt w H L k wr)) (fun f u x i wr => 28 - (intOf i).toNat)
  case atStart => exact ⟨0, by omega, rfl, rfl, HST⟩
  case round =>
    obtain ⟨k, hk, rfl, rfl, HB⟩ := hrel
    by_cases hlt : k < 28
    · have hkL : k < L.length := by rw [HLL.out]; exact hlt
      have hblk := HB.out.2
      have hl1 : (bcells (fillB L k)).length = 28 * 2 := by rw [bcells_length, fillB_length L k (by omega), HLL.out]
      have u0 : wr.cell? ⟨H, k * 2, none⟩ = some ((bcells (fillB L k))[k * 2]'(by omega)) := by simp [World.cell?, hblk, hl1, show k * 2 < 28 * 2 from by omega]
      have u1 : wr.cell? ⟨H, k * 2 + 1, none⟩ = some ((bcells (fillB L k))[k * 2 + 1]'(by omega)) := by simp [World.cell?, hblk, hl1, show k * 2 + 1 < 28 * 2 from by omega]
      have f0 : ∀ i, wr.frozen? ⟨H, i, none⟩ = false := by intro i; simp [World.frozen?, hblk]
      have f00 := f0 (k * 2)
      have f01 := f0 (k * 2 + 1)
      obtain ⟨x, hx⟩ : ∃ x, x = exN 4 k := ⟨_, rfl⟩
      have hx2 : x = k / 4 - 1 := hx
      have hmx : max 0 ((k : Int) / 4 - 1) = (x : Int) := by omega
      have hx13 : x ≤ 13 := by omega
      generalize (bcells (fillB L k))[k * 2]'(by omega) = v0 at u0
      generalize (bcells (fillB L k))[k * 2 + 1]'(by omega) = v1 at u1
      obtain ⟨fr, hfr⟩ : ∃ fr, frN 3 4 k = fr := ⟨_, rfl⟩
      have hnext : frN 3 4 (k + 1) = fr + 2 ^ x := by rw [← hfr, hx]; rfl
      have hgetL : L[k] = (fr, x) := by simp [HL.out, tabN, hfr, hx]
      have hfb : fr ≤ 100000 := by rw [← hfr]; exact frN_bd_near k hk
      have hadd : wrap64 ((fr : Int) + wrap64 ((2 : Int) ^ x)) = ((frN 3 4 (k + 1) : Nat) : Int) := add_pow fr x _ hfb hx13 hnext
      have HNX : Hid (BasSt w H L (k + 1) ((wr.setCell ⟨H, k * 2, none⟩ (.int .i64 (fr : Int))).setCell ⟨H, k * 2 + 1, none⟩ (.int .i64 (x : Int)))) := Lib.hid ⟨(HB.out.1.setCell (p := ⟨H, k * 2, none⟩) hwl _).setCell (p := ⟨H, k * 2 + 1, none⟩) hwl _, by
        have h2 := blk_set8 (blk_set8 hblk (k * 2) (.int .i64 (fr : Int))) (k * 2 + 1) (.int .i64 (x : Int))
        have h3 := bcells_set (fillB L k) k (fr, x)
        simp only at h3
        rw [h3, ← hgetL, fillB_step L k hkL] at h2
        exact h2⟩
      have HADD := Lib.hid hadd
      rw [hfr]
      clear hblk f0 hx2 hx hadd hnext hfr hgetL HB HST hl1
      go_wp2_with fail
      go_roundw
      case rel => exact ⟨k + 1, by omega, by rw [HADD.out], by first | rfl | (push_cast; rfl), HNX⟩
      case measure => simp [intOf]; omega
    · have hkn : k = 28 := by omega
      subst hkn
      have HB2 := HB.out.2
      have hfin : fillB L 28 = L := by
        unfold fillB
        rw [List.take_of_length_le (by rw [HLL.out]; omega), HLL.out]
        simp
      rw [hfin] at HB2
      clear hlt hk
      go_wp2_with fail
      go_ret
      refine ⟨_, rfl, HB.out.1, ?_⟩
      rw [← HL.out, HLL.out]
      exact ⟨by rw [bcells_length, HLL.out], .inr ⟨H, 28, _, rfl, hwl, HB2, Nat.le_refl _, by unfold maxLen; omega, by simp [bcells_length, HLL.out], by rw [List.take_of_length_le (by simp [bcells_length, HLL.out])]⟩⟩
set_option maxHeartbeats 1000000 in
theorem bases_far (w : World) : Calls Try.prog 15 #[.int .i64 1, .int .i64 2, .int .i64 30] w (BasP w (tabN 1 2 30)) := by
  obtain ⟨i0, hi, hz0, hz1, hz2⟩ := info_parts Try.infoBase
  go_enter Try.func15, Try.ntmps15
  go_wp2_with (at_make; refine wpList_make_full _ rfl _ _ 32 rfl w.heap.size 45 i0 (.agg #[.int .i64 0, .int .i64 0]) 2 Try.underlying32 hi hz0 hz1 .i64 .i64 30 30 30 rfl rfl rfl rfl ?c2 ?c3 ?c4 ?_)
  case c2 => rw [hz2]; omega
  case c3 => unfold maxLen; omega
  case c4 => omega
  intro w1 hown hgrow
  have hb1 : Below w.heap.size w w1 := (Below.refl _ _).grown hgrow (Nat.le_refl _) (fun k hk => by cases hk)
  obtain ⟨L, hL⟩ : ∃ L, L = tabN 1 2 30 := ⟨_, rfl⟩
  have hLl : L.length = 30 := by rw [hL]; simp [tabN]
  have hrow : w1.heap[w.heap.size]? = some (.cells (bcells (fillB L 0)).toArray 45 (0, 0)) := by
    have h0 : fillB L 0 = List.replicate 30 (0, 0) := by unfold fillB; rw [hLl]; rfl
    rw [h0, ← made_base 30]
    exact blk_two hown
  have HST := Lib.hid (show BasSt w w.heap.size L 0 w1 from ⟨hb1, hrow⟩)
  have HL := Lib.hid hL
  have HLL := Lib.hid hLl
  have hwl : w.heap.size ≤ w.heap.size := Nat.le_refl _
  generalize hH : w.heap.size = H at hown HST ⊢
  have hwl : w.heap.size ≤ H := by omega
  clear hown hgrow hb1 hrow hL hLl hH
  go_wp2_with fail
  go_loopw [0, 8, 9, 14] (fun f u x i wr => ∃ k : Nat, k ≤ 30 ∧ f = .int .i64 ((frN 1 2 k : Nat) : Int) ∧ i = .int .i64 (k : Int) ∧ Hid (BasSt w H L k wr)) (fun f u x i wr => 30 - (intOf i).toNat)
  case atStart => exact ⟨0, by omega, rfl, rfl, HST⟩
  case round =>
    obtain ⟨k, hk, rfl, rfl, HB⟩ := hrel
    by_cases hlt : k < 30
    · have hkL : k < L.length := by rw [HLL.out]; exact hlt
      have hblk := HB.out.2
      have hl1 : (bcells (fillB L k)).length = 30 * 2 := by rw [bcells_length, fillB_length L k (by omega), HLL.out]
      have u0 : wr.cell? ⟨H, k * 2, none⟩ = some ((bcells (fillB L k))[k * 2]'(by omega)) := by simp [World.cell?, hblk, hl1, show k * 2 < 30 * 2 from by omega]
      have u1 : wr.cell? ⟨H, k * 2 + 1, none⟩ = some ((bcells (fillB L k))[k * 2 + 1]'(by omega)) := by simp [World.cell?, hblk, hl1, show k * 2 + 1 < 30 * 2 from by omega]
      have f0 : ∀ i, wr.frozen? ⟨H, i, none⟩ = false := by intro i; simp [World.frozen?, hblk]
      have f00 := f0 (k * 2)
      have f01 := f0 (k * 2 + 1)
      obtain ⟨x, hx⟩ : ∃ x, x = exN 2 k := ⟨_, rfl⟩
      have hx2 : x = k / 2 - 1 := hx
      have hmx : max 0 ((k : Int) / 2 - 1) = (x : Int) := by omega
      have hx13 : x ≤ 13 := by omega
      generalize (bcells (fillB L k))[k * 2]'(by omega) = v0 at u0
      generalize (bcells (fillB L k))[k * 2 + 1]'(by omega) = v1 at u1
      obtain ⟨fr, hfr⟩ : ∃ fr, frN 1 2 k = fr := ⟨_, rfl⟩
      have hnext : frN 1 2 (k + 1) = fr + 2 ^ x := by rw [← hfr, hx]; rfl
      have hgetL : L[k] = (fr, x) := by simp [HL.out, tabN, hfr, hx]
      have hfb : fr ≤ 100000 := by rw [← hfr]; exact frN_bd_far k hk
      have hadd : wrap64 ((fr : Int) + wrap64 ((2 : Int) ^ x)) = ((frN 1 2 (k + 1) : Nat) : Int) := add_pow fr x _ hfb hx13 hnext
      have HNX : Hid (BasSt w H L (k + 1) ((wr.setCell ⟨H, k * 2, none⟩ (.int .i64 (fr : Int))).setCell ⟨H, k * 2 + 1, none⟩ (.int .i64 (x : Int)))) := Lib.hid ⟨(HB.out.1.setCell (p := ⟨H, k * 2, none⟩) hwl _).setCell (p := ⟨H, k * 2 + 1, none⟩) hwl _, by
        have h2 := blk_set8 (blk_set8 hblk (k * 2) (.int .i64 (fr : Int))) (k * 2 + 1) (.int .i64 (x : Int))
        have h3 := bcells_set (fillB L k) k (fr, x)
        simp only at h3
        rw [h3, ← hgetL, fillB_step L k hkL] at h2
        exact h2⟩
      have HADD := Lib.hid hadd
      rw [hfr]
      clear hblk f0 hx2 hx hadd hnext hfr hgetL HB HST hl1
      go_wp2_with fail
      go_roundw
      case rel => exact ⟨k + 1, by omega, by rw [HADD.out], by first | rfl | (push_cast; rfl), HNX⟩
      case measure => simp [intOf]; omega
    · have hkn : k = 30 := by omega
      subst hkn
      have HB2 := HB.out.2
      have hfin : fillB L 30 = L := by
        unfold fillB
        rw [List.take_of_length_le (by rw [HLL.out]; omega), HLL.out]
        simp
      rw [hfin] at HB2
      clear hlt hk
      go_wp2_with fail
      go_ret
      refine ⟨_, rfl, HB.out.1, ?_⟩
      rw [← HL.out, HLL.out]
      exact ⟨by rw [bcells_length, HLL.out], .inr ⟨H, 30, _, rfl, hwl, HB2, Nat.le_refl _, by unfold maxLen; omega, by simp [bcells_length, HLL.out], by rw [List.take_of_length_le (by simp [bcells_length, HLL.out])]⟩⟩
def pairsN (far : Bool) : List (Nat × Nat) := (froms far).zip (extras far)
theorem near_pairs : tabN 3 4 28 ++ [(258, 0)] = pairsN false := by decide +kernel
theorem far_pairs : tabN 1 2 30 = pairsN true := by decide +kernel
theorem pairs_get : ∀ far : Bool, ∀ i, i < (froms far).length → (pairsN far)[i]? = some ((froms far).getD i 0, (extras far).getD i 0) := by decide +kernel
def TabP (w : World) (far : Bool) (e : Ending) (w' : World) : Prop :=
  ∃ v, e = .returned v ∧ Below w.heap.size w w' ∧ w'.ownsRow w.heap.size 45 2 v (froms far).length (bcells (pairsN far))
theorem dists_any (w : World) : Calls Try.prog 9 #[] w (TabP w true) := by
  go_enter Try.func9, Try.ntmps9
  go_wp2_with fail
  refine (bases_far w).mono ?_
  rintro e w1 ⟨v, rfl, hb, ho⟩
  go_wp2_with fail
  go_ret
  rw [far_pairs] at ho
  exact ⟨v, rfl, hb, ho⟩
set_option maxHeartbeats 1000000 in
theorem lens_any (w : World) : Calls Try.prog 8 #[] w (TabP w false) := by
  obtain ⟨i0, hi, hz0, hz1, hz2⟩ := info_parts Try.infoBase
  go_enter Try.func8, Try.ntmps8
  go_wp2_with fail
  refine (bases_near w).mono ?_
  rintro e w1 ⟨v, rfl, hb, ho⟩
  rw [show (tabN 3 4 28).length = 28 from by simp [tabN]] at ho
  have hba : Below w1.heap.size w1 (w1.alloc (.cells #[.int .i64 258, .int .i64 0] 45)) := (Below.refl _ w1).alloc (Nat.le_refl _) _
  have hblk : (w1.alloc (.cells #[.int .i64 258, .int .i64 0] 45)).heap[w1.heap.size]? = some (.cells #[.int .i64 258, .int .i64 0] 45 (0, 0)) := Array.getElem?_push_size
  have hnews := World.news_of_block hblk
  have hoa : (w1.alloc (.cells #[.int .i64 258, .int .i64 0] 45)).ownsRow w.heap.size 45 2 v 28 (bcells (tabN 3 4 28)) := by
    refine ⟨ho.1, ?_⟩
    rcases ho.2 with hn | ⟨g, cap, cur, rfl, hbs, hh, r⟩
    · exact .inl hn
    · have hlt : g < w1.heap.size := by
        rcases Nat.lt_or_ge g w1.heap.size with hlt | hge
        · exact hlt
        · rw [Array.getElem?_eq_none hge] at hh; cases hh
      exact .inr ⟨g, cap, cur, rfl, hbs, (hba.block g hlt).trans hh, r⟩
  have HB := Lib.hid (hb.trans (hba.mono hb.size))
  have HO := Lib.hid hoa
  have HNW := Lib.hid hnews
  have HBZ := Lib.hid HB.out.size
  clear hb ho hba hblk hnews hoa
  go_wp2_with (at_builtin; refine wpList_append_lies _ rfl _ _ 32 rfl w.heap.size 45 i0 (.agg #[.int .i64 0, .int .i64 0]) 2 16 Try.underlying32 hi hz0 hz1 hz2 rfl (by decide) v 28 (bcells (tabN 3 4 28)) rfl HO.out ⟨w1.heap.size, 0, none⟩ 1 1 [.int .i64 258, .int .i64 0] rfl rfl HNW.out (by intro u hu; simp at hu; rcases hu with rfl | rfl <;> rfl) (by decide) (by unfold maxLen; omega) (by omega) HBZ.out _ rfl ?_)
  intro g1 cap1 w2 hown2 hgrow2 _ _
  have hb2 := (Below.refl w.heap.size (w1.alloc (.cells #[.int .i64 258, .int .i64 0] 45))).grown hgrow2 HBZ.out (fun k hk => (HO.out.lt k hk).1)
  have HB2 := Lib.hid (HB.out.trans hb2)
  have HO2 := Lib.hid hown2
  clear hown2 hgrow2 hb2
  go_wp2_with fail
  go_ret
  refine ⟨_, rfl, HB2.out, ?_⟩
  rw [← near_pairs, bcells_append]
  exact HO2.out
end Go.Proofs.Ytjafcjnkefioeaa.Inf
/- Blocks with a lower bound, and with enough rounds; what is cut off, and what stands behind; no program in sight. -/
namespace Go.Proofs.Ytjafcjnkefioeaa.Inf
open Go.Proofs.Ytjafcjnkefioeaa.Bit Go.Proofs.Ytjafcjnkefioeaa.Hf
/- enough rounds -/
theorem then_congr {α β : Type} {x : R α} {f g : α → Nat → R β} (h : ∀ v a, x = .ok (v, a) → f v a = g v a) : x.then f = x.then g := by
  cases x with
  | error e => rfl
  | ok v => exact h v.1 v.2 rfl
theorem withW_congr {β : Type} {x : Except Nat (List (List Bool))} {f g : List (List Bool) → R β} (h : ∀ W, f W = g W) : withW x f = withW x g := by
  cases x with
  | error e => rfl
  | ok v => exact h v
theorem Hon.le {α : Type} {at_ : Nat} {p : List Bool → R α} (h : Hon at_ p) {L : List Bool} (hL : at_ ≤ L.length) {v : α} {a : Nat} (e : p L = .ok (v, a)) : at_ ≤ a ∧ a ≤ L.length := (h L hL).1 v a e
theorem block_fuel (A B : List (List Bool)) (L : List Bool) (most : Nat) : ∀ (f g at_ : Nat) (out : List UInt8), at_ ≤ L.length → L.length < f + at_ → L.length < g + at_ → blockR A B L most f at_ out = blockR A B L most g at_ out
  | 0, g, at_, out, h, hf, hg => by omega
  | f + 1, 0, at_, out, h, hf, hg => by omega
  | f + 1, g + 1, at_, out, h, hf, hg => by
    rw [blockR, blockR]
    refine then_congr fun v a hv => ?_
    have h1 := next_lt hv
    have h2 := (hon_next A at_).le h hv
    split
    · rfl
    · split
      · split
        · rfl
        · exact block_fuel A B L most f g a _ h2.2 (by omega) (by omega)
      · refine then_congr fun n b hb => ?_
        have h3 := (hon_number false _ a).le h2.2 hb
        refine then_congr fun k c hc => ?_
        have h4 := (hon_next B b).le h3.2 hc
        refine then_congr fun d e he => ?_
        have h5 := (hon_number true k c).le h4.2 he
        split
        · rfl
        · split
          · rfl
          · exact block_fuel A B L most f g e _ h5.2 (by omega) (by omega)
theorem num_at {L : List Bool} {at_ n v a : Nat} (h : numR L at_ n = .ok (v, a)) : a = at_ + n := by
  unfold numR at h
  split at h
  · cases h; rfl
  · cases h
theorem one_fuel (L : List Bool) (most f g h at_ : Nat) (out : List UInt8) (ha : at_ ≤ L.length) (hf : L.length < f + at_) (hg : L.length < g + at_) : oneR L most f h at_ out = oneR L most g h at_ out := by
  unfold oneR
  split
  · rfl
  · split
    · exact block_fuel _ _ L most f g at_ out ha hf hg
    · split
      · unfold toldR
        refine then_congr fun n a hn => ?_
        have h1 := (hon_three at_).le ha hn
        split
        · rfl
        · refine then_congr fun l b hb => ?_
          have h2 := (hon_meta _ 0 a _).le h1.2 hb
          refine withW_congr fun W => then_congr fun all c hc => ?_
          have h3 := (hon_lens W _ _ b []).le h2.2 hc
          split
          · rfl
          · exact withW_congr fun A => withW_congr fun B => block_fuel A B L most f g c out h3.2 (by omega) (by omega)
      · rfl
theorem infl_fuel (L : List Bool) (most g1 g2 : Nat) (hg1 : L.length < g1) (hg2 : L.length < g2) : ∀ (f g at_ : Nat) (out : List UInt8), at_ ≤ L.length → L.length < f + at_ → L.length < g + at_ → inflR L most g1 f at_ out = inflR L most g2 g at_ out
  | 0, g, at_, out, h, hf, hg => by omega
  | f + 1, 0, at_, out, h, hf, hg => by omega
  | f + 1, g + 1, at_, out, h, hf, hg => by
    rw [inflR, inflR]
    refine then_congr fun v a hv => ?_
    have h1 := num_at hv
    have h2 := (hon_num at_ 3).le h hv
    rw [one_fuel L most g1 g2 v a out h2.2 (by omega) (by omega)]
    refine then_congr fun o b hb => ?_
    have h3 := (hon_one most g2 v a out).le h2.2 hb
    split
    · rfl
    · exact infl_fuel L most g1 g2 hg1 hg2 f g b o h3.2 (by omega) (by omega)
end Go.Proofs.Ytjafcjnkefioeaa.Inf
/- Blocks without a count of rounds: one round at a time; no program in sight. -/
namespace Go.Proofs.Ytjafcjnkefioeaa.Inf
open Go.Proofs.Ytjafcjnkefioeaa.Bit Go.Proofs.Ytjafcjnkefioeaa.Hf
def blockA (A B : List (List Bool)) (L : List Bool) (most at_ : Nat) (out : List UInt8) : R (List UInt8) := blockR A B L most (L.length + 1 - at_) at_ out
theorem blockA_of (A B : List (List Bool)) (L : List Bool) (most f at_ : Nat) (out : List UInt8) (h : at_ ≤ L.length) (hf : L.length < f + at_) : blockR A B L most f at_ out = blockA A B L most at_ out :=
  block_fuel A B L most f _ at_ out h hf (by omega)
theorem blockA_eq (A B : List (List Bool)) (L : List Bool) (most at_ : Nat) (out : List UInt8) (h : at_ ≤ L.length) : blockA A B L most at_ out = (nextR A L at_).then fun v a =>
    if v = 256 then .ok (out, a)
    else if v < 256 then (if most ≤ out.length then .error 8 else blockA A B L most a (out ++ [UInt8.ofNat v]))
    else (numberR false L (v - 257) a).then fun n a => (nextR B L a).then fun k a => (numberR true L k a).then fun d a =>
      if out.length < d then .error 3 else if most < out.length + n then .error 8 else blockA A B L most a (copyN out d n) := by
  unfold blockA
  rw [show L.length + 1 - at_ = (L.length - at_) + 1 from by omega, blockR]
  refine then_congr fun v a hv => ?_
  have h1 := next_lt hv
  have h2 := (hon_next A at_).le h hv
  split
  · rfl
  · split
    · split
      · rfl
      · exact block_fuel A B L most _ _ a _ h2.2 (by omega) (by omega)
    · refine then_congr fun n b hb => ?_
      have h3 := (hon_number false _ a).le h2.2 hb
      refine then_congr fun k c hc => ?_
      have h4 := (hon_next B b).le h3.2 hc
      refine then_congr fun d e he => ?_
      have h5 := (hon_number true k c).le h4.2 he
      split
      · rfl
      · split
        · rfl
        · exact block_fuel A B L most _ _ e _ h5.2 (by omega) (by omega)
theorem lens_fuel (W : List (List Bool)) (n : Nat) (L : List Bool) : ∀ (f g at_ : Nat) (all : List Nat), n < f + all.length → n < g + all.length → 1 ≤ f → 1 ≤ g → lensR W n L f at_ all = lensR W n L g at_ all
  | 0, g, at_, all, hf, hg, h1, h2 => by omega
  | f + 1, 0, at_, all, hf, hg, h1, h2 => by omega
  | f + 1, g + 1, at_, all, hf, hg, h1, h2 => by
    rw [lensR, lensR]
    by_cases hn : n ≤ all.length
    · rw [if_pos hn, if_pos hn]
    · rw [if_neg hn, if_neg hn]
      refine then_congr fun v a hv => ?_
      split
      · rfl
      · refine then_congr fun m b hb => lens_fuel W n L f g b _ ?_ ?_ (by omega) (by omega)
        · have := timesV_pos v
          simp
          omega
        · have := timesV_pos v
          simp
          omega
def lensA (W : List (List Bool)) (n : Nat) (L : List Bool) (at_ : Nat) (all : List Nat) : R (List Nat) := lensR W n L (n + 1 - all.length) at_ all
theorem lensA_end (W : List (List Bool)) (n : Nat) (L : List Bool) (at_ : Nat) (all : List Nat) (h : all.length = n) : lensA W n L at_ all = .ok (all, at_) := by
  unfold lensA
  rw [show n + 1 - all.length = 0 + 1 from by omega, lensR, if_pos (by omega), if_pos h]
theorem lensA_eq (W : List (List Bool)) (n : Nat) (L : List Bool) (at_ : Nat) (all : List Nat) (h : all.length < n) : lensA W n L at_ all = (nextR W L at_).then fun v a =>
    if v = 16 ∧ all = [] then .error 3
    else (numR L a (wideV v)).then fun more a =>
      if n < all.length + (timesV v + more) then .error 3 else lensA W n L a (all ++ List.replicate (timesV v + more) (valueV v all)) := by
  unfold lensA
  rw [show n + 1 - all.length = (n - all.length) + 1 from by omega, lensR, if_neg (by omega)]
  refine then_congr fun v a hv => ?_
  split
  · rfl
  · refine then_congr fun m b hb => ?_
    have := timesV_pos v
    split
    · rename_i hc
      rw [show n - all.length = (n - all.length - 1) + 1 from by omega, lensR, if_pos (by simp; omega), if_neg (by simp; omega)]
    · exact lens_fuel W n L _ _ b _ (by simp; omega) (by simp; omega) (by omega) (by simp; omega)
def toldA (L : List Bool) (most at_ : Nat) (out : List UInt8) : R (List UInt8) :=
  (threeR L at_).then fun n a =>
    if n.1 > 286 ∨ n.2.1 > 30 then .error 3
    else (metaR L n.2.2 0 a (List.replicate 19 0)).then fun l a => withW (wordsR l false) fun W =>
      (lensA W (n.1 + n.2.1) L a []).then fun all a =>
        if all.getD 256 0 = 0 then .error 3
        else withW (wordsR (all.take n.1) false) fun A => withW (wordsR (all.drop n.1) true) fun B => blockA A B L most a out
def oneA (L : List Bool) (most h at_ : Nat) (out : List UInt8) : R (List UInt8) :=
  if h / 2 = 0 then storedR L most at_ out
  else if h / 2 = 1 then blockA (canonW fixedA) (canonW fixedB) L most at_ out
  else if h / 2 = 2 then toldA L most at_ out
  else .error 3
theorem oneA_of (L : List Bool) (most f h at_ : Nat) (out : List UInt8) (ha : at_ ≤ L.length) (hf : L.length < f) : oneR L most f h at_ out = oneA L most h at_ out := by
  unfold oneR oneA
  split
  · rfl
  · split
    · exact blockA_of _ _ L most f at_ out ha (by omega)
    · split
      · unfold toldR toldA
        refine then_congr fun n a hn => ?_
        have h1 := (hon_three at_).le ha hn
        split
        · rfl
        · refine then_congr fun l b hb => ?_
          have h2 := (hon_meta _ 0 a _).le h1.2 hb
          refine withW_congr fun W => then_congr fun all c hc => ?_
          have h3 := (hon_lens W _ _ b []).le h2.2 hc
          split
          · rfl
          · exact withW_congr fun A => withW_congr fun B => blockA_of A B L most f c out h3.2 (by omega)
      · rfl
def inflA (L : List Bool) (most at_ : Nat) (out : List UInt8) : R (List UInt8) := inflR L most (L.length + 1) (L.length + 1 - at_) at_ out
theorem inflA_eq (L : List Bool) (most at_ : Nat) (out : List UInt8) (h : at_ ≤ L.length) : inflA L most at_ out = (numR L at_ 3).then fun v a => (oneA L most v a out).then fun o a =>
    if v % 2 = 1 then .ok (o, a) else inflA L most a o := by
  unfold inflA
  rw [show L.length + 1 - at_ = (L.length - at_) + 1 from by omega, inflR]
  refine then_congr fun v a hv => ?_
  have h1 := num_at hv
  have h2 := (hon_num at_ 3).le h hv
  rw [← oneA_of L most (L.length + 1) v a out h2.2 (by omega)]
  refine then_congr fun o b hb => ?_
  have h3 := (hon_one most (L.length + 1) v a out).le h2.2 hb
  split
  · rfl
  · exact infl_fuel L most _ _ (by omega) (by omega) _ _ b o h3.2 (by omega) (by omega)
theorem inflate_eq (xs : List UInt8) (most : Nat) : inflate xs most = (match inflA (bitsOf true xs) most 0 [] with
    | .ok (o, a) => .ok (o, (a + 7) / 8)
    | .error e => .error e) := by
  unfold inflate inflA
  rw [bitsOf_length, Nat.sub_zero]
  rfl
end Go.Proofs.Ytjafcjnkefioeaa.Inf
/- The contract of a book's Read over numbers, whatever the bits are. -/
namespace Go.Proofs.Ytjafcjnkefioeaa.Hf
open Go.RowKit Go.Proofs.Ytjafcjnkefioeaa.Oct Go.Proofs.Ytjafcjnkefioeaa.Bit Go.Proofs.Ytjafcjnkefioeaa.Inf
set_option maxRecDepth 100000
def wordsU (W : List (List Bool)) : List (List UInt8) := W.map fun m => m.map dig
theorem dig_inj {a b : List Bool} (h : a.map dig = b.map dig) : a = b := by
  have hinj : ∀ a b : Bool, dig a = dig b → a = b := by intro a b; cases a <;> cases b <;> simp [dig]
  exact (List.map_inj_right (f := dig) (fun a b => hinj a b)).1 h
section
variable {W : List (List Bool)} {A : List Bool → Option (Nat × Nat)} {E : List Bool → Option Nat}
end
end Go.Proofs.Ytjafcjnkefioeaa.Hf
/- A decoder of blocks in memory; the contract of literal. -/
namespace Go.Proofs.Ytjafcjnkefioeaa.Inf
open Go.RowKit Go.Proofs.Ytjafcjnkefioeaa.Oct Go.Proofs.Ytjafcjnkefioeaa.Bit Go.Proofs.Ytjafcjnkefioeaa.Hf
set_option maxRecDepth 100000
def places (n : Nat) : List Value := ints ((List.range n).map fun i : Nat => (i : Int))
structure Kon where
  d : Nat
  gr : Nat
  p : Option Addr
  cap : Nat
  xs : List UInt8
  most : Nat
  bl : Nat
  cl : Nat
  bd : Nat
  cd : Nat
structure Fix where
  B : Nat
  C : Nat
  ga : Nat
  gb : Nat
def TabR (w : World) (b : Nat) (far : Bool) : Prop := ∀ i, i < (froms far).length →
  w.cell? ⟨b, i * 2, none⟩ = some (.int .i64 (((froms far).getD i 0 : Nat) : Int)) ∧ w.cell? ⟨b, i * 2 + 1, none⟩ = some (.int .i64 (((extras far).getD i 0 : Nat) : Int))
section
variable {w w' : World} {K : Kon} {a : Nat} {v : Value} {out : List UInt8} {F : Option Fix}
end
end Go.Proofs.Ytjafcjnkefioeaa.Inf

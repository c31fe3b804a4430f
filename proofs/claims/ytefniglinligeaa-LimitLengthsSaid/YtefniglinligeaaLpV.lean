
/- The document's Serves. -/
import Derived.Test.YtefniglinligeaaLpU
namespace Go.Proofs.Ytefniglinligeaa.Lp
open Go.RowKit Go.Proofs.Ytefniglinligeaa.Oct Go.Proofs.Ytefniglinligeaa.Lm Go.Proofs.Ytefniglinligeaa.Hf
set_option linter.unusedVariables false
set_option linter.unusedSimpArgs false
set_option maxRecDepth 100000

def shK (zs : List Int) (ls : List Nat) (k : Nat) : Nat := sumK (fun i => if 0 < zs.getD i 0 then share (ls.getD i 0) else 0) k
def cnK (zs : List Int) (k : Nat) : Nat := sumK (fun i => if 0 < zs.getD i 0 then 1 else 0) k
theorem shK_succ (zs : List Int) (ls : List Nat) (k : Nat) : shK zs ls (k + 1) = shK zs ls k + (if 0 < zs.getD k 0 then share (ls.getD k 0) else 0) := by
  unfold shK
  simp only [sumK]
theorem cnK_succ (zs : List Int) (k : Nat) : cnK zs (k + 1) = cnK zs k + (if 0 < zs.getD k 0 then 1 else 0) := by
  unfold cnK
  simp only [sumK]
theorem kraft_sum : ∀ (zs : List Int) (ls : List Nat), ls.length = zs.length → kraft (comeL (natsOf zs) ls) = shK zs ls zs.length
  | [], ls, h => by
    have : ls = [] := List.eq_nil_of_length_eq_zero h
    subst this
    rfl
  | z :: zs, [], h => by simp at h
  | z :: zs, l :: ls, h => by
    have ih := kraft_sum zs ls (by simpa using h)
    have e : shK (z :: zs) (l :: ls) (z :: zs).length = (if 0 < z then share l else 0) + shK zs ls zs.length := sumK_shift _ _
    rw [e, ← ih]
    unfold natsOf
    rw [List.map_cons]
    simp only [comeL]
    by_cases h0 : 0 < z
    · rw [if_pos (by omega), if_pos h0, kraft_cons]
    · rw [if_neg (by omega), if_neg h0, Nat.zero_add]
theorem come_sum : ∀ (zs : List Int), (come (natsOf zs)).length = cnK zs zs.length
  | [] => rfl
  | z :: zs => by
    have ih := come_sum zs
    have e : cnK (z :: zs) (z :: zs).length = (if 0 < z then 1 else 0) + cnK zs zs.length := sumK_shift _ _
    rw [e, ← ih]
    unfold come natsOf
    rw [List.map_cons]
    by_cases h0 : 0 < z
    · rw [if_pos h0, List.filter_cons_of_pos (by simp; omega), List.length_cons]; omega
    · rw [if_neg h0, List.filter_cons_of_neg (by simp; omega), Nat.zero_add]
theorem Fine.low {zs : List Int} {most : Nat} {ls : List Nat} (h : Fine zs most ls) (i : Nat) (hi : i < zs.length) (hp : 0 < zs.getD i 0) : 1 ≤ ls.getD i 0 := by
  refine h.least.ok.lo _ (mem_comeL (natsOf zs) ls i (by unfold natsOf; simpa using hi) (by rw [h.len]; exact hi) ?_)
  unfold natsOf
  rw [List.getD_eq_getElem?_getD] at hp ⊢
  rw [List.getElem?_map]
  rw [List.getElem?_eq_getElem hi] at hp ⊢
  have hp : 0 < zs[i] := hp
  show 0 < zs[i].toNat
  omega
theorem Fine.sums {zs : List Int} {most : Nat} {ls : List Nat} (h : Fine zs most ls) (hm : most ≤ 30) : (cnK zs zs.length = 1 → shK zs ls zs.length = 536870912) ∧ (2 ≤ cnK zs zs.length → shK zs ls zs.length = 1073741824) := by
  rw [← come_sum, ← kraft_sum zs ls h.len]
  refine ⟨fun h1 => ?_, fun h2 => h.least.full hm h2 (come_pos _)⟩
  have hl := h.least.ok.len
  have hmin := h.least.min [1]
  have hlo := h.least.ok.lo
  have hhi := h.least.ok.hi
  have hpos := come_pos (natsOf zs)
  revert hl hmin hlo hpos hhi
  generalize comeL (natsOf zs) ls = l
  intro hl hmin hlo hhi hpos
  rcases hc : come (natsOf zs) with _ | ⟨x, _ | ⟨y, t⟩⟩
  · rw [hc] at h1; cases h1
  · rw [hc] at hl hmin hpos
    rcases l with _ | ⟨a, _ | ⟨b, t⟩⟩
    · cases hl
    · have ha := hlo a (by simp)
      have hb := hhi a (by simp)
      have hx := hpos x (by simp)
      have h9 := hmin ⟨rfl, by simp, fun y hy => by simp at hy; omega, by decide⟩
      have e1 : Lm.cost [x] [a] = x * a + 0 := rfl
      have e2 : Lm.cost [x] [1] = x * 1 + 0 := rfl
      rw [e1, e2] at h9
      have ha1 : a = 1 := by
        rcases Nat.lt_or_ge a 2 with h8 | h8
        · omega
        · have : x * 2 ≤ x * a := Nat.mul_le_mul_left x h8
          omega
      subst ha1
      decide
    · simp at hl
  · rw [hc] at h1; simp at h1
theorem shift_facts (l : Nat) (h1 : 1 ≤ l) (h2 : l ≤ 30) : ∃ j x : Nat, IntKind.i64.wrap (30 - (l : Int)) = (j : Int) ∧ wrap64 ((2 : Int) ^ j) = (x : Int) ∧ share l = x ∧ x ≤ 1073741824 ∧ min j 64 = j := by
  refine ⟨30 - l, 2 ^ (30 - l), ?_, ?_, ?_, ?_, by omega⟩
  · rw [IntKind.wrap_i64]; omega
  · have hb : (2 : Nat) ^ (30 - l) ≤ 2 ^ 30 := Nat.pow_le_pow_right (by omega) (by omega)
    have hcast : ((2 : Int) ^ (30 - l)) = ((2 ^ (30 - l) : Nat) : Int) := by simp
    rw [hcast]
    generalize (2 : Nat) ^ (30 - l) = x at hb ⊢
    have h30 : (2 : Nat) ^ 30 = 1073741824 := by decide
    rw [h30] at hb
    unfold wrap64
    omega
  · unfold share
    rfl
  · have hb : (2 : Nat) ^ (30 - l) ≤ 2 ^ 30 := Nat.pow_le_pow_right (by omega) (by omega)
    have h30 : (2 : Nat) ^ 30 = 1073741824 := by decide
    rw [h30] at hb
    exact hb
set_option maxHeartbeats 8000000 in
theorem serves_any (p : Option Addr) (len cap bl cap2 m : Nat) (zs : List Int) (ls : List Nat) (w : World) (hr : VRow w w.heap.size p (ints zs)) (hx : zs.length = len) (hl : VRow w w.heap.size (some ⟨bl, 0, none⟩) (ints (intsOf ls))) (hf : Fine zs m ls) (hok : okB zs (m : Int) = true) :
    Calls Try.prog 11 #[.slice p len cap, .slice (some ⟨bl, 0, none⟩) len cap2, .int .i64 (m : Int)] w fun e w' => e = .returned (.bool true) ∧ Below w.heap.size w w' := by
  obtain ⟨h1, h2, h3, h4⟩ := okB_parts hok
  have hlen := hf.len
  have H0 : Hid (VRow w w.heap.size p (ints zs) ∧ zs.length = len ∧ VRow w w.heap.size (some ⟨bl, 0, none⟩) (ints (intsOf ls)) ∧ Fine zs m ls ∧ ∀ z ∈ zs, 0 ≤ z ∧ z ≤ 1073741824) := ⟨hr, hx, hl, hf, h4⟩
  have hm30 : m ≤ 30 := by omega
  have hl300 : len ≤ 300 := by omega
  clear hr hx hl hf hok h1 h2 h3 h4 hlen
  have hne : ((len : Int) != (len : Int)) = false := by simp
  go_enter Try.func11, Try.ntmps11
  go_wp2
  go_loopg [7, 8, 9] len (fun kx s7 s8 s9 wr => ∃ (k s c : Nat), s9 = .int .i64 (k : Int) ∧ s7 = .int .i64 (s : Int) ∧ s8 = .int .i64 (c : Int) ∧ k ≤ len ∧ len - k ≤ kx ∧ s ≤ k * 1073741824 ∧ c ≤ k ∧ Hid (s = shK zs ls k ∧ c = cnK zs k) ∧ Hid (Below w.heap.size w wr))
  case atStart => exact ⟨0, 0, 0, rfl, rfl, rfl, by omega, by omega, by omega, by omega, ⟨rfl, rfl⟩, (show Hid _ from Below.refl _ _)⟩
  case round =>
    obtain ⟨k, s, c, rfl, rfl, rfl, hk, hkx, hs, hc, HK, HB⟩ := hrel
    by_cases hlt : k < len
    · have hkz : (k : Int) < (len : Int) := by omega
      have hk0 : (0 : Int) ≤ (k : Int) := by omega
      obtain ⟨e1, e2, e3, e4, e5⟩ := H0.out
      obtain ⟨b, off, hp, hbl⟩ := e1.addr (by rw [ints_length]; omega)
      subst hp
      have hll : k < (intsOf ls).length := by unfold intsOf; rw [List.length_map, e4.len]; omega
      obtain ⟨b', o', hp', hbl'⟩ := e3.addr (by rw [ints_length]; omega)
      injection hp' with hp'
      injection hp' with hp1 hp2
      subst hp1; subst hp2
      have q1 := (HB.out.cell (p := ⟨b, off + k, none⟩) hbl).trans (e1.intD k (by omega))
      have q2 := (HB.out.cell (p := ⟨bl, 0 + k, none⟩) hbl').trans (e3.intD k hll)
      rw [getD_ints, Nat.zero_add] at q2
      have hz0 : 0 ≤ zs.getD k 0 := by
        rw [List.getD_eq_getElem?_getD, List.getElem?_eq_getElem (show k < zs.length by omega)]
        exact (e5 _ (List.getElem_mem _)).1
      have HS : Hid (shK zs ls (k + 1) = shK zs ls k + (if 0 < zs.getD k 0 then share (ls.getD k 0) else 0) ∧ cnK zs (k + 1) = cnK zs k + (if 0 < zs.getD k 0 then 1 else 0)) := ⟨shK_succ zs ls k, cnK_succ zs k⟩
      have hlo := fun h => e4.low k (by omega) h
      have hhi := e4.le (fun z hz => (e5 z hz).1) k
      have hzz := e4.zero k (by omega)
      generalize zs.getD k 0 = z at q1 hz0 HS hlo hzz
      generalize ls.getD k 0 = l at q2 HS hlo hhi hzz
      clear e1 e2 e3 e4 e5 hll
      by_cases h0 : 0 < z
      · have d1 : decide (0 < z) = true := decide_eq_true h0
        have hl1 := hlo h0
        have d2 : decide ((l : Int) < 1) = false := decide_eq_false (by omega)
        have d3 : decide ((m : Int) < (l : Int)) = false := decide_eq_false (by omega)
        have d4 : (z == 0) = false := beq_eq_false_iff_ne.2 (by omega)
        obtain ⟨j, x, wj, hw2, hshx, hpw, hj64⟩ := shift_facts l hl1 (by omega)
        have HXX : Hid (share l = x) := hshx
        clear hshx
        have wsum : IntKind.i64.wrap ((s : Int) + (x : Int)) = ((s + x : Nat) : Int) := by rw [IntKind.wrap_i64]; omega
        have wsum2 : wrap64 ((s : Int) + (x : Int)) = ((s + x : Nat) : Int) := by unfold wrap64; omega
        obtain ⟨sx, hsx⟩ : ∃ sx, sx = s + x := ⟨_, rfl⟩
        rw [← hsx] at wsum wsum2
        have hsb : sx ≤ (k + 1) * 1073741824 := by omega
        have HN : Hid (sx = shK zs ls (k + 1) ∧ c + 1 = cnK zs (k + 1)) := by
          have h9 := HS.out
          rw [if_pos h0, if_pos h0, HXX.out, ← HK.out.1, ← HK.out.2] at h9
          exact ⟨by omega, by omega⟩
        clear hlo hzz hsx
        go_wp2
        go_roundg (len - (k + 1))
        case measure => omega
        case rel => exact ⟨k + 1, sx, c + 1, by go_num, rfl, by go_num, by omega, Nat.le_refl _, hsb, by omega, HN, HB⟩
      · have hz : z = 0 := by omega
        subst hz
        have hl0 : l = 0 := hzz rfl
        subst hl0
        have d1 : decide ((0 : Int) < 0) = false := by decide
        have HN : Hid (s = shK zs ls (k + 1) ∧ c = cnK zs (k + 1)) := by
          have h9 := HS.out
          rw [if_neg h0, if_neg h0, ← HK.out.1, ← HK.out.2] at h9
          exact ⟨by omega, by omega⟩
        have hsb : s ≤ (k + 1) * 1073741824 := Nat.le_trans hs (Nat.mul_le_mul_right _ (Nat.le_succ k))
        clear hlo hzz
        go_wp2
        go_roundg (len - (k + 1))
        case measure => omega
        case rel => exact ⟨k + 1, s, c, by go_num, rfl, rfl, by omega, Nat.le_refl _, hsb, by omega, HN, HB⟩
    · have hkz : ¬ (k : Int) < (len : Int) := by omega
      have hkl : k = len := by omega
      subst hkl
      have hsums := H0.out.2.2.2.1.sums hm30
      rw [H0.out.2.1, ← HK.out.1, ← HK.out.2] at hsums
      by_cases c0 : c = 0
      · subst c0
        clear hsums
        go_wp2
        go_ret
        exact ⟨rfl, HB.out⟩
      · have d0 : ((c : Int) == 0) = false := beq_eq_false_iff_ne.2 (by omega)
        by_cases c1 : c = 1
        · have hs1 := hsums.1 c1
          have d1 : ((c : Int) == 1) = true := beq_iff_eq.2 (by omega)
          have d2 : ((s : Int) == 536870912) = true := beq_iff_eq.2 (by omega)
          clear hsums c1 hs1
          go_wp2
          go_ret
          exact ⟨rfl, HB.out⟩
        · have d1 : ((c : Int) == 1) = false := beq_eq_false_iff_ne.2 (by omega)
          have d2 : decide ((1 : Int) < (c : Int)) = true := decide_eq_true (by omega)
          have hs1 := hsums.2 (by omega)
          have d3 : ((s : Int) == 1073741824) = true := beq_iff_eq.2 (by omega)
          have hc1 : 1 < c := by omega
          clear hsums hs1
          go_wp2
          go_ret
          exact ⟨rfl, HB.out⟩
end Go.Proofs.Ytefniglinligeaa.Lp


/- What a cost is in whole numbers; the chapter's example. -/
import Derived.Test.YtefniglinligeaaLpK
namespace Go.Proofs.Ytefniglinligeaa.Lp
open Go.RowKit Go.Proofs.Ytefniglinligeaa.Oct Go.Proofs.Ytefniglinligeaa.Lm
set_option linter.unusedVariables false
set_option linter.unusedSimpArgs false
set_option maxRecDepth 100000

def intsOf (ls : List Nat) : List Int := ls.map fun n : Nat => (n : Int)
theorem nats_ints (ls : List Nat) : nats ls = ints (intsOf ls) := by unfold nats ints intsOf; rw [List.map_map]; rfl
theorem LRow.row {w : World} {bl : Nat} {ls : List Nat} (h : LRow w bl ls) : VRow w w.heap.size (some ⟨bl, 0, none⟩) (ints (intsOf ls)) := by
  rw [← nats_ints]
  exact vrow_blk h h.lt
theorem getD_ints (ls : List Nat) (i : Nat) : (intsOf ls).getD i 0 = ((ls.getD i 0 : Nat) : Int) := by
  unfold intsOf
  rw [List.getD_eq_getElem?_getD, List.getElem?_map, List.getD_eq_getElem?_getD]
  cases ls[i]? <;> rfl
theorem getD_nats {zs : List Int} (h : ∀ z ∈ zs, 0 ≤ z) (i : Nat) : zs.getD i 0 = (((natsOf zs).getD i 0 : Nat) : Int) := by
  unfold natsOf
  rw [List.getD_eq_getElem?_getD, List.getD_eq_getElem?_getD, List.getElem?_map]
  rcases hg : zs[i]? with _ | z
  · rfl
  · have := h z (List.mem_of_getElem? hg)
    simp; omega
theorem mem_comeL : ∀ (o l : List Nat) (i : Nat), i < o.length → i < l.length → 0 < o.getD i 0 → l.getD i 0 ∈ comeL o l
  | [], _, i, h, _, _ => by simp at h
  | x :: o, [], i, _, h, _ => by simp at h
  | x :: o, y :: l, 0, _, _, hp => by
    have hp : 0 < x := hp
    simp only [comeL]
    rw [if_pos hp]
    exact List.mem_cons_self ..
  | x :: o, y :: l, i + 1, h1, h2, hp => by
    have := mem_comeL o l i (by simpa using h1) (by simpa using h2) hp
    simp only [comeL]
    split
    · exact List.mem_cons_of_mem _ this
    · exact this
theorem Fine.le {zs : List Int} {most : Nat} {ls : List Nat} (h : Fine zs most ls) (hz : ∀ z ∈ zs, 0 ≤ z) (i : Nat) : ls.getD i 0 ≤ most := by
  by_cases hi : i < zs.length
  · by_cases h0 : zs.getD i 0 = 0
    · rw [h.zero i hi h0]; omega
    · refine h.least.ok.hi _ (mem_comeL (natsOf zs) ls i (by unfold natsOf; simpa using hi) (by rw [h.len]; exact hi) ?_)
      have := getD_nats hz i
      omega
  · rw [List.getD_eq_getElem?_getD, List.getElem?_eq_none (by rw [h.len]; omega)]
    exact Nat.zero_le _
theorem sum_nat {zs : List Int} {ls : List Nat} (hz : ∀ z ∈ zs, 0 ≤ z ∧ z ≤ 1073741824) (hl : ∀ i, ls.getD i 0 ≤ 30) : ∀ k, k ≤ 300 → sumI zs (intsOf ls) k = ((sumK (fun i => (natsOf zs).getD i 0 * ls.getD i 0) k : Nat) : Int) ∧ sumK (fun i => (natsOf zs).getD i 0 * ls.getD i 0) k ≤ k * 32212254720
  | 0, _ => ⟨rfl, by simp [sumK]⟩
  | k + 1, h => by
    obtain ⟨h1, h2⟩ := sum_nat hz hl k (by omega)
    have hx : (natsOf zs).getD k 0 ≤ 1073741824 := by
      unfold natsOf
      rw [List.getD_eq_getElem?_getD, List.getElem?_map]
      rcases hg : zs[k]? with _ | z
      · simp
      · have := hz z (List.mem_of_getElem? hg)
        simp; omega
    have hy := hl k
    have hxy : (natsOf zs).getD k 0 * ls.getD k 0 ≤ 1073741824 * 30 := Nat.mul_le_mul hx hy
    simp only [sumI, sumK]
    rw [h1, getD_nats (fun z hz' => (hz z hz').1) k, getD_ints, ← Int.natCast_mul]
    generalize (natsOf zs).getD k 0 * ls.getD k 0 = p at hxy
    generalize sumK (fun i => (natsOf zs).getD i 0 * ls.getD i 0) k = q at h2
    have w1 : IntKind.i64.wrap ((p : Nat) : Int) = (p : Int) := by rw [IntKind.wrap_i64]; omega
    have w2 : IntKind.i64.wrap ((q : Int) + (p : Int)) = ((q + p : Nat) : Int) := by rw [IntKind.wrap_i64]; omega
    rw [w1, w2]
    exact ⟨rfl, by rw [Nat.succ_mul]; omega⟩
/-- the cost that the program counts is the cost -/
theorem Fine.cost {zs : List Int} {most : Nat} {ls : List Nat} (h : Fine zs most ls) (hz : ∀ z ∈ zs, 0 ≤ z ∧ z ≤ 1073741824) (hm : most ≤ 30) (hn : zs.length ≤ 300) : sumI zs (intsOf ls) (min zs.length (intsOf ls).length) = ((cost (come (natsOf zs)) (comeL (natsOf zs) ls) : Nat) : Int) := by
  have hl : (intsOf ls).length = zs.length := by unfold intsOf; rw [List.length_map, h.len]
  rw [hl, Nat.min_self, (sum_nat hz (fun i => Nat.le_trans (h.le (fun z hz' => (hz z hz').1) i) hm) _ hn).1, ← cost_come]
  congr 1
  have hlen : (natsOf zs).length = zs.length := by unfold natsOf; simp
  have := cost_range (natsOf zs) (fun i => ls.getD i 0)
  rw [hlen] at this
  rw [← this]
  congr 1
  refine List.ext_getElem (by simp [h.len]) (fun i h1 h2 => ?_)
  simp only [List.getElem_map, List.getElem_range]
  rw [List.getD_eq_getElem?_getD, List.getElem?_eq_getElem h2]
  rfl
/-- the least cost, where one knows lengths and what parcels weigh -/
theorem cost_is {f l k : List Nat} {L c : Nat} (h : Least f L l) (hk : Ok f L k) (hc : cost f k = c) (hL1 : 1 ≤ L) (hL : L ≤ 30) (h2 : 2 ≤ f.length) (hf : ∀ x ∈ f, 1 ≤ x) (hp : sumH (parcels f L) (2 * (f.length - 1)) = c) : cost f l = c := by
  have h1 := h.min k hk
  have h3 := parcels_low h.ok hL1 hL h2 hf
  omega
theorem eight4 {ls : List Nat} (h : Fine [8, 4, 2, 1] 4 ls) : sumI [8, 4, 2, 1] (intsOf ls) (min 4 (intsOf ls).length) = 25 := by
  have h1 := h.cost (by decide) (by decide) (by decide)
  have h2 : cost (come (natsOf [8, 4, 2, 1])) (comeL (natsOf [8, 4, 2, 1]) ls) = 25 := cost_is h.least (k := [1, 2, 3, 3]) ⟨by decide, by decide, by decide, by decide⟩ (by decide) (by decide) (by decide) (by decide) (by decide) (by decide)
  rw [h2] at h1
  exact h1
theorem eight2 {ls : List Nat} (h : Fine [8, 4, 2, 1] 2 ls) : sumI [8, 4, 2, 1] (intsOf ls) (min 4 (intsOf ls).length) = 30 := by
  have h1 := h.cost (by decide) (by decide) (by decide)
  have h2 : cost (come (natsOf [8, 4, 2, 1])) (comeL (natsOf [8, 4, 2, 1]) ls) = 30 := cost_is h.least (k := [2, 2, 2, 2]) ⟨by decide, by decide, by decide, by decide⟩ (by decide) (by decide) (by decide) (by decide) (by decide) (by decide)
  rw [h2] at h1
  exact h1
end Go.Proofs.Ytefniglinligeaa.Lp

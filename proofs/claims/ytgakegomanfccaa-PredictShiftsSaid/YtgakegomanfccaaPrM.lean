
/- Rows as differences in plain words: told, undone, told again; no program in sight. -/
import Derived.Test.YtgakegomanfccaaOctM
namespace Go.Proofs.Ytgakegomanfccaa.Pr
set_option linter.unusedVariables false
set_option linter.unusedSimpArgs false

/-- a difference -/
def diffA (m per : Nat) (l : List Nat) (i : Nat) : Nat := if per ≤ i then (l.getD i 0 + m - l.getD (i - per) 0) % m else l.getD i 0
def diffL (m per : Nat) (l : List Nat) : List Nat := (List.range l.length).map (diffA m per l)
/-- the sum of all of its place up to it -/
def undoA (m per : Nat) (l : List Nat) (i : Nat) : Nat := if h : 1 ≤ per ∧ per ≤ i then (undoA m per l (i - per) + l.getD i 0) % m else l.getD i 0 % m
termination_by i
decreasing_by omega
def undoL (m per : Nat) (l : List Nat) : List Nat := (List.range l.length).map (undoA m per l)
theorem undoA_first {m per : Nat} {l : List Nat} {i : Nat} (h : i < per) : undoA m per l i = l.getD i 0 % m := by
  rw [undoA, dif_neg (by omega)]
theorem undoA_next {m per : Nat} {l : List Nat} {i : Nat} (h1 : 1 ≤ per) (h : per ≤ i) : undoA m per l i = (undoA m per l (i - per) + l.getD i 0) % m := by
  rw [undoA, dif_pos ⟨h1, h⟩]
theorem undoA_lt {m per : Nat} {l : List Nat} {i : Nat} (h0 : 0 < m) : undoA m per l i < m := by
  rw [undoA]
  split <;> exact Nat.mod_lt _ h0
theorem diffL_length (m per : Nat) (l : List Nat) : (diffL m per l).length = l.length := by simp [diffL]
theorem undoL_length (m per : Nat) (l : List Nat) : (undoL m per l).length = l.length := by simp [undoL]
theorem diffL_get {m per : Nat} {l : List Nat} {i : Nat} (h : i < l.length) : (diffL m per l).getD i 0 = diffA m per l i := by
  rw [List.getD_eq_getElem?_getD, List.getElem?_eq_getElem (by rw [diffL_length]; exact h)]
  simp [diffL]
theorem undoL_get {m per : Nat} {l : List Nat} {i : Nat} (h : i < l.length) : (undoL m per l).getD i 0 = undoA m per l i := by
  rw [List.getD_eq_getElem?_getD, List.getElem?_eq_getElem (by rw [undoL_length]; exact h)]
  simp [undoL]
theorem getD_lt {m : Nat} {l : List Nat} (h0 : 0 < m) (hl : ∀ v ∈ l, v < m) (i : Nat) : l.getD i 0 < m := by
  rw [List.getD_eq_getElem?_getD]
  by_cases h : i < l.length
  · rw [List.getElem?_eq_getElem h]
    exact hl _ (List.getElem_mem h)
  · rw [List.getElem?_eq_none (by omega)]
    exact h0
theorem diffA_lt {m per : Nat} {l : List Nat} {i : Nat} (h0 : 0 < m) (hl : ∀ v ∈ l, v < m) : diffA m per l i < m := by
  unfold diffA
  split
  · exact Nat.mod_lt _ h0
  · exact getD_lt h0 hl i
theorem diffL_lt {m per : Nat} {l : List Nat} (h0 : 0 < m) (hl : ∀ v ∈ l, v < m) : ∀ v ∈ diffL m per l, v < m := by
  intro v hv
  simp only [diffL, List.mem_map, List.mem_range] at hv
  obtain ⟨i, _, rfl⟩ := hv
  exact diffA_lt h0 hl
theorem undoL_lt {m per : Nat} {l : List Nat} (h0 : 0 < m) : ∀ v ∈ undoL m per l, v < m := by
  intro v hv
  simp only [undoL, List.mem_map, List.mem_range] at hv
  obtain ⟨i, _, rfl⟩ := hv
  exact undoA_lt h0
theorem same_list {l l2 : List Nat} (h : l.length = l2.length) (hg : ∀ i, i < l.length → l.getD i 0 = l2.getD i 0) : l = l2 := by
  apply List.ext_getElem h
  intro i h1 h2
  have := hg i h1
  rw [List.getD_eq_getElem?_getD, List.getD_eq_getElem?_getD, List.getElem?_eq_getElem h1, List.getElem?_eq_getElem h2] at this
  exact this
/-- (a + (b + m - a) % m) % m = b -/
theorem back {a b m : Nat} (ha : a < m) (hb : b < m) : (a + (b + m - a) % m) % m = b := by
  by_cases h : a ≤ b
  · rw [show b + m - a = b - a + m from by omega, Nat.add_mod_right, Nat.mod_eq_of_lt (show b - a < m by omega), show a + (b - a) = b from by omega, Nat.mod_eq_of_lt hb]
  · rw [Nat.mod_eq_of_lt (show b + m - a < m by omega), show a + (b + m - a) = b + m from by omega, Nat.add_mod_right, Nat.mod_eq_of_lt hb]
/-- ((a + b) % m + m - a) % m = b -/
theorem forth {a b m : Nat} (ha : a < m) (hb : b < m) : ((a + b) % m + m - a) % m = b := by
  by_cases h : a + b < m
  · rw [Nat.mod_eq_of_lt h, show a + b + m - a = b + m from by omega, Nat.add_mod_right, Nat.mod_eq_of_lt hb]
  · have e : (a + b) % m = a + b - m := by
      rw [Nat.mod_eq_sub_mod (by omega), Nat.mod_eq_of_lt (by omega)]
    rw [e, show a + b - m + m - a = b from by omega, Nat.mod_eq_of_lt hb]
theorem undo_diffA {m per : Nat} {l : List Nat} (h1 : 1 ≤ per) (h0 : 0 < m) (hl : ∀ v ∈ l, v < m) : ∀ (f i : Nat), i < f → i < l.length → undoA m per (diffL m per l) i = l.getD i 0
  | 0, i, hf, hi => by omega
  | f + 1, i, hf, hi => by
    have hv := getD_lt h0 hl i
    by_cases h : per ≤ i
    · have hv2 := getD_lt h0 hl (i - per)
      rw [undoA_next h1 h, undo_diffA h1 h0 hl f (i - per) (by omega) (by omega), diffL_get hi, diffA, if_pos h]
      exact back hv2 hv
    · rw [undoA_first (by omega), diffL_get hi, diffA, if_neg h, Nat.mod_eq_of_lt hv]
/-- differences are undone -/
theorem undo_diff {m per : Nat} {l : List Nat} (h1 : 1 ≤ per) (h0 : 0 < m) (hl : ∀ v ∈ l, v < m) : undoL m per (diffL m per l) = l :=
  same_list (by rw [undoL_length, diffL_length]) fun i hi => by
    rw [undoL_length, diffL_length] at hi
    rw [undoL_get (by rw [diffL_length]; exact hi), undo_diffA h1 h0 hl (i + 1) i (by omega) hi]
/-- what is undone has these differences -/
theorem diff_undo {m per : Nat} {l : List Nat} (h1 : 1 ≤ per) (h0 : 0 < m) (hl : ∀ v ∈ l, v < m) : diffL m per (undoL m per l) = l :=
  same_list (by rw [diffL_length, undoL_length]) fun i hi => by
    rw [diffL_length, undoL_length] at hi
    have hv := getD_lt h0 hl i
    rw [diffL_get (by rw [undoL_length]; exact hi), diffA]
    by_cases h : per ≤ i
    · rw [if_pos h, undoL_get hi, undoL_get (by omega), undoA_next h1 h]
      exact forth (undoA_lt h0) hv
    · rw [if_neg h, undoL_get hi, undoA_first (by omega), Nat.mod_eq_of_lt hv]
/-- rows of one sample again and again -/
theorem diff_alike {m per n v i : Nat} (h0 : 0 < m) (hv : v < m) (hi : i < n) : diffA m per (List.replicate n v) i = if per ≤ i then 0 else v := by
  unfold diffA
  have e : ∀ k, k < n → (List.replicate n v).getD k 0 = v := fun k hk => by
    rw [List.getD_eq_getElem?_getD, List.getElem?_eq_getElem (by simpa using hk)]
    simp
  split
  · rw [e i hi, e (i - per) (by omega), show v + m - v = m from by omega, Nat.mod_self]
  · exact e i hi
/-- the document's sum, from the place itself down: what came so far and what is to come -/
theorem sum_down {m per : Nat} {l : List Nat} {n k : Nat} (h1 : 1 ≤ per) (hk : per ≤ k) : ((n + l.getD k 0) % m + undoA m per l (k - per)) % m = (n + undoA m per l k) % m := by
  rw [undoA_next h1 hk, Nat.mod_add_mod, Nat.add_mod_mod]
  congr 1
  omega
theorem sum_last {m per : Nat} {l : List Nat} {n k : Nat} (hk : k < per) : (n + l.getD k 0) % m = (n + undoA m per l k) % m := by
  rw [undoA_first hk, Nat.add_mod_mod]
theorem sum_all {m per : Nat} {l : List Nat} {k : Nat} (h0 : 0 < m) : (0 + undoA m per l k) % m = undoA m per l k := by
  rw [Nat.zero_add, Nat.mod_eq_of_lt (undoA_lt h0)]
/-- for loops that build a row -/
theorem diff_succ (m per : Nat) (l : List Nat) (n : Nat) : (List.range (n + 1)).map (diffA m per l) = (List.range n).map (diffA m per l) ++ [diffA m per l n] := by simp [List.range_succ]
theorem undo_succ (m per : Nat) (l : List Nat) (n : Nat) : (List.range (n + 1)).map (undoA m per l) = (List.range n).map (undoA m per l) ++ [undoA m per l n] := by simp [List.range_succ]
/-- the same added to both: the same difference -/
theorem diff_both {a b c m : Nat} (ha : a < m) (hb : b < m) : ((a + c) % m + m - (b + c) % m) % m = (a + m - b) % m := by
  have h0 : 0 < m := by omega
  generalize hx : (a + c) % m = x
  generalize hy : (b + c) % m = y
  have hxm : x < m := by rw [← hx]; exact Nat.mod_lt _ h0
  have hym : y < m := by rw [← hy]; exact Nat.mod_lt _ h0
  have key : ∀ u v : Nat, u < m → v < m → (u + b) % m = (v + b) % m → u = v := by
    intro u v hu hv h
    have h1 : (u + b + m - b) % m = (v + b + m - b) % m := by
      have e : ∀ z, (z + b + m - b) % m = ((z + b) % m + (m - b)) % m := by
        intro z
        rw [Nat.mod_add_mod]
        congr 1
        omega
      rw [e, e, h]
    rw [show u + b + m - b = u + m from by omega, show v + b + m - b = v + m from by omega, Nat.add_mod_right, Nat.add_mod_right, Nat.mod_eq_of_lt hu, Nat.mod_eq_of_lt hv] at h1
    exact h1
  apply key _ _ (Nat.mod_lt _ h0) (Nat.mod_lt _ h0)
  rw [Nat.mod_add_mod, Nat.mod_add_mod, show a + m - b + b = a + m from by omega, Nat.add_mod_right]
  have h2 : ((x + m - y + b) + (c + y)) % m = (a + (c + y)) % m := by
    rw [show x + m - y + b + (c + y) = (b + c) + (x + m) from by omega]
    have e1 : ((b + c) + (x + m)) % m = (y + x) % m := by
      rw [← Nat.add_assoc, Nat.add_mod_right, Nat.add_mod, hy, Nat.mod_eq_of_lt hxm]
    have e2 : (a + (c + y)) % m = (x + y) % m := by
      rw [← Nat.add_assoc, Nat.add_mod, hx, Nat.mod_eq_of_lt hym]
    rw [e1, e2, Nat.add_comm]
  have cancel : ∀ u v w : Nat, (u + w) % m = (v + w) % m → u % m = v % m := by
    intro u v w h
    have hw : w % m ≤ m := Nat.le_of_lt (Nat.mod_lt _ h0)
    have e : ∀ z, z % m = ((z + w) % m + (m - w % m)) % m := by
      intro z
      rw [Nat.mod_add_mod]
      have : z + w + (m - w % m) = z + m * (w / m + 1) := by
        have := Nat.div_add_mod w m
        rw [Nat.mul_succ]
        omega
      rw [this, Nat.add_mul_mod_self_left]
    rw [e u, e v, h]
  exact cancel _ _ _ h2
theorem map_get {m c : Nat} {l : List Nat} {i : Nat} (h : i < l.length) : (l.map fun v => (v + c) % m).getD i 0 = (l.getD i 0 + c) % m := by
  rw [List.getD_eq_getElem?_getD, List.getD_eq_getElem?_getD, List.getElem?_map, List.getElem?_eq_getElem h]
  rfl
/-- ALL THAT PredictShifts ASKS -/
theorem diff_shift {m per c : Nat} {l : List Nat} {i : Nat} (h1 : 1 ≤ per) (h0 : 0 < m) (hl : ∀ v ∈ l, v < m) (hi : i < l.length) :
    diffA m per (l.map fun v => (v + c) % m) i = if per ≤ i then diffA m per l i else (diffA m per l i + c) % m := by
  unfold diffA
  split
  · rw [map_get hi, map_get (by omega)]
    exact diff_both (getD_lt h0 hl _) (getD_lt h0 hl _)
  · rw [map_get hi]
/-- a mask of k ones -/
theorem mask_mod (v k : Nat) : v &&& (2 ^ k - 1) = v % 2 ^ k := Nat.and_two_pow_sub_one_eq_mod v k
theorem mod_mod_pow (v k : Nat) (h : k ≤ 32) : v % 4294967296 % 2 ^ k = v % 2 ^ k := by
  apply Nat.mod_mod_of_dvd
  exact Nat.pow_dvd_pow 2 h
end Go.Proofs.Ytgakegomanfccaa.Pr

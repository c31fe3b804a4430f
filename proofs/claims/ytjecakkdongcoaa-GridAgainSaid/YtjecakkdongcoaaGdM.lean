
/- Grids in plain words: parts of them, and one over another; no program in sight. -/
import Derived.Test.YtjecakkdongcoaaOctM
namespace Go.Proofs.Ytjecakkdongcoaa.Gd
set_option linter.unusedVariables false
set_option linter.unusedSimpArgs false
set_option maxRecDepth 100000

/-- may there be a grid of this size? -/
def canG (w h : Int) : Bool := decide (0 ≤ w ∧ 0 ≤ h ∧ w ≤ 4194304 ∧ h ≤ 4194304 ∧ w * h ≤ 4194304)
/-- is there a cell? -/
def hasG (W H : Nat) (x y : Int) : Bool := decide (0 ≤ x ∧ 0 ≤ y ∧ x < (W : Int) ∧ y < (H : Int))
section
variable {α : Type}
/-- a part: its cell at i, j is the one at x + i, y + j, or the last one of the row, or of the column -/
def cutG (W H : Nat) (L : List α) (z : α) (x y w h : Nat) : List α := (List.range (w * h)).map fun i => L.getD (min (y + i / w) (H - 1) * W + min (x + i % w) (W - 1)) z
/-- a grid with another one over it -/
def pasteG (W : Nat) (L : List α) (z : α) (w h : Nat) (P : List α) (x y : Nat) : List α :=
  (List.range L.length).map fun i => if x ≤ i % W ∧ y ≤ i / W ∧ i % W - x < w ∧ i / W - y < h then P.getD ((i / W - y) * w + (i % W - x)) z else L.getD i z
theorem cutG_length (W H : Nat) (L : List α) (z : α) (x y w h : Nat) : (cutG W H L z x y w h).length = w * h := by simp [cutG]
theorem pasteG_length (W : Nat) (L : List α) (z : α) (w h : Nat) (P : List α) (x y : Nat) : (pasteG W L z w h P x y).length = L.length := by simp [pasteG]
/-- a place's row and column -/
theorem place {W i j : Nat} (hi : i < W) : (j * W + i) / W = j ∧ (j * W + i) % W = i := by
  constructor
  · rw [Nat.add_comm, Nat.add_mul_div_right _ _ (by omega), Nat.div_eq_of_lt hi, Nat.zero_add]
  · rw [Nat.add_comm, Nat.add_mul_mod_self_right, Nat.mod_eq_of_lt hi]
theorem place_lt {W H i j : Nat} (hi : i < W) (hj : j < H) : j * W + i < W * H := by
  have h1 := Nat.mul_le_mul_right W (show j + 1 ≤ H from hj)
  rw [Nat.succ_mul] at h1
  rw [Nat.mul_comm W H]
  omega
/-- each place is one of a row and a column -/
theorem place_of {W H k : Nat} (hk : k < W * H) : k % W < W ∧ k / W < H ∧ k = k / W * W + k % W := by
  have hW : 0 < W := by
    rcases Nat.eq_zero_or_pos W with e | e
    · subst e; simp at hk
    · exact e
  refine ⟨Nat.mod_lt _ hW, Nat.div_lt_of_lt_mul hk, ?_⟩
  have := Nat.div_add_mod k W
  rw [Nat.mul_comm] at this
  exact this.symm
/-- two grids with the same cells -/
theorem ext_grid {W H : Nat} {A B : List α} (ha : A.length = W * H) (hb : B.length = W * H) (h : ∀ i j, i < W → j < H → A[j * W + i]? = B[j * W + i]?) : A = B := by
  apply List.ext_getElem?
  intro k
  by_cases hk : k < W * H
  · obtain ⟨h1, h2, h3⟩ := place_of hk
    rw [h3]
    exact h _ _ h1 h2
  · rw [List.getElem?_eq_none (by omega), List.getElem?_eq_none (by omega)]
theorem getD_of {L : List α} {z : α} {k : Nat} (hk : k < L.length) : L[k]? = some (L.getD k z) := by
  rw [List.getD_eq_getElem?_getD, List.getElem?_eq_getElem hk]
  rfl
theorem cutG_get (W H : Nat) (L : List α) (z : α) (x y w h : Nat) {i j : Nat} (hi : i < w) (hj : j < h) : (cutG W H L z x y w h)[j * w + i]? = some (L.getD (min (y + j) (H - 1) * W + min (x + i) (W - 1)) z) := by
  obtain ⟨h1, h2⟩ := place (j := j) hi
  unfold cutG
  rw [List.getElem?_map, List.getElem?_range (place_lt hi hj), Option.map_some, h1, h2]
theorem cutG_getD (W H : Nat) (L : List α) (z : α) (x y w h : Nat) {i j : Nat} (hi : i < w) (hj : j < h) : (cutG W H L z x y w h).getD (j * w + i) z = L.getD (min (y + j) (H - 1) * W + min (x + i) (W - 1)) z := by
  rw [List.getD_eq_getElem?_getD, cutG_get W H L z x y w h hi hj]
  rfl
theorem pasteG_get {W H : Nat} {L : List α} (hL : L.length = W * H) (z : α) (w h : Nat) (P : List α) (x y : Nat) {i j : Nat} (hi : i < W) (hj : j < H) : (pasteG W L z w h P x y)[j * W + i]? = some (if x ≤ i ∧ y ≤ j ∧ i - x < w ∧ j - y < h then P.getD ((j - y) * w + (i - x)) z else L.getD (j * W + i) z) := by
  obtain ⟨h1, h2⟩ := place (j := j) hi
  unfold pasteG
  rw [List.getElem?_map, List.getElem?_range (by rw [hL]; exact place_lt hi hj), Option.map_some, h1, h2]
/-- what is cut, and pasted where it was, changes nothing -/
theorem paste_cut {W H : Nat} {L : List α} (hL : L.length = W * H) (z : α) (w h x y : Nat) : pasteG W L z w h (cutG W H L z x y w h) x y = L := by
  refine ext_grid (W := W) (H := H) (by rw [pasteG_length, hL]) hL fun i j hi hj => ?_
  rw [pasteG_get hL z w h _ x y hi hj, getD_of (z := z) (by rw [hL]; exact place_lt hi hj)]
  split
  · rename_i hc
    obtain ⟨c1, c2, c3, c4⟩ := hc
    rw [cutG_getD W H L z x y w h c3 c4, show min (y + (j - y)) (H - 1) = j from by omega, show min (x + (i - x)) (W - 1) = i from by omega]
  · rfl
/-- what is pasted inside is cut -/
theorem cut_paste {W H : Nat} {L P : List α} (hL : L.length = W * H) (z : α) {w h x y : Nat} (hP : P.length = w * h) (hx : x + w ≤ W) (hy : y + h ≤ H) : cutG W H (pasteG W L z w h P x y) z x y w h = P := by
  refine ext_grid (W := w) (H := h) (cutG_length _ _ _ _ _ _ _ _) hP fun i j hi hj => ?_
  rw [cutG_get W H _ z x y w h hi hj, show min (y + j) (H - 1) = y + j from by omega, show min (x + i) (W - 1) = x + i from by omega, List.getD_eq_getElem?_getD, pasteG_get hL z w h P x y (by omega) (by omega), if_pos ⟨by omega, by omega, by omega, by omega⟩, show y + j - y = j from by omega, show x + i - x = i from by omega, getD_of (z := z) (by rw [hP]; exact place_lt hi hj)]
  rfl
/-- a part of a part, inside, is a part of the whole -/
theorem cut_cut {W H : Nat} (L : List α) (z : α) {x y w h a b c d : Nat} (hx : x + w ≤ W) (hy : y + h ≤ H) (ha : a + c ≤ w) (hb : b + d ≤ h) : cutG w h (cutG W H L z x y w h) z a b c d = cutG W H L z (x + a) (y + b) c d := by
  refine ext_grid (W := c) (H := d) (cutG_length _ _ _ _ _ _ _ _) (cutG_length _ _ _ _ _ _ _ _) fun i j hi hj => ?_
  rw [cutG_get w h _ z a b c d hi hj, cutG_get W H L z (x + a) (y + b) c d hi hj, show min (b + j) (h - 1) = b + j from by omega, show min (a + i) (w - 1) = a + i from by omega, cutG_getD W H L z x y w h (by omega) (by omega), show y + (b + j) = y + b + j from by omega, show x + (a + i) = x + a + i from by omega]
/-- one row of a part -/
def cutR (W : Nat) (L : List α) (z : α) (x r w : Nat) : List α := (List.range w).map fun i => L.getD (r * W + min (x + i) (W - 1)) z
theorem cutR_length (W : Nat) (L : List α) (z : α) (x r w : Nat) : (cutR W L z x r w).length = w := by simp [cutR]
/-- a part, row by row -/
theorem cutG_row (W H : Nat) (L : List α) (z : α) (x y w h : Nat) : cutG W H L z x y w (h + 1) = cutG W H L z x y w h ++ cutR W L z x (min (y + h) (H - 1)) w := by
  unfold cutG cutR
  rw [Nat.mul_succ, List.range_add, List.map_append, List.map_map]
  congr 1
  refine List.map_congr_left fun i hi => ?_
  rw [List.mem_range] at hi
  obtain ⟨h1, h2⟩ := place (j := h) hi
  rw [Nat.mul_comm h w] at h1 h2
  simp only [Function.comp]
  rw [h1, h2]
theorem cutG_none (W H : Nat) (L : List α) (z : α) (x y w : Nat) : cutG W H L z x y w 0 = [] := by simp [cutG]
/-- a part, cell by cell: one cell more -/
theorem cutG_cells (W H : Nat) (L : List α) (z : α) (x y w h k : Nat) (hk : k < w * h) : (cutG W H L z x y w h).take (k + 1) = (cutG W H L z x y w h).take k ++ [L.getD (min (y + k / w) (H - 1) * W + min (x + k % w) (W - 1)) z] := by
  have hl : k < (cutG W H L z x y w h).length := by rw [cutG_length]; exact hk
  rw [List.take_succ_eq_append_getElem hl]
  congr 2
  simp [cutG]
/-- a row of a part that lies inside: the row's own cells; what is beyond is the last one -/
theorem cutR_in {W H : Nat} {L : List α} (hL : L.length = W * H) (z : α) {x r w : Nat} (hr : r < H) (hx : x + w ≤ W) : cutR W L z x r w = (L.drop (r * W + x)).take w := by
  apply List.ext_getElem?
  intro i
  by_cases hi : i < w
  · unfold cutR
    rw [List.getElem?_map, List.getElem?_range hi, Option.map_some, List.getElem?_take, if_pos hi, List.getElem?_drop, show min (x + i) (W - 1) = x + i from by omega, show r * W + x + i = r * W + (x + i) from by omega]
    exact (getD_of (by rw [hL]; exact place_lt (by omega) hr)).symm
  · rw [List.getElem?_eq_none (by rw [cutR_length]; omega), List.getElem?_take, if_neg hi]
theorem cutR_more {W : Nat} {L : List α} (z : α) {x r w m : Nat} (hx : x < W) (hm : m = min w (W - x)) : cutR W L z x r w = cutR W L z x r m ++ List.replicate (w - m) (L.getD (r * W + (W - 1)) z) := by
  subst hm
  unfold cutR
  rw [show List.range w = List.range (min w (W - x) + (w - min w (W - x))) from by congr 1; omega, List.range_add, List.map_append, List.map_map]
  congr 1
  apply List.ext_getElem?
  intro i
  by_cases hi : i < w - min w (W - x)
  · rw [List.getElem?_map, List.getElem?_range hi, Option.map_some, List.getElem?_replicate, if_pos hi]
    simp only [Function.comp]
    rw [show min (x + (min w (W - x) + i)) (W - 1) = W - 1 from by omega]
  · rw [List.getElem?_eq_none (by simp; omega), List.getElem?_eq_none (by simp; omega)]
/-- a grid with the first rows of another one over it: one row more -/
def pasteN (W : Nat) (L : List α) (z : α) (w : Nat) (P : List α) (x y n : Nat) : List α := pasteG W L z w n P x y
theorem pasteN_zero {W H : Nat} {L : List α} (hL : L.length = W * H) (z : α) (w : Nat) (P : List α) (x y : Nat) : pasteN W L z w P x y 0 = L := by
  refine ext_grid (W := W) (H := H) (by rw [pasteN, pasteG_length, hL]) hL fun i j hi hj => ?_
  rw [pasteN, pasteG_get hL z w 0 P x y hi hj, if_neg (by omega), getD_of (z := z) (by rw [hL]; exact place_lt hi hj)]
/-- rows beyond the grid are left out -/
theorem pasteG_out {W H : Nat} {L : List α} (hL : L.length = W * H) (z : α) {w h : Nat} (P : List α) {x y n : Nat} (hn : H ≤ y + n) (hh : n ≤ h) : pasteG W L z w h P x y = pasteG W L z w n P x y := by
  refine ext_grid (W := W) (H := H) (by rw [pasteG_length, hL]) (by rw [pasteG_length, hL]) fun i j hi hj => ?_
  rw [pasteG_get hL z w h P x y hi hj, pasteG_get hL z w n P x y hi hj]
  congr 1
  by_cases hc : x ≤ i ∧ y ≤ j ∧ i - x < w ∧ j - y < n
  · rw [if_pos hc, if_pos ⟨hc.1, hc.2.1, hc.2.2.1, by omega⟩]
  · rw [if_neg hc, if_neg (fun q => hc ⟨q.1, q.2.1, q.2.2.1, by omega⟩)]
/-- one row more: in place of the row's cells from x on, as many of the other's as there is room for -/
theorem pasteN_row {W H : Nat} {L : List α} (hL : L.length = W * H) (z : α) {w : Nat} (P : List α) {x y n m : Nat} (hx : x < W) (hy : y + n < H) (hP : (n + 1) * w ≤ P.length) (hm : m = min w (W - x)) :
    pasteN W L z w P x y (n + 1) = (pasteN W L z w P x y n).take ((y + n) * W + x) ++ (P.drop (n * w)).take m ++ (pasteN W L z w P x y n).drop ((y + n) * W + x + m) := by
  have hlen : (pasteN W L z w P x y n).length = W * H := by rw [pasteN, pasteG_length, hL]
  have hbig : (y + n) * W + x + m ≤ W * H := by
    have := place_lt (W := W) (H := H) (i := W - 1) (j := y + n) (by omega) hy
    omega
  have hPm : n * w + m ≤ P.length := by
    rw [Nat.succ_mul] at hP
    omega
  have h1 : ((pasteN W L z w P x y n).take ((y + n) * W + x)).length = (y + n) * W + x := by rw [List.length_take, hlen]; omega
  have h2 : ((P.drop (n * w)).take m).length = m := by rw [List.length_take, List.length_drop]; omega
  refine ext_grid (W := W) (H := H) (by rw [pasteN, pasteG_length, hL]) (by rw [List.length_append, List.length_append, h1, h2, List.length_drop, hlen]; omega) fun i j hi hj => ?_
  have hk := place_lt hi hj
  rw [pasteN, pasteG_get hL z w (n + 1) P x y hi hj]
  by_cases hr : j = y + n ∧ x ≤ i ∧ i - x < m
  · obtain ⟨rfl, hxi, him⟩ := hr
    rw [if_pos ⟨hxi, by omega, by omega, by omega⟩, List.append_assoc, List.getElem?_append_right (by rw [h1]; omega), h1, show (y + n) * W + i - ((y + n) * W + x) = i - x from by omega, List.getElem?_append_left (by rw [h2]; exact him), List.getElem?_take, if_pos him, List.getElem?_drop, show y + n - y = n from by omega]
    exact (getD_of (by omega)).symm
  · have hsame : (if x ≤ i ∧ y ≤ j ∧ i - x < w ∧ j - y < n + 1 then P.getD ((j - y) * w + (i - x)) z else L.getD (j * W + i) z) = (if x ≤ i ∧ y ≤ j ∧ i - x < w ∧ j - y < n then P.getD ((j - y) * w + (i - x)) z else L.getD (j * W + i) z) := by
      by_cases hc : x ≤ i ∧ y ≤ j ∧ i - x < w ∧ j - y < n
      · rw [if_pos hc, if_pos ⟨hc.1, hc.2.1, hc.2.2.1, by omega⟩]
      · rw [if_neg hc, if_neg (fun q => by
          by_cases hj2 : j - y < n
          · exact hc ⟨q.1, q.2.1, q.2.2.1, hj2⟩
          · exact hr ⟨by omega, q.1, by omega⟩)]
    rw [hsame, ← pasteG_get hL z w n P x y hi hj]
    show (pasteN W L z w P x y n)[j * W + i]? = _
    by_cases hlt : j * W + i < (y + n) * W + x
    · rw [List.append_assoc, List.getElem?_append_left (by rw [h1]; exact hlt), List.getElem?_take, if_pos hlt]
    · have hge : (y + n) * W + x + m ≤ j * W + i := by
        rcases Nat.lt_trichotomy j (y + n) with h | h | h
        · have := Nat.mul_le_mul_right W (show j + 1 ≤ y + n from h)
          rw [Nat.succ_mul] at this
          omega
        · subst h
          rcases Nat.lt_or_ge (i - x) m with h3 | h3
          · exact absurd ⟨rfl, by omega, h3⟩ hr
          · omega
        · have := Nat.mul_le_mul_right W (show y + n + 1 ≤ j from h)
          rw [Nat.succ_mul] at this
          omega
      rw [List.getElem?_append_right (by rw [List.length_append, h1, h2]; exact hge), List.length_append, h1, h2, List.getElem?_drop]
      congr 1
      omega
/-- a row of a grid -/
theorem row_cells {W H : Nat} {L : List α} (hL : L.length = W * H) {y : Nat} (hy : y < H) : y * W + W ≤ L.length := by
  rw [hL, Nat.mul_comm W H]
  have := Nat.mul_le_mul_right W (show y + 1 ≤ H from hy)
  rw [Nat.succ_mul] at this
  exact this
end
end Go.Proofs.Ytjecakkdongcoaa.Gd

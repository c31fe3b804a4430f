
/- The pixels of a row's bytes, right places, the next one, places toggled, lengths: over whole numbers, in plain words; no program in sight. -/
import Derived.Test.YtklofifmmcegpaaRnN
import Derived.Test.YtklofifmmcegpaaBitN
namespace Go.Proofs.Ytklofifmmcegpaa.Rn
open Go.Proofs.Ytklofifmmcegpaa.Bit Go.Proofs.Ytklofifmmcegpaa.Oct
set_option linter.unusedVariables false
set_option linter.unusedSimpArgs false

/-- a pixel of a row's bytes -/
def gb (xs : List UInt8) (x : Nat) : Bool := (xs.getD (x / 8) 0).toNat / 2 ^ (7 - x % 8) % 2 == 1
theorem word_get : ∀ (n v j : Nat) (h : j < n) (h' : j < (word v n).length), (word v n)[j] = (v / 2 ^ (n - 1 - j) % 2 == 1)
  | 0, v, j, h, h' => by omega
  | n + 1, v, 0, h, h' => by simp [word]
  | n + 1, v, j + 1, h, h' => by
    have := word_get n v j (by omega) (by rw [word_length]; omega)
    simp only [word, List.getElem_cons_succ]
    rw [this, show n + 1 - 1 - (j + 1) = n - 1 - j from by omega]
theorem gb_cons (c : UInt8) (xs : List UInt8) (x : Nat) (h : 8 ≤ x) : gb (c :: xs) x = gb xs (x - 8) := by
  unfold gb
  rw [show x / 8 = (x - 8) / 8 + 1 from by omega, show x % 8 = (x - 8) % 8 from by omega, List.getD_cons_succ]
theorem bits_get : ∀ (xs : List UInt8) (x : Nat) (h : x < (bitsOf false xs).length), (bitsOf false xs)[x] = gb xs x
  | [], x, h => by simp [bitsOf] at h
  | c :: xs, x, h => by
    have hl : x < (bitsB false c ++ bitsOf false xs).length := by rw [← bitsOf_cons]; exact h
    have e : (bitsOf false (c :: xs))[x] = (bitsB false c ++ bitsOf false xs)[x] := by simp [bitsOf_cons]
    refine e.trans ?_
    clear e
    by_cases h8 : x < 8
    · rw [List.getElem_append_left (by rw [bitsB_length]; exact h8)]
      have : (bitsB false c)[x]'(by rw [bitsB_length]; exact h8) = (word c.toNat 8)[x]'(by rw [word_length]; exact h8) := rfl
      rw [this, word_get 8 c.toNat x h8]
      unfold gb
      rw [show x / 8 = 0 from by omega, show x % 8 = x from by omega]
      rfl
    · rw [List.getElem_append_right (by rw [bitsB_length]; omega), gb_cons c xs x (by omega)]
      have := bits_get xs (x - 8) (by rw [List.length_append, bitsB_length] at hl; omega)
      rw [← this]
      simp only [bitsB_length]
theorem bits_inj : ∀ (xs ys : List UInt8), bitsOf false xs = bitsOf false ys → xs = ys
  | [], [], h => rfl
  | [], y :: ys, h => by
    have := congrArg List.length h
    rw [bitsOf_length, bitsOf_length] at this
    simp at this
  | x :: xs, [], h => by
    have := congrArg List.length h
    rw [bitsOf_length, bitsOf_length] at this
    simp at this
  | x :: xs, y :: ys, h => by
    rw [bitsOf_cons, bitsOf_cons] at h
    obtain ⟨h1, h2⟩ := List.append_inj h (by rw [bitsB_length, bitsB_length])
    rw [bits_inj xs ys h2]
    have h3 := congrArg num h1
    have hx := x.toNat_lt
    have hy := y.toNat_lt
    have e1 : num (bitsB false x) = x.toNat := num_word_of_lt _ _ (by simpa using hx)
    have e2 : num (bitsB false y) = y.toNat := num_word_of_lt _ _ (by simpa using hy)
    rw [e1, e2] at h3
    rw [UInt8.toNat_inj.1 h3]
/-- a row of bytes whose pixels are these -/
theorem pack_gb (xs : List UInt8) (l : List Bool) (h : xs.length = (l.length + 7) / 8) (h2 : ∀ x, x < 8 * xs.length → gb xs x = l.getD x false) : xs = packB false l := by
  apply bits_inj
  rw [bitsOf_packB]
  refine List.ext_getElem (by rw [bitsOf_length, List.length_append, zs_length]; omega) (fun i h1 h3 => ?_)
  rw [bits_get, h2 i (by rw [bitsOf_length] at h1; exact h1)]
  by_cases hi : i < l.length
  · rw [List.getElem_append_left hi, List.getD_eq_getElem?_getD, List.getElem?_eq_getElem hi]
    rfl
  · rw [List.getElem_append_right (by omega), List.getD_eq_getElem?_getD, List.getElem?_eq_none (by omega)]
    simp [zs]
theorem gb_packB (l : List Bool) (x : Nat) (h : x < 8 * ((l.length + 7) / 8)) : gb (packB false l) x = l.getD x false := by
  have hl : x < (bitsOf false (packB false l)).length := by rw [bitsOf_length, packB_length]; exact h
  rw [← bits_get _ _ hl]
  have e : (bitsOf false (packB false l))[x] = (l ++ zs (8 * ((l.length + 7) / 8) - l.length))[x]'(by rw [List.length_append, zs_length]; omega) := by simp [bitsOf_packB]
  rw [e]
  by_cases hi : x < l.length
  · rw [List.getElem_append_left hi, List.getD_eq_getElem?_getD, List.getElem?_eq_getElem hi]
    rfl
  · rw [List.getElem_append_right (by omega), List.getD_eq_getElem?_getD, List.getElem?_eq_none (by omega)]
    simp [zs]
theorem bit_testBit (c i : Nat) : (c / 2 ^ i % 2 == 1) = c.testBit i := by
  rw [Nat.testBit_eq_decide_div_mod_eq]
  rfl
/-- one pixel made black -/
theorem gb_set (xs : List UInt8) (i : Nat) (h : i / 8 < xs.length) (c : UInt8) (hc : c.toNat = (xs.getD (i / 8) 0).toNat ||| 2 ^ (7 - i % 8)) (x : Nat) : gb (xs.set (i / 8) c) x = (gb xs x || x == i) := by
  unfold gb
  rw [bit_testBit, bit_testBit]
  by_cases h8 : x / 8 = i / 8
  · rw [h8, show (xs.set (i / 8) c).getD (i / 8) 0 = c from by rw [List.getD_eq_getElem?_getD, List.getElem?_set_self h]; rfl, hc, Nat.testBit_or, Nat.testBit_two_pow]
    congr 1
    have : (7 - i % 8 = 7 - x % 8) = (x = i) := by rw [eq_iff_iff]; omega
    simp only [this]
    exact (Bool.beq_eq_decide_eq x i).symm
  · rw [show (xs.set (i / 8) c).getD (x / 8) 0 = xs.getD (x / 8) 0 from by rw [List.getD_eq_getElem?_getD, List.getD_eq_getElem?_getD, List.getElem?_set_ne (fun e => h8 e.symm)], show (x == i) = false from by simp; intro e; exact h8 (by rw [e]), Bool.or_false]

/-- numbers as whole numbers -/
def zl (c : List Nat) : List Int := c.map fun n : Nat => (n : Int)
theorem zl_length (c : List Nat) : (zl c).length = c.length := by simp [zl]
theorem zl_append (a b : List Nat) : zl (a ++ b) = zl a ++ zl b := by simp [zl]
theorem zl_get (c : List Nat) (i : Nat) (h : i < (zl c).length) (h' : i < c.length) : (zl c)[i] = (c[i] : Int) := by simp [zl]
theorem zl_inj : ∀ {a b : List Nat}, zl a = zl b → a = b
  | [], [], _ => rfl
  | [], b :: bs, h => by simp [zl] at h
  | a :: as, [], h => by simp [zl] at h
  | a :: as, b :: bs, h => by
    simp only [zl, List.map_cons, List.cons.injEq] at h
    rw [show a = b from by omega, zl_inj (a := as) (b := bs) h.2]
/-- right places, behind one -/
def rb (z : Int) : Int → List Int → Bool
  | _, [] => true
  | b, x :: l => if x ≤ b ∨ z ≤ x then false else rb z x l
/-- right places -/
def rightB (l : List Int) (z : Int) : Bool := rb z (-1) l
theorem rb_valid : ∀ (l : List Int) (z b : Int), -1 ≤ b → rb z b l = true → ∃ c : List Nat, l = zl c ∧ c.Pairwise (· < ·) ∧ ∀ x ∈ c, (x : Int) < z ∧ b < (x : Int)
  | [], z, b, hb, h => ⟨[], rfl, List.Pairwise.nil, fun x hx => by cases hx⟩
  | y :: l, z, b, hb, h => by
    rw [rb] at h
    split at h
    · cases h
    · rename_i hn
      have hn : b < y ∧ y < z := by omega
      obtain ⟨c, rfl, h1, h2⟩ := rb_valid l z y (by omega) h
      obtain ⟨k, rfl⟩ : ∃ k : Nat, y = (k : Int) := ⟨y.toNat, by omega⟩
      refine ⟨k :: c, rfl, List.Pairwise.cons (fun x hx => by have := (h2 x hx).2; omega) h1, fun x hx => ?_⟩
      rcases List.mem_cons.1 hx with rfl | hx
      · exact ⟨hn.2, hn.1⟩
      · have := h2 x hx; omega
theorem right_valid {l : List Int} {z : Int} (h : rightB l z = true) : ∃ c : List Nat, l = zl c ∧ Valid c z.toNat := by
  obtain ⟨c, h1, h2, h3⟩ := rb_valid l z (-1) (by omega) h
  exact ⟨c, h1, h2, fun x hx => by have := (h3 x hx).1; omega⟩
theorem valid_rb : ∀ (c : List Nat) (z b : Int), c.Pairwise (· < ·) → (∀ x ∈ c, (x : Int) < z ∧ b < (x : Int)) → rb z b (zl c) = true
  | [], z, b, _, _ => rfl
  | y :: c, z, b, h1, h2 => by
    have h3 := List.pairwise_cons.1 h1
    have h4 := h2 y (by simp)
    show rb z b ((y : Int) :: zl c) = true
    rw [rb, if_neg (by omega)]
    exact valid_rb c z y h3.2 (fun x hx => ⟨(h2 x (by simp [hx])).1, by have := h3.1 x hx; omega⟩)
theorem valid_right {c : List Nat} {w : Nat} (h : Valid c w) : rightB (zl c) (w : Int) = true := valid_rb c w (-1) h.1 (fun x hx => ⟨by have := h.2 x hx; omega, by omega⟩)
/-- the next change to a colour behind a place, and the one behind it -/
def nextI (w : Int) : List Int → Bool → Int → Int × Int
  | [], _, _ => (w, w)
  | x :: c, b, f => if f < x ∧ b = true then (x, c.headD w) else nextI w c (!b) f
/-- a place, put behind or taken away -/
def togI (c : List Int) (x : Int) : List Int := if c.getLast? = some x then c.dropLast else c ++ [x]
theorem togI_zl (c : List Nat) (x : Nat) : togI (zl c) x = zl (togX c x) := by
  unfold togI togX
  have e : ((zl c).getLast? = some (x : Int)) = (c.getLast? = some x) := by
    unfold zl
    rw [List.getLast?_map, eq_iff_iff]
    rcases c.getLast? with _ | y
    · simp
    · simp
      omega
  simp only [e]
  split
  · simp [zl, List.map_dropLast]
  · simp [zl]
theorem nextI_zl (w : Nat) : ∀ (c : List Nat) (b : Bool) (a : Nat), nextI w (zl c) b ((a : Int) - 1) = (((nextX w c b a).1 : Int), ((nextX w c b a).2 : Int))
  | [], b, a => rfl
  | x :: c, b, a => by
    have ih := nextI_zl w c (!b) a
    show nextI w ((x : Int) :: zl c) b _ = _
    rw [nextI, ih]
    unfold nextX
    rw [nextF]
    have e : ((a : Int) - 1 < (x : Int) ∧ b = true) = (a ≤ x ∧ b = true) := by
      rw [eq_iff_iff]
      constructor <;> rintro ⟨h1, h2⟩ <;> exact ⟨by omega, h2⟩
    simp only [e]
    split
    · cases c <;> rfl
    · rfl
/-- the lengths of runs, from a place on -/
def lensI (p : Int) : List Int → Int → List Int
  | [], w => [w - p]
  | x :: c, w => (x - p) :: lensI x c w
theorem lensI_zl : ∀ (c : List Nat) (p w : Nat), Rise p c w → lensI p (zl c) w = zl (lensL p c w)
  | [], p, w, h => by
    have : p ≤ w := h
    simp only [zl, List.map_nil, lensI, lensL, List.map_cons]
    congr 1
    omega
  | x :: c, p, w, h => by
    have h1 := h.1
    have ih := lensI_zl c x w h.2
    show lensI p ((x : Int) :: zl c) w = ((x - p : Nat) : Int) :: zl (lensL x c w)
    rw [lensI, ih]
    congr 1
    omega
/-- the pixels of right places, while they are made black two by two -/
def half (c : List Nat) (w k x : Nat) : Bool := decide (x < w) && ((c.take k).countP (· ≤ x) % 2 == 1)
theorem half_zero (c : List Nat) (w x : Nat) : half c w 0 x = false := by simp [half]
theorem count_below {c : List Nat} (hc : c.Pairwise (· < ·)) (i x : Nat) (hi : i < c.length) (hx : c[i] ≤ x) : (c.take i).countP (· ≤ x) = i := by
  have : (c.take i).countP (· ≤ x) = (c.take i).length := by
    rw [List.countP_eq_length]
    intro y hy
    obtain ⟨j, hj, rfl⟩ := List.getElem_of_mem hy
    rw [List.length_take] at hj
    have := (List.pairwise_iff_getElem.1 hc) j i (by omega) hi (by omega)
    simp
    omega
  rw [this, List.length_take]
  omega
theorem half_step {c : List Nat} {w : Nat} (hv : Valid c w) (i x : Nat) (hi : i < c.length) (he : i % 2 = 0) : half c w (min (i + 2) c.length) x = (half c w i x || (decide (c[i] ≤ x) && decide (x < if h : i + 1 < c.length then c[i + 1] else w))) := by
  have hciw : c[i] < w := hv.2 _ (List.getElem_mem hi)
  unfold half
  have q1 : (i + 1 + 1) % 2 = 0 := by omega
  have q2 : (i + 1) % 2 = 1 := by omega
  by_cases h1 : i + 1 < c.length
  · have hw1 : c[i + 1] < w := hv.2 _ (List.getElem_mem h1)
    have hlt : c[i] < c[i + 1] := (List.pairwise_iff_getElem.1 hv.1) i (i + 1) hi h1 (by omega)
    rw [Nat.min_eq_left (by omega), dif_pos h1, List.take_succ_eq_append_getElem h1, List.take_succ_eq_append_getElem hi, List.countP_append, List.countP_append, List.countP_singleton, List.countP_singleton]
    by_cases ha : c[i] ≤ x
    · have hcnt := count_below hv.1 i x hi ha
      rw [hcnt]
      by_cases hb : c[i + 1] ≤ x
      · have hb2 : ¬ x < c[i + 1] := by omega
        simp [ha, hb, hb2, he, q1, q2]
      · have hb2 : x < c[i + 1] := by omega
        have hxw : x < w := by omega
        simp [ha, hb, hb2, hxw, he, q1, q2]
    · have hb : ¬ c[i + 1] ≤ x := by omega
      simp [ha, hb]
  · rw [Nat.min_eq_right (by omega), dif_neg h1, show c.length = i + 1 from by omega, List.take_succ_eq_append_getElem hi, List.countP_append, List.countP_singleton]
    by_cases ha : c[i] ≤ x
    · have hcnt := count_below hv.1 i x hi ha
      rw [hcnt]
      by_cases hxw : x < w
      · simp [ha, hxw, he, q1, q2]
      · simp [ha, hxw]
    · simp [ha]
theorem half_all (c : List Nat) (w x : Nat) : half c w c.length x = (pix c w).getD x false := by
  unfold half
  rw [List.take_length, List.getD_eq_getElem?_getD]
  by_cases h : x < w
  · rw [List.getElem?_eq_getElem (by rw [pix_length]; exact h), pix_get]
    simp [h]
  · rw [List.getElem?_eq_none (by rw [pix_length]; omega)]
    simp [h]
end Go.Proofs.Ytklofifmmcegpaa.Rn

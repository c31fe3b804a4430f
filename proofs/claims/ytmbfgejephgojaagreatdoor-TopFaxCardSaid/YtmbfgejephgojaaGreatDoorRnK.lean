
/- The pixels of a row's bytes, right places, the next one, places toggled, lengths: over whole numbers, in plain words; no program in sight. -/
import Derived.Test.YtmbfgejephgojaaGreatDoorMhP
import Derived.Test.YtmbfgejephgojaaGreatDoorBitN
import Derived.Test.YtmbfgejephgojaaGreatDoorLpR
import Derived.StillTailTactics
import Derived.Shelf.Spec.SlicesGrow
import Derived.Deep.LoopGhost
import Derived.Test.YtmbfgejephgojaaGreatDoorBitV
namespace Go.Proofs.YtmbfgejephgojaaGreatDoor.Rn
open Go.Proofs.YtmbfgejephgojaaGreatDoor.Bit Go.Proofs.YtmbfgejephgojaaGreatDoor.Oct
set_option linter.unusedVariables false
set_option linter.unusedSimpArgs false

/-- a pixel of a row's bytes -/
def gb (xs : List UInt8) (x : Nat) : Bool := (xs.getD (x / 8) 0).toNat / 2 ^ (7 - x % 8) % 2 == 1
theorem word_get : ∀ (n v j : Nat) (h : j < n) (h' : j < (word v n).length), (word v n)[j] = (v / 2 ^ (n - 1 - j) % 2 == 1)
  | 0, v, j, h, h' => by omega
  | n + 1, v, 0, h, h' => by simp [word]
  | n + 1, v, j + 1, h, h' => by
    have := word_get n v j (by omega) (by rw [word_length]; omega)
    simp only [word, List.getElem_cons_succ]
    rw [this, show n + 1 - 1 - (j + 1) = n - 1 - j from by omega]
theorem gb_cons (c : UInt8) (xs : List UInt8) (x : Nat) (h : 8 ≤ x) : gb (c :: xs) x = gb xs (x - 8) := by
  unfold gb
  rw [show x / 8 = (x - 8) / 8 + 1 from by omega, show x % 8 = (x - 8) % 8 from by omega, List.getD_cons_succ]
theorem bits_get : ∀ (xs : List UInt8) (x : Nat) (h : x < (bitsOf false xs).length), (bitsOf false xs)[x] = gb xs x
  | [], x, h => by simp [bitsOf] at h
  | c :: xs, x, h => by
    have hl : x < (bitsB false c ++ bitsOf false xs).length := by rw [← bitsOf_cons]; exact h
    have e : (bitsOf false (c :: xs))[x] = (bitsB false c ++ bitsOf false xs)[x] := by simp [bitsOf_cons]
    refine e.trans ?_
    clear e
    by_cases h8 : x < 8
    · rw [List.getElem_append_left (by rw [bitsB_length]; exact h8)]
      have : (bitsB false c)[x]'(by rw [bitsB_length]; exact h8) = (word c.toNat 8)[x]'(by rw [word_length]; exact h8) := rfl
      rw [this, word_get 8 c.toNat x h8]
      unfold gb
      rw [show x / 8 = 0 from by omega, show x % 8 = x from by omega]
      rfl
    · rw [List.getElem_append_right (by rw [bitsB_length]; omega), gb_cons c xs x (by omega)]
      have := bits_get xs (x - 8) (by rw [List.length_append, bitsB_length] at hl; omega)
      rw [← this]
      simp only [bitsB_length]
theorem bits_inj : ∀ (xs ys : List UInt8), bitsOf false xs = bitsOf false ys → xs = ys
  | [], [], h => rfl
  | [], y :: ys, h => by
    have := congrArg List.length h
    rw [bitsOf_length, bitsOf_length] at this
    simp at this
  | x :: xs, [], h => by
    have := congrArg List.length h
    rw [bitsOf_length, bitsOf_length] at this
    simp at this
  | x :: xs, y :: ys, h => by
    rw [bitsOf_cons, bitsOf_cons] at h
    obtain ⟨h1, h2⟩ := List.append_inj h (by rw [bitsB_length, bitsB_length])
    rw [bits_inj xs ys h2]
    have h3 := congrArg num h1
    have hx := x.toNat_lt
    have hy := y.toNat_lt
    have e1 : num (bitsB false x) = x.toNat := num_word_of_lt _ _ (by simpa using hx)
    have e2 : num (bitsB false y) = y.toNat := num_word_of_lt _ _ (by simpa using hy)
    rw [e1, e2] at h3
    rw [UInt8.toNat_inj.1 h3]
/-- a row of bytes whose pixels are these -/
theorem pack_gb (xs : List UInt8) (l : List Bool) (h : xs.length = (l.length + 7) / 8) (h2 : ∀ x, x < 8 * xs.length → gb xs x = l.getD x false) : xs = packB false l := by
  apply bits_inj
  rw [bitsOf_packB]
  refine List.ext_getElem (by rw [bitsOf_length, List.length_append, zs_length]; omega) (fun i h1 h3 => ?_)
  rw [bits_get, h2 i (by rw [bitsOf_length] at h1; exact h1)]
  by_cases hi : i < l.length
  · rw [List.getElem_append_left hi, List.getD_eq_getElem?_getD, List.getElem?_eq_getElem hi]
    rfl
  · rw [List.getElem_append_right (by omega), List.getD_eq_getElem?_getD, List.getElem?_eq_none (by omega)]
    simp [zs]
theorem gb_packB (l : List Bool) (x : Nat) (h : x < 8 * ((l.length + 7) / 8)) : gb (packB false l) x = l.getD x false := by
  have hl : x < (bitsOf false (packB false l)).length := by rw [bitsOf_length, packB_length]; exact h
  rw [← bits_get _ _ hl]
  have e : (bitsOf false (packB false l))[x] = (l ++ zs (8 * ((l.length + 7) / 8) - l.length))[x]'(by rw [List.length_append, zs_length]; omega) := by simp [bitsOf_packB]
  rw [e]
  by_cases hi : x < l.length
  · rw [List.getElem_append_left hi, List.getD_eq_getElem?_getD, List.getElem?_eq_getElem hi]
    rfl
  · rw [List.getElem_append_right (by omega), List.getD_eq_getElem?_getD, List.getElem?_eq_none (by omega)]
    simp [zs]
theorem bit_testBit (c i : Nat) : (c / 2 ^ i % 2 == 1) = c.testBit i := by
  rw [Nat.testBit_eq_decide_div_mod_eq]
  rfl
/-- one pixel made black -/
theorem gb_set (xs : List UInt8) (i : Nat) (h : i / 8 < xs.length) (c : UInt8) (hc : c.toNat = (xs.getD (i / 8) 0).toNat ||| 2 ^ (7 - i % 8)) (x : Nat) : gb (xs.set (i / 8) c) x = (gb xs x || x == i) := by
  unfold gb
  rw [bit_testBit, bit_testBit]
  by_cases h8 : x / 8 = i / 8
  · rw [h8, show (xs.set (i / 8) c).getD (i / 8) 0 = c from by rw [List.getD_eq_getElem?_getD, List.getElem?_set_self h]; rfl, hc, Nat.testBit_or, Nat.testBit_two_pow]
    congr 1
    have : (7 - i % 8 = 7 - x % 8) = (x = i) := by rw [eq_iff_iff]; omega
    simp only [this]
    exact (Bool.beq_eq_decide_eq x i).symm
  · rw [show (xs.set (i / 8) c).getD (x / 8) 0 = xs.getD (x / 8) 0 from by rw [List.getD_eq_getElem?_getD, List.getD_eq_getElem?_getD, List.getElem?_set_ne (fun e => h8 e.symm)], show (x == i) = false from by simp; intro e; exact h8 (by rw [e]), Bool.or_false]

/-- numbers as whole numbers -/
def zl (c : List Nat) : List Int := c.map fun n : Nat => (n : Int)
theorem zl_length (c : List Nat) : (zl c).length = c.length := by simp [zl]
theorem zl_append (a b : List Nat) : zl (a ++ b) = zl a ++ zl b := by simp [zl]
theorem zl_get (c : List Nat) (i : Nat) (h : i < (zl c).length) (h' : i < c.length) : (zl c)[i] = (c[i] : Int) := by simp [zl]
theorem zl_inj : ∀ {a b : List Nat}, zl a = zl b → a = b
  | [], [], _ => rfl
  | [], b :: bs, h => by simp [zl] at h
  | a :: as1, [], h => by simp [zl] at h
  | a :: as1, b :: bs, h => by
    simp only [zl, List.map_cons, List.cons.injEq] at h
    rw [show a = b from by omega, zl_inj (a := as1) (b := bs) h.2]
/-- right places, behind one -/
def rb (z : Int) : Int → List Int → Bool
  | _, [] => true
  | b, x :: l => if x ≤ b ∨ z ≤ x then false else rb z x l
/-- right places -/
def rightB (l : List Int) (z : Int) : Bool := rb z (-1) l
theorem rb_valid : ∀ (l : List Int) (z b : Int), -1 ≤ b → rb z b l = true → ∃ c : List Nat, l = zl c ∧ c.Pairwise (· < ·) ∧ ∀ x ∈ c, (x : Int) < z ∧ b < (x : Int)
  | [], z, b, hb, h => ⟨[], rfl, List.Pairwise.nil, fun x hx => by cases hx⟩
  | y :: l, z, b, hb, h => by
    rw [rb] at h
    split at h
    · cases h
    · rename_i hn
      have hn : b < y ∧ y < z := by omega
      obtain ⟨c, rfl, h1, h2⟩ := rb_valid l z y (by omega) h
      obtain ⟨k, rfl⟩ : ∃ k : Nat, y = (k : Int) := ⟨y.toNat, by omega⟩
      refine ⟨k :: c, rfl, List.Pairwise.cons (fun x hx => by have := (h2 x hx).2; omega) h1, fun x hx => ?_⟩
      rcases List.mem_cons.1 hx with rfl | hx
      · exact ⟨hn.2, hn.1⟩
      · have := h2 x hx; omega
theorem right_valid {l : List Int} {z : Int} (h : rightB l z = true) : ∃ c : List Nat, l = zl c ∧ Valid c z.toNat := by
  obtain ⟨c, h1, h2, h3⟩ := rb_valid l z (-1) (by omega) h
  exact ⟨c, h1, h2, fun x hx => by have := (h3 x hx).1; omega⟩
theorem valid_rb : ∀ (c : List Nat) (z b : Int), c.Pairwise (· < ·) → (∀ x ∈ c, (x : Int) < z ∧ b < (x : Int)) → rb z b (zl c) = true
  | [], z, b, _, _ => rfl
  | y :: c, z, b, h1, h2 => by
    have h3 := List.pairwise_cons.1 h1
    have h4 := h2 y (by simp)
    show rb z b ((y : Int) :: zl c) = true
    rw [rb, if_neg (by omega)]
    exact valid_rb c z y h3.2 (fun x hx => ⟨(h2 x (by simp [hx])).1, by have := h3.1 x hx; omega⟩)
theorem valid_right {c : List Nat} {w : Nat} (h : Valid c w) : rightB (zl c) (w : Int) = true := valid_rb c w (-1) h.1 (fun x hx => ⟨by have := h.2 x hx; omega, by omega⟩)
/-- the next change to a colour behind a place, and the one behind it -/
def nextI (w : Int) : List Int → Bool → Int → Int × Int
  | [], _, _ => (w, w)
  | x :: c, b, f => if f < x ∧ b = true then (x, c.headD w) else nextI w c (!b) f
/-- a place, put behind or taken away -/
def togI (c : List Int) (x : Int) : List Int := if c.getLast? = some x then c.dropLast else c ++ [x]
theorem togI_zl (c : List Nat) (x : Nat) : togI (zl c) x = zl (togX c x) := by
  unfold togI togX
  have e : ((zl c).getLast? = some (x : Int)) = (c.getLast? = some x) := by
    unfold zl
    rw [List.getLast?_map, eq_iff_iff]
    rcases c.getLast? with _ | y
    · simp
    · simp
      omega
  simp only [e]
  split
  · simp [zl, List.map_dropLast]
  · simp [zl]
theorem nextI_zl (w : Nat) : ∀ (c : List Nat) (b : Bool) (a : Nat), nextI w (zl c) b ((a : Int) - 1) = (((nextX w c b a).1 : Int), ((nextX w c b a).2 : Int))
  | [], b, a => rfl
  | x :: c, b, a => by
    have ih := nextI_zl w c (!b) a
    show nextI w ((x : Int) :: zl c) b _ = _
    rw [nextI, ih]
    unfold nextX
    rw [nextF]
    have e : ((a : Int) - 1 < (x : Int) ∧ b = true) = (a ≤ x ∧ b = true) := by
      rw [eq_iff_iff]
      constructor <;> rintro ⟨h1, h2⟩ <;> exact ⟨by omega, h2⟩
    simp only [e]
    split
    · cases c <;> rfl
    · rfl
/-- the lengths of runs, from a place on -/
def lensI (p : Int) : List Int → Int → List Int
  | [], w => [w - p]
  | x :: c, w => (x - p) :: lensI x c w
theorem lensI_zl : ∀ (c : List Nat) (p w : Nat), Rise p c w → lensI p (zl c) w = zl (lensL p c w)
  | [], p, w, h => by
    have : p ≤ w := h
    simp only [zl, List.map_nil, lensI, lensL, List.map_cons]
    congr 1
    omega
  | x :: c, p, w, h => by
    have h1 := h.1
    have ih := lensI_zl c x w h.2
    show lensI p ((x : Int) :: zl c) w = ((x - p : Nat) : Int) :: zl (lensL x c w)
    rw [lensI, ih]
    congr 1
    omega
/-- the pixels of right places, while they are made black two by two -/
def half (c : List Nat) (w k x : Nat) : Bool := decide (x < w) && ((c.take k).countP (· ≤ x) % 2 == 1)
theorem half_zero (c : List Nat) (w x : Nat) : half c w 0 x = false := by simp [half]
theorem count_below {c : List Nat} (hc : c.Pairwise (· < ·)) (i x : Nat) (hi : i < c.length) (hx : c[i] ≤ x) : (c.take i).countP (· ≤ x) = i := by
  have : (c.take i).countP (· ≤ x) = (c.take i).length := by
    rw [List.countP_eq_length]
    intro y hy
    obtain ⟨j, hj, rfl⟩ := List.getElem_of_mem hy
    rw [List.length_take] at hj
    have := (List.pairwise_iff_getElem.1 hc) j i (by omega) hi (by omega)
    simp
    omega
  rw [this, List.length_take]
  omega
theorem half_step {c : List Nat} {w : Nat} (hv : Valid c w) (i x : Nat) (hi : i < c.length) (he : i % 2 = 0) : half c w (min (i + 2) c.length) x = (half c w i x || (decide (c[i] ≤ x) && decide (x < if h : i + 1 < c.length then c[i + 1] else w))) := by
  have hciw : c[i] < w := hv.2 _ (List.getElem_mem hi)
  unfold half
  have q1 : (i + 1 + 1) % 2 = 0 := by omega
  have q2 : (i + 1) % 2 = 1 := by omega
  by_cases h1 : i + 1 < c.length
  · have hw1 : c[i + 1] < w := hv.2 _ (List.getElem_mem h1)
    have hlt : c[i] < c[i + 1] := (List.pairwise_iff_getElem.1 hv.1) i (i + 1) hi h1 (by omega)
    rw [Nat.min_eq_left (by omega), dif_pos h1, List.take_succ_eq_append_getElem h1, List.take_succ_eq_append_getElem hi, List.countP_append, List.countP_append, List.countP_singleton, List.countP_singleton]
    by_cases ha : c[i] ≤ x
    · have hcnt := count_below hv.1 i x hi ha
      rw [hcnt]
      by_cases hb : c[i + 1] ≤ x
      · have hb2 : ¬ x < c[i + 1] := by omega
        simp [ha, hb, hb2, he, q1, q2]
      · have hb2 : x < c[i + 1] := by omega
        have hxw : x < w := by omega
        simp [ha, hb, hb2, hxw, he, q1, q2]
    · have hb : ¬ c[i + 1] ≤ x := by omega
      simp [ha, hb]
  · rw [Nat.min_eq_right (by omega), dif_neg h1, show c.length = i + 1 from by omega, List.take_succ_eq_append_getElem hi, List.countP_append, List.countP_singleton]
    by_cases ha : c[i] ≤ x
    · have hcnt := count_below hv.1 i x hi ha
      rw [hcnt]
      by_cases hxw : x < w
      · simp [ha, hxw, he, q1, q2]
      · simp [ha, hxw]
    · simp [ha]
theorem half_all (c : List Nat) (w x : Nat) : half c w c.length x = (pix c w).getD x false := by
  unfold half
  rw [List.take_length, List.getD_eq_getElem?_getD]
  by_cases h : x < w
  · rw [List.getElem?_eq_getElem (by rw [pix_length]; exact h), pix_get]
    simp [h]
  · rw [List.getElem?_eq_none (by rw [pix_length]; omega)]
    simp [h]
end Go.Proofs.YtmbfgejephgojaaGreatDoor.Rn
/- Contracts of package runs: isWidth, bytesFor, isToBlack, pixelBit, after, isBlack, Right. -/
namespace Go.Proofs.YtmbfgejephgojaaGreatDoor.Rn
open Go.RowKit Go.Proofs.YtmbfgejephgojaaGreatDoor.Oct Go.Proofs.YtmbfgejephgojaaGreatDoor.Bit Go.Proofs.YtmbfgejephgojaaGreatDoor.Lp
set_option linter.unusedVariables false
set_option linter.unusedSimpArgs false
set_option maxRecDepth 100000

def wideB (n : Int) : Bool := decide (0 ≤ n ∧ n ≤ 32768)
theorem isWidth_any (n : Int) (w : World) : Calls Tryz.prog 31 #[.int .i64 n] w fun e w' => e = .returned (.bool (wideB n)) ∧ w = w' := by
  by_cases h0 : 0 ≤ n
  · by_cases h1 : n ≤ 32768
    · have e : wideB n = true := by simp [wideB, h0, h1]
      rw [e]; clear e
      go_enter Tryz.func31, Tryz.ntmps31
      go_wp2
      go_ret
      exact ⟨rfl, rfl⟩
    · have e : wideB n = false := by simp [wideB, h1]
      rw [e]; clear e
      have hd : decide (n ≤ 32768) = false := by simpa using h1
      go_enter Tryz.func31, Tryz.ntmps31
      go_wp2
      go_ret
      exact ⟨rfl, rfl⟩
  · have e : wideB n = false := by simp [wideB, h0]
    rw [e]; clear e
    have hd : decide (0 ≤ n) = false := by simpa using h0
    go_enter Tryz.func31, Tryz.ntmps31
    go_wp2
    go_ret
    exact ⟨rfl, rfl⟩
theorem bytesFor_any (n : Nat) (w : World) (h : n ≤ 4000000000000000) : Calls Tryz.prog 32 #[.int .i64 (n : Int)] w fun e w' => e = .returned (.int .i64 (((n + 7) / 8 : Nat) : Int)) ∧ w = w' := by
  have e : (((n + 7) / 8 : Nat) : Int) = ((n : Int) + 7) / 8 := by omega
  rw [e]; clear e
  go_enter Tryz.func32, Tryz.ntmps32
  go_wp2
  go_ret
  exact ⟨rfl, rfl⟩
theorem isToBlack_any (i : Nat) (w : World) (h : i ≤ 4000000000000000) : Calls Tryz.prog 89 #[.int .i64 (i : Int)] w fun e w' => e = .returned (.bool (i % 2 == 0)) ∧ w = w' := by
  have e : (i % 2 == 0) = ((i : Int) % 2 == 0) := by rw [Bool.eq_iff_iff]; simp; omega
  rw [e]; clear e
  go_enter Tryz.func89, Tryz.ntmps89
  go_wp2
  go_ret
  exact ⟨rfl, rfl⟩
theorem shr128 (r : Nat) (h : r < 8) : (128 : Int) / 2 ^ r = ((2 ^ (7 - r) : Nat) : Int) := by
  have : r = 0 ∨ r = 1 ∨ r = 2 ∨ r = 3 ∨ r = 4 ∨ r = 5 ∨ r = 6 ∨ r = 7 := by omega
  rcases this with rfl | rfl | rfl | rfl | rfl | rfl | rfl | rfl <;> decide
theorem pixelBit_any (x : Nat) (w : World) (h : x ≤ 4000000000000000) : Calls Tryz.prog 54 #[.int .i64 (x : Int)] w fun e w' => e = .returned (.int .u8 ((2 ^ (7 - x % 8) : Nat) : Int)) ∧ w = w' := by
  obtain ⟨r, hr⟩ : ∃ r, r = x % 8 := ⟨_, rfl⟩
  have hr8 : r < 8 := by omega
  have hm : (x : Int) % 8 = (r : Int) := by omega
  have e := shr128 r hr8
  rw [← hr]
  clear hr
  generalize 2 ^ (7 - r) = m at e
  go_enter Tryz.func54, Tryz.ntmps54
  go_wp2
  go_ret
  exact ⟨rfl, rfl⟩
theorem after_any (p : Option Addr) (cap : Nat) (zs : List Int) (i : Nat) (z : Int) (w : World) (C : Nat) (h : VRow w C p (ints zs)) (hl : zs.length ≤ maxLen) (hi : i ≤ 4000000000000000) :
    Calls Tryz.prog 90 #[.slice p zs.length cap, .int .i64 (i : Int), .int .i64 z] w fun e w' => e = .returned (.int .i64 (zs.getD (i + 1) z)) ∧ w = w' := by
  unfold maxLen at hl
  by_cases hlt : i + 1 < zs.length
  · obtain ⟨b, off, rfl, _⟩ := h.addr (by rw [ints_length]; omega)
    have hc := h.int (i + 1) hlt
    have e : zs.getD (i + 1) z = zs[i + 1] := by rw [List.getD_eq_getElem?_getD, List.getElem?_eq_getElem hlt]; rfl
    rw [e]
    clear e h
    generalize zs[i + 1] = x at hc
    generalize zs.length = n at hl hlt
    obtain ⟨j, hj⟩ : ∃ j, j = i + 1 := ⟨_, rfl⟩
    rw [← hj] at hc hlt
    have hw : IntKind.i64.wrap ((i : Int) + 1) = (j : Int) := by rw [IntKind.wrap_i64]; omega
    have i1 : (0 : Int) ≤ (j : Int) := by omega
    have i2 : (j : Int) < (n : Int) := by omega
    clear hj
    go_enter Tryz.func90, Tryz.ntmps90
    go_wp2
    go_ret
    exact ⟨rfl, rfl⟩
  · have e : zs.getD (i + 1) z = z := by rw [List.getD_eq_getElem?_getD, List.getElem?_eq_none (by omega)]; rfl
    rw [e]
    generalize zs.length = n at hl hlt
    have hd : decide ((i : Int) + 1 < (n : Int)) = false := by simp; omega
    clear h e
    go_enter Tryz.func90, Tryz.ntmps90
    go_wp2
    go_ret
    exact ⟨rfl, rfl⟩
theorem and_bit (c i : Nat) : (c &&& 2 ^ i != 0) = (c / 2 ^ i % 2 == 1) := by
  rw [bit_testBit]
  have hp : 2 ^ i ≠ 0 := Nat.ne_of_gt (Nat.pow_pos (by omega))
  cases h : c.testBit i
  · have : c &&& 2 ^ i = 0 := Nat.eq_of_testBit_eq fun j => by
      rw [Nat.testBit_and, Nat.testBit_two_pow, Nat.zero_testBit]
      by_cases hj : i = j
      · subst hj; rw [h]; rfl
      · simp [hj]
    rw [this]
    rfl
  · have : c &&& 2 ^ i = 2 ^ i := Nat.eq_of_testBit_eq fun j => by
      rw [Nat.testBit_and, Nat.testBit_two_pow]
      by_cases hj : i = j
      · subst hj; rw [h]; simp
      · simp [hj]
    rw [this]
    simp
theorem gb_lt {xs : List UInt8} {x : Nat} (h : x < 8 * xs.length) : x / 8 < xs.length := by omega
theorem isBlack_any (p : Option Addr) (len cap : Nat) (xs : List UInt8) (x : Nat) (w : World) (h : Row w p xs) (hx : xs.length = len) (hl : len ≤ 100000) (hi : x < 8 * len) :
    Calls Tryz.prog 33 #[.slice p len cap, .int .i64 (x : Int)] w fun e w' => e = .returned (.bool (gb xs x)) ∧ Drawn w w' := by
  obtain ⟨b, off, rfl, _, hc⟩ := h (by omega)
  have hq : x / 8 < xs.length := by omega
  have hcell := hc (x / 8) hq
  have hg : gb xs x = ((xs[x / 8]).toNat &&& 2 ^ (7 - x % 8) != 0) := by
    rw [and_bit]
    unfold gb
    rw [List.getD_eq_getElem?_getD, List.getElem?_eq_getElem hq]
    rfl
  rw [hg]
  clear hg hc
  have hb : (xs[x / 8]).toNat < 256 := (xs[x / 8]).toNat_lt
  generalize (xs[x / 8]).toNat = c at hcell hb
  obtain ⟨j, hj⟩ : ∃ j, j = x / 8 := ⟨_, rfl⟩
  rw [← hj] at hcell
  have hjz : (x : Int) / 8 = (j : Int) := by omega
  have i1 : (0 : Int) ≤ (j : Int) := by omega
  have i2 : (j : Int) < (len : Int) := by omega
  have hpb := fun w' => pixelBit_any x w' (by omega)
  have hm2 : 2 ^ (7 - x % 8) < 256 := by
    have : 2 ^ (7 - x % 8) ≤ 2 ^ 7 := Nat.pow_le_pow_right (by omega) (by omega)
    omega
  generalize 2 ^ (7 - x % 8) = m at hpb hm2
  have hand : bits .and .u8 (c : Int) (m : Int) = ((c &&& m : Nat) : Int) := u8_and_nat c m hb hm2
  have hne : (((c &&& m : Nat) : Int) != 0) = (c &&& m != 0) := by rw [Bool.eq_iff_iff]; simp
  rw [← hne]
  clear hne
  generalize ((c &&& m : Nat) : Int) = y at hand
  have HPB := Lib.hid hpb
  clear hpb hq h hj
  go_enter Tryz.func33, Tryz.ntmps33
  go_wp2_with fail
  go_quiet ((go_at_call 54; exact quietly (HPB.out _)))
  go_wp2_with fail
  go_ret
  exact ⟨rfl, ⟨_, rfl⟩⟩
theorem stays {P : Program} {f : FuncId} {args : Array Value} {w : World} {v : Value}
    (h : Calls P f args w fun e w' => e = .returned v ∧ w = w') : Calls P f args w fun e w'' => e = .returned v ∧ w'' = w :=
  h.mono fun _ _ ⟨he, hm⟩ => ⟨he, hm.symm⟩
/-- pixels made black from a place on up to another -/
def BlackP (g : Nat) (w : World) (xs : List UInt8) (a b : Nat) (e : Ending) (w' : World) : Prop :=
  e = .returned (.tuple #[]) ∧ Below g w w' ∧ ∃ ys, Blk w' g ys ∧ ys.length = xs.length ∧ ∀ x, gb ys x = (gb xs x || (decide (a ≤ x) && decide (x < b)))
def BlackT (g : Nat) (w : World) (xs : List UInt8) (a k : Nat) (wr : World) : Prop :=
  Below g w wr ∧ ∃ ys, Blk wr g ys ∧ ys.length = xs.length ∧ ∀ x, gb ys x = (gb xs x || (decide (a ≤ x) && decide (x < k)))
theorem BlackT.step {g : Nat} {w wr w2 : World} {xs : List UInt8} {a k : Nat} (ys : List UInt8) (hB : Below g w wr) (hb : Blk wr g ys) (hl : ys.length = xs.length) (hy : ∀ x, gb ys x = (gb xs x || (decide (a ≤ x) && decide (x < k)))) (hk : k / 8 < xs.length) (hak : a ≤ k)
    (hd : Drawn wr w2) (z : Int) (hz : z = (((ys.getD (k / 8) 0).toNat ||| 2 ^ (7 - k % 8) : Nat) : Int)) : BlackT g w xs a (k + 1) (w2.setCell ⟨g, k / 8, none⟩ (.int .u8 z)) := by
  have hm : 2 ^ (7 - k % 8) < 256 := by
    have : 2 ^ (7 - k % 8) ≤ 2 ^ 7 := Nat.pow_le_pow_right (by omega) (by omega)
    omega
  have hv : (ys.getD (k / 8) 0).toNat ||| 2 ^ (7 - k % 8) < 256 := Nat.or_lt_two_pow (n := 8) (ys.getD (k / 8) 0).toNat_lt hm
  obtain ⟨c, hc⟩ : ∃ c : UInt8, c.toNat = (ys.getD (k / 8) 0).toNat ||| 2 ^ (7 - k % 8) := ⟨UInt8.ofNat _, by rw [UInt8.toNat_ofNat']; exact Nat.mod_eq_of_lt hv⟩
  have hb2 : Blk w2 g ys := by
    obtain ⟨n, rfl⟩ := hd
    exact hb
  rw [hz, ← hc]
  refine ⟨(hB.trans (hd.below _)).setCell (Nat.le_refl _) _, ys.set (k / 8) c, hb2.set_ _ _, by rw [List.length_set]; exact hl, fun x => ?_⟩
  rw [gb_set ys k (by rw [hl]; exact hk) c hc x, hy x]
  by_cases h1 : a ≤ x
  · by_cases h2 : x < k
    · have h3 : x < k + 1 := by omega
      simp [h1, h2, h3]
    · by_cases h3 : x = k
      · subst h3; simp [h1]
      · have h4 : ¬ x < k + 1 := by omega
        simp [h2, h3, h4]
  · have h3 : ¬ x = k := by omega
    simp [h1, h3]
/-- right places -/
theorem right_any (p : Option Addr) (len cap : Nat) (zs : List Int) (z : Int) (w : World) (C : Nat) (h : VRow w C p (ints zs)) (hx : zs.length = len) (hl : len ≤ maxLen) :
    Calls Tryz.prog 61 #[.slice p len cap, .int .i64 z] w fun e w' => e = .returned (.bool (rightB zs z)) ∧ w = w' := by
  unfold maxLen at hl
  have HH := Lib.hid h
  have HX := Lib.hid hx
  obtain ⟨X, hX⟩ : ∃ X, X = rightB zs z := ⟨_, rfl⟩
  rw [← hX]
  have HST : Hid (rb z (-1) (zs.drop 0) = X) := Lib.hid hX.symm
  clear h hx hX
  go_enter Tryz.func61, Tryz.ntmps61
  go_wp2_with fail
  go_loop [5, 7, 10] (fun b _ i => ∃ (k : Nat) (y : Int), k ≤ len ∧ i = .int .i64 (k : Int) ∧ b = .int .i64 y ∧ Hid (rb z y (zs.drop k) = X)) (fun _ _ i => len - (intOf i).toNat)
  case atStart => exact ⟨0, -1, by omega, rfl, rfl, HST⟩
  case round =>
    clear HST
    obtain ⟨k, y, hk, rfl, rfl, HR⟩ := hrel
    by_cases hlt : k < len
    · have hkl : k < zs.length := by rw [HX.out]; exact hlt
      obtain ⟨b, off, hq, _⟩ := HH.out.addr (by rw [ints_length]; omega)
      subst hq
      have hc := HH.out.int k hkl
      have hr := HR.out
      rw [List.drop_eq_getElem_cons hkl, rb] at hr
      generalize zs[k] = x at hc hr
      have hd : decide ((k : Int) < (len : Int)) = true := by simp; omega
      have i1 : (0 : Int) ≤ (k : Int) := by omega
      have i2 : (k : Int) < (len : Int) := by omega
      clear HR hkl
      by_cases h1 : x ≤ y
      · rw [if_pos (.inl h1)] at hr
        subst hr
        have hd2 : decide (x ≤ y) = true := by simpa using h1
        clear h1
        go_wp2_with fail
        go_ret
        exact ⟨rfl, rfl⟩
      · have hd2 : decide (x ≤ y) = false := by simpa using h1
        by_cases h2 : z ≤ x
        · rw [if_pos (.inr h2)] at hr
          subst hr
          have hd3 : decide (z ≤ x) = true := by simpa using h2
          clear h1 h2
          go_wp2_with fail
          go_ret
          exact ⟨rfl, rfl⟩
        · rw [if_neg (by omega)] at hr
          have hd3 : decide (z ≤ x) = false := by simpa using h2
          have HR := Lib.hid hr
          clear h1 h2 hr
          go_wp2_with fail
          go_round
          case rel => exact ⟨k + 1, x, by omega, by go_num, rfl, HR⟩
          case measure => simp [intOf]; omega
    · have : k = len := by omega
      subst this
      have hr := HR.out
      rw [List.drop_of_length_le (by rw [HX.out]; omega), rb] at hr
      subst hr
      have hd : decide ((k : Int) < (k : Int)) = false := by simp
      go_wp2_with fail
      go_ret
      exact ⟨rfl, rfl⟩
end Go.Proofs.YtmbfgejephgojaaGreatDoor.Rn
/- slices.Clone, Grow, Concat over rows of numbers; parts of such rows. -/
namespace Go.Proofs.YtmbfgejephgojaaGreatDoor.Rn
open Go.RowKit Go.Shelf Go.Proofs.YtmbfgejephgojaaGreatDoor.Oct Go.Proofs.YtmbfgejephgojaaGreatDoor.Lp
set_option linter.unusedVariables false
set_option linter.unusedSimpArgs false
set_option maxRecDepth 100000

def CloneV (w : World) (vs : List Value) (e : Ending) (w' : World) : Prop :=
  Below w.heap.size w w' ∧ ∃ q cap, e = .returned (.slice q vs.length cap) ∧ VRow w' w'.heap.size q vs ∧ vs.length ≤ cap ∧ cap ≤ maxLen ∧ (q = none → cap = 0) ∧ ∀ a, q = some a → w.heap.size ≤ a.block
set_option maxHeartbeats 400000 in
theorem cloneI_any (p : Option Addr) (len cap : Nat) (vs : List Value) (w : World) (hr : VRow w w.heap.size p vs) (hx : vs.length = len) (hnil : p = none → cap = 0) (h47 : len ≤ 100000) (h1 : ∀ u ∈ vs, u.oneCell' = true) :
    Calls Tryz.prog 56 #[.slice p len cap] w (CloneV w vs) := by
  obtain ⟨i0, hi, hz0, hz1, hz2⟩ := info_parts Tryz.infoInt
  rcases p with _ | ad
  · have hxs : vs = [] := by
      rcases vs with _ | ⟨x, xs⟩
      · rfl
      · obtain ⟨b, off, he, _⟩ := hr (by simp)
        cases he
    subst hxs
    simp at hx
    subst hx
    have hcap := hnil rfl
    subst hcap
    clear hnil
    have heq : ∀ w' : World, (binOp .eql 38 (.slice none 0 0) (.slice none 0 0)).run Tryz.prog w' = .ok (.bool true) w' := fun w' => Lib.run_eql_slice_nil (P := Tryz.prog) w' 38 3 none 0 0 0 0 Tryz.underlying38
    go_enter Tryz.func56, Tryz.ntmps56
    go_wp2_with fail
    go_ret
    exact ⟨Below.refl _ _, none, 0, rfl, fun h => absurd h (by simp), by simp, by simp [maxLen], fun _ => rfl, (fun a h => by cases h)⟩
  · have hown := World.ownsRow_made (base := w.heap.size) (e := 3) (size := 1) w #[] 0 (Nat.le_refl _) (by simp [maxLen]) rfl
    have hba : Below w.heap.size w (w.alloc (.cells #[] 3)) := (Below.refl _ w).alloc (Nat.le_refl _) _
    have hr2 : VRow (w.alloc (.cells #[] 3)) (w.alloc (.cells #[] 3)).heap.size (some ad) vs := (hr.below hba (Nat.le_refl _)).mono (by simp)
    have HX := Lib.hid hx
    have HR2 := Lib.hid hr2
    have HBA := Lib.hid hba
    have H1 := Lib.hid h1
    clear hx hnil hr2 hba hr h1
    have heq : ∀ w' : World, (binOp .eql 38 (.slice (some ad) len cap) (.slice none 0 0)).run Tryz.prog w' = .ok (.bool false) w' := fun w' => Lib.run_eql_slice_nil (P := Tryz.prog) w' 38 3 (some ad) len cap 0 0 Tryz.underlying38
    go_enter Tryz.func56, Tryz.ntmps56
    go_wp2_with (at_builtin; refine wpList_append_vals Tryz.underlying38 hi hz0 hz1 hz2 rfl (by decide) rfl _ _ rfl w.heap.size _ 0 [] rfl hown (some ad) len cap vs rfl HR2.out HX.out (fun h => by cases h) H1.out (by omega) (by simp) ?_)
    intro v' w2 hown' hgrow hbel
    obtain ⟨q, cap2, hv', hq0, hgc, hgm, hrow2, hqb⟩ := vrow_own hown' HX.out
    rw [hv']
    have HB12 := Lib.hid (HBA.out.trans hbel)
    have HROW := Lib.hid hrow2
    have HGC := Lib.hid hgc
    have HGM := Lib.hid hgm
    have HQB := Lib.hid hqb
    have HQ0 := Lib.hid hq0
    clear hown hown' hgrow hbel hv' hrow2 hgc hgm hqb hq0
    go_wp2_with fail
    go_ret
    refine ⟨HB12.out, q, cap2, by rw [HX.out]; simp, HROW.out, by have := HGC.out; rw [HX.out]; omega, HGM.out, HQ0.out, HQB.out⟩
/-- a row of numbers of the call's own -/
def IOwn (w : World) (base : Nat) (v : Value) (zs : List Int) : Prop := w.ownsRow base 3 1 v zs.length (ints zs)
def GrowP8 (w : World) (e : Ending) (w' : World) : Prop := ∃ v, e = .returned v ∧ IOwn w' w.heap.size v [] ∧ Below w.heap.size w w'
def CatP8 (w : World) (zs : List Int) (e : Ending) (w' : World) : Prop := ∃ v, e = .returned v ∧ IOwn w' w.heap.size v zs ∧ Below w.heap.size w w'
/-- a row of rows of numbers -/
def RowsAt (w : World) (sb : Nat) (R : List (List Int)) : Prop := ∀ k (h : k < R.length), ∃ p cc, w.cell? ⟨sb, k, none⟩ = some (.slice p R[k].length cc) ∧ VRow w w.heap.size p (ints R[k]) ∧ (p = none → cc = 0) ∧ R[k].length ≤ 1000
theorem take_flat (R : List (List Int)) (k : Nat) (h : k < R.length) : (R.take (k + 1)).flatten = (R.take k).flatten ++ R[k] := by
  rw [List.take_succ_eq_append_getElem h, List.flatten_append]
  simp
theorem flat_len (R : List (List Int)) (hl : R.length ≤ 10) (h : ∀ k (h : k < R.length), R[k].length ≤ 1000) (k : Nat) (hk : k ≤ R.length) : (R.take k).flatten.length ≤ 1000 * k := by
  induction k with
  | zero => simp
  | succ k ih =>
    rw [take_flat R k (by omega), List.length_append]
    have := ih (by omega)
    have := h k (by omega)
    omega
theorem tail_ints (W : World) (p : Option Addr) (len cap a : Nat) (h : a ≤ len) :
    (Instr.slice 38 (.slice p len cap) (some (.int .i64 (a : Int))) none none).run Tryz.prog W = .ok (.slice (tailA p cap a) (len - a) (cap - a)) W := by
  have ht' : Tryz.prog.underlying 38 = some (.slice (Tryz.prog.elem 38)) := by kernel_rfl
  have he : Tryz.prog.elem 38 = 3 := by kernel_rfl
  have hz : (Go.sizeOf 3).run Tryz.prog W = .ok 1 W := by kernel_rfl
  rw [run_slice_l W 38 p len cap ht' .i64 _ (by omega) (by omega), he, hz]
  unfold tailA
  simp [Result.andThen, sliced]
theorem head_ints (W : World) (p : Option Addr) (len cap k : Nat) (h : k ≤ cap) (hp : p = none → cap = 0) :
    (Instr.slice 38 (.slice p len cap) none (some (.int .i64 (k : Int))) none).run Tryz.prog W = .ok (.slice p k cap) W := by
  have ht' : Tryz.prog.underlying 38 = some (.slice (Tryz.prog.elem 38)) := by kernel_rfl
  have he : Tryz.prog.elem 38 = 3 := by kernel_rfl
  have hz : (Go.sizeOf 3).run Tryz.prog W = .ok 1 W := by kernel_rfl
  rw [run_slice_h W 38 p len cap ht' .i64 _ (by omega) (by omega), he, hz]
  rcases p with _ | a
  · have := hp rfl
    subst this
    simp [Result.andThen, sliced]
  · simp only [Result.andThen_ok, sliced, Int.toNat_natCast]
    obtain ⟨b, o, s⟩ := a
    by_cases h0 : cap = 0
    · simp [h0]
    · rw [if_neg h0]
      simp [Addr.add]
theorem tail_v {w : World} {C : Nat} {p : Option Addr} {zs : List Int} (cap a : Nat) (h : VRow w C p (ints zs)) (hx : zs.length ≤ cap) : VRow w C (tailA p cap a) (ints (zs.drop a)) := by
  intro hp
  rw [ints_length, List.length_drop] at hp
  obtain ⟨b, off, rfl, hb, hc⟩ := h (by rw [ints_length]; omega)
  have hne : ¬ cap = a := by omega
  refine ⟨b, off + a, by simp [tailA, hne, add_plain], hb, fun i hi => ?_⟩
  rw [ints_length, List.length_drop] at hi
  rw [Nat.add_assoc, hc (a + i) (by rw [ints_length]; omega)]
  simp [ints]
theorem head_v {w : World} {C : Nat} {p : Option Addr} {zs : List Int} (k : Nat) (h : VRow w C p (ints zs)) : VRow w C p (ints (zs.take k)) := by
  intro hp
  rw [ints_length, List.length_take] at hp
  obtain ⟨b, off, rfl, hb, hc⟩ := h (by rw [ints_length]; omega)
  refine ⟨b, off, rfl, hb, fun i hi => ?_⟩
  rw [ints_length, List.length_take] at hi
  rw [hc i (by rw [ints_length]; omega)]
  simp [ints]
end Go.Proofs.YtmbfgejephgojaaGreatDoor.Rn
/- Contracts of package runs: Of, Next, Lengths. -/
namespace Go.Proofs.YtmbfgejephgojaaGreatDoor.Rn
open Go.RowKit Go.Proofs.YtmbfgejephgojaaGreatDoor.Oct Go.Proofs.YtmbfgejephgojaaGreatDoor.Bit Go.Proofs.YtmbfgejephgojaaGreatDoor.Lp
set_option linter.unusedVariables false
set_option linter.unusedSimpArgs false
set_option maxRecDepth 100000

theorem ints_new (w : World) (zs : List Int) (T : TypeId) (fr : Nat × Nat) : VRow (w.alloc (.cells (ints zs).toArray T fr)) (w.alloc (.cells (ints zs).toArray T fr)).heap.size (some ⟨w.heap.size, 0, none⟩) (ints zs) :=
  vrow_blk (T := T) (fr := fr) (by
    show (w.heap.push _)[w.heap.size]? = _
    simp) (by simp)
/-- a row of numbers and an error, given back -/
def LstP (w : World) (zs : List Int) (er : Int) (e : Ending) (w' : World) : Prop :=
  Below w.heap.size w w' ∧ ∃ q c, e = .returned (.tuple #[.slice q zs.length c, .int .i64 er]) ∧ VRow w' w'.heap.size q (ints zs) ∧ (q = none → c = 0) ∧ zs.length ≤ c ∧ c ≤ maxLen
theorem LstP.nil (w : World) (er : Int) (w' : World) (h : Below w.heap.size w w') : LstP w [] er (.returned (.tuple #[.slice none 0 0, .int .i64 er])) w' :=
  ⟨h, none, 0, rfl, fun h => absurd h (by simp [ints]), fun _ => rfl, Nat.le_refl _, by simp [maxLen]⟩
theorem changes_snoc (P : List Bool) (b : Bool) : changes (P ++ [b]) = changes P ++ (if b = lastP false P then [] else [P.length]) := cur_eq P b
theorem IOwn.len {w : World} {base : Nat} {v : Value} {zs : List Int} (h : IOwn w base v zs) : (ints zs).length = zs.length := ints_length _
set_option maxHeartbeats 2000000 in
theorem of_in (p : Option Addr) (len cap : Nat) (xs : List UInt8) (n : Nat) (w : World) (h : Row w p xs) (hx : xs.length = len) (hl : len ≤ 100000) (hn : n ≤ 32768) (hn8 : n ≤ 8 * len) :
    Calls Tryz.prog 13 #[.slice p len cap, .int .i64 (n : Int)] w (LstP w (zl (changes ((bitsOf false xs).take n))) 0) := by
  obtain ⟨i0, hi, hz0, hz1, hz2⟩ := info_parts Tryz.infoInt
  have hwd : wideB (n : Int) = true := by unfold wideB; simp; omega
  obtain ⟨P, hP⟩ : ∃ P, P = (bitsOf false xs).take n := ⟨_, rfl⟩
  rw [← hP]
  have hPl : P.length = n := by rw [hP, List.length_take, bitsOf_length, hx]; omega
  have HPG := Lib.hid (show ∀ k (hk : k < P.length), P[k] = gb xs k from fun k hk => by
    subst hP
    rw [List.getElem_take, bits_get])
  have HPL := Lib.hid hPl
  have HROW := Lib.hid h
  have HX := Lib.hid hx
  clear h hx hP hPl
  go_enter Tryz.func13, Tryz.ntmps13
  go_wp2_with fail
  refine (isWidth_any _ _).mono ?_
  rintro e w' ⟨rfl, rfl⟩
  rw [hwd]
  go_wp2_with fail
  refine (bytesFor_any _ _ (by omega)).mono ?_
  rintro e w' ⟨rfl, rfl⟩
  obtain ⟨m, hm⟩ : ∃ m, m = (n + 7) / 8 := ⟨_, rfl⟩
  have hd0 : decide (len < m) = false := by simp; omega
  rw [← hm]
  clear hm hwd
  go_wp2_with fail
  go_loopw [6, 7, 8, 18] (fun v b _ i wr => ∃ k : Nat, k ≤ n ∧ i = .int .i64 (k : Int) ∧ b = .bool (lastP false (P.take k)) ∧ Hid (IOwn wr w.heap.size v (zl (changes (P.take k)))) ∧ Hid (Below w.heap.size w wr)) (fun _ _ _ i _ => n - (intOf i).toNat)
  case atStart => exact ⟨0, by omega, rfl, rfl, Lib.hid (by simpa [changes, chg, zl, IOwn, ints] using World.ownsRow_nil w w.heap.size 3 1), Lib.hid (Below.refl _ _)⟩
  case round =>
    obtain ⟨k, hk, rfl, rfl, HO, HB⟩ := hrel
    by_cases hlt : k < n
    · have hkl : k < P.length := by rw [HPL.out]; exact hlt
      have hd : decide ((k : Int) < (n : Int)) = true := by simp; omega
      have HG := Lib.hid (HPG.out k hkl)
      have htk := List.take_succ_eq_append_getElem hkl
      have hsn := changes_snoc (P.take k) P[k]
      rw [← htk] at hsn
      have hls : lastP false (P.take (k + 1)) = P[k] := by rw [htk, lastP_append]; rfl
      rw [List.length_take, Nat.min_eq_left (by omega)] at hsn
      rw [HG.out] at hsn hls
      have hbl := isBlack_any p len cap xs k wr (fun hp => HROW.out.below HB.out hp) HX.out hl (by omega)
      have hlen : (changes (P.take k)).length ≤ k := by
        have : ∀ (l : List Bool) (b : Bool) (i : Nat), (chg b i l).length ≤ l.length := by
          intro l
          induction l with
          | nil => intro b i; simp [chg]
          | cons c l ih =>
            intro b i
            rw [chg, List.length_cons]
            split
            · have := ih c (i + 1); omega
            · have := ih c (i + 1); rw [List.length_cons]; omega
        have := this (P.take k) false 0
        rw [List.length_take] at this
        unfold changes
        omega
      generalize gb xs k = b at hsn hls hbl
      obtain ⟨l, hl2⟩ : ∃ l, l = lastP false (P.take k) := ⟨_, rfl⟩
      rw [← hl2] at hsn ⊢
      have HSN := Lib.hid hsn
      have HLS := Lib.hid hls
      have HBL := Lib.hid hbl
      clear htk hsn hls hbl HG hl2 hkl
      go_wp2_with fail
      refine HBL.out.mono ?_
      rintro e w1 ⟨rfl, hdr⟩
      have hb0 : Below wr.heap.size wr w1 := hdr.below _
      by_cases hbl : b = l
      · subst hbl
        have hne : (b != b) = false := by simp
        have HO2 : Hid (IOwn w1 w.heap.size u6 (zl (changes (P.take (k + 1))))) := Lib.hid (by
          have := HSN.out
          rw [if_pos rfl, List.append_nil] at this
          rw [this]
          exact own_below HO.out hb0)
        have HB2 := Lib.hid (HB.out.trans (hb0.mono HB.out.size))
        clear HBL HO HB hb0 hdr HSN
        go_wp2_with fail
        go_roundw
        case rel => exact ⟨k + 1, by omega, by go_num, by rw [HLS.out], HO2, HB2⟩
        case measure => simp [intOf]; omega
      · have hnl : (!l) = b := by cases b <;> cases l <;> simp_all
        subst hnl
        have hb1 : Below w1.heap.size w1 (w1.alloc (.cells (ints [(k : Int)]).toArray 3)) := (Below.refl _ w1).alloc (Nat.le_refl _) _
        have HS := Lib.hid (ints_new w1 [(k : Int)] 3 (0, 0))
        have HOW := Lib.hid (own_below (own_below HO.out hb0) hb1)
        have HB2 := Lib.hid ((HB.out.trans (hb0.mono HB.out.size)).trans (hb1.mono (by have := HB.out.size; have := hb0.size; omega)))
        have HZ := Lib.hid HB2.out.size
        have HSN2 : Hid (ints (zl (changes (P.take k))) ++ ints [(k : Int)] = ints (zl (changes (P.take (k + 1)))) ∧ (zl (changes (P.take k))).length + 1 = (zl (changes (P.take (k + 1)))).length) := Lib.hid (by
          have := HSN.out
          rw [if_neg hbl] at this
          rw [this, zl_append, ints_append]
          exact ⟨rfl, by simp [zl]⟩)
        have hlz : (zl (changes (P.take k))).length ≤ k := by rw [zl_length]; exact hlen
        clear HBL HO HB hb0 hb1 hdr HSN hbl hlen
        go_wp2_with (at_builtin; refine wpList_append_vals Tryz.underlying38 hi hz0 hz1 hz2 rfl (by decide) rfl _ _ rfl w.heap.size _ (zl (changes (P.take k))).length (ints (zl (changes (P.take k)))) rfl HOW.out (some ⟨w1.heap.size, 0, none⟩) 1 1 (ints [(k : Int)]) rfl HS.out rfl (fun h => by cases h) ints_one (by omega) HZ.out ?_)
        intro v2 w2 hown2 _ hb3
        rw [HSN2.out.1, HSN2.out.2] at hown2
        have HO3 : Hid (IOwn w2 w.heap.size v2 (zl (changes (P.take (k + 1))))) := Lib.hid hown2
        have HB3 := Lib.hid (HB2.out.trans hb3)
        clear hown2 hb3 HOW HS HZ HSN2 HB2
        go_wp2_with fail
        go_roundw
        case rel => exact ⟨k + 1, by omega, by go_num, by rw [HLS.out], HO3, HB3⟩
        case measure => simp [intOf]; omega
    · have hke : k = n := by omega
      subst hke
      have hd : decide ((k : Int) < (k : Int)) = false := by simp
      rw [List.take_of_length_le (by rw [HPL.out]; exact Nat.le_refl _)] at HO ⊢
      generalize lastP false P = bl
      obtain ⟨q, c, rfl, hq0, hqc, hcm, hv, _⟩ := vrow_own HO.out (by rw [ints_length])
      have HQ0 := Lib.hid hq0
      have HQC := Lib.hid hqc
      have HCM := Lib.hid hcm
      have HV := Lib.hid hv
      clear hq0 hv hqc hcm HO
      go_wp2_with fail
      go_ret2
      exact ⟨HB.out, q, c, rfl, HV.out, HQ0.out, HQC.out, HCM.out⟩
def ofE (n : Nat) (z : Int) : Int := if wideB z then (if ((8 * n : Nat) : Int) < z then 2 else 0) else 1
def ofL (xs : List UInt8) (z : Int) : List Nat := if ofE xs.length z = 0 then changes ((bitsOf false xs).take z.toNat) else []
theorem of_any (p : Option Addr) (len cap : Nat) (xs : List UInt8) (z : Int) (w : World) (h : Row w p xs) (hx : xs.length = len) (hl : len ≤ 100000) :
    Calls Tryz.prog 13 #[.slice p len cap, .int .i64 z] w (LstP w (zl (ofL xs z)) (ofE len z)) := by
  by_cases hw : wideB z = true
  · have hz := of_decide_eq_true hw
    obtain ⟨n, rfl⟩ : ∃ n : Nat, z = (n : Int) := ⟨z.toNat, by omega⟩
    by_cases hc : ((8 * len : Nat) : Int) < (n : Int)
    · have e1 : ofE len (n : Int) = 2 := by unfold ofE; rw [hw]; simp only [if_true]; rw [if_pos hc]
      have e2 : ofL xs (n : Int) = [] := by unfold ofL; rw [hx, e1]; rfl
      rw [e1, e2]
      obtain ⟨m, hm⟩ : ∃ m, m = (n + 7) / 8 := ⟨_, rfl⟩
      have hd0 : decide (len < m) = true := by simp; omega
      have hbf := fun w' => bytesFor_any n w' (by omega)
      rw [← hm] at hbf
      have HBF := Lib.hid hbf
      clear e1 e2 hbf hc hz h hx
      go_enter Tryz.func13, Tryz.ntmps13
      go_wp2_with fail
      refine (isWidth_any _ _).mono ?_
      rintro e w' ⟨rfl, rfl⟩
      rw [hw]
      clear hw hm
      go_wp2_with fail
      refine (HBF.out _).mono ?_
      rintro e w' ⟨rfl, rfl⟩
      go_wp2_with fail
      go_ret2
      exact LstP.nil _ _ _ (Below.refl _ _)
    · have e1 : ofE len (n : Int) = 0 := by unfold ofE; rw [hw]; simp only [if_true]; rw [if_neg hc]
      have e2 : ofL xs (n : Int) = changes ((bitsOf false xs).take n) := by unfold ofL; rw [hx, e1]; simp
      rw [e1, e2]
      exact of_in p len cap xs n w h hx hl (by omega) (by omega)
  · have hw' : wideB z = false := by simpa using hw
    have e1 : ofE len z = 1 := by unfold ofE; rw [hw']; rfl
    have e2 : ofL xs z = [] := by unfold ofL; rw [hx, e1]; rfl
    rw [e1, e2]
    clear e1 e2 hw h hx
    go_enter Tryz.func13, Tryz.ntmps13
    go_wp2_with fail
    refine (isWidth_any _ _).mono ?_
    rintro e w' ⟨rfl, rfl⟩
    rw [hw']
    clear hw'
    go_wp2_with fail
    go_ret2
    exact LstP.nil _ _ _ (Below.refl _ _)
theorem headD_getD (zs : List Int) (k : Nat) (z : Int) : (zs.drop k).headD z = zs.getD k z := by
  rw [List.getD_eq_getElem?_getD, List.headD_eq_head?_getD, List.head?_drop]
set_option maxHeartbeats 2000000 in
theorem next_any (p : Option Addr) (len cap : Nat) (zs : List Int) (f : Int) (tb : Bool) (z : Int) (w : World) (C : Nat) (h : VRow w C p (ints zs)) (hx : zs.length = len) (hl : len ≤ 100000) :
    Calls Tryz.prog 66 #[.slice p len cap, .int .i64 f, .bool tb, .int .i64 z] w fun e w' => e = .returned (.tuple #[.int .i64 (nextI z zs tb f).1, .int .i64 (nextI z zs tb f).2]) ∧ w = w' := by
  have HH := Lib.hid h
  have HX := Lib.hid hx
  have haft := fun i w' hi (hw : w = w') => after_any p cap zs i z w' C (by rw [← hw]; exact h) (by unfold maxLen; omega) hi
  rw [hx] at haft
  have HAF := Lib.hid haft
  obtain ⟨X, hX⟩ : ∃ X, X = nextI z zs tb f := ⟨_, rfl⟩
  rw [← hX]
  have HST : Hid (nextI z (zs.drop 0) (tb ^^ (0 % 2 == 1)) f = X) := Lib.hid (by rw [hX]; simp)
  clear h hx hX haft
  go_enter Tryz.func66, Tryz.ntmps66
  go_wp2_with fail
  go_loop [10, 11, 14] (fun _ _ i => ∃ (k : Nat), k ≤ len ∧ i = .int .i64 (k : Int) ∧ Hid (nextI z (zs.drop k) (tb ^^ (k % 2 == 1)) f = X)) (fun _ _ i => len - (intOf i).toNat)
  case atStart => exact ⟨0, by omega, rfl, HST⟩
  case round =>
    clear HST
    obtain ⟨k, hk, rfl, HR⟩ := hrel
    by_cases hlt : k < len
    · have hkl : k < zs.length := by rw [HX.out]; exact hlt
      obtain ⟨b, off, hq, _⟩ := HH.out.addr (by rw [ints_length]; omega)
      subst hq
      have hc := HH.out.int k hkl
      have hr := HR.out
      rw [List.drop_eq_getElem_cons hkl, nextI, headD_getD, show (!(tb ^^ (k % 2 == 1))) = (tb ^^ ((k + 1) % 2 == 1)) from by
        rcases (show k % 2 = 0 ∨ k % 2 = 1 by omega) with q | q
        · rw [q, show (k + 1) % 2 = 1 from by omega]; cases tb <;> rfl
        · rw [q, show (k + 1) % 2 = 0 from by omega]; cases tb <;> rfl] at hr
      have hev : (tb ^^ (k % 2 == 1)) = ((k % 2 == 0) == tb) := by
        rcases (show k % 2 = 0 ∨ k % 2 = 1 by omega) with q | q <;> rw [q] <;> cases tb <;> rfl
      rw [hev] at hr
      have hib := fun w' => isToBlack_any k w' (by omega)
      generalize (k % 2 == 0) = ev at hr hib
      generalize zs[k] = x at hc hr
      have hd : decide ((k : Int) < (len : Int)) = true := by simp; omega
      have i1 : (0 : Int) ≤ (k : Int) := by omega
      have i2 : (k : Int) < (len : Int) := by omega
      have HIB := Lib.hid hib
      clear HR hkl hib hev
      by_cases h1 : f < x
      · have hd2 : decide (f < x) = true := by simpa using h1
        by_cases h2 : ev = tb
        · subst h2
          rw [if_pos ⟨h1, by simp⟩] at hr
          have hk2 : k ≤ 4000000000000000 := by omega
          generalize hg : zs.getD (k + 1) z = y at hr
          subst hr
          have hal := HAF.out k w hk2 rfl
          rw [hg] at hal
          have HAL := Lib.hid hal
          clear h1 hg HAF hal
          go_wp2_with fail
          refine (HIB.out _).mono ?_
          rintro e w' ⟨rfl, rfl⟩
          go_wp2_with fail
          refine HAL.out.mono ?_
          rintro e w' ⟨rfl, rfl⟩
          go_wp2_with fail
          go_ret2
          exact ⟨rfl, rfl⟩
        · have he : (!tb) = ev := by cases ev <;> cases tb <;> simp_all
          subst he
          rw [if_neg (by rintro ⟨_, h⟩; cases tb <;> simp at h)] at hr
          have HR := Lib.hid hr
          clear h1 h2 hr
          go_wp2_with fail
          refine (HIB.out _).mono ?_
          rintro e w' ⟨rfl, rfl⟩
          go_wp2_with fail
          go_round
          case rel => exact ⟨k + 1, by omega, by go_num, HR⟩
          case measure => simp [intOf]; omega
      · have hd2 : decide (f < x) = false := by simpa using h1
        rw [if_neg (by rintro ⟨h, _⟩; exact h1 h)] at hr
        have HR := Lib.hid hr
        clear h1 hr
        go_wp2_with fail
        go_round
        case rel => exact ⟨k + 1, by omega, by go_num, HR⟩
        case measure => simp [intOf]; omega
    · have : k = len := by omega
      subst this
      have hr := HR.out
      rw [List.drop_of_length_le (by rw [HX.out]; omega), nextI] at hr
      subst hr
      have hd : decide ((k : Int) < (k : Int)) = false := by simp
      go_wp2_with fail
      go_ret2
      exact ⟨rfl, rfl⟩
end Go.Proofs.YtmbfgejephgojaaGreatDoor.Rn
/- Contracts of package runs: Lengths, Toggle, Row; slices.Equal. -/
namespace Go.Proofs.YtmbfgejephgojaaGreatDoor.Rn
open Go.RowKit Go.Proofs.YtmbfgejephgojaaGreatDoor.Oct Go.Proofs.YtmbfgejephgojaaGreatDoor.Bit Go.Proofs.YtmbfgejephgojaaGreatDoor.Lp
set_option linter.unusedVariables false
set_option linter.unusedSimpArgs false
set_option maxRecDepth 100000

theorem zl_nat {zs : List Int} {c : List Nat} (e : zs = zl c) (i : Nat) (h : i < zs.length) : ∃ h' : i < c.length, zs[i] = (c[i] : Int) := by
  subst e
  exact ⟨by rw [zl_length] at h; exact h, by simp [zl]⟩
set_option maxHeartbeats 2000000 in
theorem lengths_in (p : Option Addr) (len cap : Nat) (zs : List Int) (c : List Nat) (n : Nat) (w : World) (h : VRow w w.heap.size p (ints zs)) (hx : zs.length = len) (hl : len ≤ 100000) (hn : n ≤ 32768) (hc : zs = zl c) (hv : Valid c n) :
    Calls Tryz.prog 40 #[.slice p len cap, .int .i64 (n : Int)] w (LstP w (lensI 0 zs n) 0) := by
  obtain ⟨i0, hi, hz0, hz1, hz2⟩ := info_parts Tryz.infoInt
  have hwd : wideB (n : Int) = true := by unfold wideB; simp; omega
  have hrt := right_any p len cap zs (n : Int) w _ h hx (by unfold maxLen; omega)
  rw [show rightB zs (n : Int) = true from by rw [hc]; exact valid_right hv] at hrt
  obtain ⟨L, hL⟩ : ∃ L, L = lensI 0 zs n := ⟨_, rfl⟩
  rw [← hL]
  have HST : Hid (([] : List Int) ++ lensI ((0 : Nat) : Int) (zs.drop 0) n = L) := Lib.hid hL.symm
  have HH := Lib.hid h
  have HX := Lib.hid hx
  have HC := Lib.hid (show ∀ i (h : i < zs.length), ∃ x : Nat, zs[i] = (x : Int) ∧ x ≤ 32768 from fun i h => by
    obtain ⟨h', e⟩ := zl_nat hc i h
    exact ⟨c[i], e, by have := hv.2 _ (List.getElem_mem h'); omega⟩)
  have HRT := Lib.hid hrt
  clear h hx hL hc hv hrt
  go_enter Tryz.func40, Tryz.ntmps40
  go_wp2_with fail
  refine (isWidth_any _ _).mono ?_
  rintro e w' ⟨rfl, rfl⟩
  rw [hwd]
  clear hwd
  go_wp2_with fail
  refine HRT.out.mono ?_
  rintro e w' ⟨rfl, rfl⟩
  go_wp2_with (at_make; refine wpList_make_own _ rfl _ _ 38 rfl w.heap.size 3 i0 (.int .i64 0) 1 Tryz.underlying38 hi hz0 hz1 .i64 .i64 ((len : Int) + 1) (len + 1) rfl rfl ?c1 ?c2 ?c3 ?c4 ?_)
  case c1 => omega
  case c2 => rw [hz2]; omega
  case c3 => unfold maxLen; omega
  case c4 => omega
  intro w1 hown hgrow
  have hb1 : Below w.heap.size w w1 := (Below.refl _ _).grown hgrow (Nat.le_refl _) (fun k hk => by cases hk)
  have HO : Hid (IOwn w1 w.heap.size (.slice (some ⟨w.heap.size, 0, none⟩) 0 (len + 1)) []) := Lib.hid hown
  have HB := Lib.hid hb1
  clear hown hgrow hb1
  go_wp2_with fail
  go_loopw [6, 7, 9, 25] (fun v y _ i wr => ∃ (k s : Nat) (M : List Int), k ≤ len ∧ i = .int .i64 (k : Int) ∧ y = .int .i64 (s : Int) ∧ s ≤ 32768 ∧ Hid (M.length = k) ∧ Hid (M ++ lensI (s : Int) (zs.drop k) n = L) ∧ Hid (IOwn wr w.heap.size v M) ∧ Hid (Below w.heap.size w wr)) (fun _ _ _ i _ => len - (intOf i).toNat)
  case atStart => exact ⟨0, 0, [], by omega, rfl, rfl, by omega, Lib.hid rfl, HST, HO, HB⟩
  case round =>
    clear HST HO HB
    obtain ⟨k, s, M, hk, rfl, rfl, hs, HM, HR, HO, HB⟩ := hrel
    by_cases hlt : k < len
    · have hkl : k < zs.length := by rw [HX.out]; exact hlt
      obtain ⟨b, off, hq, hbl⟩ := HH.out.addr (by rw [ints_length]; omega)
      subst hq
      have hc0 := HH.out.int k hkl
      have hc : wr.cell? ⟨b, off + k, none⟩ = some (.int .i64 zs[k]) := (HB.out.cell (p := ⟨b, off + k, none⟩) hbl).trans hc0
      obtain ⟨x, hxe, hx32⟩ := HC.out k hkl
      have hr := HR.out
      rw [List.drop_eq_getElem_cons hkl, lensI, hxe] at hr
      rw [hxe] at hc
      have hd : decide ((k : Int) < (len : Int)) = true := by simp; omega
      have i1 : (0 : Int) ≤ (k : Int) := by omega
      have i2 : (k : Int) < (len : Int) := by omega
      have hb1 : Below wr.heap.size wr (wr.alloc (.cells (ints [(x : Int) - (s : Int)]).toArray 3)) := (Below.refl _ wr).alloc (Nat.le_refl _) _
      have HS := Lib.hid (ints_new wr [(x : Int) - (s : Int)] 3 (0, 0))
      have HOW := Lib.hid (own_below HO.out hb1)
      have HB2 := Lib.hid (HB.out.trans (hb1.mono HB.out.size))
      have HZ := Lib.hid HB2.out.size
      have HR2 : Hid ((M ++ [(x : Int) - (s : Int)]) ++ lensI (x : Int) (zs.drop (k + 1)) n = L) := Lib.hid (by rw [List.append_assoc]; exact hr)
      have HM1 := Lib.hid (show (M ++ [(x : Int) - (s : Int)]).length = k + 1 from by rw [List.length_append, HM.out]; rfl)
      have HMA : Hid (ints M ++ ints [(x : Int) - (s : Int)] = ints (M ++ [(x : Int) - (s : Int)])) := Lib.hid (ints_append _ _).symm
      have hMl : M.length ≤ 100000 := by rw [HM.out]; omega
      clear HR hr hc0 hkl hxe HO HB hb1
      go_wp2_with (at_builtin; refine wpList_append_vals Tryz.underlying38 hi hz0 hz1 hz2 rfl (by decide) rfl _ _ rfl w.heap.size _ M.length (ints M) rfl HOW.out (some ⟨wr.heap.size, 0, none⟩) 1 1 (ints [(x : Int) - (s : Int)]) rfl HS.out rfl (fun h => by cases h) ints_one (by omega) HZ.out ?_)
      intro v2 w2 hown2 _ hb3
      rw [HMA.out, show M.length + 1 = (M ++ [(x : Int) - (s : Int)]).length from by rw [List.length_append]; rfl] at hown2
      have HO3 : Hid (IOwn w2 w.heap.size v2 (M ++ [(x : Int) - (s : Int)])) := Lib.hid hown2
      have HB3 := Lib.hid (HB2.out.trans hb3)
      clear hown2 hb3 HOW HS HZ HB2 HMA
      go_wp2_with fail
      go_roundw
      case rel => exact ⟨k + 1, x, M ++ [(x : Int) - (s : Int)], by omega, by go_num, rfl, hx32, HM1, HR2, HO3, HB3⟩
      case measure => simp [intOf]; omega
    · have hke : k = len := by omega
      have hr := HR.out
      rw [List.drop_of_length_le (by rw [HX.out]; omega), lensI] at hr
      have hd : decide ((k : Int) < (len : Int)) = false := by simp; omega
      have hb1 : Below wr.heap.size wr (wr.alloc (.cells (ints [(n : Int) - (s : Int)]).toArray 3)) := (Below.refl _ wr).alloc (Nat.le_refl _) _
      have HS := Lib.hid (ints_new wr [(n : Int) - (s : Int)] 3 (0, 0))
      have HOW := Lib.hid (own_below HO.out hb1)
      have HB2 := Lib.hid (HB.out.trans (hb1.mono HB.out.size))
      have HZ := Lib.hid HB2.out.size
      have HMA : Hid (ints M ++ ints [(n : Int) - (s : Int)] = ints L ∧ M.length + 1 = L.length) := Lib.hid (by rw [← hr, ints_append]; exact ⟨rfl, by simp⟩)
      have hMl : M.length ≤ 100000 := by rw [HM.out]; omega
      clear HR hr HO HB hb1
      go_wp2_with (at_builtin; refine wpList_append_vals Tryz.underlying38 hi hz0 hz1 hz2 rfl (by decide) rfl _ _ rfl w.heap.size _ M.length (ints M) rfl HOW.out (some ⟨wr.heap.size, 0, none⟩) 1 1 (ints [(n : Int) - (s : Int)]) rfl HS.out rfl (fun h => by cases h) ints_one (by omega) HZ.out ?_)
      intro v2 w2 hown2 _ hb3
      rw [HMA.out.1, HMA.out.2] at hown2
      obtain ⟨q, c2, rfl, hq0, hqc, hcm, hv, _⟩ := vrow_own hown2 (by rw [ints_length])
      have HRES : Hid (Below w.heap.size w w2 ∧ VRow w2 w2.heap.size q (ints L) ∧ (q = none → c2 = 0) ∧ L.length ≤ c2 ∧ c2 ≤ maxLen) := Lib.hid ⟨HB2.out.trans hb3, hv, hq0, hqc, hcm⟩
      clear hown2 hb3 HOW HS HZ HB2 HMA hq0 hqc hcm hv
      go_wp2_with fail
      go_ret2
      exact ⟨HRES.out.1, q, c2, rfl, HRES.out.2⟩
/-- may a row of this width change so? -/
def okR (zs : List Int) (z : Int) : Bool := wideB z && rightB zs z
theorem okR_valid {zs : List Int} {z : Int} (h : okR zs z = true) : ∃ (c : List Nat) (n : Nat), zs = zl c ∧ z = (n : Int) ∧ n ≤ 32768 ∧ Valid c n := by
  unfold okR at h
  rw [Bool.and_eq_true] at h
  have hz := of_decide_eq_true h.1
  obtain ⟨n, rfl⟩ : ∃ n : Nat, z = (n : Int) := ⟨z.toNat, by omega⟩
  obtain ⟨c, e, hv⟩ := right_valid h.2
  rw [Int.toNat_natCast] at hv
  exact ⟨c, n, e, rfl, by omega, hv⟩
def lenL (zs : List Int) (z : Int) : List Int := if okR zs z then lensI 0 zs z else []
def errR (zs : List Int) (z : Int) : Int := if okR zs z then 0 else 1
set_option maxHeartbeats 1000000 in
theorem lengths_any (p : Option Addr) (len cap : Nat) (zs : List Int) (z : Int) (w : World) (h : VRow w w.heap.size p (ints zs)) (hx : zs.length = len) (hl : len ≤ 100000) :
    Calls Tryz.prog 40 #[.slice p len cap, .int .i64 z] w (LstP w (lenL zs z) (errR zs z)) := by
  by_cases hok : okR zs z = true
  · obtain ⟨c, n, hc, rfl, hn, hv⟩ := okR_valid hok
    unfold lenL errR
    rw [if_pos hok, if_pos hok]
    exact lengths_in p len cap zs c n w h hx hl hn hc hv
  · unfold lenL errR
    rw [if_neg hok, if_neg hok]
    have hrt := right_any p len cap zs z w _ h hx (by unfold maxLen; omega)
    by_cases hw : wideB z = true
    · have hr : rightB zs z = false := by
        unfold okR at hok
        rw [hw, Bool.true_and] at hok
        simpa using hok
      rw [hr] at hrt
      clear h hx hok hr
      go_enter Tryz.func40, Tryz.ntmps40
      go_wp2_with fail
      refine (isWidth_any _ _).mono ?_
      rintro e w' ⟨rfl, rfl⟩
      rw [hw]
      clear hw
      go_wp2_with fail
      refine hrt.mono ?_
      rintro e w' ⟨rfl, rfl⟩
      go_wp2_with fail
      go_ret2
      exact LstP.nil _ _ _ (Below.refl _ _)
    · have hw' : wideB z = false := by simpa using hw
      clear h hx hok hrt hw
      go_enter Tryz.func40, Tryz.ntmps40
      go_wp2_with fail
      refine (isWidth_any _ _).mono ?_
      rintro e w' ⟨rfl, rfl⟩
      rw [hw']
      clear hw'
      go_wp2_with fail
      go_ret2
      exact LstP.nil _ _ _ (Below.refl _ _)
/-- a row of numbers, given back -/
def LstV (w : World) (zs : List Int) (e : Ending) (w' : World) : Prop :=
  Below w.heap.size w w' ∧ ∃ q c, e = .returned (.slice q zs.length c) ∧ VRow w' w'.heap.size q (ints zs) ∧ (q = none → c = 0) ∧ zs.length ≤ c ∧ c ≤ maxLen
/-- the world with a row of one number, and the two rows that are put together -/
def catW (w : World) (p : Option Addr) (n cap : Nat) (x : Int) : World := (w.alloc (.cells #[.int .i64 x] 3)).alloc (.cells #[.slice p n cap, .slice (some ⟨w.heap.size, 0, none⟩) 1 1] 38)
theorem catW_below (w : World) (p : Option Addr) (n cap : Nat) (x : Int) : Below w.heap.size w (catW w p n cap x) :=
  ((Below.refl _ w).alloc (Nat.le_refl _) _).alloc (by simp) _
theorem catW_hi (w : World) (p : Option Addr) (n cap : Nat) (x : Int) : (catW w p n cap x).heap[w.heap.size + 1]? = some (.cells #[.slice p n cap, .slice (some ⟨w.heap.size, 0, none⟩) 1 1] 38 (0, 0)) := by
  show ((w.heap.push (Obj.cells #[.int .i64 x] 3)).push _)[w.heap.size + 1]? = _
  have e : (w.heap.push (Obj.cells #[.int .i64 x] 3)).size = w.heap.size + 1 := by simp
  rw [← e]
  exact Array.getElem?_push_size
theorem catW_lo (w : World) (p : Option Addr) (n cap : Nat) (x : Int) : (catW w p n cap x).heap[w.heap.size]? = some (.cells #[.int .i64 x] 3 (0, 0)) := by
  show ((w.heap.push _).push _)[w.heap.size]? = _
  simp [Array.getElem?_push]
end Go.Proofs.YtmbfgejephgojaaGreatDoor.Rn
/- Contracts of package runs: Row; slices.Equal. -/
namespace Go.Proofs.YtmbfgejephgojaaGreatDoor.Rn
open Go.RowKit Go.Proofs.YtmbfgejephgojaaGreatDoor.Oct Go.Proofs.YtmbfgejephgojaaGreatDoor.Bit Go.Proofs.YtmbfgejephgojaaGreatDoor.Lp
set_option linter.unusedVariables false
set_option linter.unusedSimpArgs false
set_option maxRecDepth 100000

/-- a row of bytes and an error, given back -/
def RwP (w : World) (xs : List UInt8) (er : Int) (e : Ending) (w' : World) : Prop :=
  Below w.heap.size w w' ∧ ∃ q c, e = .returned (.tuple #[.slice q xs.length c, .int .i64 er]) ∧ Row w' q xs ∧ (q = none → c = 0)
theorem RwP.nil (w : World) (er : Int) (w' : World) (h : Below w.heap.size w w') : RwP w [] er (.returned (.tuple #[.slice none 0 0, .int .i64 er])) w' :=
  ⟨h, none, 0, rfl, fun h => absurd h (by simp), fun _ => rfl⟩
/-- a row under way -/
def RwT (w : World) (N : Nat) (c : List Nat) (n k : Nat) (wr : World) : Prop :=
  Below w.heap.size w wr ∧ w.heap.size < wr.heap.size ∧ ∃ ys, Blk wr w.heap.size ys ∧ ys.length = N ∧ ∀ x, gb ys x = half c n (min k c.length) x
theorem gb_zero (N x : Nat) : gb (List.replicate N 0) x = false := by
  unfold gb
  rw [List.getD_eq_getElem?_getD, List.getElem?_replicate]
  split <;> simp
theorem RwT.step {w wr w9 w2 : World} {N n k b : Nat} {c : List Nat} {e : Ending} (h : RwT w N c n k wr) (hd : Drawn wr w9) (hv : Valid c n) (hk : k < c.length) (he : k % 2 = 0) (hb : b = if h : k + 1 < c.length then c[k + 1] else n) (ys : List UInt8) (hy : ys.length = N) (hg : ∀ x, gb ys x = half c n (min k c.length) x)
    (hp : BlackP w.heap.size w9 ys c[k] b e w2) : RwT w N c n (k + 2) w2 := by
  obtain ⟨_, hb2, zs, hz1, hz2, hz3⟩ := hp
  have hs := (hd.below wr.heap.size).size
  refine ⟨(h.1.trans ((hd.below _).mono (Nat.le_of_lt h.2.1))).trans hb2, by have := h.2.1; have := hb2.size; omega, zs, hz1, by rw [hz2, hy], fun x => ?_⟩
  rw [hz3, hg, half_step hv k x hk he, Nat.min_eq_left (by omega), hb]
def rowL (zs : List Int) (z : Int) : List UInt8 := if okR zs z then packB false (pix (zs.map Int.toNat) z.toNat) else []
theorem zl_back (c : List Nat) : (zl c).map Int.toNat = c := by
  unfold zl
  rw [List.map_map]
  exact (List.map_congr_left (fun x _ => by simp)).trans (List.map_id c)
end Go.Proofs.YtmbfgejephgojaaGreatDoor.Rn
/- Contracts of the document's Same, Right and Next. -/
namespace Go.Proofs.YtmbfgejephgojaaGreatDoor.Rn
open Go.RowKit Go.Proofs.YtmbfgejephgojaaGreatDoor.Oct Go.Proofs.YtmbfgejephgojaaGreatDoor.Bit Go.Proofs.YtmbfgejephgojaaGreatDoor.Lp
set_option linter.unusedVariables false
set_option linter.unusedSimpArgs false
set_option maxRecDepth 100000

/-- the place before the k-th -/
def bef (zs : List Int) (k : Nat) (y : Int) : Prop := (k = 0 ∧ y = -1) ∨ (0 < k ∧ 0 ≤ y ∧ ∃ h : k - 1 < zs.length, zs[k - 1] = y)
end Go.Proofs.YtmbfgejephgojaaGreatDoor.Rn
/- Contracts of the document's Changes, Pixels, Of and Row. -/
namespace Go.Proofs.YtmbfgejephgojaaGreatDoor.Rn
open Go.RowKit Go.Proofs.YtmbfgejephgojaaGreatDoor.Oct Go.Proofs.YtmbfgejephgojaaGreatDoor.Bit
open Go.Proofs.YtmbfgejephgojaaGreatDoor.Lp (VRow ints ints_length ints_append ints_one vrow_own wpList_append_vals Tryz.infoInt)
set_option linter.unusedVariables false
set_option linter.unusedSimpArgs false
set_option maxRecDepth 100000

theorem chg_len : ∀ (l : List Bool) (b : Bool) (i : Nat), (chg b i l).length ≤ l.length
  | [], b, i => by simp [chg]
  | c :: l, b, i => by
    rw [chg, List.length_cons]
    split
    · have := chg_len l c (i + 1); omega
    · have := chg_len l c (i + 1); rw [List.length_cons]; omega
/-- the pixel before the k-th, as a letter -/
def befD (P : List Bool) (k : Nat) : UInt8 := dig (lastP false (P.take k))
theorem lastP_get : ∀ (P : List Bool) (p : Bool) (k : Nat) (h : k < P.length), lastP p (P.take (k + 1)) = P[k]
  | [], p, k, h => by simp at h
  | b :: l, p, 0, h => by simp [lastP]
  | b :: l, p, k + 1, h => by
    rw [List.take_succ_cons, lastP]
    exact lastP_get l b k (by simpa using h)
theorem dig_ne (a b : Bool) (h : a ≠ b) : (((dig a).toNat : Int) != ((dig b).toNat : Int)) = true := by
  cases a <;> cases b <;> simp_all [dig]
end Go.Proofs.YtmbfgejephgojaaGreatDoor.Rn
/- Contracts of the document's Pixels, Of and Row. -/
namespace Go.Proofs.YtmbfgejephgojaaGreatDoor.Rn
open Go.RowKit Go.Proofs.YtmbfgejephgojaaGreatDoor.Oct Go.Proofs.YtmbfgejephgojaaGreatDoor.Bit
open Go.Proofs.YtmbfgejephgojaaGreatDoor.Lp (VRow ints ints_length ints_append ints_one vrow_own wpList_append_vals Tryz.infoInt)
set_option linter.unusedVariables false
set_option linter.unusedSimpArgs false
set_option maxRecDepth 100000

theorem str01 : (Value.string { data := #[48, 49] }) = .string (ds [false, true]) := by rfl
theorem cnt_step (c : List Nat) (i x : Nat) (h : i < c.length) : (c.take (i + 1)).countP (· ≤ x) = (c.take i).countP (· ≤ x) + if c[i] ≤ x then 1 else 0 := by
  rw [List.take_succ_eq_append_getElem h, List.countP_append, List.countP_singleton]
  simp
theorem pix_step (c : List Nat) (n x : Nat) (h : x < n) : (pix c n).take (x + 1) = (pix c n).take x ++ [c.countP (· ≤ x) % 2 == 1] := by
  rw [List.take_succ_eq_append_getElem (by rw [pix_length]; exact h), pix_get]
end Go.Proofs.YtmbfgejephgojaaGreatDoor.Rn
/- The contract of lives; the walk of the law RunsOf. -/
namespace Go.Proofs.YtmbfgejephgojaaGreatDoor.Rn
open Go.RowKit Go.Proofs.YtmbfgejephgojaaGreatDoor.Oct Go.Proofs.YtmbfgejephgojaaGreatDoor.Bit
open Go.Proofs.YtmbfgejephgojaaGreatDoor.Lp (VRow ints ints_length ints_append ints_one vrow_own wpList_append_vals Tryz.infoInt)
set_option linter.unusedVariables false
set_option linter.unusedSimpArgs false
set_option maxRecDepth 100000

/-- a row of bytes put behind nothing: a row of the call's own -/
theorem own_copy {w1 w2 : World} {v2 : Value} {len : Nat} {xs : List UInt8} (hx : xs.length = len) (hown2 : w2.ownsRow w1.heap.size 5 1 v2 len (cellsOf xs)) (hg : (w1.alloc (.cells #[] 5)).grownBy w2 (Value.slice (some ⟨w1.heap.size, 0, none⟩) 0 0).ownBlock) :
    Below w1.heap.size w1 w2 ∧ ∃ q c, v2 = .slice q len c ∧ (q = none → c = 0) ∧ len ≤ c ∧ c ≤ maxLen ∧ Row w2 q xs := by
  refine ⟨((Below.refl _ w1).alloc (Nat.le_refl _) _).grown hg (by simp) (fun k hk => by
      simp [Value.ownBlock] at hk; omega), ?_⟩
  exact own_shape hown2 hx
end Go.Proofs.YtmbfgejephgojaaGreatDoor.Rn
/- The walk of the law RunsToggles. -/
namespace Go.Proofs.YtmbfgejephgojaaGreatDoor.Rn
open Go.RowKit Go.Proofs.YtmbfgejephgojaaGreatDoor.Oct Go.Proofs.YtmbfgejephgojaaGreatDoor.Bit
open Go.Proofs.YtmbfgejephgojaaGreatDoor.Lp (VRow ints ints_length ints_append ints_one vrow_own wpList_append_vals Tryz.infoInt IsInts)
set_option linter.unusedVariables false
set_option linter.unusedSimpArgs false
set_option maxRecDepth 100000

/-- toggled twice -/
theorem tog_tog (zs : List Int) (x : Int) (h : ¬ (1 < zs.length ∧ zs.getLast? = some x ∧ zs.dropLast.getLast? = some x)) : togI (togI zs x) x = zs := by
  unfold togI
  by_cases hl : zs.getLast? = some x
  · rw [if_pos hl]
    have hne : zs ≠ [] := fun e => by rw [e] at hl; simp at hl
    have hls : zs.dropLast ++ [x] = zs := by
      have h1 := List.dropLast_concat_getLast hne
      have h2 : zs.getLast hne = x := by
        rw [List.getLast?_eq_some_getLast hne] at hl
        exact Option.some.inj hl
      rw [h2] at h1
      exact h1
    rw [if_neg, hls]
    intro h2
    refine h ⟨?_, hl, h2⟩
    have h3 : 0 < zs.dropLast.length := by
      rcases hd : zs.dropLast with _ | ⟨y, l⟩
      · rw [hd] at h2; simp at h2
      · simp
    rw [List.length_dropLast] at h3
    omega
  · rw [if_neg hl, if_pos (by simp)]
    simp
theorem tog_len (zs : List Int) (x : Int) : (togI zs x).length = zs.length + 1 ∨ ((togI zs x).length = zs.length - 1 ∧ 0 < zs.length) := by
  unfold togI
  split
  · rename_i h
    refine .inr ⟨List.length_dropLast .., ?_⟩
    rcases zs with _ | ⟨y, l⟩
    · simp at h
    · simp
  · exact .inl (by simp)
theorem last_get (zs : List Int) (n : Nat) (hn : zs.length = n) (h : 0 < n) : zs.getLast? = some (zs[n - 1]'(by omega)) := by
  subst hn
  rw [List.getLast?_eq_getElem?, List.getElem?_eq_getElem (by omega)]
theorem last_get2 (zs : List Int) (n : Nat) (hn : zs.length = n) (h : 1 < n) : zs.dropLast.getLast? = some (zs[n - 2]'(by omega)) := by
  subst hn
  rw [List.getLast?_eq_getElem?, List.length_dropLast, List.getElem?_eq_getElem (by rw [List.length_dropLast]; omega), List.getElem_dropLast]
  congr 1
/-- a row of so many numbers, given back -/
def LstN (w : World) (zs : List Int) (n : Nat) (e : Ending) (w' : World) : Prop :=
  Below w.heap.size w w' ∧ ∃ q c, e = .returned (.slice q n c) ∧ VRow w' w'.heap.size q (ints zs) ∧ (q = none → c = 0) ∧ n ≤ c ∧ c ≤ maxLen
theorem clone_n (p : Option Addr) (len cap : Nat) (zs : List Int) (w w1 : World) (hb : Below w.heap.size w w1) (h : VRow w w.heap.size p (ints zs)) (hx : zs.length = len) (hl : len ≤ 1000) (hp0 : p = none → cap = 0) :
    Calls Tryz.prog 56 #[.slice p len cap] w1 (LstN w1 zs len) := by
  refine (cloneI_any p len cap (ints zs) w1 ((h.below hb (Nat.le_refl _)).mono hb.size) (by rw [ints_length]; exact hx) hp0 (by omega) ints_one).mono ?_
  rintro e w2 ⟨hb2, q, c, rfl, hv, hlc, hcm, hq0, _⟩
  rw [ints_length, hx] at hlc
  exact ⟨hb2, q, c, by rw [ints_length, hx], hv, hq0, hlc, hcm⟩
def LstM (w : World) (zs : List Int) (n : Nat) (er : Int) (e : Ending) (w' : World) : Prop :=
  Below w.heap.size w w' ∧ ∃ q c, e = .returned (.tuple #[.slice q n c, .int .i64 er]) ∧ VRow w' w'.heap.size q (ints zs) ∧ (q = none → c = 0) ∧ n ≤ c ∧ c ≤ maxLen
theorem LstP.m {w w' : World} {zs : List Int} {n : Nat} {er : Int} {e : Ending} (h : LstP w zs er e w') (hn : zs.length = n) : LstM w zs n er e w' := by
  subst hn
  exact h
def RwM (w : World) (xs : List UInt8) (n : Nat) (er : Int) (e : Ending) (w' : World) : Prop :=
  Below w.heap.size w w' ∧ ∃ q c, e = .returned (.tuple #[.slice q n c, .int .i64 er]) ∧ Row w' q xs ∧ (q = none → c = 0)
theorem RwP.m {w w' : World} {xs : List UInt8} {n : Nat} {er : Int} {e : Ending} (h : RwP w xs er e w') (hn : xs.length = n) : RwM w xs n er e w' := by
  subst hn
  exact h
end Go.Proofs.YtmbfgejephgojaaGreatDoor.Rn

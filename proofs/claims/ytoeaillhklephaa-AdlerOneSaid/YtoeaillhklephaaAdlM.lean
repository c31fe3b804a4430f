/- Plain facts on the sum of bytes modulo 65521; no program in sight. -/
import Derived.Laws.BitsAllLaws
import Derived.Laws.Strings
namespace Go.Proofs.Ytoeaillhklephaa.Adl
set_option linter.unusedVariables false

/-- all bytes added -/
def sS : List UInt8 → Nat
  | [] => 0
  | x :: l => x.toNat + sS l
/-- each byte as often as it is added -/
def sT : List UInt8 → Nat
  | [] => 0
  | x :: l => (l.length + 1) * x.toNat + sT l
theorem sS_append (l r : List UInt8) : sS (l ++ r) = sS l + sS r := by
  induction l with
  | nil => simp [sS]
  | cons x l ih => simp [sS, ih]; omega
theorem sT_append (l r : List UInt8) : sT (l ++ r) = sT l + r.length * sS l + sT r := by
  induction l with
  | nil => simp [sT, sS]
  | cons x l ih =>
    simp only [List.cons_append, sT, sS, ih, List.length_append]
    have e1 : (l.length + r.length + 1) * x.toNat = (l.length + 1) * x.toNat + r.length * x.toNat := by rw [← Nat.add_mul]; congr 1; omega
    have e2 : r.length * (x.toNat + sS l) = r.length * x.toNat + r.length * sS l := Nat.mul_add _ _ _
    omega
theorem sS_snoc (l : List UInt8) (x : UInt8) : sS (l ++ [x]) = sS l + x.toNat := by rw [sS_append]; simp [sS]
theorem sT_snoc (l : List UInt8) (x : UInt8) : sT (l ++ [x]) = sT l + sS l + x.toNat := by rw [sT_append]; simp [sT]
theorem sS_le (l : List UInt8) : sS l ≤ 255 * l.length := by
  induction l with
  | nil => simp [sS]
  | cons x l ih => have := x.toNat_lt; simp [sS]; omega
/-- lower half, upper half of a sum that is handed in -/
def lo (s : Nat) : Nat := s % 65536 % 65521
def up (s : Nat) : Nat := s / 65536 % 65521
theorem lo_lt (s : Nat) : lo s < 65521 := Nat.mod_lt _ (by omega)
theorem up_lt (s : Nat) : up s < 65521 := Nat.mod_lt _ (by omega)
/-- the halves of a sum behind so many bytes more -/
def loU (s : Nat) (xs : List UInt8) : Nat := (lo s + sS xs) % 65521
def upU (s : Nat) (xs : List UInt8) : Nat := (up s + xs.length * lo s + sT xs) % 65521
def updN (s : Nat) (xs : List UInt8) : Nat := upU s xs * 65536 + loU s xs
def sumN (xs : List UInt8) : Nat := updN 1 xs
theorem loU_lt (s : Nat) (xs : List UInt8) : loU s xs < 65521 := Nat.mod_lt _ (by omega)
theorem upU_lt (s : Nat) (xs : List UInt8) : upU s xs < 65521 := Nat.mod_lt _ (by omega)
theorem loU_nil (s : Nat) : loU s [] = lo s := by unfold loU; simp [sS]; exact lo_lt s
theorem upU_nil (s : Nat) : upU s [] = up s := by unfold upU; simp [sT]; exact up_lt s
theorem lo_step (s : Nat) (l : List UInt8) (x : UInt8) : (loU s l + x.toNat) % 65521 = loU s (l ++ [x]) := by
  unfold loU; rw [sS_snoc]; omega
theorem up_step (s : Nat) (l : List UInt8) (x : UInt8) : (upU s l + loU s (l ++ [x])) % 65521 = upU s (l ++ [x]) := by
  unfold upU loU
  rw [sS_snoc, sT_snoc, List.length_append, List.length_singleton, Nat.add_mul, Nat.one_mul]
  generalize l.length * lo s = m
  omega
theorem updN_lt (s : Nat) (xs : List UInt8) : updN s xs < 4294967296 := by
  have := loU_lt s xs; have := upU_lt s xs; unfold updN; omega
theorem lo_upd (s : Nat) (xs : List UInt8) : lo (updN s xs) = loU s xs := by
  have := loU_lt s xs; have := upU_lt s xs; unfold updN lo; omega
theorem up_upd (s : Nat) (xs : List UInt8) : up (updN s xs) = upU s xs := by
  have := loU_lt s xs; have := upU_lt s xs; unfold updN up; omega
theorem mul_mod_l (n a m : Nat) : (n * (a % m)) % m = (n * a) % m := by
  rw [Nat.mul_mod, Nat.mod_mod, ← Nat.mul_mod]
theorem loU_upd (s : Nat) (xs ys : List UInt8) : loU (updN s xs) ys = loU s (xs ++ ys) := by
  unfold loU; rw [lo_upd, sS_append]; unfold loU; omega
theorem upU_upd (s : Nat) (xs ys : List UInt8) : upU (updN s xs) ys = upU s (xs ++ ys) := by
  unfold upU
  rw [up_upd, lo_upd, sT_append, List.length_append]
  have h := mul_mod_l ys.length (lo s + sS xs) 65521
  rw [Nat.mul_add] at h
  unfold loU upU
  rw [Nat.add_mul]
  generalize ys.length * ((lo s + sS xs) % 65521) = p at h ⊢
  generalize ys.length * lo s = q at h ⊢
  generalize ys.length * sS xs = r at h ⊢
  generalize xs.length * lo s = t
  omega
theorem upd_upd (s : Nat) (xs ys : List UInt8) : updN (updN s xs) ys = updN s (xs ++ ys) := by
  show upU (updN s xs) ys * 65536 + loU (updN s xs) ys = upU s (xs ++ ys) * 65536 + loU s (xs ++ ys)
  rw [loU_upd, upU_upd]
theorem upd_sum (xs ys : List UInt8) : updN (sumN xs) ys = sumN (xs ++ ys) := upd_upd 1 xs ys
/-- both sums joined -/
def missN (a : Nat) : Nat := (lo a + 65520) % 65521
def allN (a n : Nat) : Nat := n % 65521 * missN a % 65521
def joinN (a b n : Nat) : Nat := (up a + up b + allN a n) % 65521 * 65536 + (lo b + missN a) % 65521
theorem missN_lt (a : Nat) : missN a < 65521 := Nat.mod_lt _ (by omega)
theorem allN_lt (a n : Nat) : allN a n < 65521 := Nat.mod_lt _ (by omega)
theorem prod_lt (a n : Nat) : n % 65521 * missN a < 18446744073709551616 := by
  have h1 := missN_lt a
  have h2 : n % 65521 < 65521 := Nat.mod_lt _ (by omega)
  exact Nat.lt_trans (Nat.mul_lt_mul'' h2 h1) (by decide)
theorem joinN_lt (a b n : Nat) : joinN a b n < 4294967296 := by unfold joinN; omega
theorem join_sum (xs ys : List UInt8) : joinN (sumN xs) (sumN ys) ys.length = sumN (xs ++ ys) := by
  have hl : lo 1 = 1 := rfl
  have hu : up 1 = 0 := rfl
  have e1 : lo (sumN xs) = loU 1 xs := lo_upd 1 xs
  have e2 : up (sumN xs) = upU 1 xs := up_upd 1 xs
  have e3 : lo (sumN ys) = loU 1 ys := lo_upd 1 ys
  have e4 : up (sumN ys) = upU 1 ys := up_upd 1 ys
  have em : missN (sumN xs) = sS xs % 65521 := by unfold missN; rw [e1]; unfold loU; rw [hl]; omega
  have ea : allN (sumN xs) ys.length = (ys.length * sS xs) % 65521 := by unfold allN; rw [em, ← Nat.mul_mod]
  unfold joinN
  rw [e2, e3, e4, em, ea]
  show _ = updN 1 (xs ++ ys)
  unfold updN upU loU
  rw [hl, hu, sS_append, sT_append, List.length_append]
  generalize ys.length * sS xs = r
  have f1 : ((0 + xs.length * 1 + sT xs) % 65521 + (0 + ys.length * 1 + sT ys) % 65521 + r % 65521) % 65521 = (0 + (xs.length + ys.length) * 1 + (sT xs + r + sT ys)) % 65521 := by omega
  have f2 : ((1 + sS ys) % 65521 + sS xs % 65521) % 65521 = (1 + (sS xs + sS ys)) % 65521 := by omega
  rw [f1, f2]
/-- what the document's loop has still to add -/
theorem drop_step (xs : List UInt8) (k : Nat) (h : k < xs.length) : sT (xs.drop k) = (xs.length - k) * xs[k].toNat + sT (xs.drop (k + 1)) := by
  rw [List.drop_eq_getElem_cons h]
  simp only [sT, List.length_drop]
  congr 2
  omega
theorem take_step (xs : List UInt8) (k : Nat) (h : k < xs.length) : sS (xs.take (k + 1)) = sS (xs.take k) + xs[k].toNat := by
  rw [List.take_succ_eq_append_getElem h, sS_snoc]
theorem ref_start (s : Nat) (xs : List UInt8) : ((up s + xs.length % 65521 * lo s) % 65521 + sT xs) % 65521 = upU s xs := by
  have h : (xs.length % 65521 * lo s) % 65521 = (xs.length * lo s) % 65521 := by
    rw [Nat.mul_mod, Nat.mod_mod, ← Nat.mul_mod]
  unfold upU
  generalize xs.length % 65521 * lo s = p at h ⊢
  generalize xs.length * lo s = q at h ⊢
  omega
theorem ref_step (xs : List UInt8) (k b t : Nat) (h : k < xs.length) (hb : (b + sT (xs.drop k)) % 65521 = t) :
    ((b + (xs.length - k) % 65521 * xs[k].toNat) % 65521 + sT (xs.drop (k + 1))) % 65521 = t := by
  rw [drop_step xs k h] at hb
  have h : ((xs.length - k) % 65521 * xs[k].toNat) % 65521 = ((xs.length - k) * xs[k].toNat) % 65521 := by
    rw [Nat.mul_mod, Nat.mod_mod, ← Nat.mul_mod]
  generalize (xs.length - k) % 65521 * xs[k].toNat = p at h ⊢
  generalize (xs.length - k) * xs[k].toNat = q at h hb
  omega
theorem ref_prod (n : Nat) (x : UInt8) : n % 65521 * x.toNat ≤ 65520 * 255 := by
  have := x.toNat_lt
  have h2 : n % 65521 < 65521 := Nat.mod_lt _ (by omega)
  exact Nat.mul_le_mul (by omega) (by omega)
theorem ref_prod' (n s : Nat) : n % 65521 * lo s ≤ 65520 * 65520 := by
  have := lo_lt s
  have h2 : n % 65521 < 65521 := Nat.mod_lt _ (by omega)
  exact Nat.mul_le_mul (by omega) (by omega)
/-- one byte that is another one -/
theorem sS_set (xs : List UInt8) (i : Nat) (h : i < xs.length) (c : UInt8) : sS (xs.set i c) + xs[i].toNat = sS xs + c.toNat := by
  induction xs generalizing i with
  | nil => simp at h
  | cons x l ih =>
    cases i with
    | zero => simp [sS]; omega
    | succ i =>
      have := ih i (by simpa using h)
      simp [sS]
      omega
theorem sum_set_ne (xs : List UInt8) (i : Nat) (h : i < xs.length) (c : UInt8) (hc : xs[i] ≠ c) : sumN (xs.set i c) ≠ sumN xs := by
  intro e
  have h1 : lo (sumN (xs.set i c)) = lo (sumN xs) := by rw [e]
  have e1 : lo (sumN xs) = loU 1 xs := lo_upd 1 xs
  have e2 : lo (sumN (xs.set i c)) = loU 1 (xs.set i c) := lo_upd 1 _
  rw [e1, e2] at h1
  unfold loU at h1
  have h2 := sS_set xs i h c
  have h3 := xs[i].toNat_lt
  have h4 := c.toNat_lt
  have h5 : xs[i].toNat ≠ c.toNat := fun h => hc (UInt8.toNat_inj.1 h)
  omega
theorem sum_set_same (xs : List UInt8) (i : Nat) (h : i < xs.length) (c : UInt8) (hc : xs[i] = c) : xs.set i c = xs := by
  subst hc; exact List.set_getElem_self h
end Go.Proofs.Ytoeaillhklephaa.Adl

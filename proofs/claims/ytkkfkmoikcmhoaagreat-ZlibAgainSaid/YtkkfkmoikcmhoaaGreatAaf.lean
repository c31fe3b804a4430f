/- ZlA, BitM, HfM, IfM: merged. -/
import Derived.Shelf.Spec.SlicesGrow
import Derived.Deep.LoopGhost
import Derived.RegionTactic
import Derived.BigRegion
import Derived.OwnWalk
import Derived.Deep.WholeRow
import Derived.Test.YtkkfkmoikcmhoaaGreatAaa
set_option linter.unusedVariables false
set_option linter.unusedSimpArgs false
namespace Go.Proofs.YtkkfkmoikcmhoaaGreat.Zl
open Go.RowKit Go.Shelf Oct
set_option maxRecDepth 100000
def renZ : Ren := ⟨fun n => if n = 4 then 50 else n, fun n => if n = 22 then 22 else if n = 25 then 5 else if n = 3 then 3 else if n = 4 then 4 else if n = 9 then 9 else if n = 20 then 20 else n, fun n => n⟩
theorem Yz8 : Lays8.n4 Tryz.prog renZ where
 mixed := by kernel_rfl
 f4 := ⟨ "slices.Grow[[]byte,byte]", by kernel_rfl, by kernel_rfl⟩
 t0 := by kernel_rfl
 a0 _ := by kernel_rfl
 z0 _ := by kernel_rfl
 v0 _ := by kernel_rfl
 t3 := by kernel_rfl
 a3 _ := by kernel_rfl
 z3 _ := by kernel_rfl
 v3 _ := by kernel_rfl
 t4 := by kernel_rfl
 a4 _ := by kernel_rfl
 z4 _ := by kernel_rfl
 v4 _ := by kernel_rfl
 t9 := by kernel_rfl
 a9 _ := by kernel_rfl
 z9 _ := by kernel_rfl
 v9 _ := by kernel_rfl
 t20 := by kernel_rfl
 a20 _ := by kernel_rfl
 z20 _ := by kernel_rfl
 v20 _ := by kernel_rfl
 t22 := by kernel_rfl
 a22 _ := by kernel_rfl
 z22 _ := by kernel_rfl
 v22 _ := by kernel_rfl
def BOwn (w : World) (base : Nat) (v : Value) (xs : List UInt8) : Prop := w.ownsRow base 5 1 v xs.length (cellsOf xs)
def GrowB (w : World) (e : Ending) (w' : World) : Prop := ∃ v, e = .returned v ∧ BOwn w' w.heap.size v [] ∧ Below w.heap.size w w'
theorem Ycu (n : Nat) (w : World) (hn : n ≤ 1000000) : Calls Tryz.prog 50 #[.slice none 0 0, .int .i64 (n : Int)] w (GrowB w) := by
 obtain ⟨i0, hi, hz0, hz1, hz2⟩ := info_parts Tryz.infoByte
 have e : renZ.f 4 = 50 := rfl
 rcases Nat.eq_zero_or_pos n with h0 | h0
 ·have h := Any8.slices_Grow_room Yz8 none 0 0 n w (by omega) (by omega) (by omega) (by omega)
  rw [e] at h
  refine h.mono ?_
  rintro e w' ⟨rfl, rfl⟩
  exact ⟨_, rfl, ⟨rfl, .inl ⟨rfl, rfl⟩⟩, Below.refl _ _⟩
 ·have h := Any8.slices_Grow_grow Yz8 i0 _ hi hz0 (by omega) none 0 0 n [] w (by omega) (by omega) (by rw [hz2]; omega) (by omega) (by simp) (fun _ => rfl) (fun a h => by cases h)
  rw [e] at h
  refine h.mono ?_
  rintro e w' ⟨rfl, rfl⟩
  refine ⟨_, rfl, ?_, ((Below.refl _ w).drew).alloc (Nat.le_refl _) _⟩
  have hm := World.ownsRow_made (size := 1) (w := w.drew) (base := w.heap.size) (e := 5) (([] : List Value).toArray ++ Builtin.zeroCells (Value.int .u8 0).cells (0 + n - 0) ++ Builtin.zeroCells (Value.int .u8 0).cells (grownCap w (0 + n) 0 5 - (0 + n))) (grownCap w (0 + n) 0 5) (Nat.le_refl _) (grownCap_le_maxLen _ _ _ _ (by unfold maxLen; omega)) ?_
  ·exact hm
  ·have hge := grownCap_ge w (0 + n) 0 5
   rw [Nat.zero_add] at hge
   simp [Builtin.zeroCells, Value.cells]
   omega
structure Prt where
 p : Option Addr
 c : Nat
 xs : List UInt8
def Y9f : List Prt → List UInt8
 | [] => []
 | x :: l => x.xs ++ Y9f l
theorem Y6f : ∀ a b : List Prt, Y9f (a ++ b) = Y9f a ++ Y9f b
 | [], _ => rfl
 | x :: a, b => by show x.xs ++ Y9f (a ++ b) = (x.xs ++ Y9f a) ++ Y9f b; rw [Y6f a b, List.append_assoc]
theorem Yef (ps : List Prt) (k : Nat) (h : k < ps.length) : Y9f (ps.take (k + 1)) = Y9f (ps.take k) ++ ps[k].xs := by
 rw [List.take_succ_eq_append_getElem h, Y6f]
 show _ ++ (ps[k].xs ++ []) = _
 rw [List.append_nil]
theorem Ynd (ps : List Prt) (k : Nat) : (Y9f (ps.take k)).length ≤ (Y9f ps).length := by
 have := congrArg List.length (congrArg Y9f (List.take_append_drop k ps))
 rw [Y6f, List.length_append] at this
 omega
structure PrtsIn (w : World) (sb : Nat) (ps : List Prt) : Prop where
 cell : ∀ i (h : i < ps.length), w.cell? ⟨sb, i, none⟩ = some (.slice ps[i].p ps[i].xs.length ps[i].c)
 row : ∀ i (h : i < ps.length), Row w ps[i].p ps[i].xs
 nil : ∀ i (h : i < ps.length), ps[i].p = none → ps[i].c = 0
 all : (Y9f ps).length ≤ 400000
 few : ps.length ≤ 10
def CatB (w : World) (xs : List UInt8) (e : Ending) (w' : World) : Prop := ∃ v, e = .returned v ∧ BOwn w' w.heap.size v xs ∧ Below w.heap.size w w'
set_option maxHeartbeats 4000000 in
theorem Y82 (sb c : Nat) (ps : List Prt) (n : Nat) (w : World) (hsb : sb < w.heap.size) (h : PrtsIn w sb ps) (hn : ps.length = n) :
  Calls Tryz.prog 22 #[.slice (some ⟨sb, 0, none⟩) n c] w (CatB w (Y9f ps)) := by
 have H0 := Lib.hid h
 have HN := Lib.hid hn
 have hn10 : n ≤ 10 := by have := h.few; omega
 clear h hn
 go_enter Tryz.func22, Tryz.ntmps22
 go_wp2
 go_loopg [3, 11] n (fun kx s3 s11 wr => ∃ (k s : Nat), s11 = .int .i64 (k : Int) ∧ s3 = .int .i64 (s : Int) ∧ k ≤ n ∧ n - k ≤ kx ∧ Hid (s = (Y9f (ps.take k)).length) ∧ s ≤ 400000 ∧ w = wr)
 case atStart => exact ⟨0, 0, rfl, rfl, by omega, by omega, Lib.hid rfl, by omega, rfl⟩
 case round =>
  obtain ⟨k, s, rfl, rfl, hk, hkx, HS, hs, rfl⟩ := hrel
  by_cases hlt : k < n
  ·have hkz : (k : Int) < (n : Int) := by omega
   have hk0 : (0 : Int) ≤ (k : Int) := by omega
   have hkl : k < ps.length := by rw [HN.out]; exact hlt
   have hc := H0.out.cell k hkl
   have hst := congrArg List.length (Yef ps k hkl)
   rw [List.length_append, ← HS.out] at hst
   have hle := Ynd ps (k + 1)
   have hal := H0.out.all
   obtain ⟨m, hm⟩ : ∃ m, m = ps[k].xs.length := ⟨_, rfl⟩
   obtain ⟨pp, hpp⟩ : ∃ q, q = ps[k].p := ⟨_, rfl⟩
   obtain ⟨cc, hcc⟩ : ∃ q, q = ps[k].c := ⟨_, rfl⟩
   rw [← hm, ← hpp, ← hcc] at hc
   rw [← hm] at hst
   have hs2 : s + m ≤ 400000 := by omega
   have HSS : Hid (s + m = (Y9f (ps.take (k + 1))).length) := Lib.hid hst.symm
   have ws : IntKind.i64.wrap ((s : Int) + (m : Int)) = ((s + m : Nat) : Int) := by rw [IntKind.wrap_i64]; omega
   obtain ⟨sn, hsn⟩ : ∃ sn, sn = s + m := ⟨_, rfl⟩
   rw [← hsn] at ws HSS hs2
   have hneg : ¬ (sn : Int) < 0 := by omega
   clear hst hsn hm hle hal hpp hcc hkl
   go_wp2
   go_roundg (n - (k + 1))
   case measure => omega
   case rel => exact ⟨k + 1, sn, by go_num, rfl, by omega, Nat.le_refl _, HSS, hs2, rfl⟩
  ·have hkz : ¬ (k : Int) < (n : Int) := by omega
   have hk2 : k = n := by omega
   have hg := Ycu s w (by omega)
   go_wp2_with (go_at_call 50; refine hg.mono ?_; rintro e w' ⟨v, rfl, ho, hb⟩)
   go_loopg [6, 27] n (fun kx s6 s27 wr => ∃ (k : Nat), s27 = .int .i64 (k : Int) ∧ k ≤ n ∧ n - k ≤ kx ∧ Hid (BOwn wr w.heap.size s6 (Y9f (ps.take k)) ∧ Below w.heap.size w wr))
   case atStart => exact ⟨0, rfl, by omega, by omega, ⟨ho, hb⟩⟩
   case round =>
    clear ho hb
    obtain ⟨k', rfl, hk', hkx', HR⟩ := hrel
    by_cases hlt' : k' < n
    ·have hkz' : (k' : Int) < (n : Int) := by omega
     have hk0' : (0 : Int) ≤ (k' : Int) := by omega
     have hkl : k' < ps.length := by rw [HN.out]; exact hlt'
     have hcw := (HR.out.2.cell (p := ⟨sb, k', none⟩) hsb).trans (H0.out.cell k' hkl)
     have hst := Yef ps k' hkl
     have hstl := congrArg List.length hst
     rw [List.length_append] at hstl
     have hle := Ynd ps (k' + 1)
     have hal := H0.out.all
     have hrw : Row _ ps[k'].p ps[k'].xs := (H0.out.row k' hkl).below HR.out.2
     have hnl := H0.out.nil k' hkl
     have HST : Hid (BOwn _ w.heap.size _ (Y9f (ps.take k')) ∧ Below w.heap.size w _) := HR
     obtain ⟨pp, hpp⟩ : ∃ q, q = ps[k'].p := ⟨_, rfl⟩
     obtain ⟨cc, hcc⟩ : ∃ q, q = ps[k'].c := ⟨_, rfl⟩
     obtain ⟨zs, hzs⟩ : ∃ q, q = ps[k'].xs := ⟨_, rfl⟩
     obtain ⟨nn, hnn⟩ : ∃ q, q = (Y9f (ps.take k')).length := ⟨_, rfl⟩
     obtain ⟨zn, hzn⟩ : ∃ q, q = zs.length := ⟨_, rfl⟩
     rw [← hpp, ← hcc, ← hzs, ← hzn] at hcw
     rw [← hpp, ← hzs] at hrw
     rw [← hpp, ← hcc] at hnl
     rw [← hzs] at hst
     rw [← hzs, ← hnn, ← hzn] at hstl
     have HL := Lib.hid (And.intro hst (And.intro hnn (And.intro hzn hstl)))
     have hroom : nn + zn ≤ 140737488355328 := by omega
     have HRW := Lib.hid hrw
     have HNL := Lib.hid hnl
     clear hst hle hal hrw hnl hstl hpp hcc hzs hnn hzn hkl
     go_wp2_with (at_builtin; refine Y0j rfl _ _ rfl w.heap.size _ nn (Y9f (ps.take k')) rfl (by rw [HL.out.2.1]; exact HST.out.1) pp zn cc zs rfl HRW.out HL.out.2.2.1.symm HNL.out hroom HST.out.2.size ?_; intro v2 w2 ho2 hg2 hv2)
     have HN2 : Hid (BOwn w2 w.heap.size v2 (Y9f (ps.take (k' + 1))) ∧ Below w.heap.size w w2) := by
      refine ⟨?_, HST.out.2.trans (Y1l HST.out.1 hg2 HST.out.2.size)⟩
      unfold BOwn
      rw [HL.out.2.2.2, HL.out.1]
      exact ho2
     clear ho2 hg2 hv2
     go_roundg (n - (k' + 1))
     case measure => omega
     case rel => exact ⟨k' + 1, by go_num, by omega, Nat.le_refl _, HN2⟩
    ·have hkz' : ¬ (k' : Int) < (n : Int) := by omega
     have hk2' : k' = n := by omega
     go_wp2
     go_ret
     have := HR.out
     rw [hk2', List.take_of_length_le (by rw [HN.out]; exact Nat.le_refl _)] at this
     exact ⟨_, rfl, this⟩
end Go.Proofs.YtkkfkmoikcmhoaaGreat.Zl
namespace Go.Proofs.YtkkfkmoikcmhoaaGreat.Bit
open Oct
def num (l : List Bool) : Nat := l.foldl (fun n b => n * 2 + b.toNat) 0
theorem Y0v (a b : List Bool) : num (a ++ b) = num a * 2 ^ b.length + num b := by
 have key : ∀ (b : List Bool) (n : Nat), b.foldl (fun n b => n * 2 + b.toNat) n = n * 2 ^ b.length + num b := by
  intro b
  induction b with
  | nil => intro n; simp [num]
  | cons x b ih =>
   intro n
   have h1 := ih (n * 2 + x.toNat)
   have h2 := ih (0 * 2 + x.toNat)
   unfold num
   simp only [List.foldl_cons, List.length_cons]
   rw [h1, h2, Nat.pow_succ, Nat.add_mul, Nat.add_mul]
   have : n * 2 * 2 ^ b.length = n * (2 ^ b.length * 2) := by rw [Nat.mul_assoc, Nat.mul_comm 2]
   omega
 unfold num
 rw [List.foldl_append, key]
 rfl
theorem Yx8 (b : Bool) : num [b] = b.toNat := by simp [num]
theorem Y7c (b : Bool) (l : List Bool) : num (b :: l) = b.toNat * 2 ^ l.length + num l := by
 have := Y0v [b] l
 rw [Yx8] at this
 exact this
theorem Y2b (l : List Bool) : num l < 2 ^ l.length := by
 induction l with
 | nil => simp [num]
 | cons x l ih =>
  rw [Y7c, List.length_cons, Nat.pow_succ]
  cases x <;> simp <;> omega
def zs (n : Nat) : List Bool := List.replicate n false
theorem Y0g (n : Nat) : (zs n).length = n := by simp [zs]
theorem Yyf (n : Nat) : zs (n + 1) = false :: zs n := by simp [zs, List.replicate_succ]
theorem Y7d (n : Nat) : num (zs n) = 0 := by
 induction n with
 | zero => rfl
 | succ n ih => rw [Yyf, Y7c, ih]; simp
theorem Ycj (a b : Nat) : zs a ++ zs b = zs (a + b) := by simp [zs]
theorem Y68 (n : Nat) : (zs n).reverse = zs n := by simp [zs]
theorem Yyg (a b : Nat) : (zs a).take b = zs (min b a) := by simp [zs]
def word (v : Nat) : Nat → List Bool
 | 0 => []
 | k + 1 => (v / 2 ^ k % 2 == 1) :: word v k
theorem Y15 (v k : Nat) : (word v k).length = k := by
 induction k with
 | zero => rfl
 | succ k ih => simp [word, ih]
theorem Yeg (m : Nat) : ((m % 2 == 1) : Bool).toNat = m % 2 := by
 rcases Nat.mod_two_eq_zero_or_one m with h | h <;> rw [h] <;> rfl
theorem Y63 (v k : Nat) : num (word v k) = v % 2 ^ k := by
 induction k with
 | zero => simp [word, num, Nat.mod_one]
 | succ k ih =>
  rw [word, Y7c, ih, Y15, Yeg, Nat.pow_succ, Nat.mod_mul, Nat.mul_comm]
  omega
theorem Y1t (v k : Nat) (h : v < 2 ^ k) : num (word v k) = v := by rw [Y63, Nat.mod_eq_of_lt h]
theorem Yhv : ∀ (a b : List Bool), a.length = b.length → num a = num b → a = b := by
 intro a
 induction a with
 | nil => intro b h _; cases b with
  | nil => rfl
  | cons => simp at h
 | cons x a ih =>
  intro b h hn
  cases b with
  | nil => simp at h
  | cons y b =>
   simp at h
   rw [Y7c, Y7c, h] at hn
   have h1 := Y2b a
   have h2 := Y2b b
   rw [h] at h1
   have hxy : x = y := by
    cases x <;> cases y <;> simp at hn ⊢ <;> omega
   subst hxy
   rw [ih b h (by omega)]
theorem Ykg (l : List Bool) : word (num l) l.length = l :=
 Yhv _ _ (Y15 _ _) (by rw [Y1t _ _ (Y2b l)])
theorem Yro (k : Nat) : word 0 k = zs k := Yhv _ _ (by rw [Y15, Y0g]) (by rw [Y63, Y7d]; simp)
theorem Yrl (v a b : Nat) (h : b ≤ a) : (word v a).drop (a - b) = word v b := by
 induction a with
 | zero => have : b = 0 := by omega
           subst this; rfl
 | succ a ih =>
  rcases Nat.lt_or_ge b (a + 1) with hb | hb
  ·rw [show a + 1 - b = (a - b) + 1 by omega, word, List.drop_succ_cons]
   exact ih (by omega)
  ·have : b = a + 1 := by omega
   subst this; simp
theorem Yrn (v a b : Nat) (h : b ≤ a) : num ((word v a).take (a - b)) = v % 2 ^ a / 2 ^ b := by
 have h1 := Y0v ((word v a).take (a - b)) ((word v a).drop (a - b))
 rw [List.take_append_drop, Yrl v a b h, Y15, Y63, Y63] at h1
 have h3 := Y2b (word v b)
 rw [Y63, Y15] at h3
 rw [h1, Nat.mul_comm, Nat.mul_add_div (Nat.pow_pos (by omega)), Nat.div_eq_of_lt h3]
 omega
def Y38 (low : Bool) (l : List Bool) : Nat := if low then num l.reverse else num l
def Y07 (low : Bool) (v n : Nat) : List Bool := if low then (word v n).reverse else word v n
theorem Y00 (low : Bool) (v n : Nat) : (Y07 low v n).length = n := by cases low <;> simp [Y07, Y15]
theorem Ydd (low : Bool) (l : List Bool) : Y38 low l < 2 ^ l.length := by
 cases low
 ·exact Y2b l
 ·have := Y2b l.reverse; rwa [List.length_reverse] at this
theorem Y1d (low : Bool) (v n : Nat) (h : v < 2 ^ n) : Y38 low (Y07 low v n) = v := by
 cases low <;> simp [Y38, Y07, Y1t v n h]
theorem Y8n (low : Bool) (l : List Bool) : Y07 low (Y38 low l) l.length = l := by
 cases low
 ·simp [Y07, Y38, Ykg]
 ·simp only [Y07, Y38, if_true]
  have := Ykg l.reverse
  rw [List.length_reverse] at this
  rw [this, List.reverse_reverse]
theorem Ytg (low : Bool) (a b : List Bool) (h : a.length = b.length) (hn : Y38 low a = Y38 low b) : a = b := by
 rw [← Y8n low a, ← Y8n low b, h, hn]
def gsh (low : Bool) (skip n all : Nat) : Nat := if low then skip else all - skip - n
theorem Ybz (low : Bool) (a b c : List Bool) : Y38 low (a ++ b ++ c) =
  (if low then (num c.reverse * 2 ^ b.length + num b.reverse) * 2 ^ a.length + num a.reverse else (num a * 2 ^ b.length + num b) * 2 ^ c.length + num c) := by
 cases low
 ·simp only [Y38, Bool.false_eq_true, if_false]
  rw [Y0v, Y0v]
 ·simp only [Y38, if_true]
  rw [List.reverse_append, List.reverse_append, ← List.append_assoc, Y0v, Y0v, List.length_reverse, List.length_reverse]
theorem parts (L : List Bool) (skip n : Nat) : L = L.take skip ++ (L.drop skip).take n ++ (L.drop skip).drop n := by
 rw [List.append_assoc, List.take_append_drop, List.take_append_drop]
theorem Ygl (x m y p q r : Nat) (hm : m < 2 ^ q) (hy : y < 2 ^ r) : ((x * 2 ^ q + m) * 2 ^ r + y) / 2 ^ r % 2 ^ q = m := by
 have h1 : ((x * 2 ^ q + m) * 2 ^ r + y) / 2 ^ r = x * 2 ^ q + m := by
  rw [Nat.mul_comm, Nat.mul_add_div (Nat.pow_pos (by omega)), Nat.div_eq_of_lt hy]; omega
 rw [h1, Nat.mul_comm, Nat.mul_add_mod, Nat.mod_eq_of_lt hm]
theorem Y4x (low : Bool) (L : List Bool) (skip n : Nat) (h : skip + n ≤ L.length) :
  Y38 low L / 2 ^ gsh low skip n L.length % 2 ^ n = Y38 low ((L.drop skip).take n) := by
 obtain ⟨a, ha⟩ : ∃ a, a = L.take skip := ⟨_, rfl⟩
 obtain ⟨b, hb⟩ : ∃ b, b = (L.drop skip).take n := ⟨_, rfl⟩
 obtain ⟨c, hc⟩ : ∃ c, c = (L.drop skip).drop n := ⟨_, rfl⟩
 have hL := parts L skip n
 rw [← ha, ← hb, ← hc] at hL
 have la : a.length = skip := by subst ha; simp; omega
 have lb : b.length = n := by subst hb; simp; omega
 have lc : c.length = L.length - skip - n := by subst hc; simp; omega
 rw [← hb]
 conv => lhs; rw [hL]
 rw [Ybz]
 cases low
 ·simp only [gsh, Y38, Bool.false_eq_true, if_false]
  rw [show (a ++ b ++ c).length - skip - n = c.length by simp; omega, lb]
  have h1 := Y2b b
  rw [lb] at h1
  exact Ygl _ _ _ 0 _ _ h1 (Y2b c)
 ·simp only [gsh, Y38, if_true]
  rw [la, lb]
  have h1 := Y2b b.reverse
  have h2 := Y2b a.reverse
  rw [List.length_reverse, lb] at h1
  rw [List.length_reverse, la] at h2
  exact Ygl _ _ _ 0 _ _ h1 h2
def Y8y (low : Bool) (x : UInt8) : List Bool := Y07 low x.toNat 8
theorem Y22 (low : Bool) (x : UInt8) : (Y8y low x).length = 8 := Y00 _ _ _
def Y01 (low : Bool) (xs : List UInt8) : List Bool := xs.flatMap (Y8y low)
theorem Yko (low : Bool) : Y01 low [] = [] := rfl
theorem Y1a (low : Bool) (x : UInt8) (xs : List UInt8) : Y01 low (x :: xs) = Y8y low x ++ Y01 low xs := by simp [Y01]
theorem Y0u (low : Bool) (xs ys : List UInt8) : Y01 low (xs ++ ys) = Y01 low xs ++ Y01 low ys := by simp [Y01]
theorem Y04 (low : Bool) (xs : List UInt8) : (Y01 low xs).length = 8 * xs.length := by
 induction xs with
 | nil => rfl
 | cons x xs ih => rw [Y1a, List.length_append, ih, Y22, List.length_cons]; omega
theorem Y9k (low : Bool) (xs : List UInt8) (k : Nat) : Y01 low (xs.drop k) = (Y01 low xs).drop (8 * k) := by
 induction xs generalizing k with
 | nil => simp [Y01]
 | cons x xs ih =>
  cases k with
  | zero => simp
  | succ k =>
   rw [List.drop_succ_cons, ih, Y1a, show 8 * (k + 1) = (Y8y low x).length + 8 * k by rw [Y22]; omega, List.drop_append]
   simp
theorem Ygz (low : Bool) (xs : List UInt8) (k : Nat) : Y01 low (xs.take k) = (Y01 low xs).take (8 * k) := by
 induction xs generalizing k with
 | nil => simp [Y01]
 | cons x xs ih =>
  cases k with
  | zero => simp [Y01]
  | succ k =>
   rw [List.take_succ_cons, Y1a, ih, Y1a, show 8 * (k + 1) = (Y8y low x).length + 8 * k by rw [Y22]; omega, List.take_append]
   simp
   exact (List.take_of_length_le (by omega)).symm
theorem Ykn (low : Bool) : Y8y low 0 = zs 8 := by
 unfold Y8y Y07
 rw [show (0 : UInt8).toNat = 0 from rfl, Yro]
 cases low <;> simp [Y68]
theorem Yeh (low : Bool) (k : Nat) : Y01 low (List.replicate k 0) = zs (8 * k) := by
 induction k with
 | zero => rfl
 | succ k ih => rw [List.replicate_succ, Y1a, ih, Ykn, Ycj]; congr 1; omega
theorem Yak (xs : List UInt8) : num (xs.flatMap fun x => word x.toNat 8) = Y2n xs := by
 induction xs with
 | nil => rfl
 | cons x xs ih =>
  have hl : (xs.flatMap fun x => word x.toNat 8).length = 8 * xs.length := Y04 false xs
  rw [List.flatMap_cons, Y0v, ih, Y5t, hl, Y1t _ _ (by have := x.toNat_lt; simpa using this), pow8]
theorem Yaj (low : Bool) (xs : List UInt8) : Y38 low (Y01 low xs) = numOf (!low) xs := by
 cases low
 ·exact Yak xs
 ·show num (Y01 true xs).reverse = Y2n xs.reverse
  rw [← Yak]
  congr 1
  unfold Y01 Y8y Y07
  rw [List.reverse_flatMap]
  congr 1
def Yq5 (low : Bool) (bits : List Bool) (n : Nat) : Nat := Y38 low ((bits ++ zs 32).take n)
def nextV (low : Bool) (xs : List UInt8) (at_ n : Nat) : Nat := Yq5 low ((Y01 low xs).drop at_) n
def group (xs : List UInt8) (at_ count : Nat) : List UInt8 := ((xs ++ List.replicate 5 0).drop (at_ / 8)).take count
def cnt (skip n : Nat) : Nat := (skip + n + 7) / 8
theorem Y8q (xs : List UInt8) (at_ n : Nat) (h : at_ ≤ 8 * xs.length) (hn : n ≤ 32) : (group xs at_ (cnt (at_ % 8) n)).length = cnt (at_ % 8) n := by
 unfold group cnt; simp; omega
theorem Yos (xs : List UInt8) (at_ c i : Nat) (h : i < (group xs at_ c).length) : (group xs at_ c)[i] = xs.getD (at_ / 8 + i) 0 := by
 have h1 : (group xs at_ c)[i]? = some ((group xs at_ c)[i]) := List.getElem?_eq_getElem h
 have hi : i < c := by unfold group at h; simp at h; omega
 have hj : at_ / 8 + i < xs.length + 5 := by unfold group at h; simp at h; omega
 unfold group at h1
 rw [List.getElem?_take_of_lt hi, List.getElem?_drop] at h1
 rw [List.getD_eq_getElem?_getD]
 rcases Nat.lt_or_ge (at_ / 8 + i) xs.length with hl | hl
 ·rw [List.getElem?_append_left hl] at h1
  rw [h1]; rfl
 ·rw [List.getElem?_append_right hl, List.getElem?_replicate, if_pos (by omega)] at h1
  rw [List.getElem?_eq_none hl]
  injection h1 with h1
  exact h1.symm
theorem Ym1 (low : Bool) (xs : List UInt8) (at_ n : Nat) (h : at_ ≤ 8 * xs.length) (hn : n ≤ 32) :
  numOf (!low) (group xs at_ (cnt (at_ % 8) n)) / 2 ^ gsh low (at_ % 8) n (8 * cnt (at_ % 8) n) % 2 ^ n = nextV low xs at_ n := by
 have hg := Y8q xs at_ n h hn
 have hlen := Y04 low (group xs at_ (cnt (at_ % 8) n))
 rw [hg] at hlen
 have hle : at_ % 8 + n ≤ 8 * cnt (at_ % 8) n := by unfold cnt; omega
 rw [← Yaj, ← hlen, Y4x low _ _ _ (by omega)]
 unfold nextV Yq5
 congr 1
 unfold group
 rw [Ygz, Y9k, Y0u, Yeh, List.drop_take, List.take_take, List.drop_drop, show 8 * (at_ / 8) + at_ % 8 = at_ by omega, Nat.min_eq_left (by omega)]
 rw [List.drop_append_of_le_length (by rw [Y04]; omega)]
 rw [show zs (8 * 5) = zs 32 ++ zs 8 by rw [Ycj], ← List.append_assoc]
 rw [List.take_append_of_le_length (by simp [Y0g]; omega)]
theorem Yjh (low : Bool) (xs : List UInt8) (at_ n : Nat) (hn : n ≤ 32) : nextV low xs at_ n < 2 ^ n := by
 unfold nextV Yq5
 have := Ydd low (((Y01 low xs).drop at_ ++ zs 32).take n)
 refine Nat.lt_of_lt_of_le this (Nat.pow_le_pow_right (by omega) ?_)
 exact List.length_take_le _ _
end Go.Proofs.YtkkfkmoikcmhoaaGreat.Bit
namespace Go.Proofs.YtkkfkmoikcmhoaaGreat.Hf
open Bit
def share (n : Nat) : Nat := 2 ^ (30 - n)
theorem Y1u (n : Nat) : 0 < share n := Nat.pow_pos (by omega)
theorem Y7m (m n : Nat) (h : m ≤ n) (h30 : n ≤ 30) : share m = 2 ^ (n - m) * share n := by
 unfold share
 rw [← Nat.pow_add]
 congr 1
 omega
theorem Y7l (m n : Nat) (h : m ≤ n) (h30 : n ≤ 30) : share n ∣ share m := ⟨2 ^ (n - m), by rw [Y7m m n h h30, Nat.mul_comm]⟩
theorem Y7n (n : Nat) (h : n ≤ 30) : 2 ^ n * share n = 1073741824 := by
 unfold share
 rw [← Nat.pow_add, show n + (30 - n) = 30 by omega]
def startN (L : List Nat) : Nat → Nat
 | 0 => 0
 | n + 1 => startN L n + (if n = 0 then 0 else L.count n * share n)
def pos (L : List Nat) (n i : Nat) : Nat := startN L n + (L.take i).count n * share n
theorem Y66 (L : List Nat) : startN L 1 = 0 := by simp [startN]
theorem Y3m (L : List Nat) (n : Nat) (h : n ≠ 0) : startN L (n + 1) = startN L n + L.count n * share n := by simp [startN, h]
theorem Y6p (L : List Nat) (m n : Nat) (h : m ≤ n) : startN L m ≤ startN L n := by
 induction n with
 | zero => rw [show m = 0 by omega]; exact Nat.le_refl _
 | succ n ih =>
  rcases Nat.lt_or_ge n m with hlt | hge
  ·rw [show m = n + 1 by omega]; exact Nat.le_refl _
  ·have := ih hge
   simp only [startN]
   omega
theorem Ymk (L : List Nat) (n m : Nat) (h30 : n ≤ 30) (h : m ≤ n + 1) : share n ∣ startN L m := by
 induction m with
 | zero => exact ⟨0, by simp [startN]⟩
 | succ m ih =>
  simp only [startN]
  refine Nat.dvd_add (ih (by omega)) ?_
  split
  ·exact ⟨0, by simp⟩
  ·exact Nat.dvd_trans (Y7l m n (by omega) h30) ⟨L.count m, by rw [Nat.mul_comm]⟩
theorem Y97 (L : List Nat) (n : Nat) : pos L n 0 = startN L n := by simp [pos]
theorem Yq6 (L : List Nat) (n : Nat) (h : n ≠ 0) : pos L n L.length = startN L (n + 1) := by rw [Y3m L n h]; simp [pos]
theorem Y7h (L : List Nat) (n i : Nat) (h : i < L.length) : pos L n (i + 1) = pos L n i + (if L[i] = n then share n else 0) := by
 unfold pos
 rw [List.take_succ_eq_append_getElem h, List.count_append]
 by_cases he : L[i] = n
 ·simp [he, Nat.add_mul]
  omega
 ·simp [he]
theorem Ydr (L : List Nat) (n i j : Nat) (h : i ≤ j) : pos L n i ≤ pos L n j := by
 unfold pos
 have : (L.take i).count n ≤ (L.take j).count n := by
  rw [show L.take i = (L.take j).take i by rw [List.take_take, Nat.min_eq_left h]]
  exact (List.take_sublist _ _).count_le n
 exact Nat.add_le_add_left (Nat.mul_le_mul_right _ this) _
theorem Yxn (L : List Nat) (n i : Nat) (h30 : n ≤ 30) : share n ∣ pos L n i :=
 Nat.dvd_add (Ymk L n n h30 (by omega)) ⟨_, Nat.mul_comm _ _⟩
theorem Yds (L : List Nat) (n i j : Nat) (hi : i < L.length) (hn : L[i] = n) (hij : i < j) : pos L n i + share n ≤ pos L n j := by
 have h1 := Y7h L n i hi
 rw [if_pos hn] at h1
 have h2 := Ydr L n (i + 1) j hij
 omega
theorem Yi4 (L : List Nat) (n i : Nat) (hi : i < L.length) (hn : L[i] = n) (h0 : n ≠ 0) : pos L n i + share n ≤ startN L (n + 1) := by
 rw [← Yq6 L n h0]
 exact Yds L n i _ hi hn hi
theorem Yi3 (L : List Nat) (n i : Nat) (hi : i < L.length) (hn : L[i] = n) (h0 : n ≠ 0) (h30 : n ≤ 30) : pos L n i + share n ≤ startN L 31 :=
 Nat.le_trans (Yi4 L n i hi hn h0) (Y6p L _ _ (by omega))
theorem apart (L : List Nat) (i j n k : Nat) (hi : i < L.length) (hj : j < L.length) (hn : L[i] = n) (hk : L[j] = k) (h0 : n ≠ 0) (h1 : k ≠ 0) (hij : i ≠ j) :
  pos L n i + share n ≤ pos L k j ∨ pos L k j + share k ≤ pos L n i := by
 rcases Nat.lt_trichotomy n k with h | h | h
 ·left
  have a := Yi4 L n i hi hn h0
  have b := Y6p L (n + 1) k h
  have c := Ydr L k 0 j (by omega)
  rw [Y97] at c
  omega
 ·subst h
  rcases Nat.lt_or_ge i j with h | h
  ·exact .inl (Yds L n i j hi hn h)
  ·exact .inr (Yds L n j i hj hk (by omega))
 ·right
  have a := Yi4 L k j hj hk h1
  have b := Y6p L (k + 1) n h
  have c := Ydr L n 0 i (by omega)
  rw [Y97] at c
  omega
def Y1g (p n : Nat) : List Bool := word (p / share n) n
theorem Y0h (p n : Nat) : (Y1g p n).length = n := Y15 _ _
theorem Yrm (v a b : Nat) (h : b ≤ a) : (word v a).take (a - b) = word (v / 2 ^ b) (a - b) := by
 refine Yhv _ _ (by rw [List.length_take, Y15, Y15]; omega) ?_
 rw [Yrn v a b h, Y63]
 conv => lhs; rw [show 2 ^ a = 2 ^ b * 2 ^ (a - b) from by rw [← Nat.pow_add]; congr 1; omega]
 exact Nat.mod_mul_right_div_self _ _ _
theorem Ykm (p q n k : Nat) (hnk : n ≤ k) (hk : k ≤ 30) (hp : share n ∣ p) (hp30 : p + share n ≤ 1073741824) (hq30 : q < 1073741824) :
  Y1g p n <+: Y1g q k ↔ p ≤ q ∧ q < p + share n := by
 have hlt : ∀ r m, m ≤ 30 → r < 1073741824 → r / share m < 2 ^ m := by
  intro r m hm hr
  rw [Nat.div_lt_iff_lt_mul (Y1u m), Y7n m hm]
  exact hr
 have hsp := Y1u n
 obtain ⟨a, rfl⟩ := hp
 have e1 : share n * a / share n = a := Nat.mul_div_cancel_left a hsp
 have hpl := hlt (share n * a) n (by omega) (by omega)
 rw [e1] at hpl
 have e2 : (Y1g q k).take n = word (q / share n) n := by
  have := Yrm (q / share k) k (k - n) (by omega)
  rw [show k - (k - n) = n by omega, Nat.div_div_eq_div_mul, Nat.mul_comm (share k), ← Y7m n k hnk hk] at this
  exact this
 have e3 : Y1g (share n * a) n = word a n := by unfold Y1g; rw [e1]
 rw [List.prefix_iff_eq_take, Y0h, e2, e3]
 constructor
 ·intro h
  have hh := congrArg num h
  rw [Y1t _ _ hpl, Y1t _ _ (hlt q n (by omega) hq30)] at hh
  have h2 := Nat.div_add_mod q (share n)
  have h3 := Nat.mod_lt q hsp
  rw [← hh] at h2
  omega
 ·rintro ⟨h1, h2⟩
  have : q / share n = a := by
   refine Nat.div_eq_of_lt_le ?_ ?_
   ·rw [Nat.mul_comm]; exact h1
   ·rw [Nat.add_mul, Nat.mul_comm a]; omega
  rw [this]
def Y03 (L : List Nat) : List (List Bool) := (List.range L.length).map fun i => Y1g (pos L (L.getD i 0) i) (L.getD i 0)
theorem Y0e (L : List Nat) : (Y03 L).length = L.length := by simp [Y03]
theorem Y2m (L : List Nat) (i : Nat) (h : i < (Y03 L).length) (h' : i < L.length) : (Y03 L)[i] = Y1g (pos L L[i] i) L[i] := by
 simp [Y03, List.getD, List.getElem?_eq_getElem h']
theorem Y4b (L : List Nat) (i : Nat) (h : i < (Y03 L).length) (h' : i < L.length) : ((Y03 L)[i]).length = L[i] := by rw [Y2m L i h h', Y0h]
theorem Y80 (L : List Nat) (hL : ∀ i (h : i < L.length), L[i] ≤ 30) (hT : startN L 31 ≤ 1073741824) (i j : Nat) (hi : i < L.length) (hj : j < L.length) (hij : i ≠ j) (h0 : L[i] ≠ 0) :
  ¬ Y1g (pos L L[i] i) L[i] <+: Y1g (pos L L[j] j) L[j] := by
 intro hp
 have hle := hp.length_le
 rw [Y0h, Y0h] at hle
 have h1 : L[j] ≠ 0 := by omega
 have a := Yi3 L _ i hi rfl h0 (hL i hi)
 have b := Yi3 L _ j hj rfl h1 (hL j hj)
 have s := Y1u L[j]
 rw [Ykm _ _ _ _ hle (hL j hj) (Yxn L _ _ (hL i hi)) (by omega) (by omega)] at hp
 rcases apart L i j _ _ hi hj rfl rfl h0 h1 hij with h | h <;> omega
theorem Yow (L : List Nat) (v : Nat) : ∀ m, v < startN L m → ∃ n, n < m ∧ n ≠ 0 ∧ startN L n ≤ v ∧ v < startN L (n + 1) := by
 intro m
 induction m with
 | zero => intro h; simp [startN] at h
 | succ m ih =>
  intro h
  rcases Nat.lt_or_ge v (startN L m) with hlt | hge
  ·obtain ⟨n, h1, h2⟩ := ih hlt
   exact ⟨n, by omega, h2⟩
  ·refine ⟨m, by omega, ?_, hge, h⟩
   intro h0
   subst h0
   simp [startN] at h
theorem Yt0 (L : List Nat) (v n : Nat) : ∀ m, m ≤ L.length → startN L n ≤ v → v < pos L n m → ∃ i, ∃ h : i < L.length, L[i] = n ∧ pos L n i ≤ v ∧ v < pos L n i + share n := by
 intro m
 induction m with
 | zero => intro _ h0 h; rw [Y97] at h; omega
 | succ m ih =>
  intro hm h0 h
  rcases Nat.lt_or_ge v (pos L n m) with hlt | hge
  ·exact ih (by omega) h0 hlt
  ·have h2 := Y7h L n m (by omega)
   by_cases he : L[m] = n
   ·rw [if_pos he] at h2
    exact ⟨m, by omega, he, hge, by omega⟩
   ·rw [if_neg he] at h2
    omega
theorem cover (L : List Nat) (hT : startN L 31 = 1073741824) (v : Nat) (hv : v < 1073741824) : ∃ i, ∃ h : i < L.length, L[i] ≠ 0 ∧ L[i] ≤ 30 ∧ pos L L[i] i ≤ v ∧ v < pos L L[i] i + share L[i] := by
 obtain ⟨n, h1, h2, h3, h4⟩ := Yow L v 31 (by omega)
 rw [← Yq6 L n h2] at h4
 obtain ⟨i, h, he, h5, h6⟩ := Yt0 L v n _ (Nat.le_refl _) h3 h4
 subst he
 exact ⟨i, h, h2, by omega, h5, h6⟩
end Go.Proofs.YtkkfkmoikcmhoaaGreat.Hf
namespace Go.Proofs.YtkkfkmoikcmhoaaGreat.Inf
open Bit Hf
abbrev R (α : Type) := Except Nat (α × Nat)
def R.then {α β : Type} (x : R α) (f : α → Nat → R β) : R β :=
 match x with
 | .ok (v, a) => f v a
 | .error e => .error e
theorem R.then_ok {α β : Type} (v : α) (a : Nat) (f : α → Nat → R β) : R.then (.ok (v, a)) f = f v a := rfl
theorem R.then_err {α β : Type} (e : Nat) (f : α → Nat → R β) : R.then (.error e : R α) f = .error e := rfl
def Y36 (L : List Bool) (at_ n : Nat) : R Nat := if at_ + n ≤ L.length then .ok (Y38 true ((L.drop at_).take n), at_ + n) else .error 2
def Y1i (W : List (List Bool)) (p : List Bool) : List Bool → Except Nat (Nat × Nat)
 | [] => .error 2
 | b :: r => if p ++ [b] ∈ W then .ok (W.idxOf (p ++ [b]), p.length + 1)
   else if W.any (fun w => !w.isEmpty && (p ++ [b]).isPrefixOf w) then Y1i W (p ++ [b]) r else .error 6
def Y1r (W : List (List Bool)) (L : List Bool) (at_ : Nat) : R Nat :=
 match Y1i W [] (L.drop at_) with
 | .ok (i, k) => .ok (i, at_ + k)
 | .error e => .error e
def lone (L : List Nat) : Bool := L.countP (fun n => decide (0 < n)) == 0 || (L.countP (fun n => decide (0 < n)) == 1 && L.sum == 1)
def Y1h (L : List Nat) (one : Bool) : Except Nat (List (List Bool)) :=
 if startN L 31 = 1073741824 ∨ (startN L 31 < 1073741824 ∧ one = true ∧ lone L = true) then .ok (Y03 L) else .error 3
def froms (far : Bool) : List Nat :=
 if far then [1, 2, 3, 4, 5, 7, 9, 13, 17, 25, 33, 49, 65, 97, 129, 193, 257, 385, 513, 769, 1025, 1537, 2049, 3073, 4097, 6145, 8193, 12289, 16385, 24577]
 else [3, 4, 5, 6, 7, 8, 9, 10, 11, 13, 15, 17, 19, 23, 27, 31, 35, 43, 51, 59, 67, 83, 99, 115, 131, 163, 195, 227, 258]
def extras (far : Bool) : List Nat :=
 if far then [0, 0, 0, 0, 1, 1, 2, 2, 3, 3, 4, 4, 5, 5, 6, 6, 7, 7, 8, 8, 9, 9, 10, 10, 11, 11, 12, 12, 13, 13]
 else [0, 0, 0, 0, 0, 0, 0, 0, 1, 1, 1, 1, 2, 2, 2, 2, 3, 3, 3, 3, 4, 4, 4, 4, 5, 5, 5, 5, 0]
def order : List Nat := [16, 17, 18, 0, 8, 7, 9, 6, 10, 5, 11, 4, 12, 3, 13, 2, 14, 1, 15]
def Y0l : List Nat := List.replicate 144 8 ++ List.replicate 112 9 ++ List.replicate 24 7 ++ List.replicate 8 8
def Y0s : List Nat := List.replicate 30 5
def Y4a (L : List Bool) (most : Nat) : Nat → Nat → List UInt8 → R (List UInt8)
 | 0, at_, out => .ok (out, at_)
 | n + 1, at_, out => (Y36 L at_ 8).then fun c a => if most ≤ out.length then .error 8 else Y4a L most n a (out ++ [UInt8.ofNat c])
def Yvi (L : List Bool) (at_ : Nat) : R (Nat × Nat) :=
 if (at_ + 7) / 8 * 8 + 32 ≤ L.length then
  .ok ((Y38 true ((L.drop ((at_ + 7) / 8 * 8)).take 16), Y38 true ((L.drop ((at_ + 7) / 8 * 8 + 16)).take 16)), (at_ + 7) / 8 * 8 + 32)
 else .error 2
def Y3n (L : List Bool) (most at_ : Nat) (out : List UInt8) : R (List UInt8) :=
 (Yvi L at_).then fun nm a => if nm.1 + nm.2 = 65535 then Y4a L most nm.1 a out else .error 3
def timesV (v : Nat) : Nat := if v = 16 then 3 else if v = 17 then 3 else if v = 18 then 11 else 1
def wideV (v : Nat) : Nat := if v = 16 then 2 else if v = 17 then 3 else if v = 18 then 7 else 0
def valueV (v : Nat) (all : List Nat) : Nat := if v = 16 then all.getLastD 0 else if v = 17 then 0 else if v = 18 then 0 else v
theorem Y3f (v : Nat) : 1 ≤ timesV v := by unfold timesV; split <;> (try split) <;> (try split) <;> omega
def Yab (W : List (List Bool)) (n : Nat) (L : List Bool) : Nat → Nat → List Nat → R (List Nat)
 | 0, _, _ => .error 0
 | f + 1, at_, all =>
  if n ≤ all.length then (if all.length = n then .ok (all, at_) else .error 3)
  else (Y1r W L at_).then fun v a =>
   if v = 16 ∧ all = [] then .error 3
   else (Y36 L a (wideV v)).then fun more a => Yab W n L f a (all ++ List.replicate (timesV v + more) (valueV v all))
def Y1x (far : Bool) (L : List Bool) (i at_ : Nat) : R Nat :=
 if i < (froms far).length then (Y36 L at_ ((extras far).getD i 0)).then fun more a => .ok ((froms far).getD i 0 + more, a) else .error 6
def Y2g (out : List UInt8) (d : Nat) : Nat → List UInt8
 | 0 => out
 | n + 1 => Y2g (out ++ [out.getD (out.length - d) 0]) d n
theorem Y19 (d : Nat) : ∀ (n : Nat) (out : List UInt8), (Y2g out d n).length = out.length + n
 | 0, out => rfl
 | n + 1, out => by rw [Y2g, Y19 d n]; simp; omega
def Y3t (A B : List (List Bool)) (L : List Bool) (most : Nat) : Nat → Nat → List UInt8 → R (List UInt8)
 | 0, _, _ => .error 0
 | f + 1, at_, out => (Y1r A L at_).then fun v a =>
  if v = 256 then .ok (out, a)
  else if v < 256 then (if most ≤ out.length then .error 8 else Y3t A B L most f a (out ++ [UInt8.ofNat v]))
  else (Y1x false L (v - 257) a).then fun n a => (Y1r B L a).then fun k a => (Y1x true L k a).then fun d a =>
   if out.length < d then .error 3 else if most < out.length + n then .error 8 else Y3t A B L most f a (Y2g out d n)
def Y54 (L : List Bool) (at_ : Nat) : R (Nat × Nat × Nat) :=
 if at_ + 14 ≤ L.length then
  .ok ((Y38 true ((L.drop at_).take 5) + 257, Y38 true ((L.drop (at_ + 5)).take 5) + 1, Y38 true ((L.drop (at_ + 10)).take 4) + 4), at_ + 14)
 else .error 2
def Y6m (L : List Bool) : Nat → Nat → Nat → List Nat → R (List Nat)
 | 0, _, at_, l => .ok (l, at_)
 | k + 1, i, at_, l => (Y36 L at_ 3).then fun n a => Y6m L k (i + 1) a (l.set (order.getD i 0) n)
def withW {β : Type} (x : Except Nat (List (List Bool))) (f : List (List Bool) → R β) : R β :=
 match x with
 | .ok W => f W
 | .error e => .error e
def Yut (L : List Bool) (most : Nat) (f at_ : Nat) (out : List UInt8) : R (List UInt8) :=
 (Y54 L at_).then fun n a =>
  if n.1 > 286 ∨ n.2.1 > 30 then .error 3
  else (Y6m L n.2.2 0 a (List.replicate 19 0)).then fun l a => withW (Y1h l false) fun W =>
   (Yab W (n.1 + n.2.1) L (n.1 + n.2.1 + 1) a []).then fun all a =>
    if all.getD 256 0 = 0 then .error 3
    else withW (Y1h (all.take n.1) false) fun A => withW (Y1h (all.drop n.1) true) fun B => Y3t A B L most f a out
def Yti (L : List Bool) (most : Nat) (f h at_ : Nat) (out : List UInt8) : R (List UInt8) :=
 if h / 2 = 0 then Y3n L most at_ out
 else if h / 2 = 1 then Y3t (Y03 Y0l) (Y03 Y0s) L most f at_ out
 else if h / 2 = 2 then Yut L most f at_ out
 else .error 3
def Y6a (L : List Bool) (most : Nat) (g : Nat) : Nat → Nat → List UInt8 → R (List UInt8)
 | 0, _, _ => .error 0
 | f + 1, at_, out => (Y36 L at_ 3).then fun h a => (Yti L most g h a out).then fun o a =>
  if h % 2 = 1 then .ok (o, a) else Y6a L most g f a o
def inflate (xs : List UInt8) (most : Nat) : Except Nat (List UInt8 × Nat) :=
 match Y6a (Y01 true xs) most (8 * xs.length + 1) (8 * xs.length + 1) 0 [] with
 | .ok (o, a) => .ok (o, (a + 7) / 8)
 | .error e => .error e
def Hon {α : Type} (at_ : Nat) (p : List Bool → R α) : Prop :=
 ∀ L, at_ ≤ L.length → (∀ v a, p L = .ok (v, a) → at_ ≤ a ∧ a ≤ L.length) ∧ ∀ r, p L = .error 2 ∨ p (L ++ r) = p L
theorem Hon.err {α : Type} (at_ e : Nat) : Hon at_ (fun _ => (.error e : R α)) := fun L hL => ⟨(by intro v a h; cases h), fun r => .inr rfl⟩
theorem Hon.ok {α : Type} (at_ : Nat) (v : α) : Hon at_ (fun _ => .ok (v, at_)) := fun L hL => ⟨(by intro w a h; cases h; exact ⟨Nat.le_refl _, hL⟩), fun r => .inr rfl⟩
theorem Hon.then {α β : Type} {at_ : Nat} {p : List Bool → R α} {f : List Bool → α → Nat → R β} (hp : Hon at_ p) (hf : ∀ v a, at_ ≤ a → Hon a (fun L => f L v a)) :
  Hon at_ (fun L => (p L).then (f L)) := by
 intro L hL
 obtain ⟨h1, h2⟩ := hp L hL
 refine ⟨fun v a h => ?_, fun r => ?_⟩
 ·cases hx : p L with
  | error e => simp only [hx, R.then_err] at h; cases h
  | ok x =>
   obtain ⟨w, b⟩ := x
   simp only [hx, R.then_ok] at h
   obtain ⟨g1, g2⟩ := h1 w b hx
   obtain ⟨k1, _⟩ := hf w b g1 L g2
   obtain ⟨m1, m2⟩ := k1 v a h
   exact ⟨by omega, m2⟩
 ·rcases h2 r with h | h
  ·left; simp only [h, R.then_err]
  ·simp only [h]
   cases hx : p L with
   | error e => right; simp only [R.then_err]
   | ok x =>
    obtain ⟨w, b⟩ := x
    simp only [R.then_ok]
    obtain ⟨g1, g2⟩ := h1 w b hx
    exact (hf w b g1 L g2).2 r
theorem Hon.ite {α : Type} {at_ : Nat} {c : Prop} [Decidable c] {p q : List Bool → R α} (hp : Hon at_ p) (hq : Hon at_ q) : Hon at_ (fun L => if c then p L else q L) := by
 by_cases h : c
 ·simpa only [h, if_true] using hp
 ·simpa only [h, if_false] using hq
theorem Hon.cut {α : Type} {at_ n : Nat} {f : List Bool → α} (h : at_ ≤ n) (hf : ∀ L r, n ≤ L.length → f (L ++ r) = f L) :
  Hon at_ (fun L => if n ≤ L.length then .ok (f L, n) else (.error 2 : R α)) := by
 intro L hL
 refine ⟨fun v a e => ?_, fun r => ?_⟩
 ·by_cases hn : n ≤ L.length
  ·simp only [hn, if_true] at e; cases e; exact ⟨h, hn⟩
  ·simp only [hn, if_false] at e; cases e
 ·by_cases hn : n ≤ L.length
  ·right
   simp only [hn, if_true, List.length_append]
   rw [if_pos (by omega), hf L r hn]
  ·left; simp only [hn, if_false]
theorem Y4l (L r : List Bool) (a n : Nat) (h : a + n ≤ L.length) : ((L ++ r).drop a).take n = (L.drop a).take n := by
 rw [List.drop_append_of_le_length (by omega), List.take_append_of_le_length (by simp; omega)]
theorem Y6j (at_ n : Nat) : Hon at_ (fun L => Y36 L at_ n) := by
 unfold Y36
 exact Hon.cut (by omega) fun L r h => by rw [Y4l L r at_ n h]
theorem Yp9 (W : List (List Bool)) : ∀ (l p : List Bool) (i k : Nat), Y1i W p l = .ok (i, k) → p.length + 1 ≤ k ∧ k ≤ p.length + l.length := by
 intro l
 induction l with
 | nil => intro p i k h; cases h
 | cons b t ih =>
  intro p i k h
  rw [Y1i] at h
  split at h
  ·cases h; simp
  ·split at h
   ·have := ih _ i k h
    simp at this ⊢
    omega
   ·cases h
theorem Ypb (W : List (List Bool)) (r : List Bool) : ∀ (l p : List Bool), Y1i W p l = .error 2 ∨ Y1i W p (l ++ r) = Y1i W p l := by
 intro l
 induction l with
 | nil => intro p; exact .inl rfl
 | cons b t ih =>
  intro p
  rw [List.cons_append, Y1i, Y1i]
  split
  ·exact .inr rfl
  ·split
   ·exact ih _
   ·exact .inr rfl
theorem Yht {W : List (List Bool)} {L : List Bool} {at_ v a : Nat} (h : Y1r W L at_ = .ok (v, a)) : at_ < a := by
 unfold Y1r at h
 cases hx : Y1i W [] (L.drop at_) with
 | error e => rw [hx] at h; cases h
 | ok x =>
  obtain ⟨i, k⟩ := x
  rw [hx] at h
  cases h
  have := (Yp9 W _ _ _ _ hx).1
  simp at this
  omega
theorem Y2t (W : List (List Bool)) (at_ : Nat) : Hon at_ (fun L => Y1r W L at_) := by
 intro L hL
 refine ⟨fun v a h => ?_, fun r => ?_⟩
 ·change Y1r W L at_ = _ at h
  unfold Y1r at h
  cases hx : Y1i W [] (L.drop at_) with
  | error e => rw [hx] at h; cases h
  | ok x =>
   obtain ⟨i, k⟩ := x
   rw [hx] at h
   cases h
   have := Yp9 W _ _ _ _ hx
   simp at this
   omega
 ·change Y1r W L at_ = _ ∨ Y1r W (L ++ r) at_ = Y1r W L at_
  unfold Y1r
  rw [List.drop_append_of_le_length hL]
  rcases Ypb W r (L.drop at_) [] with h | h
  ·left; rw [h]
  ·right; rw [h]
theorem Yfa (most : Nat) : ∀ (n at_ : Nat) (out : List UInt8), Hon at_ (fun L => Y4a L most n at_ out)
 | 0, at_, out => Hon.ok at_ out
 | n + 1, at_, out => (Y6j at_ 8).then fun c a ha => Hon.ite (Hon.err a 8) (Yfa most n a _)
theorem Ywl (at_ : Nat) : Hon at_ (fun L => Yvi L at_) := by
 unfold Yvi
 exact Hon.cut (by omega) fun L r h => by rw [Y4l L r _ 16 (by omega), Y4l L r _ 16 (by omega)]
theorem Yll (most at_ : Nat) (out : List UInt8) : Hon at_ (fun L => Y3n L most at_ out) :=
 (Ywl at_).then fun nm a ha => Hon.ite (Yfa most _ a out) (Hon.err a 3)
theorem Y94 (W : List (List Bool)) (n : Nat) : ∀ (f at_ : Nat) (all : List Nat), Hon at_ (fun L => Yab W n L f at_ all)
 | 0, at_, all => Hon.err at_ 0
 | f + 1, at_, all => Hon.ite (Hon.ite (Hon.ok at_ all) (Hon.err at_ 3)) ((Y2t W at_).then fun v a ha => Hon.ite (Hon.err a 3) ((Y6j a _).then fun m b hb => Y94 W n f b _))
theorem Y24 (far : Bool) (i at_ : Nat) : Hon at_ (fun L => Y1x far L i at_) :=
 Hon.ite ((Y6j at_ _).then fun m a ha => Hon.ok a _) (Hon.err at_ 6)
theorem Y77 (A B : List (List Bool)) (most : Nat) : ∀ (f at_ : Nat) (out : List UInt8), Hon at_ (fun L => Y3t A B L most f at_ out)
 | 0, at_, out => Hon.err at_ 0
 | f + 1, at_, out => (Y2t A at_).then fun v a ha => Hon.ite (Hon.ok a out) (Hon.ite (Hon.ite (Hon.err a 8) (Y77 A B most f a _))
   ((Y24 false _ a).then fun n b hb => (Y2t B b).then fun k c hc => (Y24 true k c).then fun d e he => Hon.ite (Hon.err e 3) (Hon.ite (Hon.err e 8) (Y77 A B most f e _))))
theorem Ya6 (at_ : Nat) : Hon at_ (fun L => Y54 L at_) := by
 unfold Y54
 exact Hon.cut (by omega) fun L r h => by rw [Y4l L r _ 5 (by omega), Y4l L r _ 5 (by omega), Y4l L r _ 4 (by omega)]
theorem Y95 : ∀ (k i at_ : Nat) (l : List Nat), Hon at_ (fun L => Y6m L k i at_ l)
 | 0, i, at_, l => Hon.ok at_ l
 | k + 1, i, at_, l => (Y6j at_ 3).then fun n a ha => Y95 k (i + 1) a _
theorem Hon.withW {β : Type} {at_ : Nat} {x : Except Nat (List (List Bool))} {f : List Bool → List (List Bool) → R β} (h : ∀ W, Hon at_ (fun L => f L W)) : Hon at_ (fun L => withW x (f L)) := by
 cases x with
 | error e => exact Hon.err at_ e
 | ok W => exact h W
theorem Ysz (most f at_ : Nat) (out : List UInt8) : Hon at_ (fun L => Yut L most f at_ out) :=
 (Ya6 at_).then fun n a ha => Hon.ite (Hon.err a 3) ((Y95 _ 0 a _).then fun l b hb => Hon.withW fun W => (Y94 W _ _ b []).then fun all c hc =>
  Hon.ite (Hon.err c 3) (Hon.withW fun A => Hon.withW fun B => Y77 A B most f c out))
theorem Ycw (most f h at_ : Nat) (out : List UInt8) : Hon at_ (fun L => Yti L most f h at_ out) :=
 Hon.ite (Yll most at_ out) (Hon.ite (Y77 _ _ most f at_ out) (Hon.ite (Ysz most f at_ out) (Hon.err at_ 3)))
theorem Ycv (most g : Nat) : ∀ (f at_ : Nat) (out : List UInt8), Hon at_ (fun L => Y6a L most g f at_ out)
 | 0, at_, out => Hon.err at_ 0
 | f + 1, at_, out => (Y6j at_ 3).then fun h a ha => (Ycw most g h a out).then fun o b hb => Hon.ite (Hon.ok b o) (Ycv most g f b o)
end Go.Proofs.YtkkfkmoikcmhoaaGreat.Inf

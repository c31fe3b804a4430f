/- AdlA, AdlB, ZlB, ZlC, BitN, IfO: merged. -/
import Derived.Lib.SlBytesConst
import Derived.Test.YtkkfkmoikcmhoaaGreatQaa
import Derived.Test.YtkkfkmoikcmhoaaGreatQad
import Derived.Test.YtkkfkmoikcmhoaaGreatQae
set_option linter.unusedVariables false
set_option linter.unusedSimpArgs false
namespace Go.Proofs.YtkkfkmoikcmhoaaGreat.Adl
open Go.RowKit Oct
theorem Ykj (s : Nat) (hs : s < 4294967296) : bits .and .u32 (s : Int) 65535 = ((s % 65536 : Nat) : Int) := by
 rw [show (65535 : Int) = ((65535 : Nat) : Int) from rfl, u32_and_nat s 65535 hs (by omega)]
 congr 1
 exact Nat.and_two_pow_sub_one_eq_mod s 16
theorem Yg2 (u l : Nat) (hu : u < 65536) (hl : l < 65536) : bits .or .u32 ((u * 65536 : Nat) : Int) (l : Int) = ((u * 65536 + l : Nat) : Int) := by
 rw [u32_or_nat _ _ (by omega) (by omega)]
 congr 1
 exact nat_join 16 _ _ (by omega) (by omega)
theorem Yfo (s : Nat) : (s : Int) % 65536 % 65521 = ((lo s : Nat) : Int) := by unfold lo; omega
theorem Yh2 (s : Nat) : (s : Int) / 65536 % 65521 = ((up s : Nat) : Int) := by unfold up; omega
theorem Ydh (s : Nat) (w : World) (hs : s < 4294967296) :
  Calls Tryz.prog 59 #[.int .u32 (s : Int)] w fun e w' => e = .returned (.tuple #[.int .u32 ((lo s : Nat) : Int), .int .u32 ((up s : Nat) : Int)]) ∧ w = w' := by
 rw [← Yfo, ← Yh2]
 have h1 := Ykj s hs
 go_enter Tryz.func59, Tryz.ntmps59
 go_wp2
 go_ret2
 exact ⟨rfl, rfl⟩
theorem Yhb (l u : Nat) (w : World) (hl : l < 65521) (hu : u < 65521) :
  Calls Tryz.prog 60 #[.int .u32 (l : Int), .int .u32 (u : Int)] w fun e w' => e = .returned (.int .u32 ((u * 65536 + l : Nat) : Int)) ∧ w = w' := by
 have h1 := Yg2 u l (by omega) (by omega)
 have e1 : ((u * 65536 : Nat) : Int) = (u : Int) * 65536 := by omega
 rw [e1] at h1
 rw [← h1]
 clear h1 e1
 go_enter Tryz.func60, Tryz.ntmps60
 go_wp2
 go_ret
 exact ⟨rfl, rfl⟩
set_option maxHeartbeats 400000 in
theorem Ye9 (s : Nat) (p : Option Addr) (len cap : Nat) (xs : List UInt8) (w : World) (hs : s < 4294967296) (hr : Row w p xs) (hx : xs.length = len) (hl : len ≤ maxLen) :
  Calls Tryz.prog 33 #[.int .u32 (s : Int), .slice p len cap] w fun e w' => e = .returned (.int .u32 ((updN s xs : Nat) : Int)) ∧ w = w' := by
 unfold maxLen at hl
 have HX := Lib.hid hx
 clear hx
 go_enter Tryz.func33, Tryz.ntmps33
 go_wp2_with fail
 refine (Ydh _ _ hs).mono ?_
 rintro e w' ⟨rfl, rfl⟩
 go_wp2_with fail
 go_loop [5, 6, 8, 16] (fun a b _ i => ∃ k : Nat, k ≤ len ∧ i = .int .i64 (k : Int) ∧ a = .int .u32 ((loU s (xs.take k) : Nat) : Int) ∧ b = .int .u32 ((upU s (xs.take k) : Nat) : Int)) (fun _ _ _ i => len - (intOf i).toNat)
 case atStart => exact ⟨0, Nat.zero_le _, rfl, by rw [List.take_zero, Ykv], by rw [List.take_zero, Ylg]⟩
 case round =>
  obtain ⟨k, hk, rfl, rfl, rfl⟩ := hrel
  by_cases hlt : k < len
  ·have hkx : k < xs.length := by rw [HX.out]; exact hlt
   obtain ⟨b, off, rfl, hbl, hcs⟩ := hr (by omega)
   have hc := hcs k hkx
   have hb := xs[k].toNat_lt
   have e1 := Ykx s (xs.take k) xs[k]
   have e2 := Ylh s (xs.take k) xs[k]
   rw [← Y1p xs k hkx] at e1 e2
   have l1 := Ybz s (xs.take k)
   have l2 := Yh1 s (xs.take k)
   have l3 := Ybz s (xs.take (k + 1))
   obtain ⟨a0, ha0⟩ : ∃ a, a = loU s (xs.take k) := ⟨_, rfl⟩
   obtain ⟨b0, hb0⟩ : ∃ a, a = upU s (xs.take k) := ⟨_, rfl⟩
   obtain ⟨a1, ha1⟩ : ∃ a, a = loU s (xs.take (k + 1)) := ⟨_, rfl⟩
   obtain ⟨b1, hb1⟩ : ∃ a, a = upU s (xs.take (k + 1)) := ⟨_, rfl⟩
   rw [← ha0] at e1 l1 ⊢
   rw [← hb0] at e2 l2 ⊢
   rw [← ha1] at e1 e2 l3
   rw [← hb1] at e2
   have HA := Lib.hid ha1
   have HB := Lib.hid hb1
   generalize xs[k].toNat = x at hc hb e1
   have f1 : ((a0 : Int) + (x : Int)) % 65521 = (a1 : Int) := by omega
   have f2 : ((b0 : Int) + (a1 : Int)) % 65521 = (b1 : Int) := by omega
   clear hcs ha0 hb0 ha1 hb1 e1 e2
   go_wp2_with fail
   go_round
   case rel => exact ⟨k + 1, by omega, by go_num, by rw [← HA.out, ← f1], by rw [← HB.out, ← f2, ← f1]⟩
   case measure => simp [intOf]; omega
  ·have hkl : k = len := by omega
   subst hkl
   have e : xs.take k = xs := List.take_of_length_le (by rw [HX.out]; exact Nat.le_refl _)
   rw [e]
   clear e
   go_wp2_with fail
   refine (Yhb _ _ _ (Ybz s xs) (Yh1 s xs)).mono ?_
   rintro e w' ⟨rfl, rfl⟩
   go_wp2_with fail
   go_ret
   exact ⟨rfl, rfl⟩
theorem Ygu (p : Option Addr) (len cap : Nat) (xs : List UInt8) (w : World) (hr : Row w p xs) (hx : xs.length = len) (hl : len ≤ maxLen) :
  Calls Tryz.prog 16 #[.slice p len cap] w fun e w' => e = .returned (.int .u32 ((sumN xs : Nat) : Int)) ∧ w = w' := by
 go_enter Tryz.func16, Tryz.ntmps16
 go_wp2_with fail
 refine (Ye9 1 p len cap xs w (by omega) hr hx hl).mono ?_
 rintro e w' ⟨rfl, rfl⟩
 go_wp2_with fail
 go_ret
 exact ⟨rfl, rfl⟩
theorem w64 (n : Nat) (h : n < 9223372036854775808) : wrap64 (n : Int) = (n : Int) := by
 rw [wrap64]; omega
theorem Ycf (c n y : Nat) (hc : c < 65521) (hp : n * y ≤ 65520 * 65520) : (wrap64 ((c : Int) + wrap64 ((n : Int) * (y : Int)))).tmod 65521 = (((c + n * y) % 65521 : Nat) : Int) := by
 have e : (n : Int) * (y : Int) = ((n * y : Nat) : Int) := (Int.natCast_mul n y).symm
 rw [e]
 generalize n * y = p at hp ⊢
 rw [w64 p (by omega), ← Int.natCast_add, w64 (c + p) (by omega), Int.tmod_eq_emod_of_nonneg (by omega)]
 omega
set_option maxHeartbeats 400000 in
theorem Ybl (s : Nat) (xs : List UInt8) (w : World) (hs : s < 4294967296) (hl : xs.length ≤ 100000) :
  Calls Tryz.prog 42 #[.int .u32 (s : Int), .string (bs xs)] w fun e w' => e = .returned (.int .u32 ((updN s xs : Nat) : Int)) ∧ w = w' := by
 have hsz := Y12 xs
 have hs0 : ((up s : Nat) + xs.length % 65521 * lo s) % 65521 < 65521 := Nat.mod_lt _ (by omega)
 have hpr := Ygb xs.length s
 have HST := Lib.hid (Ygc s xs)
 have l1 := Ykw s
 have l2 := Ymh s
 have e1 : ((s : Int) % 65536 % 65521) = ((lo s : Nat) : Int) := Yfo s
 have e2 : ((s : Int) / 65536 % 65521) = ((up s : Nat) : Int) := Yh2 s
 go_enter Tryz.func42, Tryz.ntmps42
 go_wp2_with fail
 go_loop [5, 6, 8] (fun a b i => ∃ k c : Nat, k ≤ xs.length ∧ i = .int .i64 (k : Int) ∧ a = .int .i64 ((lo s + sS (xs.take k) : Nat) : Int) ∧ b = .int .i64 (c : Int) ∧ c < 65521 ∧ Hid ((c + sT (xs.drop k)) % 65521 = upU s xs)) (fun _ _ i => xs.length - (intOf i).toNat)
 case atStart =>
  refine ⟨0, _, Nat.zero_le _, rfl, ?_, ?_, hs0, HST.out⟩
  ·rw [e1, List.take_zero]; rfl
  ·rw [show ((xs.length : Int) % 65521) = ((xs.length % 65521 : Nat) : Int) by omega, Ycf _ _ _ l2 hpr]
 case round =>
  obtain ⟨k, c, hk, rfl, rfl, rfl, hc, hH⟩ := hrel
  by_cases hlt : k < xs.length
  ·have hg : ∀ h, (bs xs)[k]'h = xs[k] := fun h => Y5r xs k h hlt
   have HT := Lib.hid (Ygy xs k hlt)
   have HR := Lib.hid (Yj5 xs k c _ hlt hH.out)
   have hp := Yj4 (xs.length - k) xs[k]
   have hle := Ymc (xs.take k)
   rw [List.length_take] at hle
   generalize sS (xs.take k) = m at hle HT ⊢
   have hb := xs[k].toNat_lt
   go_wp2_with fail
   go_round
   case rel =>
    generalize xs[k].toNat = x at hb hp HT HR ⊢
    refine ⟨k + 1, _, hlt, by go_num, ?_, ?_, Nat.mod_lt _ (by omega), HR.out⟩
    ·rw [HT.out]; congr 1; omega
    ·rw [show ((xs.length : Int) - (k : Int)) % 65521 = (((xs.length - k) % 65521 : Nat) : Int) by omega, Ycf _ _ _ hc (by omega)]
   case measure => simp [intOf]; omega
  ·have hkl : k = xs.length := by omega
   subst hkl
   have hc' : upU s xs = c := by have := hH.out; rw [List.drop_length] at this; simp only [sT] at this; omega
   have hu : updN s xs = c * 65536 + (lo s + sS xs) % 65521 := by unfold updN loU; rw [hc']
   have HU := Lib.hid hu
   have hle := Ymc xs
   rw [List.take_length]
   clear hu hc'
   generalize sS xs = m at hle HU ⊢
   go_wp2_with fail
   go_ret
   exact ⟨by rw [HU.out]; exact congrArg (fun z => Ending.returned (Value.int .u32 z)) (by omega), rfl⟩
theorem Yci (xs : List UInt8) (w : World) (hl : xs.length ≤ 100000) :
  Calls Tryz.prog 19 #[.string (bs xs)] w fun e w' => e = .returned (.int .u32 ((sumN xs : Nat) : Int)) ∧ w = w' := by
 go_enter Tryz.func19, Tryz.ntmps19
 go_wp2_with fail
 refine (Ybl 1 xs w (by omega) hl).mono ?_
 rintro e w' ⟨rfl, rfl⟩
 go_wp2_with fail
 go_ret
 exact ⟨rfl, rfl⟩
theorem Yl9 (w : World) (xs : List UInt8) (T : Nat) (fr : Nat × Nat) : Row (w.alloc (.cells (cellsOf xs).toArray T fr)) (some ⟨w.heap.size, 0, none⟩) xs := by
 intro _
 refine ⟨w.heap.size, 0, rfl, by simp, fun i h => ?_⟩
 rw [World.cell?_alloc_mark, Nat.zero_add]
 simp [cellsOf, h]
end Go.Proofs.YtkkfkmoikcmhoaaGreat.Adl
namespace Go.Proofs.YtkkfkmoikcmhoaaGreat.Adl
open Go.RowKit Oct
def Beg (w : World) (g : Nat) (xs : List UInt8) : Prop :=
 ∃ cur : Array Value, w.heap[g]? = some (.cells cur 5 (0, 0)) ∧ xs.length ≤ cur.size ∧ cur.toList.take xs.length = cellsOf xs
theorem Beg.of {w : World} {base n : Nat} {v : Value} {xs : List UInt8} (h : w.ownsRow base 5 1 v n (cellsOf xs)) (hn : xs.length = n) (hv : v ≠ .slice none 0 0) :
  ∃ g cap, v = .slice (some ⟨g, 0, none⟩) n cap ∧ n ≤ cap ∧ cap ≤ maxLen ∧ base ≤ g ∧ g < w.heap.size ∧ Beg w g xs := by
 have hl := fun k hk => h.lt k hk
 rcases h.2 with ⟨e, _⟩ | ⟨g, cap, cur, rfl, hb, hh, h1, h2, h3, h4⟩
 ·exact absurd e hv
 ·refine ⟨g, cap, rfl, h1, h2, hb, (hl g rfl).2, cur, hh, by omega, ?_⟩
  rw [hn]; simpa using h4
theorem Beg.lt {w : World} {g : Nat} {xs : List UInt8} (h : Beg w g xs) : g < w.heap.size := by
 obtain ⟨cur, hh, _⟩ := h
 rcases Nat.lt_or_ge g w.heap.size with hlt | hge
 ·exact hlt
 ·rw [Array.getElem?_eq_none hge] at hh; cases hh
theorem Beg.get {w : World} {g : Nat} {xs : List UInt8} (h : Beg w g xs) (i : Nat) (hi : i < xs.length) : w.cell? ⟨g, i, none⟩ = some (.int .u8 (xs[i].toNat : Int)) := by
 obtain ⟨cur, hh, hs, ht⟩ := h
 have h1 : cur.toList[i]? = (cellsOf xs)[i]? := by
  rw [← ht, List.getElem?_take_of_lt hi]
 simp [World.cell?, hh, cellsOf, hi] at h1 ⊢
 exact h1
theorem Beg.row {w : World} {g : Nat} {xs : List UInt8} (h : Beg w g xs) : Row w (some ⟨g, 0, none⟩) xs := by
 intro _
 exact ⟨g, 0, rfl, h.lt, fun i hi => by rw [Nat.zero_add]; exact h.get i hi⟩
theorem xor_ne (x y : UInt8) (hy : y ≠ 0) : x ≠ x ^^^ y := by
 intro e
 apply hy
 have h1 : x ^^^ (x ^^^ y) = x ^^^ x := congrArg (x ^^^ ·) e.symm
 rw [← UInt8.xor_assoc, UInt8.xor_self, UInt8.zero_xor] at h1
 exact h1
end Go.Proofs.YtkkfkmoikcmhoaaGreat.Adl
namespace Go.Proofs.YtkkfkmoikcmhoaaGreat.Zl
open Go.RowKit Oct
open Adl (sumN Beg Beg.of)
set_option maxRecDepth 100000
theorem Yga (n : Nat) : Y6y n 4 true = be4 n := by
 show beB n 4 = be4 n
 have e : ∀ m : Nat, UInt8.ofNat (m % 256) = UInt8.ofNat m := fun m => by
  apply UInt8.toNat_inj.1
  simp
 unfold be4
 simp only [beB]
 rw [e, e, e, e]
 simp
theorem Y96 (n : Nat) (hn : n < 4294967296) : Y4c (n : Int) ((4 : Int).toNat) = true := by
 unfold Y4c
 exact decide_eq_true (by show (n : Int) < 256 ^ 4; omega)
theorem Y9v (n : Nat) (hn : n < 4294967296) : Y9u (n : Int) 4 true = be4 n := by
 unfold Y9u
 rw [Y96 n hn]
 have : Y1v 4 = true := by decide
 rw [this]
 exact Yga n
theorem Y9t (n : Nat) (hn : n < 4294967296) : Y9s (n : Int) 4 = 0 := by
 unfold Y9s
 rw [Y96 n hn]
 rfl
theorem Yj1 (n : Nat) (w : World) (hn : n < 4294967296) : Calls Tryz.prog 21 #[.int .u64 (n : Int), .int .i64 4, .bool true] w fun e w' =>
  Below w.heap.size w w' ∧ e = .returned (.tuple #[.slice (some ⟨w.heap.size, 0, none⟩) 4 4, .int .i64 0]) ∧ Blk w' w.heap.size (be4 n) := by
 refine (Yl7 (n : Int) 4 true w (by omega) (by omega)).mono ?_
 rintro e w' ⟨hb, h⟩
 rw [Y9v n hn, Y9t n hn] at h
 rcases h with ⟨_, h1, h2⟩ | ⟨h, _⟩
 ·exact ⟨hb, h1, h2⟩
 ·exact absurd rfl h
theorem Ygg (n : Nat) (w : World) (hn : n < 4294967296) : Calls Tryz.prog 23 #[.int .u64 (n : Int), .int .i64 4, .bool true] w fun e w' =>
  e = .returned (.tuple #[.string (bs (be4 n)), .int .i64 0]) ∧ Below w.heap.size w w' := by
 refine (Yja (n : Int) 4 true w (by omega) (by omega)).mono ?_
 rintro e w' ⟨rfl, hb⟩
 rw [Y9v n hn, Y9t n hn]
 exact ⟨rfl, hb⟩
theorem and32 : ∀ y : Fin 256, (y.val &&& 32) = y.val / 32 % 2 * 32 := by decide
theorem Ylz (y : Nat) (h : y < 256) : bits .and .u8 (y : Int) 32 = ((y / 32 % 2 * 32 : Nat) : Int) := by
 rw [show (32 : Int) = ((32 : Nat) : Int) from rfl, u8_and_nat y 32 h (by omega)]
 exact congrArg (fun n : Nat => (n : Int)) (and32 ⟨y, h⟩)
theorem Yc8 {xs : List UInt8} {most : Int} {c : Nat} (h0 : ¬ most < 0) (h1 : ¬ xs.length < 2) (h2 : Y2a (xs.getD 0 0).toNat (xs.getD 1 0).toNat = true) (h : Inf.inflate (xs.drop 2) most.toNat = .error c) : Y2s xs most = .error c := by
 unfold Y2s
 rw [if_neg h0, if_neg h1, h2, if_neg (by decide), h]
theorem Yg0 {xs o : List UInt8} {most : Int} {n : Nat} (h0 : ¬ most < 0) (h1 : ¬ xs.length < 2) (h2 : Y2a (xs.getD 0 0).toNat (xs.getD 1 0).toNat = true) (h : Inf.inflate (xs.drop 2) most.toNat = .ok (o, n)) :
  Y2s xs most = if xs.length < n + 6 then .error 2 else if Oct.numB ((xs.drop (2 + n)).take 4) = sumN o then .ok (o, n + 6) else .error 4 := by
 unfold Y2s
 rw [if_neg h0, if_neg h1, h2, if_neg (by decide), h]
set_option maxHeartbeats 1000000 in
theorem Yic (x y : Nat) (w : World) (hx : x < 256) (hy : y < 256) : Calls Tryz.prog 13 #[.int .u8 (x : Int), .int .u8 (y : Int)] w fun e w' => e = .returned (.bool (Y2a x y)) ∧ w = w' := by
 have h1 := u8_and15 (x := (x : Int)) (by omega) (by omega)
 have h2 := Ylz y hy
 obtain ⟨a, ha⟩ : ∃ a : Nat, a = x % 16 := ⟨_, rfl⟩
 have ha' : (x : Int) % 16 = (a : Int) := by omega
 rw [ha'] at h1
 by_cases c1 : a = 8
 ·by_cases c2 : x ≤ 127
  ·have d2 : (x : Int) / 16 ≤ 7 := by omega
   by_cases c3 : y / 32 % 2 = 0
   ·rw [c3] at h2
    have h2' : bits .and .u8 (y : Int) 32 = 0 := h2
    obtain ⟨r, hr⟩ : ∃ r : Nat, r = (x * 256 + y) % 31 := ⟨_, rfl⟩
    have hr' : (256 * (x : Int) + (y : Int)) % 31 = (r : Int) := by omega
    have e : Y2a x y = decide (r = 0) := by
     unfold Y2a
     rw [← ha, ← hr, c1, c3]
     simp [c2]
    rw [e]
    clear e h2
    subst c1
    by_cases c4 : r = 0
    ·have c5 : (256 * (x : Int) + (y : Int)) % 31 = 0 := by omega
     have e : decide (r = 0) = true := by simpa using c4
     rw [e]
     clear ha ha' hr hr' c3 c4 e
     go_enter Tryz.func13, Tryz.ntmps13
     go_wp2_with fail
     go_ret
     exact ⟨rfl, rfl⟩
    ·have c5 : ((256 * (x : Int) + (y : Int)) % 31 == 0) = false := by simp; omega
     have e : decide (r = 0) = false := by simpa using c4
     rw [e]
     clear ha ha' hr hr' c3 c4 e
     go_enter Tryz.func13, Tryz.ntmps13
     go_wp2_with fail
     go_ret
     exact ⟨rfl, rfl⟩
   ·have e : Y2a x y = false := by unfold Y2a; simp [c3]
    rw [e]
    have c6 : y / 32 % 2 = 1 := by omega
    rw [c6] at h2
    have h2' : bits .and .u8 (y : Int) 32 = 32 := h2
    clear h2
    subst c1
    clear e ha ha' c3 c6
    go_enter Tryz.func13, Tryz.ntmps13
    go_wp2_with fail
    go_ret
    exact ⟨rfl, rfl⟩
  ·have e : Y2a x y = false := by unfold Y2a; simp [c2]
   rw [e]
   have d2 : ¬ (x : Int) / 16 ≤ 7 := by omega
   subst c1
   clear e ha ha' c2 h2
   go_enter Tryz.func13, Tryz.ntmps13
   go_wp2_with fail
   go_ret
   exact ⟨rfl, rfl⟩
 ·have e : Y2a x y = false := by unfold Y2a; rw [← ha]; simp [c1]
  rw [e]
  have d1 : ((a : Int) == 8) = false := by simp; omega
  clear e ha ha' c1 h2
  go_enter Tryz.func13, Tryz.ntmps13
  go_wp2_with fail
  go_ret
  exact ⟨rfl, rfl⟩
theorem Yiv {w : World} {B : Nat} {v : Value} {xs : List UInt8} (h : BOwn w B v xs) (h0 : 0 < xs.length) : v ≠ .slice none 0 0 := by
 rintro rfl
 rcases h.2 with ⟨_, h1⟩ | ⟨g, cap, cur, he, _⟩
 ·omega
 ·cases he
def DefG (X : List UInt8 → Nat → List UInt8 → Prop) (w : World) (xs : List UInt8) (how : Int) (e : Ending) (w' : World) : Prop :=
 Below w.heap.size w w' ∧ (((how < 0 ∨ 2 < how) ∧ e = .returned (.tuple #[.slice none 0 0, .int .i64 1])) ∨
  ∃ k ys q c, how = ((k : Nat) : Int) ∧ k ≤ 2 ∧ X xs k ys ∧ ys.length ≤ 2 * xs.length + 1300 ∧ e = .returned (.tuple #[.slice q ys.length c, .int .i64 0]) ∧ Row w' q ys ∧ ys.length ≤ c ∧ c ≤ maxLen ∧ (q = none → c = 0))
def Ycw (X : List UInt8 → Nat → List UInt8 → Prop) (w : World) (xs : List UInt8) (how : Int) (e : Ending) (w' : World) : Prop :=
 Below w.heap.size w w' ∧ (((how < 0 ∨ 2 < how) ∧ e = .returned (.tuple #[.slice none 0 0, .int .i64 1])) ∨
  ∃ k ys g c N, how = ((k : Nat) : Int) ∧ k ≤ 2 ∧ X xs k ys ∧ N = ys.length + 6 ∧ e = .returned (.tuple #[.slice (some ⟨g, 0, none⟩) N c, .int .i64 0]) ∧ Beg w' g (Y3i ys xs) ∧ N ≤ c ∧ c ≤ maxLen ∧ w.heap.size ≤ g)
set_option maxHeartbeats 4000000 in
theorem Yl5 (X : List UInt8 → Nat → List UInt8 → Prop) (w : World) (p : Option Addr) (n cap : Nat) (xs : List UInt8) (how : Int) (hr : Row w p xs) (hx : xs.length = n) (hc : n ≤ 150000) (h : Calls Tryz.prog 20 #[.slice p n cap, .int .i64 how] w (DefG X w xs how)) :
  Calls Tryz.prog 10 #[.slice p n cap, .int .i64 how] w (Ycw X w xs how) := by
 have HD := Lib.hid h
 have HR := Lib.hid hr
 have HX := Lib.hid hx
 clear h hr hx
 go_enter Tryz.func10, Tryz.ntmps10
 go_wp2_with fail
 refine HD.out.mono ?_
 rintro e w1 ⟨hb1, ⟨hbad, rfl⟩ | ⟨k, ys, q, c, hk, hk2, hX, hlen, rfl, hrow, h1, h2, h3⟩⟩
 ·have HRES : Hid (Ycw X w xs how (.returned (.tuple #[.slice none 0 0, .int .i64 1])) w1) := Lib.hid ⟨hb1, .inl ⟨hbad, rfl⟩⟩
  clear hb1 hbad HD HR HX
  go_wp2_with fail
  go_ret2
  exact HRES.out
 ·have HK := Lib.hid (And.intro hk (And.intro hk2 hX))
  obtain ⟨N, hN⟩ : ∃ N, N = ys.length := ⟨_, rfl⟩
  rw [← hN] at hlen h1
  have hN3 : N ≤ 302000 := by have := HX.out; omega
  have HS := Lib.hid (fun W (hW : Row W p xs) => Adl.Ygu p n cap xs W hW HX.out (by unfold maxLen; omega))
  have HRX := Lib.hid (HR.out.below hb1)
  have hs := Y6r xs
  have HRQ := Lib.hid hrow
  have HB1 := Lib.hid hb1
  have HNN := Lib.hid hN
  have HQ := Lib.hid h3
  obtain ⟨s, hss⟩ : ∃ s, s = sumN xs := ⟨_, rfl⟩
  have HSS := Lib.hid hss
  rw [← hss] at hs
  rw [← hN]
  unfold maxLen at h2
  clear hk hk2 hX hrow h3 hb1 hN hss HD
  have HP := Lib.hid (Yj1 s w1 hs)
  go_wp2_with fail
  refine (HS.out _ HRX.out).mono ?_
  rintro e w' ⟨rfl, rfl⟩
  rw [← HSS.out]
  go_wp2_with fail
  refine HP.out.mono ?_
  rintro e w2 ⟨hb2, rfl, hblk⟩
  have hbA : Below w2.heap.size w2 (w2.alloc (.cells #[.int .u8 120, .int .u8 1] 5)) := (Below.refl _ w2).alloc (Nat.le_refl _) _
  obtain ⟨w3, hw3⟩ : ∃ w3, w3 = w2.alloc (.cells #[.int .u8 120, .int .u8 1] 5) := ⟨_, rfl⟩
  have hz3 : w3.heap.size = w2.heap.size + 1 := by rw [hw3]; simp
  obtain ⟨w4, hw4⟩ : ∃ w4, w4 = w3.alloc (.cells #[.slice (some ⟨w2.heap.size, 0, none⟩) 2 2, .slice q N c, .slice (some ⟨w1.heap.size, 0, none⟩) 4 4] 22) := ⟨_, rfl⟩
  have hz4 : w4.heap.size = w3.heap.size + 1 := by rw [hw4]; simp
  have hbB : Below w3.heap.size w3 w4 := by rw [hw4]; exact (Below.refl _ w3).alloc (Nat.le_refl _) _
  have hr0 : Row w3 (some ⟨w2.heap.size, 0, none⟩) [120, 1] := by rw [hw3]; exact Adl.Yl9 w2 [120, 1] 5 (0, 0)
  rw [← hw3] at hbA
  have hb24 : Below w2.heap.size w2 w4 := hbA.trans (hbB.mono hbA.size)
  have hb14 : Below w1.heap.size w1 w4 := hb2.trans (hb24.mono hb2.size)
  have hbw4 : Below w.heap.size w w4 := HB1.out.trans (hb14.mono HB1.out.size)
  have hps : PrtsIn w4 w3.heap.size [⟨some ⟨w2.heap.size, 0, none⟩, 2, [120, 1]⟩, ⟨q, c, ys⟩, ⟨some ⟨w1.heap.size, 0, none⟩, 4, be4 s⟩] := by
   refine ⟨fun i hi => ?_, fun i hi => ?_, fun i hi => ?_, ?_, by simp⟩
   ·have hi3 : i < 3 := hi
    rcases (show i = 0 ∨ i = 1 ∨ i = 2 by omega) with rfl | rfl | rfl
    ·rw [hw4]; simp
    ·rw [hw4]; simp [HNN.out]
    ·rw [hw4]; simp [Y3x]
   ·have hi3 : i < 3 := hi
    rcases (show i = 0 ∨ i = 1 ∨ i = 2 by omega) with rfl | rfl | rfl
    ·exact hr0.below hbB
    ·exact HRQ.out.below hb14
    ·exact hblk.row.below hb24
   ·have hi3 : i < 3 := hi
    rcases (show i = 0 ∨ i = 1 ∨ i = 2 by omega) with rfl | rfl | rfl
    ·intro h; cases h
    ·exact HQ.out
    ·intro h; cases h
   ·show ([120, 1] ++ (ys ++ (be4 s ++ []))).length ≤ 400000
    simp only [List.length_append, List.length_cons, List.length_nil, Y3x, ← HNN.out]
    omega
  have hcat := Yd8 w3.heap.size 3 _ 3 w4 (by omega) hps rfl
  have hall : Y5l [⟨some ⟨w2.heap.size, 0, none⟩, 2, [120, 1]⟩, ⟨q, c, ys⟩, ⟨some ⟨w1.heap.size, 0, none⟩, 4, be4 s⟩] = Y3i ys xs := by
   rw [HSS.out]
   simp [Y5l, Y3i, Yah]
  rw [hall, hz3] at hcat
  rw [hw4, hw3] at hcat
  have HC := Lib.hid hcat
  have HW := Lib.hid (And.intro hw3 hw4)
  have HBW := Lib.hid hbw4
  clear hcat hall hps hb14 hb24 hbw4 hr0 hbA hbB hblk hz3 hz4 hw3 hw4 hb2
  go_wp2_with fail
  refine HC.out.mono ?_
  rintro e w5 ⟨v, rfl, hown, hb5⟩
  have hl : (Y3i ys xs).length = N + 6 := by rw [Y3w, ← HNN.out]
  have hvn := Yiv hown (by omega)
  obtain ⟨g, cc, rfl, hc1, hc2, hg, hg2, hbeg⟩ := Beg.of hown rfl hvn
  rw [← HW.out.1, ← HW.out.2] at hb5 hg
  have HRES : Hid (Ycw X w xs how (.returned (.tuple #[.slice (some ⟨g, 0, none⟩) (Y3i ys xs).length cc, .int .i64 0])) w5) :=
   Lib.hid ⟨HBW.out.trans (hb5.mono HBW.out.size), .inr ⟨k, ys, g, cc, (Y3i ys xs).length, HK.out.1, HK.out.2.1, HK.out.2.2, Y3w ys xs, rfl, hbeg, hc1, hc2, Nat.le_trans HBW.out.size hg⟩⟩
  rw [hl] at HRES
  clear hown hvn hbeg hb5
  go_wp2_with fail
  go_ret2
  exact HRES.out
end Go.Proofs.YtkkfkmoikcmhoaaGreat.Zl
namespace Go.Proofs.YtkkfkmoikcmhoaaGreat.Zl
open Go.RowKit Oct Inf
open Adl (sumN Beg Beg.of)
set_option maxRecDepth 100000
def InfG (fr : Bool) (w : World) (xs : List UInt8) (M : Nat) (e : Ending) (w' : World) : Prop :=
 Below w.heap.size w w' ∧ ((∃ o k q c, inflate xs M = .ok (o, k) ∧ e = .returned (.tuple #[.slice q o.length c, .int .i64 (k : Int), .int .i64 0]) ∧ Row w' q o ∧ (q = none → c = 0) ∧ o.length ≤ c ∧ c ≤ maxLen ∧ k ≤ xs.length ∧ (fr = true → ∀ a, q = some a → w.heap.size ≤ a.block)) ∨
  ∃ c, inflate xs M = .error c ∧ c ≠ 0 ∧ e = .returned (.tuple #[.slice none 0 0, .int .i64 0, .int .i64 (c : Int)]))
def Y4v (fr : Bool) (w : World) (xs : List UInt8) (most : Int) (e : Ending) (w' : World) : Prop :=
 Below w.heap.size w w' ∧ ((∃ o k q c, Y2s xs most = .ok (o, k) ∧ e = .returned (.tuple #[.slice q o.length c, .int .i64 (k : Int), .int .i64 0]) ∧ Row w' q o ∧ (q = none → c = 0) ∧ o.length ≤ c ∧ c ≤ maxLen ∧ k ≤ xs.length ∧ (fr = true → ∀ a, q = some a → w.heap.size ≤ a.block)) ∨
  ∃ c, Y2s xs most = .error c ∧ c ≠ 0 ∧ e = .returned (.tuple #[.slice none 0 0, .int .i64 0, .int .i64 (c : Int)]))
theorem Ykr (p : Option Addr) (len cap a : Nat) (xs : List UInt8) (w : World) (hr : Row w p xs) (hx : xs.length = len) (hl : len ≤ maxLen) (h : a + 4 ≤ len) :
  Calls Tryz.prog 15 #[.slice p len cap, .int .u64 (a : Int), .int .i64 4, .bool true] w fun e w' => e = .returned (.tuple #[.int .u64 ((numB ((xs.drop a).take 4) : Nat) : Int), .int .i64 0]) ∧ Drawn w w' := by
 have hl' := hl
 unfold maxLen at hl'
 have hs : Y1v 4 = true := by decide
 have hw : Y1h len (a : Int) 4 = true := by unfold Y1h; exact decide_eq_true (by omega)
 have e1 : Yfe xs (a : Int) 4 true = ((numB ((xs.drop a).take 4) : Nat) : Int) := by
  unfold Yfe Ydt
  rw [hx, hs, hw]
  rfl
 have e2 : Yfd xs (a : Int) 4 = 0 := by
  unfold Yfd
  rw [hx, hs, hw]
  rfl
 have := Yff p len cap (a : Int) 4 true xs w hr hx hl (by omega) (by omega)
 rwa [e1, e2] at this
theorem Ym3 (p : Option Addr) (len cap a : Nat) (xs : List UInt8) (w : World) (hr : Row w p xs) (hx : xs.length = len) (hl : len ≤ maxLen) (ha : a ≤ 10000000) (h : ¬ a + 4 ≤ len) :
  Calls Tryz.prog 15 #[.slice p len cap, .int .u64 (a : Int), .int .i64 4, .bool true] w fun e w' => e = .returned (.tuple #[.int .u64 0, .int .i64 2]) ∧ Drawn w w' := by
 have hs : Y1v 4 = true := by decide
 have hw : Y1h len (a : Int) 4 = false := by unfold Y1h; exact decide_eq_false (by omega)
 have e1 : Yfe xs (a : Int) 4 true = 0 := by
  unfold Yfe Ydt
  rw [hx, hs, hw]
  rfl
 have e2 : Yfd xs (a : Int) 4 = 2 := by
  unfold Yfd
  rw [hx, hs, hw]
  rfl
 have := Yff p len cap (a : Int) 4 true xs w hr hx hl (by omega) (by omega)
 rwa [e1, e2] at this
set_option maxHeartbeats 4000000 in
theorem Yl2 (fr : Bool) (p : Option Addr) (len cap : Nat) (xs : List UInt8) (most : Int) (w : World) (hr : Row w p xs) (hx : xs.length = len) (hc : len ≤ cap) (hnil : p = none → cap = 0) (hl : len ≤ 100000) (hm : most ≤ 200000)
  (h : ∀ (q : Option Addr) (c : Nat) (W : World), Row W q (xs.drop 2) → (q = none → c = 0) → Calls Tryz.prog 14 #[.slice q (len - 2) c, .int .i64 most] W (InfG fr W (xs.drop 2) most.toNat)) :
  Calls Tryz.prog 8 #[.slice p len cap, .int .i64 most] w (Y4v fr w xs most) := by
 have HX := Lib.hid hx
 by_cases hneg : most < 0
 ·have HRES : Hid (Y4v fr w xs most (.returned (.tuple #[.slice none 0 0, .int .i64 0, .int .i64 1])) w) := Lib.hid ⟨Below.refl _ _, .inr ⟨1, by unfold Y2s; rw [if_pos hneg], by decide, rfl⟩⟩
  clear hr hx hnil h
  go_enter Tryz.func8, Tryz.ntmps8
  go_wp2_with fail
  go_ret3
  exact HRES.out
 ·have hd0 : decide (most < 0) = false := by simp; omega
  by_cases h2 : len < 2
  ·have HRES : Hid (Y4v fr w xs most (.returned (.tuple #[.slice none 0 0, .int .i64 0, .int .i64 2])) w) := Lib.hid ⟨Below.refl _ _, .inr ⟨2, by unfold Y2s; rw [if_neg hneg, if_pos (by omega)], by decide, rfl⟩⟩
   have hd1 : (len : Int) < 2 := by omega
   clear hr hx hnil h
   go_enter Tryz.func8, Tryz.ntmps8
   go_wp2_with fail
   go_ret3
   exact HRES.out
  ·have hd1 : ¬ (len : Int) < 2 := by omega
   have hrow := hr
   have hsl : ∀ W, (Instr.slice 22 (.slice p len cap) (some (.int .i64 2)) none none).run Tryz.prog W = .ok (.slice (Ya6 p cap 2) (len - 2) (cap - 2)) W := fun W => Yjm W p len cap 2 (by omega)
   have hrt := Yjl cap 2 hr (by omega)
   have htn := Ygx (a := 2) hnil
   have HR := Lib.hid hr
   obtain ⟨b, off, rfl, hbl, hcs⟩ := hrow (by omega)
   have c0 := hcs 0 (by omega)
   have c1 := hcs 1 (by omega)
   obtain ⟨x, hxx⟩ : ∃ x : Nat, x = (xs.getD 0 0).toNat := ⟨_, rfl⟩
   obtain ⟨y, hyy⟩ : ∃ x : Nat, x = (xs.getD 1 0).toNat := ⟨_, rfl⟩
   have hx0 : xs[0].toNat = x := by rw [hxx, List.getD_eq_getElem?_getD, List.getElem?_eq_getElem (by omega)]; rfl
   have hy0 : xs[1].toNat = y := by rw [hyy, List.getD_eq_getElem?_getD, List.getElem?_eq_getElem (by omega)]; rfl
   rw [hx0, Nat.add_zero] at c0
   rw [hy0] at c1
   have hx8 : x < 256 := by rw [hxx]; exact UInt8.toNat_lt _
   have hy8 : y < 256 := by rw [hyy]; exact UInt8.toNat_lt _
   have HH := Lib.hid (fun W => Yic x y W hx8 hy8)
   obtain ⟨t, ht⟩ : ∃ t, t = Y2a x y := ⟨_, rfl⟩
   rw [← ht] at HH
   have HT := Lib.hid (show Y2a (xs.getD 0 0).toNat (xs.getD 1 0).toNat = t by rw [← hxx, ← hyy, ht])
   have HI := Lib.hid (fun W (hW : Row W (Ya6 (some ⟨b, off, none⟩) cap 2) (xs.drop 2)) => h _ (cap - 2) W hW htn)
   have HRT := Lib.hid hrt
   have i1 : (1 : Int) < (len : Int) := by omega
   clear hr hx hnil h hcs hrt htn hx0 hy0 hxx hyy ht hbl
   cases t
   ·have HRES : Hid (∀ n, Y4v fr w xs most (.returned (.tuple #[.slice none 0 0, .int .i64 0, .int .i64 3])) (w.drewN n)) := Lib.hid fun n =>
     ⟨(show Drawn w (w.drewN n) from ⟨n, rfl⟩).below _, .inr ⟨3, by unfold Y2s; rw [if_neg hneg, if_neg (by rw [HX.out]; omega), if_pos HT.out], by decide, rfl⟩⟩
    go_enter Tryz.func8, Tryz.ntmps8
    go_wp2_with fail
    go_quiet (first | (go_at_call 13; exact quietly (HH.out _)))
    go_wp2_with fail
    go_ret3
    exact HRES.out _
   ·go_enter Tryz.func8, Tryz.ntmps8
    go_wp2_with fail
    go_quiet (first | (go_at_call 13; exact quietly (HH.out _)))
    obtain ⟨w1, hw1⟩ : ∃ w1, w1 = w.drewN nq := ⟨_, rfl⟩
    have hb1 : Below w.heap.size w w1 := (show Drawn w w1 from ⟨nq, hw1⟩).below _
    rw [← hw1]
    have HI1 := Lib.hid (HI.out w1 (HRT.out.below hb1))
    have HB1 := Lib.hid hb1
    clear hw1 hb1 hrow HH HI c0 c1 hx8 hy8
    go_wp2_with fail
    refine HI1.out.mono ?_
    rintro e w2 ⟨hb2, ⟨o, k, q, c, ho, rfl, hrq, hq, hoc, hcm, hkl, hfr⟩ | ⟨c, ho, hc0, rfl⟩⟩
    ·have HOK := Lib.hid (Yg0 (by omega) (by rw [HX.out]; omega) HT.out ho)
     rw [List.length_drop, HX.out] at hkl
     have HB2 := Lib.hid (HB1.out.trans (hb2.mono HB1.out.size))
     have HRQ := Lib.hid hrq
     have HF := Lib.hid (And.intro hq (And.intro hoc hcm))
     have hcast : ((2 + k : Nat) : Int) = 2 + (k : Int) := by omega
     have hR2 := HR.out.below HB2.out
     have hkb : k ≤ 100000 := by omega
     by_cases hend : 2 + k + 4 ≤ len
     ·have hg := Ykr _ len cap (2 + k) xs w2 hR2 HX.out (by unfold maxLen; omega) hend
      rw [hcast] at hg
      have HG := Lib.hid hg
      have HS := Lib.hid (fun W (hW : Row W q o) => Adl.Ygu q o.length c o W hW rfl (by unfold maxLen at hcm ⊢; omega))
      obtain ⟨v, hv⟩ : ∃ v, v = numB ((xs.drop (2 + k)).take 4) := ⟨_, rfl⟩
      obtain ⟨s, hs⟩ : ∃ s, s = sumN o := ⟨_, rfl⟩
      have hsl := Y6r o
      rw [← hv] at HG
      rw [← hs] at HS hsl
      by_cases hvs : v = s
      ·have HRES : Hid (∀ w3, Drawn w2 w3 → Y4v fr w xs most (.returned (.tuple #[.slice q o.length c, .int .i64 ((k + 6 : Nat) : Int), .int .i64 0])) w3) := Lib.hid fun w3 h3 =>
        ⟨HB2.out.trans (h3.below _), .inl ⟨o, k + 6, q, c, by rw [HOK.out, if_neg (by rw [HX.out]; omega), ← hv, ← hs, if_pos hvs], rfl, HRQ.out.below (h3.below _), hq, hoc, hcm, by rw [HX.out]; omega, fun h a ha => Nat.le_trans HB1.out.size (hfr h a ha)⟩⟩
       have hk6 : ((k + 6 : Nat) : Int) = 2 + (k : Int) + 4 := by omega
       rw [hk6] at HRES
       subst hvs
       clear hfr hcast hk6 hR2 ho hrq hq hoc hcm hb2 HI1 hg hv hs
       go_wp2_with fail
       refine HG.out.mono ?_
       rintro e w3 ⟨rfl, hd3⟩
       have HD3 := Lib.hid hd3
       have HSR := Lib.hid (HS.out w3 (HRQ.out.below (hd3.below _)))
       clear hd3 HS
       go_wp2_with fail
       refine HSR.out.mono ?_
       rintro e w4 ⟨rfl, rfl⟩
       go_wp2_with fail
       go_ret3
       exact HRES.out _ HD3.out
      ·have HRES : Hid (∀ w3, Drawn w2 w3 → Y4v fr w xs most (.returned (.tuple #[.slice none 0 0, .int .i64 0, .int .i64 4])) w3) := Lib.hid fun w3 h3 =>
        ⟨HB2.out.trans (h3.below _), .inr ⟨4, by rw [HOK.out, if_neg (by rw [HX.out]; omega), ← hv, ← hs, if_neg hvs], by decide, rfl⟩⟩
       have hne : ((v : Int) != (s : Int)) = true := by simp; omega
       clear hfr hcast hR2 ho hrq hq hoc hcm hb2 HI1 hg hv hs hvs
       go_wp2_with fail
       refine HG.out.mono ?_
       rintro e w3 ⟨rfl, hd3⟩
       have HD3 := Lib.hid hd3
       have HSR := Lib.hid (HS.out w3 (HRQ.out.below (hd3.below _)))
       clear hd3 HS
       go_wp2_with fail
       refine HSR.out.mono ?_
       rintro e w4 ⟨rfl, rfl⟩
       go_wp2_with fail
       go_ret3
       exact HRES.out _ HD3.out
     ·have hg := Ym3 _ len cap (2 + k) xs w2 hR2 HX.out (by unfold maxLen; omega) (by omega) hend
      rw [hcast] at hg
      have HG := Lib.hid hg
      have HRES : Hid (∀ w3, Drawn w2 w3 → Y4v fr w xs most (.returned (.tuple #[.slice none 0 0, .int .i64 0, .int .i64 2])) w3) := Lib.hid fun w3 h3 =>
       ⟨HB2.out.trans (h3.below _), .inr ⟨2, by rw [HOK.out, if_pos (by rw [HX.out]; omega)], by decide, rfl⟩⟩
      clear hfr hcast hR2 ho hrq hq hoc hcm hb2 HI1 hg
      go_wp2_with fail
      refine HG.out.mono ?_
      rintro e w3 ⟨rfl, hd3⟩
      have HD3 := Lib.hid hd3
      clear hd3
      go_wp2_with fail
      go_ret3
      exact HRES.out _ HD3.out
    ·have HRES : Hid (Y4v fr w xs most (.returned (.tuple #[.slice none 0 0, .int .i64 0, .int .i64 (c : Int)])) w2) := Lib.hid
      ⟨HB1.out.trans (hb2.mono HB1.out.size), .inr ⟨c, Yc8 (by omega) (by rw [HX.out]; omega) HT.out ho, hc0, rfl⟩⟩
     have hcz : ((c : Int) != 0) = true := by simp; omega
     clear hc0 ho hb2 HI1
     go_wp2_with fail
     go_ret3
     exact HRES.out
end Go.Proofs.YtkkfkmoikcmhoaaGreat.Zl
namespace Go.Proofs.YtkkfkmoikcmhoaaGreat.Bit
open Oct
def chunk (l : List Bool) (i : Nat) : List Bool := (l.drop (8 * i) ++ zs 8).take 8
theorem Y3k (l : List Bool) (i : Nat) : (chunk l i).length = 8 := by simp [chunk, Y07]
def Yao (low : Bool) (l : List Bool) (i : Nat) : UInt8 := UInt8.ofNat (Y1r low (chunk l i))
theorem Yfv (low : Bool) (l : List Bool) (h : l.length = 8) : Y1r low l < 256 := by
 have := Y67 low l
 rw [h] at this
 exact this
theorem Y35 (low : Bool) (l : List Bool) (i : Nat) : (Yao low l i).toNat = Y1r low (chunk l i) := by
 unfold Yao
 have := Yfv low (chunk l i) (Y3k l i)
 rw [UInt8.toNat_ofNat']
 exact Nat.mod_eq_of_lt this
def Y0q (low : Bool) (l : List Bool) : List UInt8 := (List.range ((l.length + 7) / 8)).map (Yao low l)
theorem Y0e (low : Bool) (l : List Bool) : (Y0q low l).length = (l.length + 7) / 8 := by simp [Y0q]
theorem Y1u (low : Bool) (l : List Bool) (i : Nat) (h : i < (Y0q low l).length) : (Y0q low l)[i] = Yao low l i := by simp [Y0q]
theorem Yg6 (low : Bool) : Y0q low [] = [] := rfl
def Yeg (used n : Nat) (m : List Bool) : List Bool := zs used ++ m ++ zs (8 * cnt used n - used - n)
theorem Y5w (used n : Nat) (m : List Bool) (h : m.length = n) : (Yeg used n m).length = 8 * cnt used n := by
 unfold Yeg cnt; simp [Y07, h]; omega
def grpN (low : Bool) (used n v : Nat) : Nat := v * 2 ^ gsh low used n (8 * cnt used n)
theorem Yfj (low : Bool) (used n v : Nat) (h : v < 2 ^ n) : Y1r low (Yeg used n (Y0f low v n)) = grpN low used n v := by
 unfold Yeg grpN
 rw [Y7i]
 have e := Y21 low v n h
 cases low
 ·simp only [Y1r, Bool.false_eq_true, if_false] at e
  simp only [gsh, Bool.false_eq_true, if_false]
  rw [Y3s, Y3s, e, Y07]; simp
 ·simp only [Y1r, if_true] at e
  simp only [gsh, if_true]
  rw [Y44, Y44, Y3s, Y3s, e, Y07]; simp
theorem Yks (low : Bool) (used n v : Nat) (h : v < 2 ^ n) (hn : n ≤ 32) (hu : used < 8) : grpN low used n v < 18446744073709551616 := by
 rw [← Yfj low used n v h]
 have := Y67 low (Yeg used n (Y0f low v n))
 rw [Y5w _ _ _ (Y05 _ _ _)] at this
 refine Nat.lt_of_lt_of_le this ?_
 rw [show (18446744073709551616 : Nat) = 2 ^ 64 by decide]
 refine Nat.pow_le_pow_right (by omega) ?_
 unfold cnt; omega
def Yhm (low : Bool) (used n v i : Nat) : UInt8 := UInt8.ofNat (grpN low used n v / 2 ^ gsh low (8 * i) 8 (8 * cnt used n) % 256)
theorem Y76 (low : Bool) (used n v i : Nat) (h : v < 2 ^ n) (hi : i < cnt used n) :
  (Yhm low used n v i).toNat = Y1r low (((Yeg used n (Y0f low v n)).drop (8 * i)).take 8) := by
 unfold Yhm
 have hl := Y5w used n _ (Y05 low v n)
 have := Y38 low (Yeg used n (Y0f low v n)) (8 * i) 8 (by omega)
 rw [hl, Yfj low used n v h] at this
 rw [UInt8.toNat_ofNat', ← this]
 rw [show (2 ^ 8 : Nat) = 256 by decide]
 exact Nat.mod_eq_of_lt (Nat.mod_lt _ (by omega))
theorem Ybu (l m : List Bool) (i : Nat) (h : 8 * i + 8 ≤ l.length) : chunk (l ++ m) i = chunk l i := by
 unfold chunk
 rw [List.drop_append_of_le_length (by omega), List.append_assoc]
 rw [List.take_append_of_le_length (by simp; omega), List.take_append_of_le_length (by simp; omega)]
theorem Ylf (a : List Bool) (p : Nat) (hp : p ≤ 8) (h : 8 ≤ a.length + p) : (a ++ zs p).take 8 = (a ++ zs 8).take 8 := by
 rw [show zs 8 = zs p ++ zs (8 - p) by rw [Y7v]; congr 1; omega, ← List.append_assoc]
 rw [List.take_append_of_le_length (l₁ := a ++ zs p) (by simp [Y07]; omega)]
theorem Yhw (l m : List Bool) (n j : Nat) (hm : m.length = n) (hu : l.length % 8 ≤ 8 * j) (hj : j < cnt (l.length % 8) n) :
  chunk (l ++ m) (l.length / 8 + j) = ((Yeg (l.length % 8) n m).drop (8 * j)).take 8 := by
 unfold chunk Yeg
 unfold cnt at hj ⊢
 generalize hq : l.length / 8 = q at *
 generalize hr : l.length % 8 = r at *
 have hlen : l.length = 8 * q + r := by omega
 have e1 : (l ++ m).drop (8 * (q + j)) = m.drop (8 * j - r) := by
  rw [show 8 * (q + j) = l.length + (8 * j - r) by omega, List.drop_append]; simp
 have e2 : (zs r ++ m ++ zs (8 * ((r + n + 7) / 8) - r - n)).drop (8 * j) = m.drop (8 * j - r) ++ zs (8 * ((r + n + 7) / 8) - r - n) := by
  rw [List.append_assoc, show 8 * j = (zs r).length + (8 * j - r) by rw [Y07]; omega, List.drop_append]
  simp only [Nat.add_sub_cancel_left]
  rw [List.drop_eq_nil_of_le (by omega), List.nil_append, Y07, Nat.add_sub_cancel_left, List.drop_append_of_le_length (by omega)]
 rw [e1, e2]
 exact (Ylf _ _ (by omega) (by simp; omega)).symm
theorem Yfw (low : Bool) (a b : List Bool) : Y1r low (a ++ b) = Y1r low (a ++ zs b.length) ||| Y1r low (zs a.length ++ b) := by
 cases low
 ·simp only [Y1r, Bool.false_eq_true, if_false]
  rw [Y0k, Y0k, Y0k, Y3s, Y3s, Y07]
  have := nat_join b.length (num a * 2 ^ b.length) (num b) (Nat.mul_mod_left _ _) (Y1e b)
  simp [this]
 ·simp only [Y1r, if_true, List.reverse_append, Y44]
  rw [Y0k, Y0k, Y0k, Y3s, Y3s]
  simp only [List.length_reverse, Y07]
  have := nat_join a.length (num b.reverse * 2 ^ a.length) (num a.reverse) (Nat.mul_mod_left _ _) (by have := Y1e a.reverse; rwa [List.length_reverse] at this)
  rw [Nat.or_comm]
  simp [this]
theorem Yhx (low : Bool) (l m : List Bool) (n : Nat) (hm : m.length = n) (hu : 0 < l.length % 8) :
  Y1r low (chunk (l ++ m) (l.length / 8)) = Y1r low (chunk l (l.length / 8)) ||| Y1r low (((Yeg (l.length % 8) n m).drop (8 * 0)).take 8) := by
 obtain ⟨A, hA⟩ : ∃ A, A = l.drop (8 * (l.length / 8)) := ⟨_, rfl⟩
 have la : A.length = l.length % 8 := by subst hA; simp; omega
 have h8 : l.length % 8 < 8 := Nat.mod_lt _ (by omega)
 obtain ⟨B, hB⟩ : ∃ B, B = (m ++ zs 8).take (8 - A.length) := ⟨_, rfl⟩
 have lb : B.length = 8 - A.length := by subst hB; simp [Y07]; omega
 have c1 : chunk (l ++ m) (l.length / 8) = A ++ B := by
  unfold chunk
  rw [List.drop_append_of_le_length (by omega), ← hA, List.append_assoc, List.take_append, List.take_of_length_le (by omega), ← hB]
 have c2 : chunk l (l.length / 8) = A ++ zs B.length := by
  unfold chunk
  rw [← hA, List.take_append, List.take_of_length_le (by omega), Ylm, lb, Nat.min_eq_left (by omega)]
 have c3 : ((Yeg (l.length % 8) n m).drop (8 * 0)).take 8 = zs A.length ++ B := by
  unfold Yeg
  rw [Nat.mul_zero, List.drop_zero, List.append_assoc, List.take_append, Y07, List.take_of_length_le (by rw [Y07]; omega), la]
  congr 1
  rw [hB, la]
  have hp : 8 * cnt (l.length % 8) n - l.length % 8 - n ≤ 8 := by unfold cnt; omega
  have hq : 8 - l.length % 8 ≤ n + (8 * cnt (l.length % 8) n - l.length % 8 - n) := by unfold cnt; omega
  generalize 8 * cnt (l.length % 8) n - l.length % 8 - n = p at hp hq
  rw [show zs 8 = zs p ++ zs (8 - p) by rw [Y7v]; congr 1; omega, ← List.append_assoc]
  rw [List.take_append_of_le_length (l₁ := m ++ zs p) (by simp [Y07]; omega)]
 rw [c1, c2, c3, Yfw]
def Y4b (low : Bool) (l m : List Bool) (i : Nat) : List UInt8 := if i = 0 then Y0q low l else (Y0q low (l ++ m)).take (l.length / 8 + i)
theorem Ydb (low : Bool) (l m : List Bool) : Y4b low l m 0 = Y0q low l := rfl
theorem Y83 (a n : Nat) : (a + n + 7) / 8 = a / 8 + cnt (a % 8) n := by unfold cnt; omega
theorem Yf6 (low : Bool) (l m : List Bool) (n i : Nat) (hm : m.length = n) (hi : i ≤ cnt (l.length % 8) n) (h : 1 ≤ i ∨ l.length % 8 = 0) :
  (Y4b low l m i).length = l.length / 8 + i := by
 unfold Y4b
 split
 ·rw [Y0e]; omega
 ·rw [List.length_take, Y0e, List.length_append, hm, Y83]; omega
theorem Yf5 (low : Bool) (l m : List Bool) (n : Nat) (hm : m.length = n) : Y4b low l m (cnt (l.length % 8) n) = Y0q low (l ++ m) := by
 unfold Y4b
 split
 ·next h =>
  have : n = 0 := by unfold cnt at h; omega
  have : m = [] := List.eq_nil_of_length_eq_zero (by omega)
  subst this
  simp
 ·rw [List.take_of_length_le]
  rw [Y0e, List.length_append, hm, Y83]; omega
theorem Yf7 (low : Bool) (l : List Bool) (v n i : Nat) (hv : v < 2 ^ n) (hi : i < cnt (l.length % 8) n) (h : 1 ≤ i ∨ l.length % 8 = 0) :
  Y4b low l (Y0f low v n) i ++ [Yhm low (l.length % 8) n v i] = Y4b low l (Y0f low v n) (i + 1) := by
 have hm := Y05 low v n
 have hlen : (Y0q low (l ++ Y0f low v n)).length = l.length / 8 + cnt (l.length % 8) n := by rw [Y0e, List.length_append, hm, Y83]
 have hlt : l.length / 8 + i < (Y0q low (l ++ Y0f low v n)).length := by omega
 have hb : (Y0q low (l ++ Y0f low v n))[l.length / 8 + i] = Yhm low (l.length % 8) n v i := by
  apply UInt8.toNat_inj.1
  rw [Y1u, Y35, Y76 low _ n v i hv hi]
  congr 1
  exact Yhw l _ n i hm (by have : l.length % 8 < 8 := Nat.mod_lt _ (by omega)
                           omega) hi
 have hF : Y4b low l (Y0f low v n) i = (Y0q low (l ++ Y0f low v n)).take (l.length / 8 + i) := by
  unfold Y4b
  split
  ·next h0 =>
   subst h0
   have hr : l.length % 8 = 0 := by omega
   apply List.ext_getElem
   ·rw [Y0e, List.length_take]; omega
   ·intro k h1 h2
    rw [Y0e] at h1
    rw [Y1u, List.getElem_take, Y1u]
    unfold Yao
    rw [Ybu _ _ _ (by omega)]
  ·rfl
 rw [hF, ← hb]
 unfold Y4b
 rw [if_neg (by omega), ← Nat.add_assoc, List.take_succ_eq_append_getElem hlt]
theorem Yi2 (low : Bool) (l : List Bool) (v n : Nat) (hv : v < 2 ^ n) (hu : 0 < l.length % 8) (hq : l.length / 8 < (Y0q low l).length) :
  (Y0q low l).set (l.length / 8) ((Y0q low l)[l.length / 8] ||| Yhm low (l.length % 8) n v 0) = Y4b low l (Y0f low v n) 1 := by
 have hm := Y05 low v n
 have hc : 0 < cnt (l.length % 8) n := by unfold cnt; omega
 have hl := Y0e low l
 have hlen : (Y0q low (l ++ Y0f low v n)).length = l.length / 8 + cnt (l.length % 8) n := by rw [Y0e, List.length_append, hm, Y83]
 unfold Y4b
 rw [if_neg (by omega)]
 apply List.ext_getElem
 ·rw [List.length_set, List.length_take, hlen, hl]; omega
 ·intro k h1 h2
  rw [List.length_set, hl] at h1
  rw [List.getElem_set, List.getElem_take, Y1u low (l ++ _)]
  by_cases hk : l.length / 8 = k
  ·rw [if_pos hk]
   subst hk
   apply UInt8.toNat_inj.1
   rw [UInt8.toNat_or, Y1u low l, Y35, Y35, Y76 low _ n v 0 hv hc]
   exact (Yhx low l _ n hm hu).symm
  ·rw [if_neg hk, Y1u low l]
   unfold Yao
   rw [Ybu _ _ _ (by omega)]
theorem Yg7 (low : Bool) (l : List Bool) : Y0q low (l ++ zs (8 * ((l.length + 7) / 8) - l.length)) = Y0q low l := by
 apply List.ext_getElem
 ·rw [Y0e, Y0e, List.length_append, Y07]; omega
 ·intro k h1 h2
  rw [Y0e] at h2
  rw [Y1u, Y1u]
  unfold Yao
  congr 2
  unfold chunk
  rw [List.drop_append_of_le_length (by omega), List.append_assoc, Y7v]
  rw [show zs (8 * ((l.length + 7) / 8) - l.length + 8) = zs 8 ++ zs (8 * ((l.length + 7) / 8) - l.length) by rw [Y7v]; congr 1; omega, ← List.append_assoc]
  rw [List.take_append_of_le_length (l₁ := l.drop (8 * k) ++ zs 8) (by simp [Y07])]
theorem Y8u (low : Bool) (l : List Bool) : Y00 low (Y0q low l) = l ++ zs (8 * ((l.length + 7) / 8) - l.length) := by
 have hl := Y0e low l
 apply List.ext_getElem
 ·rw [Y02, hl, List.length_append, Y07]; omega
 ·intro k h1 h2
  rw [Y02] at h1
  have hk : k / 8 < (Y0q low l).length := by omega
  have e : (Y00 low (Y0q low l)).drop (8 * (k / 8)) = Y4k low (Y0q low l)[k / 8] ++ Y00 low ((Y0q low l).drop (k / 8 + 1)) := by
   rw [← Y5o, List.drop_eq_getElem_cons hk, Y11]
  have e2 : Y4k low (Y0q low l)[k / 8] = chunk l (k / 8) := by
   unfold Y4k
   rw [Y1u, Y35]
   have := Y56 low (chunk l (k / 8))
   rwa [Y3k] at this
  have e3 : (Y00 low (Y0q low l))[k]? = (chunk l (k / 8))[k % 8]? := by
   have h3 : ((Y00 low (Y0q low l)).drop (8 * (k / 8)))[k % 8]? = (Y00 low (Y0q low l))[k]? := by
    rw [List.getElem?_drop]; congr 1; omega
   rw [← h3, e, e2, List.getElem?_append_left (by rw [Y3k]; omega)]
  have e4 : (chunk l (k / 8))[k % 8]? = (l ++ zs (8 * ((l.length + 7) / 8) - l.length))[k]? := by
   unfold chunk
   rw [List.getElem?_take_of_lt (by omega)]
   rcases Nat.lt_or_ge k l.length with hlt | hge
   ·rw [List.getElem?_append_left (by simp; omega), List.getElem?_append_left hlt, List.getElem?_drop]; congr 1; omega
   ·rw [List.getElem?_append_right (by simp; omega), List.getElem?_append_right hge]
    unfold zs
    rw [List.getElem?_replicate, List.getElem?_replicate, if_pos (by simp; omega), if_pos (by omega)]
  rw [e4, List.getElem?_eq_getElem (by rw [Y02]; omega), List.getElem?_eq_getElem h2] at e3
  exact Option.some.inj e3
end Go.Proofs.YtkkfkmoikcmhoaaGreat.Bit
namespace Go.Proofs.YtkkfkmoikcmhoaaGreat.Inf
open Bit Hf
theorem Y2i {L x r : List Bool} {a : Nat} (h : L.drop a = x ++ r) : L.drop (a + x.length) = r := by
 rw [← List.drop_drop, h]
 simp
theorem Y36 {L x r : List Bool} {a : Nat} (h : L.drop a = x ++ r) (ha : a ≤ L.length) : a + x.length ≤ L.length := by
 have := congrArg List.length h
 simp at this
 omega
theorem Yk7 {L r : List Bool} {a n k : Nat} (h : L.drop a = Y0f true n k ++ r) (ha : a ≤ L.length) (hn : n < 2 ^ k) : Y16 L a k = .ok (n, a + k) := by
 have h1 := Y36 h ha
 rw [Y05] at h1
 unfold Y16
 rw [if_pos h1, h, List.take_left' (Y05 _ _ _), Y21 true n k hn]
def least1 (far : Bool) : Nat := if far then 1 else 3
structure Tok where
 lit : UInt8
 len : Int
 dist : Int
end Go.Proofs.YtkkfkmoikcmhoaaGreat.Inf

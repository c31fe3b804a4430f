/- ZlB, ZlC, BitN, IfO, IfP: merged. -/
import Derived.Test.YtkkfkmoikcmhoaaGreatAaf
import Derived.Test.YtkkfkmoikcmhoaaGreatAag
set_option linter.unusedVariables false
set_option linter.unusedSimpArgs false
namespace Go.Proofs.YtkkfkmoikcmhoaaGreat.Zl
open Go.RowKit Oct
open Adl (sumN Beg Beg.of)
set_option maxRecDepth 100000
theorem Y6w {w w' : World} {B g : Nat} {xs : List UInt8} (h : Beg w g xs) (hb : Below B w w') (hg : g < B) : Beg w' g xs := by
 obtain ⟨cur, hh, r⟩ := h
 exact ⟨cur, (hb.block g hg).trans hh, r⟩
theorem Yq9 (n : Nat) : Ybk n 4 true = be4 n := by
 show beB n 4 = be4 n
 have e : ∀ m : Nat, UInt8.ofNat (m % 256) = UInt8.ofNat m := fun m => by
  apply UInt8.toNat_inj.1
  simp
 unfold be4
 simp only [beB]
 rw [e, e, e, e]
 simp
theorem Yf1 (n : Nat) (hn : n < 4294967296) : Ya1 (n : Int) ((4 : Int).toNat) = true := by
 unfold Ya1
 exact decide_eq_true (by show (n : Int) < 256 ^ 4; omega)
theorem Yqa (n : Nat) (hn : n < 4294967296) : Ytt (n : Int) 4 true = be4 n := by
 unfold Ytt
 rw [Yf1 n hn]
 have : Y3l 4 = true := by decide
 rw [this]
 exact Yq9 n
theorem Yq8 (n : Nat) (hn : n < 4294967296) : Ytr (n : Int) 4 = 0 := by
 unfold Ytr
 rw [Yf1 n hn]
 rfl
theorem Ytu (n : Nat) (w : World) (hn : n < 4294967296) : Calls Tryz.prog 21 #[.int .u64 (n : Int), .int .i64 4, .bool true] w fun e w' =>
  Below w.heap.size w w' ∧ e = .returned (.tuple #[.slice (some ⟨w.heap.size, 0, none⟩) 4 4, .int .i64 0]) ∧ Blk w' w.heap.size (be4 n) := by
 refine (Yxp (n : Int) 4 true w (by omega) (by omega)).mono ?_
 rintro e w' ⟨hb, h⟩
 rw [Yqa n hn, Yq8 n hn] at h
 rcases h with ⟨_, h1, h2⟩ | ⟨h, _⟩
 ·exact ⟨hb, h1, h2⟩
 ·exact absurd rfl h
theorem and32 : ∀ y : Fin 256, (y.val &&& 32) = y.val / 32 % 2 * 32 := by decide
theorem Yyz (y : Nat) (h : y < 256) : bits .and .u8 (y : Int) 32 = ((y / 32 % 2 * 32 : Nat) : Int) := by
 rw [show (32 : Int) = ((32 : Nat) : Int) from rfl, u8_and_nat y 32 h (by omega)]
 exact congrArg (fun n : Nat => (n : Int)) (and32 ⟨y, h⟩)
theorem Ytl {xs : List UInt8} {most : Int} {c : Nat} (h0 : ¬ most < 0) (h1 : ¬ xs.length < 2) (h2 : Y4s (xs.getD 0 0).toNat (xs.getD 1 0).toNat = true) (h : Inf.inflate (xs.drop 2) most.toNat = .error c) : Y3j xs most = .error c := by
 unfold Y3j
 rw [if_neg h0, if_neg h1, h2, if_neg (by decide), h]
theorem Yxd {xs o : List UInt8} {most : Int} {n : Nat} (h0 : ¬ most < 0) (h1 : ¬ xs.length < 2) (h2 : Y4s (xs.getD 0 0).toNat (xs.getD 1 0).toNat = true) (h : Inf.inflate (xs.drop 2) most.toNat = .ok (o, n)) :
  Y3j xs most = if xs.length < n + 6 then .error 2 else if Oct.Y2n ((xs.drop (2 + n)).take 4) = sumN o then .ok (o, n + 6) else .error 4 := by
 unfold Y3j
 rw [if_neg h0, if_neg h1, h2, if_neg (by decide), h]
set_option maxHeartbeats 1000000 in
theorem Ysx (x y : Nat) (w : World) (hx : x < 256) (hy : y < 256) : Calls Tryz.prog 13 #[.int .u8 (x : Int), .int .u8 (y : Int)] w fun e w' => e = .returned (.bool (Y4s x y)) ∧ w = w' := by
 have h1 := u8_and15 (x := (x : Int)) (by omega) (by omega)
 have h2 := Yyz y hy
 obtain ⟨a, ha⟩ : ∃ a : Nat, a = x % 16 := ⟨_, rfl⟩
 have ha' : (x : Int) % 16 = (a : Int) := by omega
 rw [ha'] at h1
 by_cases c1 : a = 8
 ·by_cases c2 : x ≤ 127
  ·have d2 : (x : Int) / 16 ≤ 7 := by omega
   by_cases c3 : y / 32 % 2 = 0
   ·rw [c3] at h2
    have h2' : bits .and .u8 (y : Int) 32 = 0 := h2
    obtain ⟨r, hr⟩ : ∃ r : Nat, r = (x * 256 + y) % 31 := ⟨_, rfl⟩
    have hr' : (256 * (x : Int) + (y : Int)) % 31 = (r : Int) := by omega
    have e : Y4s x y = decide (r = 0) := by
     unfold Y4s
     rw [← ha, ← hr, c1, c3]
     simp [c2]
    rw [e]
    clear e h2
    subst c1
    by_cases c4 : r = 0
    ·have c5 : (256 * (x : Int) + (y : Int)) % 31 = 0 := by omega
     have e : decide (r = 0) = true := by simpa using c4
     rw [e]
     clear ha ha' hr hr' c3 c4 e
     go_enter Tryz.func13, Tryz.ntmps13
     go_wp2_with fail
     go_ret
     exact ⟨rfl, rfl⟩
    ·have c5 : ((256 * (x : Int) + (y : Int)) % 31 == 0) = false := by simp; omega
     have e : decide (r = 0) = false := by simpa using c4
     rw [e]
     clear ha ha' hr hr' c3 c4 e
     go_enter Tryz.func13, Tryz.ntmps13
     go_wp2_with fail
     go_ret
     exact ⟨rfl, rfl⟩
   ·have e : Y4s x y = false := by unfold Y4s; simp [c3]
    rw [e]
    have c6 : y / 32 % 2 = 1 := by omega
    rw [c6] at h2
    have h2' : bits .and .u8 (y : Int) 32 = 32 := h2
    clear h2
    subst c1
    clear e ha ha' c3 c6
    go_enter Tryz.func13, Tryz.ntmps13
    go_wp2_with fail
    go_ret
    exact ⟨rfl, rfl⟩
  ·have e : Y4s x y = false := by unfold Y4s; simp [c2]
   rw [e]
   have d2 : ¬ (x : Int) / 16 ≤ 7 := by omega
   subst c1
   clear e ha ha' c2 h2
   go_enter Tryz.func13, Tryz.ntmps13
   go_wp2_with fail
   go_ret
   exact ⟨rfl, rfl⟩
 ·have e : Y4s x y = false := by unfold Y4s; rw [← ha]; simp [c1]
  rw [e]
  have d1 : ((a : Int) == 8) = false := by simp; omega
  clear e ha ha' c1 h2
  go_enter Tryz.func13, Tryz.ntmps13
  go_wp2_with fail
  go_ret
  exact ⟨rfl, rfl⟩
theorem Yjn {w : World} {B : Nat} {v : Value} {xs : List UInt8} (h : BOwn w B v xs) (h0 : 0 < xs.length) : v ≠ .slice none 0 0 := by
 rintro rfl
 rcases h.2 with ⟨_, h1⟩ | ⟨g, cap, cur, he, _⟩
 ·omega
 ·cases he
def DefG (X : List UInt8 → Nat → List UInt8 → Prop) (w : World) (xs : List UInt8) (how : Int) (e : Ending) (w' : World) : Prop :=
 Below w.heap.size w w' ∧ (((how < 0 ∨ 2 < how) ∧ e = .returned (.tuple #[.slice none 0 0, .int .i64 1])) ∨
  ∃ k ys q c, how = ((k : Nat) : Int) ∧ k ≤ 2 ∧ X xs k ys ∧ ys.length ≤ 2 * xs.length + 1300 ∧ e = .returned (.tuple #[.slice q ys.length c, .int .i64 0]) ∧ Row w' q ys ∧ ys.length ≤ c ∧ c ≤ maxLen ∧ (q = none → c = 0))
def Y8w (X : List UInt8 → Nat → List UInt8 → Prop) (w : World) (xs : List UInt8) (how : Int) (e : Ending) (w' : World) : Prop :=
 Below w.heap.size w w' ∧ (((how < 0 ∨ 2 < how) ∧ e = .returned (.tuple #[.slice none 0 0, .int .i64 1])) ∨
  ∃ k ys g c N, how = ((k : Nat) : Int) ∧ k ≤ 2 ∧ X xs k ys ∧ N = ys.length + 6 ∧ e = .returned (.tuple #[.slice (some ⟨g, 0, none⟩) N c, .int .i64 0]) ∧ Beg w' g (Y0n ys xs) ∧ N ≤ c ∧ c ≤ maxLen ∧ w.heap.size ≤ g)
set_option maxHeartbeats 4000000 in
theorem Yxl (X : List UInt8 → Nat → List UInt8 → Prop) (w : World) (p : Option Addr) (n cap : Nat) (xs : List UInt8) (how : Int) (hr : Row w p xs) (hx : xs.length = n) (hc : n ≤ 150000) (h : Calls Tryz.prog 20 #[.slice p n cap, .int .i64 how] w (DefG X w xs how)) :
  Calls Tryz.prog 10 #[.slice p n cap, .int .i64 how] w (Y8w X w xs how) := by
 have HD := Lib.hid h
 have HR := Lib.hid hr
 have HX := Lib.hid hx
 clear h hr hx
 go_enter Tryz.func10, Tryz.ntmps10
 go_wp2_with fail
 refine HD.out.mono ?_
 rintro e w1 ⟨hb1, ⟨hbad, rfl⟩ | ⟨k, ys, q, c, hk, hk2, hX, hlen, rfl, hrow, h1, h2, h3⟩⟩
 ·have HRES : Hid (Y8w X w xs how (.returned (.tuple #[.slice none 0 0, .int .i64 1])) w1) := Lib.hid ⟨hb1, .inl ⟨hbad, rfl⟩⟩
  clear hb1 hbad HD HR HX
  go_wp2_with fail
  go_ret2
  exact HRES.out
 ·have HK := Lib.hid (And.intro hk (And.intro hk2 hX))
  obtain ⟨N, hN⟩ : ∃ N, N = ys.length := ⟨_, rfl⟩
  rw [← hN] at hlen h1
  have hN3 : N ≤ 302000 := by have := HX.out; omega
  have HS := Lib.hid (fun W (hW : Row W p xs) => Adl.Yqs p n cap xs W hW HX.out (by unfold maxLen; omega))
  have HRX := Lib.hid (HR.out.below hb1)
  have hs := Ye0 xs
  have HRQ := Lib.hid hrow
  have HB1 := Lib.hid hb1
  have HNN := Lib.hid hN
  have HQ := Lib.hid h3
  obtain ⟨s, hss⟩ : ∃ s, s = sumN xs := ⟨_, rfl⟩
  have HSS := Lib.hid hss
  rw [← hss] at hs
  rw [← hN]
  unfold maxLen at h2
  clear hk hk2 hX hrow h3 hb1 hN hss HD
  have HP := Lib.hid (Ytu s w1 hs)
  go_wp2_with fail
  refine (HS.out _ HRX.out).mono ?_
  rintro e w' ⟨rfl, rfl⟩
  rw [← HSS.out]
  go_wp2_with fail
  refine HP.out.mono ?_
  rintro e w2 ⟨hb2, rfl, hblk⟩
  have hbA : Below w2.heap.size w2 (w2.alloc (.cells #[.int .u8 120, .int .u8 1] 5)) := (Below.refl _ w2).alloc (Nat.le_refl _) _
  obtain ⟨w3, hw3⟩ : ∃ w3, w3 = w2.alloc (.cells #[.int .u8 120, .int .u8 1] 5) := ⟨_, rfl⟩
  have hz3 : w3.heap.size = w2.heap.size + 1 := by rw [hw3]; simp
  obtain ⟨w4, hw4⟩ : ∃ w4, w4 = w3.alloc (.cells #[.slice (some ⟨w2.heap.size, 0, none⟩) 2 2, .slice q N c, .slice (some ⟨w1.heap.size, 0, none⟩) 4 4] 22) := ⟨_, rfl⟩
  have hz4 : w4.heap.size = w3.heap.size + 1 := by rw [hw4]; simp
  have hbB : Below w3.heap.size w3 w4 := by rw [hw4]; exact (Below.refl _ w3).alloc (Nat.le_refl _) _
  have hr0 : Row w3 (some ⟨w2.heap.size, 0, none⟩) [120, 1] := by rw [hw3]; exact Adl.Yxs w2 [120, 1] 5 (0, 0)
  rw [← hw3] at hbA
  have hb24 : Below w2.heap.size w2 w4 := hbA.trans (hbB.mono hbA.size)
  have hb14 : Below w1.heap.size w1 w4 := hb2.trans (hb24.mono hb2.size)
  have hbw4 : Below w.heap.size w w4 := HB1.out.trans (hb14.mono HB1.out.size)
  have hps : PrtsIn w4 w3.heap.size [⟨some ⟨w2.heap.size, 0, none⟩, 2, [120, 1]⟩, ⟨q, c, ys⟩, ⟨some ⟨w1.heap.size, 0, none⟩, 4, be4 s⟩] := by
   refine ⟨fun i hi => ?_, fun i hi => ?_, fun i hi => ?_, ?_, by simp⟩
   ·have hi3 : i < 3 := hi
    rcases (show i = 0 ∨ i = 1 ∨ i = 2 by omega) with rfl | rfl | rfl
    ·rw [hw4]; simp
    ·rw [hw4]; simp [HNN.out]
    ·rw [hw4]; simp [Y21]
   ·have hi3 : i < 3 := hi
    rcases (show i = 0 ∨ i = 1 ∨ i = 2 by omega) with rfl | rfl | rfl
    ·exact hr0.below hbB
    ·exact HRQ.out.below hb14
    ·exact hblk.row.below hb24
   ·have hi3 : i < 3 := hi
    rcases (show i = 0 ∨ i = 1 ∨ i = 2 by omega) with rfl | rfl | rfl
    ·intro h; cases h
    ·exact HQ.out
    ·intro h; cases h
   ·show ([120, 1] ++ (ys ++ (be4 s ++ []))).length ≤ 400000
    simp only [List.length_append, List.length_cons, List.length_nil, Y21, ← HNN.out]
    omega
  have hcat := Y82 w3.heap.size 3 _ 3 w4 (by omega) hps rfl
  have hall : Y9f [⟨some ⟨w2.heap.size, 0, none⟩, 2, [120, 1]⟩, ⟨q, c, ys⟩, ⟨some ⟨w1.heap.size, 0, none⟩, 4, be4 s⟩] = Y0n ys xs := by
   rw [HSS.out]
   simp [Y9f, Y0n, Y3b]
  rw [hall, hz3] at hcat
  rw [hw4, hw3] at hcat
  have HC := Lib.hid hcat
  have HW := Lib.hid (And.intro hw3 hw4)
  have HBW := Lib.hid hbw4
  clear hcat hall hps hb14 hb24 hbw4 hr0 hbA hbB hblk hz3 hz4 hw3 hw4 hb2
  go_wp2_with fail
  refine HC.out.mono ?_
  rintro e w5 ⟨v, rfl, hown, hb5⟩
  have hl : (Y0n ys xs).length = N + 6 := by rw [Y11, ← HNN.out]
  have hvn := Yjn hown (by omega)
  obtain ⟨g, cc, rfl, hc1, hc2, hg, hg2, hbeg⟩ := Beg.of hown rfl hvn
  rw [← HW.out.1, ← HW.out.2] at hb5 hg
  have HRES : Hid (Y8w X w xs how (.returned (.tuple #[.slice (some ⟨g, 0, none⟩) (Y0n ys xs).length cc, .int .i64 0])) w5) :=
   Lib.hid ⟨HBW.out.trans (hb5.mono HBW.out.size), .inr ⟨k, ys, g, cc, (Y0n ys xs).length, HK.out.1, HK.out.2.1, HK.out.2.2, Y11 ys xs, rfl, hbeg, hc1, hc2, Nat.le_trans HBW.out.size hg⟩⟩
  rw [hl] at HRES
  clear hown hvn hbeg hb5
  go_wp2_with fail
  go_ret2
  exact HRES.out
end Go.Proofs.YtkkfkmoikcmhoaaGreat.Zl
namespace Go.Proofs.YtkkfkmoikcmhoaaGreat.Zl
open Go.RowKit Oct Inf
open Adl (sumN Beg Beg.of)
set_option maxRecDepth 100000
def InfG (fr : Bool) (w : World) (xs : List UInt8) (M : Nat) (e : Ending) (w' : World) : Prop :=
 Below w.heap.size w w' ∧ ((∃ o k q c, inflate xs M = .ok (o, k) ∧ e = .returned (.tuple #[.slice q o.length c, .int .i64 (k : Int), .int .i64 0]) ∧ Row w' q o ∧ (q = none → c = 0) ∧ o.length ≤ c ∧ c ≤ maxLen ∧ k ≤ xs.length ∧ (fr = true → ∀ a, q = some a → w.heap.size ≤ a.block)) ∨
  ∃ c, inflate xs M = .error c ∧ c ≠ 0 ∧ e = .returned (.tuple #[.slice none 0 0, .int .i64 0, .int .i64 (c : Int)]))
def Y6d (fr : Bool) (w : World) (xs : List UInt8) (most : Int) (e : Ending) (w' : World) : Prop :=
 Below w.heap.size w w' ∧ ((∃ o k q c, Y3j xs most = .ok (o, k) ∧ e = .returned (.tuple #[.slice q o.length c, .int .i64 (k : Int), .int .i64 0]) ∧ Row w' q o ∧ (q = none → c = 0) ∧ o.length ≤ c ∧ c ≤ maxLen ∧ k ≤ xs.length ∧ (fr = true → ∀ a, q = some a → w.heap.size ≤ a.block)) ∨
  ∃ c, Y3j xs most = .error c ∧ c ≠ 0 ∧ e = .returned (.tuple #[.slice none 0 0, .int .i64 0, .int .i64 (c : Int)]))
theorem Ywh (p : Option Addr) (len cap a : Nat) (xs : List UInt8) (w : World) (hr : Row w p xs) (hx : xs.length = len) (hl : len ≤ maxLen) (h : a + 4 ≤ len) :
  Calls Tryz.prog 15 #[.slice p len cap, .int .u64 (a : Int), .int .i64 4, .bool true] w fun e w' => e = .returned (.tuple #[.int .u64 ((Y2n ((xs.drop a).take 4) : Nat) : Int), .int .i64 0]) ∧ Drawn w w' := by
 have hl' := hl
 unfold maxLen at hl'
 have hs : Y3l 4 = true := by decide
 have hw : Y20 len (a : Int) 4 = true := by unfold Y20; exact decide_eq_true (by omega)
 have e1 : Yoo xs (a : Int) 4 true = ((Y2n ((xs.drop a).take 4) : Nat) : Int) := by
  unfold Yoo Ym4
  rw [hx, hs, hw]
  rfl
 have e2 : Yon xs (a : Int) 4 = 0 := by
  unfold Yon
  rw [hx, hs, hw]
  rfl
 have := Yop p len cap (a : Int) 4 true xs w hr hx hl (by omega) (by omega)
 rwa [e1, e2] at this
theorem Yz3 (p : Option Addr) (len cap a : Nat) (xs : List UInt8) (w : World) (hr : Row w p xs) (hx : xs.length = len) (hl : len ≤ maxLen) (ha : a ≤ 10000000) (h : ¬ a + 4 ≤ len) :
  Calls Tryz.prog 15 #[.slice p len cap, .int .u64 (a : Int), .int .i64 4, .bool true] w fun e w' => e = .returned (.tuple #[.int .u64 0, .int .i64 2]) ∧ Drawn w w' := by
 have hs : Y3l 4 = true := by decide
 have hw : Y20 len (a : Int) 4 = false := by unfold Y20; exact decide_eq_false (by omega)
 have e1 : Yoo xs (a : Int) 4 true = 0 := by
  unfold Yoo Ym4
  rw [hx, hs, hw]
  rfl
 have e2 : Yon xs (a : Int) 4 = 2 := by
  unfold Yon
  rw [hx, hs, hw]
  rfl
 have := Yop p len cap (a : Int) 4 true xs w hr hx hl (by omega) (by omega)
 rwa [e1, e2] at this
set_option maxHeartbeats 4000000 in
theorem Yxc (fr : Bool) (p : Option Addr) (len cap : Nat) (xs : List UInt8) (most : Int) (w : World) (hr : Row w p xs) (hx : xs.length = len) (hc : len ≤ cap) (hnil : p = none → cap = 0) (hl : len ≤ 100000) (hm : most ≤ 200000)
  (h : ∀ (q : Option Addr) (c : Nat) (W : World), Row W q (xs.drop 2) → (q = none → c = 0) → Calls Tryz.prog 14 #[.slice q (len - 2) c, .int .i64 most] W (InfG fr W (xs.drop 2) most.toNat)) :
  Calls Tryz.prog 8 #[.slice p len cap, .int .i64 most] w (Y6d fr w xs most) := by
 have HX := Lib.hid hx
 by_cases hneg : most < 0
 ·have HRES : Hid (Y6d fr w xs most (.returned (.tuple #[.slice none 0 0, .int .i64 0, .int .i64 1])) w) := Lib.hid ⟨Below.refl _ _, .inr ⟨1, by unfold Y3j; rw [if_pos hneg], by decide, rfl⟩⟩
  clear hr hx hnil h
  go_enter Tryz.func8, Tryz.ntmps8
  go_wp2_with fail
  go_ret3
  exact HRES.out
 ·have hd0 : decide (most < 0) = false := by simp; omega
  by_cases h2 : len < 2
  ·have HRES : Hid (Y6d fr w xs most (.returned (.tuple #[.slice none 0 0, .int .i64 0, .int .i64 2])) w) := Lib.hid ⟨Below.refl _ _, .inr ⟨2, by unfold Y3j; rw [if_neg hneg, if_pos (by omega)], by decide, rfl⟩⟩
   have hd1 : (len : Int) < 2 := by omega
   clear hr hx hnil h
   go_enter Tryz.func8, Tryz.ntmps8
   go_wp2_with fail
   go_ret3
   exact HRES.out
  ·have hd1 : ¬ (len : Int) < 2 := by omega
   have hrow := hr
   have hsl : ∀ W, (Instr.slice 22 (.slice p len cap) (some (.int .i64 2)) none none).run Tryz.prog W = .ok (.slice (Ygg p cap 2) (len - 2) (cap - 2)) W := fun W => Yun W p len cap 2 (by omega)
   have hrt := Yum cap 2 hr (by omega)
   have htn := Yqz (a := 2) hnil
   have HR := Lib.hid hr
   obtain ⟨b, off, rfl, hbl, hcs⟩ := hrow (by omega)
   have c0 := hcs 0 (by omega)
   have c1 := hcs 1 (by omega)
   obtain ⟨x, hxx⟩ : ∃ x : Nat, x = (xs.getD 0 0).toNat := ⟨_, rfl⟩
   obtain ⟨y, hyy⟩ : ∃ x : Nat, x = (xs.getD 1 0).toNat := ⟨_, rfl⟩
   have hx0 : xs[0].toNat = x := by rw [hxx, List.getD_eq_getElem?_getD, List.getElem?_eq_getElem (by omega)]; rfl
   have hy0 : xs[1].toNat = y := by rw [hyy, List.getD_eq_getElem?_getD, List.getElem?_eq_getElem (by omega)]; rfl
   rw [hx0, Nat.add_zero] at c0
   rw [hy0] at c1
   have hx8 : x < 256 := by rw [hxx]; exact UInt8.toNat_lt _
   have hy8 : y < 256 := by rw [hyy]; exact UInt8.toNat_lt _
   have HH := Lib.hid (fun W => Ysx x y W hx8 hy8)
   obtain ⟨t, ht⟩ : ∃ t, t = Y4s x y := ⟨_, rfl⟩
   rw [← ht] at HH
   have HT := Lib.hid (show Y4s (xs.getD 0 0).toNat (xs.getD 1 0).toNat = t by rw [← hxx, ← hyy, ht])
   have HI := Lib.hid (fun W (hW : Row W (Ygg (some ⟨b, off, none⟩) cap 2) (xs.drop 2)) => h _ (cap - 2) W hW htn)
   have HRT := Lib.hid hrt
   have i1 : (1 : Int) < (len : Int) := by omega
   clear hr hx hnil h hcs hrt htn hx0 hy0 hxx hyy ht hbl
   cases t
   ·have HRES : Hid (∀ n, Y6d fr w xs most (.returned (.tuple #[.slice none 0 0, .int .i64 0, .int .i64 3])) (w.drewN n)) := Lib.hid fun n =>
     ⟨(show Drawn w (w.drewN n) from ⟨n, rfl⟩).below _, .inr ⟨3, by unfold Y3j; rw [if_neg hneg, if_neg (by rw [HX.out]; omega), if_pos HT.out], by decide, rfl⟩⟩
    go_enter Tryz.func8, Tryz.ntmps8
    go_wp2_with fail
    go_quiet (first | (go_at_call 13; exact quietly (HH.out _)))
    go_wp2_with fail
    go_ret3
    exact HRES.out _
   ·go_enter Tryz.func8, Tryz.ntmps8
    go_wp2_with fail
    go_quiet (first | (go_at_call 13; exact quietly (HH.out _)))
    obtain ⟨w1, hw1⟩ : ∃ w1, w1 = w.drewN nq := ⟨_, rfl⟩
    have hb1 : Below w.heap.size w w1 := (show Drawn w w1 from ⟨nq, hw1⟩).below _
    rw [← hw1]
    have HI1 := Lib.hid (HI.out w1 (HRT.out.below hb1))
    have HB1 := Lib.hid hb1
    clear hw1 hb1 hrow HH HI c0 c1 hx8 hy8
    go_wp2_with fail
    refine HI1.out.mono ?_
    rintro e w2 ⟨hb2, ⟨o, k, q, c, ho, rfl, hrq, hq, hoc, hcm, hkl, hfr⟩ | ⟨c, ho, hc0, rfl⟩⟩
    ·have HOK := Lib.hid (Yxd (by omega) (by rw [HX.out]; omega) HT.out ho)
     rw [List.length_drop, HX.out] at hkl
     have HB2 := Lib.hid (HB1.out.trans (hb2.mono HB1.out.size))
     have HRQ := Lib.hid hrq
     have HF := Lib.hid (And.intro hq (And.intro hoc hcm))
     have hcast : ((2 + k : Nat) : Int) = 2 + (k : Int) := by omega
     have hR2 := HR.out.below HB2.out
     have hkb : k ≤ 100000 := by omega
     by_cases hend : 2 + k + 4 ≤ len
     ·have hg := Ywh _ len cap (2 + k) xs w2 hR2 HX.out (by unfold maxLen; omega) hend
      rw [hcast] at hg
      have HG := Lib.hid hg
      have HS := Lib.hid (fun W (hW : Row W q o) => Adl.Yqs q o.length c o W hW rfl (by unfold maxLen at hcm ⊢; omega))
      obtain ⟨v, hv⟩ : ∃ v, v = Y2n ((xs.drop (2 + k)).take 4) := ⟨_, rfl⟩
      obtain ⟨s, hs⟩ : ∃ s, s = sumN o := ⟨_, rfl⟩
      have hsl := Ye0 o
      rw [← hv] at HG
      rw [← hs] at HS hsl
      by_cases hvs : v = s
      ·have HRES : Hid (∀ w3, Drawn w2 w3 → Y6d fr w xs most (.returned (.tuple #[.slice q o.length c, .int .i64 ((k + 6 : Nat) : Int), .int .i64 0])) w3) := Lib.hid fun w3 h3 =>
        ⟨HB2.out.trans (h3.below _), .inl ⟨o, k + 6, q, c, by rw [HOK.out, if_neg (by rw [HX.out]; omega), ← hv, ← hs, if_pos hvs], rfl, HRQ.out.below (h3.below _), hq, hoc, hcm, by rw [HX.out]; omega, fun h a ha => Nat.le_trans HB1.out.size (hfr h a ha)⟩⟩
       have hk6 : ((k + 6 : Nat) : Int) = 2 + (k : Int) + 4 := by omega
       rw [hk6] at HRES
       subst hvs
       clear hfr hcast hk6 hR2 ho hrq hq hoc hcm hb2 HI1 hg hv hs
       go_wp2_with fail
       refine HG.out.mono ?_
       rintro e w3 ⟨rfl, hd3⟩
       have HD3 := Lib.hid hd3
       have HSR := Lib.hid (HS.out w3 (HRQ.out.below (hd3.below _)))
       clear hd3 HS
       go_wp2_with fail
       refine HSR.out.mono ?_
       rintro e w4 ⟨rfl, rfl⟩
       go_wp2_with fail
       go_ret3
       exact HRES.out _ HD3.out
      ·have HRES : Hid (∀ w3, Drawn w2 w3 → Y6d fr w xs most (.returned (.tuple #[.slice none 0 0, .int .i64 0, .int .i64 4])) w3) := Lib.hid fun w3 h3 =>
        ⟨HB2.out.trans (h3.below _), .inr ⟨4, by rw [HOK.out, if_neg (by rw [HX.out]; omega), ← hv, ← hs, if_neg hvs], by decide, rfl⟩⟩
       have hne : ((v : Int) != (s : Int)) = true := by simp; omega
       clear hfr hcast hR2 ho hrq hq hoc hcm hb2 HI1 hg hv hs hvs
       go_wp2_with fail
       refine HG.out.mono ?_
       rintro e w3 ⟨rfl, hd3⟩
       have HD3 := Lib.hid hd3
       have HSR := Lib.hid (HS.out w3 (HRQ.out.below (hd3.below _)))
       clear hd3 HS
       go_wp2_with fail
       refine HSR.out.mono ?_
       rintro e w4 ⟨rfl, rfl⟩
       go_wp2_with fail
       go_ret3
       exact HRES.out _ HD3.out
     ·have hg := Yz3 _ len cap (2 + k) xs w2 hR2 HX.out (by unfold maxLen; omega) (by omega) hend
      rw [hcast] at hg
      have HG := Lib.hid hg
      have HRES : Hid (∀ w3, Drawn w2 w3 → Y6d fr w xs most (.returned (.tuple #[.slice none 0 0, .int .i64 0, .int .i64 2])) w3) := Lib.hid fun w3 h3 =>
       ⟨HB2.out.trans (h3.below _), .inr ⟨2, by rw [HOK.out, if_pos (by rw [HX.out]; omega)], by decide, rfl⟩⟩
      clear hfr hcast hR2 ho hrq hq hoc hcm hb2 HI1 hg
      go_wp2_with fail
      refine HG.out.mono ?_
      rintro e w3 ⟨rfl, hd3⟩
      have HD3 := Lib.hid hd3
      clear hd3
      go_wp2_with fail
      go_ret3
      exact HRES.out _ HD3.out
    ·have HRES : Hid (Y6d fr w xs most (.returned (.tuple #[.slice none 0 0, .int .i64 0, .int .i64 (c : Int)])) w2) := Lib.hid
      ⟨HB1.out.trans (hb2.mono HB1.out.size), .inr ⟨c, Ytl (by omega) (by rw [HX.out]; omega) HT.out ho, hc0, rfl⟩⟩
     have hcz : ((c : Int) != 0) = true := by simp; omega
     clear hc0 ho hb2 HI1
     go_wp2_with fail
     go_ret3
     exact HRES.out
end Go.Proofs.YtkkfkmoikcmhoaaGreat.Zl
namespace Go.Proofs.YtkkfkmoikcmhoaaGreat.Bit
open Oct
def chunk (l : List Bool) (i : Nat) : List Bool := (l.drop (8 * i) ++ zs 8).take 8
theorem Y5c (l : List Bool) (i : Nat) : (chunk l i).length = 8 := by simp [chunk, Y0g]
def Yh1 (low : Bool) (l : List Bool) (i : Nat) : UInt8 := UInt8.ofNat (Y38 low (chunk l i))
theorem Ypk (low : Bool) (l : List Bool) (h : l.length = 8) : Y38 low l < 256 := by
 have := Ydd low l
 rw [h] at this
 exact this
theorem Y4q (low : Bool) (l : List Bool) (i : Nat) : (Yh1 low l i).toNat = Y38 low (chunk l i) := by
 unfold Yh1
 have := Ypk low (chunk l i) (Y5c l i)
 rw [UInt8.toNat_ofNat']
 exact Nat.mod_eq_of_lt this
def Y0m (low : Bool) (l : List Bool) : List UInt8 := (List.range ((l.length + 7) / 8)).map (Yh1 low l)
theorem Y0a (low : Bool) (l : List Bool) : (Y0m low l).length = (l.length + 7) / 8 := by simp [Y0m]
theorem Y2c (low : Bool) (l : List Bool) (i : Nat) (h : i < (Y0m low l).length) : (Y0m low l)[i] = Yh1 low l i := by simp [Y0m]
theorem Yq0 (low : Bool) : Y0m low [] = [] := rfl
def Yn0 (used n : Nat) (m : List Bool) : List Bool := zs used ++ m ++ zs (8 * cnt used n - used - n)
theorem Ya5 (used n : Nat) (m : List Bool) (h : m.length = n) : (Yn0 used n m).length = 8 * cnt used n := by
 unfold Yn0 cnt; simp [Y0g, h]; omega
def grpN (low : Bool) (used n v : Nat) : Nat := v * 2 ^ gsh low used n (8 * cnt used n)
theorem You (low : Bool) (used n v : Nat) (h : v < 2 ^ n) : Y38 low (Yn0 used n (Y07 low v n)) = grpN low used n v := by
 unfold Yn0 grpN
 rw [Ybz]
 have e := Y1d low v n h
 cases low
 ·simp only [Y38, Bool.false_eq_true, if_false] at e
  simp only [gsh, Bool.false_eq_true, if_false]
  rw [Y7d, Y7d, e, Y0g]; simp
 ·simp only [Y38, if_true] at e
  simp only [gsh, if_true]
  rw [Y68, Y68, Y7d, Y7d, e, Y0g]; simp
theorem Ywj (low : Bool) (used n v : Nat) (h : v < 2 ^ n) (hn : n ≤ 32) (hu : used < 8) : grpN low used n v < 18446744073709551616 := by
 rw [← You low used n v h]
 have := Ydd low (Yn0 used n (Y07 low v n))
 rw [Ya5 _ _ _ (Y00 _ _ _)] at this
 refine Nat.lt_of_lt_of_le this ?_
 rw [show (18446744073709551616 : Nat) = 2 ^ 64 by decide]
 refine Nat.pow_le_pow_right (by omega) ?_
 unfold cnt; omega
def Yrq (low : Bool) (used n v i : Nat) : UInt8 := UInt8.ofNat (grpN low used n v / 2 ^ gsh low (8 * i) 8 (8 * cnt used n) % 256)
theorem Ybm (low : Bool) (used n v i : Nat) (h : v < 2 ^ n) (hi : i < cnt used n) :
  (Yrq low used n v i).toNat = Y38 low (((Yn0 used n (Y07 low v n)).drop (8 * i)).take 8) := by
 unfold Yrq
 have hl := Ya5 used n _ (Y00 low v n)
 have := Y4x low (Yn0 used n (Y07 low v n)) (8 * i) 8 (by omega)
 rw [hl, You low used n v h] at this
 rw [UInt8.toNat_ofNat', ← this]
 rw [show (2 ^ 8 : Nat) = 256 by decide]
 exact Nat.mod_eq_of_lt (Nat.mod_lt _ (by omega))
theorem Yis (l m : List Bool) (i : Nat) (h : 8 * i + 8 ≤ l.length) : chunk (l ++ m) i = chunk l i := by
 unfold chunk
 rw [List.drop_append_of_le_length (by omega), List.append_assoc]
 rw [List.take_append_of_le_length (by simp; omega), List.take_append_of_le_length (by simp; omega)]
theorem Yy5 (a : List Bool) (p : Nat) (hp : p ≤ 8) (h : 8 ≤ a.length + p) : (a ++ zs p).take 8 = (a ++ zs 8).take 8 := by
 rw [show zs 8 = zs p ++ zs (8 - p) by rw [Ycj]; congr 1; omega, ← List.append_assoc]
 rw [List.take_append_of_le_length (l₁ := a ++ zs p) (by simp [Y0g]; omega)]
theorem Ysb (l m : List Bool) (n j : Nat) (hm : m.length = n) (hu : l.length % 8 ≤ 8 * j) (hj : j < cnt (l.length % 8) n) :
  chunk (l ++ m) (l.length / 8 + j) = ((Yn0 (l.length % 8) n m).drop (8 * j)).take 8 := by
 unfold chunk Yn0
 unfold cnt at hj ⊢
 generalize hq : l.length / 8 = q at *
 generalize hr : l.length % 8 = r at *
 have hlen : l.length = 8 * q + r := by omega
 have e1 : (l ++ m).drop (8 * (q + j)) = m.drop (8 * j - r) := by
  rw [show 8 * (q + j) = l.length + (8 * j - r) by omega, List.drop_append]; simp
 have e2 : (zs r ++ m ++ zs (8 * ((r + n + 7) / 8) - r - n)).drop (8 * j) = m.drop (8 * j - r) ++ zs (8 * ((r + n + 7) / 8) - r - n) := by
  rw [List.append_assoc, show 8 * j = (zs r).length + (8 * j - r) by rw [Y0g]; omega, List.drop_append]
  simp only [Nat.add_sub_cancel_left]
  rw [List.drop_eq_nil_of_le (by omega), List.nil_append, Y0g, Nat.add_sub_cancel_left, List.drop_append_of_le_length (by omega)]
 rw [e1, e2]
 exact (Yy5 _ _ (by omega) (by simp; omega)).symm
theorem Ypl (low : Bool) (a b : List Bool) : Y38 low (a ++ b) = Y38 low (a ++ zs b.length) ||| Y38 low (zs a.length ++ b) := by
 cases low
 ·simp only [Y38, Bool.false_eq_true, if_false]
  rw [Y0v, Y0v, Y0v, Y7d, Y7d, Y0g]
  have := nat_join b.length (num a * 2 ^ b.length) (num b) (Nat.mul_mod_left _ _) (Y2b b)
  simp [this]
 ·simp only [Y38, if_true, List.reverse_append, Y68]
  rw [Y0v, Y0v, Y0v, Y7d, Y7d]
  simp only [List.length_reverse, Y0g]
  have := nat_join a.length (num b.reverse * 2 ^ a.length) (num a.reverse) (Nat.mul_mod_left _ _) (by have := Y2b a.reverse; rwa [List.length_reverse] at this)
  rw [Nat.or_comm]
  simp [this]
theorem Ysc (low : Bool) (l m : List Bool) (n : Nat) (hm : m.length = n) (hu : 0 < l.length % 8) :
  Y38 low (chunk (l ++ m) (l.length / 8)) = Y38 low (chunk l (l.length / 8)) ||| Y38 low (((Yn0 (l.length % 8) n m).drop (8 * 0)).take 8) := by
 obtain ⟨A, hA⟩ : ∃ A, A = l.drop (8 * (l.length / 8)) := ⟨_, rfl⟩
 have la : A.length = l.length % 8 := by subst hA; simp; omega
 have h8 : l.length % 8 < 8 := Nat.mod_lt _ (by omega)
 obtain ⟨B, hB⟩ : ∃ B, B = (m ++ zs 8).take (8 - A.length) := ⟨_, rfl⟩
 have lb : B.length = 8 - A.length := by subst hB; simp [Y0g]; omega
 have c1 : chunk (l ++ m) (l.length / 8) = A ++ B := by
  unfold chunk
  rw [List.drop_append_of_le_length (by omega), ← hA, List.append_assoc, List.take_append, List.take_of_length_le (by omega), ← hB]
 have c2 : chunk l (l.length / 8) = A ++ zs B.length := by
  unfold chunk
  rw [← hA, List.take_append, List.take_of_length_le (by omega), Yyg, lb, Nat.min_eq_left (by omega)]
 have c3 : ((Yn0 (l.length % 8) n m).drop (8 * 0)).take 8 = zs A.length ++ B := by
  unfold Yn0
  rw [Nat.mul_zero, List.drop_zero, List.append_assoc, List.take_append, Y0g, List.take_of_length_le (by rw [Y0g]; omega), la]
  congr 1
  rw [hB, la]
  have hp : 8 * cnt (l.length % 8) n - l.length % 8 - n ≤ 8 := by unfold cnt; omega
  have hq : 8 - l.length % 8 ≤ n + (8 * cnt (l.length % 8) n - l.length % 8 - n) := by unfold cnt; omega
  generalize 8 * cnt (l.length % 8) n - l.length % 8 - n = p at hp hq
  rw [show zs 8 = zs p ++ zs (8 - p) by rw [Ycj]; congr 1; omega, ← List.append_assoc]
  rw [List.take_append_of_le_length (l₁ := m ++ zs p) (by simp [Y0g]; omega)]
 rw [c1, c2, c3, Ypl]
def Y6i (low : Bool) (l m : List Bool) (i : Nat) : List UInt8 := if i = 0 then Y0m low l else (Y0m low (l ++ m)).take (l.length / 8 + i)
theorem Yl5 (low : Bool) (l m : List Bool) : Y6i low l m 0 = Y0m low l := rfl
theorem Yd2 (a n : Nat) : (a + n + 7) / 8 = a / 8 + cnt (a % 8) n := by unfold cnt; omega
theorem Yoa (low : Bool) (l m : List Bool) (n i : Nat) (hm : m.length = n) (hi : i ≤ cnt (l.length % 8) n) (h : 1 ≤ i ∨ l.length % 8 = 0) :
  (Y6i low l m i).length = l.length / 8 + i := by
 unfold Y6i
 split
 ·rw [Y0a]; omega
 ·rw [List.length_take, Y0a, List.length_append, hm, Yd2]; omega
theorem Yo9 (low : Bool) (l m : List Bool) (n : Nat) (hm : m.length = n) : Y6i low l m (cnt (l.length % 8) n) = Y0m low (l ++ m) := by
 unfold Y6i
 split
 ·next h =>
  have : n = 0 := by unfold cnt at h; omega
  have : m = [] := List.eq_nil_of_length_eq_zero (by omega)
  subst this
  simp
 ·rw [List.take_of_length_le]
  rw [Y0a, List.length_append, hm, Yd2]; omega
theorem Yob (low : Bool) (l : List Bool) (v n i : Nat) (hv : v < 2 ^ n) (hi : i < cnt (l.length % 8) n) (h : 1 ≤ i ∨ l.length % 8 = 0) :
  Y6i low l (Y07 low v n) i ++ [Yrq low (l.length % 8) n v i] = Y6i low l (Y07 low v n) (i + 1) := by
 have hm := Y00 low v n
 have hlen : (Y0m low (l ++ Y07 low v n)).length = l.length / 8 + cnt (l.length % 8) n := by rw [Y0a, List.length_append, hm, Yd2]
 have hlt : l.length / 8 + i < (Y0m low (l ++ Y07 low v n)).length := by omega
 have hb : (Y0m low (l ++ Y07 low v n))[l.length / 8 + i] = Yrq low (l.length % 8) n v i := by
  apply UInt8.toNat_inj.1
  rw [Y2c, Y4q, Ybm low _ n v i hv hi]
  congr 1
  exact Ysb l _ n i hm (by have : l.length % 8 < 8 := Nat.mod_lt _ (by omega)
                           omega) hi
 have hF : Y6i low l (Y07 low v n) i = (Y0m low (l ++ Y07 low v n)).take (l.length / 8 + i) := by
  unfold Y6i
  split
  ·next h0 =>
   subst h0
   have hr : l.length % 8 = 0 := by omega
   apply List.ext_getElem
   ·rw [Y0a, List.length_take]; omega
   ·intro k h1 h2
    rw [Y0a] at h1
    rw [Y2c, List.getElem_take, Y2c]
    unfold Yh1
    rw [Yis _ _ _ (by omega)]
  ·rfl
 rw [hF, ← hb]
 unfold Y6i
 rw [if_neg (by omega), ← Nat.add_assoc, List.take_succ_eq_append_getElem hlt]
theorem Ysp (low : Bool) (l : List Bool) (v n : Nat) (hv : v < 2 ^ n) (hu : 0 < l.length % 8) (hq : l.length / 8 < (Y0m low l).length) :
  (Y0m low l).set (l.length / 8) ((Y0m low l)[l.length / 8] ||| Yrq low (l.length % 8) n v 0) = Y6i low l (Y07 low v n) 1 := by
 have hm := Y00 low v n
 have hc : 0 < cnt (l.length % 8) n := by unfold cnt; omega
 have hl := Y0a low l
 have hlen : (Y0m low (l ++ Y07 low v n)).length = l.length / 8 + cnt (l.length % 8) n := by rw [Y0a, List.length_append, hm, Yd2]
 unfold Y6i
 rw [if_neg (by omega)]
 apply List.ext_getElem
 ·rw [List.length_set, List.length_take, hlen, hl]; omega
 ·intro k h1 h2
  rw [List.length_set, hl] at h1
  rw [List.getElem_set, List.getElem_take, Y2c low (l ++ _)]
  by_cases hk : l.length / 8 = k
  ·rw [if_pos hk]
   subst hk
   apply UInt8.toNat_inj.1
   rw [UInt8.toNat_or, Y2c low l, Y4q, Y4q, Ybm low _ n v 0 hv hc]
   exact (Ysc low l _ n hm hu).symm
  ·rw [if_neg hk, Y2c low l]
   unfold Yh1
   rw [Yis _ _ _ (by omega)]
theorem Yq1 (low : Bool) (l : List Bool) : Y0m low (l ++ zs (8 * ((l.length + 7) / 8) - l.length)) = Y0m low l := by
 apply List.ext_getElem
 ·rw [Y0a, Y0a, List.length_append, Y0g]; omega
 ·intro k h1 h2
  rw [Y0a] at h2
  rw [Y2c, Y2c]
  unfold Yh1
  congr 2
  unfold chunk
  rw [List.drop_append_of_le_length (by omega), List.append_assoc, Ycj]
  rw [show zs (8 * ((l.length + 7) / 8) - l.length + 8) = zs 8 ++ zs (8 * ((l.length + 7) / 8) - l.length) by rw [Ycj]; congr 1; omega, ← List.append_assoc]
  rw [List.take_append_of_le_length (l₁ := l.drop (8 * k) ++ zs 8) (by simp [Y0g])]
theorem Y2x (low : Bool) (l : List Bool) : Y01 low (Y0m low l) = l ++ zs (8 * ((l.length + 7) / 8) - l.length) := by
 have hl := Y0a low l
 apply List.ext_getElem
 ·rw [Y04, hl, List.length_append, Y0g]; omega
 ·intro k h1 h2
  rw [Y04] at h1
  have hk : k / 8 < (Y0m low l).length := by omega
  have e : (Y01 low (Y0m low l)).drop (8 * (k / 8)) = Y8y low (Y0m low l)[k / 8] ++ Y01 low ((Y0m low l).drop (k / 8 + 1)) := by
   rw [← Y9k, List.drop_eq_getElem_cons hk, Y1a]
  have e2 : Y8y low (Y0m low l)[k / 8] = chunk l (k / 8) := by
   unfold Y8y
   rw [Y2c, Y4q]
   have := Y8n low (chunk l (k / 8))
   rwa [Y5c] at this
  have e3 : (Y01 low (Y0m low l))[k]? = (chunk l (k / 8))[k % 8]? := by
   have h3 : ((Y01 low (Y0m low l)).drop (8 * (k / 8)))[k % 8]? = (Y01 low (Y0m low l))[k]? := by
    rw [List.getElem?_drop]; congr 1; omega
   rw [← h3, e, e2, List.getElem?_append_left (by rw [Y5c]; omega)]
  have e4 : (chunk l (k / 8))[k % 8]? = (l ++ zs (8 * ((l.length + 7) / 8) - l.length))[k]? := by
   unfold chunk
   rw [List.getElem?_take_of_lt (by omega)]
   rcases Nat.lt_or_ge k l.length with hlt | hge
   ·rw [List.getElem?_append_left (by simp; omega), List.getElem?_append_left hlt, List.getElem?_drop]; congr 1; omega
   ·rw [List.getElem?_append_right (by simp; omega), List.getElem?_append_right hge]
    unfold zs
    rw [List.getElem?_replicate, List.getElem?_replicate, if_pos (by simp; omega), if_pos (by omega)]
  rw [e4, List.getElem?_eq_getElem (by rw [Y04]; omega), List.getElem?_eq_getElem h2] at e3
  exact Option.some.inj e3
end Go.Proofs.YtkkfkmoikcmhoaaGreat.Bit
namespace Go.Proofs.YtkkfkmoikcmhoaaGreat.Inf
open Bit Hf
theorem Y0f {L x r : List Bool} {a : Nat} (h : L.drop a = x ++ r) : L.drop (a + x.length) = r := by
 rw [← List.drop_drop, h]
 simp
theorem Y0o {L x r : List Bool} {a : Nat} (h : L.drop a = x ++ r) (ha : a ≤ L.length) : a + x.length ≤ L.length := by
 have := congrArg List.length h
 simp at this
 omega
theorem Yfp {L r : List Bool} {a n k : Nat} (h : L.drop a = Y07 true n k ++ r) (ha : a ≤ L.length) (hn : n < 2 ^ k) : Y36 L a k = .ok (n, a + k) := by
 have h1 := Y0o h ha
 rw [Y00] at h1
 unfold Y36
 rw [if_pos h1, h, List.take_left' (Y00 _ _ _), Y1d true n k hn]
def Fre (W : List (List Bool)) (i : Nat) : Prop := W.getD i [] ≠ [] ∧ ∀ j v, W[j]? = some v → v <+: W.getD i [] → v ≠ [] → j = i
theorem Y4e {α : Type} {W : List α} {i : Nat} {d w : α} (h : W.getD i d = w) (hd : w ≠ d) : W[i]? = some w := by
 rw [List.getD_eq_getElem?_getD] at h
 cases hx : W[i]? with
 | none => rw [hx] at h; exact absurd h.symm hd
 | some x => rw [hx] at h; exact congrArg some h
theorem Yja (W : List (List Bool)) (i : Nat) (rest : List Bool) (h : Fre W i) : ∀ (q p : List Bool), W.getD i [] = p ++ q → q ≠ [] → Y1i W p (q ++ rest) = .ok (i, (W.getD i []).length)
 | [], p, hw, hq => absurd rfl hq
 | b :: t, p, hw, hq => by
  obtain ⟨h0, h1⟩ := h
  have hs := Y4e rfl h0
  rw [List.cons_append, Y1i]
  by_cases ht : t = []
  ·subst ht
   have hm : p ++ [b] ∈ W := hw ▸ List.mem_of_getElem? hs
   rw [if_pos hm]
   have hl := List.idxOf_lt_length_of_mem hm
   have hj : W.idxOf (p ++ [b]) = i := h1 _ (p ++ [b]) (by rw [List.getElem?_eq_getElem hl, List.getElem_idxOf]) (by rw [hw]; exact List.prefix_refl _) (by simp)
   rw [hj, hw]
   simp
  ·have hp : p ++ [b] <+: W.getD i [] := ⟨t, by rw [hw]; simp⟩
   have hm : p ++ [b] ∉ W := by
    intro hm
    obtain ⟨j, hj⟩ := List.mem_iff_getElem?.1 hm
    have := h1 j _ hj hp (by simp)
    subst this
    rw [hs, hw] at hj
    have := congrArg (fun x => (x.getD []).length) hj
    simp at this
    exact ht this
   rw [if_neg hm, if_pos]
   ·exact Yja W i rest ⟨h0, h1⟩ t (p ++ [b]) (by rw [hw]; simp) ht
   ·rw [List.any_eq_true]
    exact ⟨_, List.mem_of_getElem? hs, by
     rw [Bool.and_eq_true]
     exact ⟨by simpa using h0, List.isPrefixOf_iff_prefix.2 hp⟩⟩
theorem Yah {W : List (List Bool)} {L r : List Bool} {a i : Nat} (hf : Fre W i) (h : L.drop a = W.getD i [] ++ r) : Y1r W L a = .ok (i, a + (W.getD i []).length) := by
 unfold Y1r
 have e := Yja W i r hf (W.getD i []) [] (List.nil_append _).symm hf.1
 rw [h, e]
theorem Yem (L : List Nat) (hL : ∀ n ∈ L, 1 ≤ n ∧ n ≤ 30) (hT : startN L 31 ≤ 1073741824) (i : Nat) (hi : i < L.length) : Fre (Y03 L) i := by
 have hi' : i < (Y03 L).length := by rw [Y0e]; exact hi
 have hg : (Y03 L).getD i [] = (Y03 L)[i] := by rw [List.getD_eq_getElem?_getD, List.getElem?_eq_getElem hi']; rfl
 have hl := Y4b L i hi' hi
 have h30 : ∀ j (h : j < L.length), L[j] ≤ 30 := fun j h => (hL _ (List.getElem_mem h)).2
 have h1 : ∀ j (h : j < L.length), 1 ≤ L[j] := fun j h => (hL _ (List.getElem_mem h)).1
 refine ⟨?_, fun j v hj hp hv => ?_⟩
 ·rw [hg]
  intro e
  rw [e] at hl
  have := h1 i hi
  simp at hl
  omega
 ·obtain ⟨hj1, hj2⟩ := List.getElem?_eq_some_iff.1 hj
  have hj3 : j < L.length := by rw [Y0e] at hj1; exact hj1
  refine Classical.byContradiction fun hne => ?_
  refine Y80 L h30 hT j i hj3 hi hne (by have := h1 j hj3; omega) ?_
  rw [← Y2m L j hj1 hj3, ← Y2m L i hi' hi, hj2, ← hg]
  exact hp
def Y3h (F : List Nat) (n : Nat) : Nat → Nat
 | 0 => 0
 | i + 1 => if n < F.getD (i + 1) 0 then Y3h F n i else i + 1
theorem Y79 (F : List Nat) (n : Nat) : ∀ k, Y3h F n k ≤ k
 | 0 => Nat.le_refl _
 | i + 1 => by
  rw [Y3h]
  split
  ·have := Y79 F n i; omega
  ·omega
theorem Ybt (F : List Nat) (n : Nat) (h : F.getD 0 0 ≤ n) : ∀ k, F.getD (Y3h F n k) 0 ≤ n
 | 0 => h
 | i + 1 => by
  rw [Y3h]
  split
  ·exact Ybt F n h i
  ·omega
theorem Yaa (F : List Nat) (n : Nat) : ∀ k, Y3h F n k < k → n < F.getD (Y3h F n k + 1) 0
 | 0, h => by omega
 | i + 1, h => by
  rw [Y3h] at h ⊢
  split
  ·rename_i hc
   have := Y79 F n i
   by_cases hk : Y3h F n i < i
   ·exact Yaa F n i hk
   ·have e : Y3h F n i = i := by omega
    rw [e]; exact hc
  ·rename_i hc
   rw [if_neg hc] at h
   omega
def placeN (far : Bool) (n : Nat) : Nat := Y3h (froms far) n ((froms far).length - 1)
def Y4w (far : Bool) (n : Nat) : List Bool := Y07 true (n - (froms far).getD (placeN far n) 0) ((extras far).getD (placeN far n) 0)
def most1 (far : Bool) : Nat := if far then 32768 else 258
def least1 (far : Bool) : Nat := if far then 1 else 3
theorem Y16 (far : Bool) (n : Nat) : placeN far n < (froms far).length := by
 have := Y79 (froms far) n ((froms far).length - 1)
 have h : 0 < (froms far).length := by cases far <;> decide
 unfold placeN
 omega
theorem Yu9 : ∀ far : Bool, ∀ i, i < (froms far).length - 1 → (froms far).getD (i + 1) 0 ≤ (froms far).getD i 0 + 2 ^ (extras far).getD i 0 := by decide +kernel
theorem Yws : ∀ far : Bool, most1 far < (froms far).getD ((froms far).length - 1) 0 + 2 ^ (extras far).getD ((froms far).length - 1) 0 := by decide +kernel
theorem Yat (far : Bool) (n : Nat) (h : least1 far ≤ n) : (froms far).getD (placeN far n) 0 ≤ n :=
 Ybt _ n (by cases far <;> exact h) _
theorem Y8b (far : Bool) (n : Nat) (h0 : least1 far ≤ n) (h : n ≤ most1 far) : n - (froms far).getD (placeN far n) 0 < 2 ^ (extras far).getD (placeN far n) 0 := by
 have hl := Yat far n h0
 have hp := Y79 (froms far) n ((froms far).length - 1)
 have hh := Yaa (froms far) n ((froms far).length - 1)
 change placeN far n ≤ _ at hp
 change placeN far n < _ → n < (froms far).getD (placeN far n + 1) 0 at hh
 generalize placeN far n = i at *
 by_cases hi : i < (froms far).length - 1
 ·have := hh hi
  have := Yu9 far i hi
  omega
 ·have e : i = (froms far).length - 1 := by omega
  subst e
  have := Yws far
  omega
theorem Yfq {far : Bool} {L r : List Bool} {a n : Nat} (h0 : least1 far ≤ n) (h1 : n ≤ most1 far) (h : L.drop a = Y4w far n ++ r) (ha : a ≤ L.length) : Y1x far L (placeN far n) a = .ok (n, a + (Y4w far n).length) := by
 unfold Y1x
 rw [if_pos (Y16 far n), Yfp h ha (Y8b far n h0 h1), R.then_ok, Y4w, Y00]
 have := Yat far n h0
 rw [show (froms far).getD (placeN far n) 0 + (n - (froms far).getD (placeN far n) 0) = n from by omega]
structure Tok where
 lit : UInt8
 len : Int
 dist : Int
def Y2d (lim : Nat) : List Tok → List UInt8 → Option (List UInt8)
 | [], out => some out
 | t :: l, out => if t.len = 0 then Y2d lim l (out ++ [t.lit])
   else if t.len < 3 ∨ 258 < t.len ∨ t.dist < 1 ∨ (out.length : Int) < t.dist ∨ 32768 < t.dist ∨ lim < out.length then none
   else Y2d lim l (Y2g out t.dist.toNat t.len.toNat)
def Yec (A B : List (List Bool)) (t : Tok) : List Bool :=
 if t.len = 0 then A.getD t.lit.toNat []
 else A.getD (257 + placeN false t.len.toNat) [] ++ (Y4w false t.len.toNat ++ (B.getD (placeN true t.dist.toNat) [] ++ Y4w true t.dist.toNat))
def Y1y (A B : List (List Bool)) : List Tok → List Bool
 | [] => A.getD 256 []
 | t :: l => Yec A B t ++ Y1y A B l
theorem Y2q {lim : Nat} : ∀ (l : List Tok) (out o : List UInt8), Y2d lim l out = some o → out.length ≤ o.length
 | [], out, o, h => by cases h; exact Nat.le_refl _
 | t :: l, out, o, h => by
  rw [Y2d] at h
  split at h
  ·have := Y2q l _ o h
   simp at this
   omega
  ·split at h
   ·cases h
   ·have := Y2q l _ o h
    rw [Y19] at this
    omega
theorem Ya2 : (∀ n ∈ Y0l, 1 ≤ n ∧ n ≤ 30) ∧ startN Y0l 31 = 1073741824 ∧ Y0l.length = 288 := by decide +kernel
theorem Ya3 : (∀ n ∈ Y0s, 1 ≤ n ∧ n ≤ 30) ∧ startN Y0s 31 ≤ 1073741824 ∧ Y0s.length = 30 := by decide +kernel
theorem Yyk (i : Nat) (h : i < 288) : Fre (Y03 Y0l) i := Yem _ Ya2.1 (Nat.le_of_eq Ya2.2.1) i (by rw [Ya2.2.2]; exact h)
theorem freB (i : Nat) (h : i < 30) : Fre (Y03 Y0s) i := Yem _ Ya3.1 Ya3.2.1 i (by rw [Ya3.2.2]; exact h)
end Go.Proofs.YtkkfkmoikcmhoaaGreat.Inf
namespace Go.Proofs.YtkkfkmoikcmhoaaGreat.Inf
open Bit Hf Oct
theorem Yiq {L r : List Bool} {most : Nat} : ∀ (ys : List UInt8) (a : Nat) (out : List UInt8), L.drop a = Y01 true ys ++ r → a ≤ L.length → out.length + ys.length ≤ most →
  Y4a L most ys.length a out = .ok (out ++ ys, a + 8 * ys.length)
 | [], a, out, h, ha, hm => by simp [Y4a]
 | y :: ys, a, out, h, ha, hm => by
  rw [Y1a, List.append_assoc] at h
  have hle := Y0o h ha
  have hd := Y0f h
  rw [Y22] at hle hd
  simp at hm
  rw [List.length_cons, Y4a, Yfp h ha y.toNat_lt, R.then_ok, if_neg (by omega), UInt8.ofNat_toNat, Yiq ys _ _ hd hle (by simp; omega)]
  simp
  omega
theorem Yzk {L r : List Bool} {at_ n m : Nat} (h : L.drop ((at_ + 7) / 8 * 8) = Y07 true n 16 ++ (Y07 true m 16 ++ r)) (ha : (at_ + 7) / 8 * 8 ≤ L.length) (hn : n < 65536) (hm : m < 65536) :
  Yvi L at_ = .ok ((n, m), (at_ + 7) / 8 * 8 + 32) := by
 have h1 := Y0o h ha
 have d1 := Y0f h
 have h2 := Y0o d1 h1
 rw [Y00] at h1 d1
 rw [Y00, Y00] at h2
 unfold Yvi
 rw [if_pos (by omega), h, List.take_left' (Y00 _ _ _), d1, List.take_left' (Y00 _ _ _), Y1d true n 16 (by omega), Y1d true m 16 (by omega)]
theorem word16 (n : Nat) (h : n < 65536) : Y01 true [UInt8.ofNat n, UInt8.ofNat (n / 256)] = Y07 true n 16 := by
 apply Ytg true
 ·rw [Y04, Y00]; rfl
 ·rw [Yaj, Y1d true n 16 (by omega)]
  simp [numOf, Y2n]
  omega
end Go.Proofs.YtkkfkmoikcmhoaaGreat.Inf

/- ZlE, ZlP, ZlN, DgE, DgJ, ZlF: merged. -/
import Derived.StillTailTactics
import Derived.Test.YtkkfkmoikcmhoaaGreatPaa
import Derived.Test.YtkkfkmoikcmhoaaGreatPag
import Derived.Test.YtkkfkmoikcmhoaaGreatPai
import Derived.Test.YtkkfkmoikcmhoaaGreatPbd
import Derived.Test.YtkkfkmoikcmhoaaGreatPbe
import Derived.Test.YtkkfkmoikcmhoaaGreatPbi
set_option linter.unusedVariables false
set_option linter.unusedSimpArgs false
namespace Go.Proofs.YtkkfkmoikcmhoaaGreat.Zl
open Go.RowKit Oct
set_option maxRecDepth 100000
theorem def_g {w w' : World} {xs : List UInt8} {how : Int} {e : Ending} (h : Df.DefP w xs how e w') : DefG Df.DefX w xs how e w' := by
 obtain ⟨hb, h | ⟨k, ys, q, c, h1, h2, h3, h4, h5, h6, h7, h8, _⟩⟩ := h
 ·exact ⟨hb, .inl h⟩
 ·exact ⟨hb, .inr ⟨k, ys, q, c, h1, h2, h3, h3.len, h4, h5, h6, h7, h8⟩⟩
theorem Yk3 (p : Option Addr) (len cap : Nat) (xs : List UInt8) (how : Int) (W : World) (hr : Row W p xs) (hx : xs.length = len) (hc : len ≤ cap) (hc2 : cap ≤ maxLen) (hl : len ≤ 3000) :
  Calls Tryz.prog 10 #[.slice p len cap, .int .i64 how] W (Y9r Df.DefX W xs how) :=
 Yyz Df.DefX W p len cap xs how hr hx (by omega) ((Df.Yhi W p len cap xs how hr hx hc hc2 ⟨by omega, fun _ => .inl (by omega)⟩).mono fun e w' h => def_g h)
theorem Yz6 (W : World) : Row W none [] := fun h => absurd h (by simp)
theorem Yqy (W : World) : Calls Tryz.prog 10 #[.slice none 0 0, .int .i64 0] W (Y9r Df.DefX W [] 0) :=
 Yk3 none 0 0 [] 0 W (Yz6 W) rfl (Nat.le_refl _) (by simp [maxLen]) (by omega)
theorem Yon (ys : List UInt8) (h : Df.DefX [] 0 ys) : ys = [1, 0, 0, 255, 255] := by rw [h.sto rfl, Yki]
theorem X0l {w w' : World} {xs : List UInt8} {M : Nat} {e : Ending} (h : InfS.Ywq w xs (M : Int) e w') : InfG false w xs M e w' := by
 have hz : InfS.Y9b xs (M : Int) = Inf.inflate xs M := by unfold InfS.Y9b; rw [if_neg (by omega), Int.toNat_natCast]
 unfold InfS.Ywq at h
 rw [hz] at h
 obtain ⟨hb, ⟨o, k, q, c, h1, h2, h3, h4, h5, h6, h7⟩ | h⟩ := h
 ·exact ⟨hb, .inl ⟨o, k, q, c, h1, h2, h3, h4, h5, h6, h7, fun h => by cases h⟩⟩
 ·exact ⟨hb, .inr h⟩
theorem Ytd : Inf.Y1k (Bit.Y02 true [1, 0, 0, 255, 255, 0, 0, 0, 1]) 0 3 = .ok (1, 3) := by
 unfold Inf.Y1k
 rw [if_pos (by decide)]
 rfl
theorem Yuy (W : World) (g c : Nat) (hr : Row W (some ⟨g, 0, none⟩) [120, 1, 1, 0, 0, 255, 255, 0, 0, 0, 1]) (hc : 11 ≤ c) :
  Calls Tryz.prog 8 #[.slice (some ⟨g, 0, none⟩) 11 c, .int .i64 0] W (Y9q false W [120, 1, 1, 0, 0, 255, 255, 0, 0, 0, 1] 0) :=
 Yyq false (some ⟨g, 0, none⟩) 11 c _ 0 W hr rfl hc (fun h => by cases h) (by omega) (by omega) fun q c V hV hq => (InfS.Yhv q 9 c [1, 0, 0, 255, 255, 0, 0, 0, 1] 0 V hV rfl hq (by omega) (by omega) Ytd).mono fun e w' h => X0l (M := 0) h
theorem Yuk (w : World) : Calls Tryz.prog 7 #[] w (X0d w) :=
 Yuj false Df.DefX w Yon Yqy Yuy
end Go.Proofs.YtkkfkmoikcmhoaaGreat.Zl
namespace Go.Proofs.YtkkfkmoikcmhoaaGreat.Zl
open Go.RowKit Oct
open Adl (sumN Beg Beg.of)
set_option maxRecDepth 100000
theorem Yv3 (W : World) (p : Option Addr) (len cap a b : Nat) (h : a ≤ b) (h2 : b ≤ cap) :
  (Instr.slice 22 (.slice p len cap) (some (.int .i64 (a : Int))) (some (.int .i64 (b : Int))) none).run Tryz.prog W = .ok (.slice (Y9d p cap a) (b - a) (cap - a)) W := by
 have ht' : Tryz.prog.underlying 22 = some (.slice (Tryz.prog.elem 22)) := by kernel_rfl
 have he : Tryz.prog.elem 22 = 5 := by kernel_rfl
 have hz : (Go.sizeOf 5).run Tryz.prog W = .ok 1 W := by
  obtain ⟨i, hi, hs⟩ := Option.map_eq_some_iff.1 Tryz.sizeByte
  simp [Go.sizeOf, typeInfo, hi, hs]
 rw [run_slice_lh W 22 p len cap ht' .i64 .i64 _ _ (by omega) (by omega) (by omega), he, hz]
 unfold Y9d
 simp [Result.andThen, sliced]
set_option maxHeartbeats 8000000 in
theorem Ydv (X : List UInt8 → Nat → List UInt8 → Prop) (HLV : ∀ W, Calls Tryz.prog 7 #[] W (X0d W))
  (HPK : ∀ (p : Option Addr) (len cap : Nat) (xs : List UInt8) (how : Int) (W : World), Row W p xs → xs.length = len → len ≤ cap → cap ≤ maxLen → len ≤ 800 → Calls Tryz.prog 10 #[.slice p len cap, .int .i64 how] W (Y9r X W xs how))
  (HX : ∀ (xs ys : List UInt8) (k : Nat), X xs k ys → xs.length ≤ 800 → 0 < ys.length ∧ ys.length ≤ 3000)
  (HRT : ∀ (xs ys : List UInt8) (k : Nat) (W : World), X xs k ys → xs.length ≤ 800 → Calls Tryz.prog 12 #[.string (bs ys), .string (bs xs), .int .i64 (k : Int)] W fun e w' => e = .returned (.bool true) ∧ Below W.heap.size W w')
  (p : Option Addr) (len cap : Nat) (zs : List Int) (how : Int) (w : World) (hr0 : Ynn .u8 w p len cap zs) (hw0 : (Lit.int .i64 how).wf = true) :
  Calls Tryz.prog 4 #[.slice p len cap, .int .i64 how] w fun e w' => e = .returned (.bool true) ∧ Below w.heap.size w w' := by
 have HLV := Lib.hid HLV
 obtain ⟨xs, hx, hr, hlc, hcm, hnil⟩ := hr0.row
 clear hr0
 have hcm2 := hcm
 unfold maxLen at hcm
 obtain ⟨hwl, hwu⟩ := bounds_i64 hw0
 clear hw0
 by_cases hbig : 800 < len
 ·have hd : decide (800 < (len : Int)) = true := by simp; omega
  clear hr hx hnil HPK HRT HX
  go_enter Tryz.func4, Tryz.ntmps4
  go_wp2_with fail
  refine (HLV.out w).mono ?_
  rintro e w1 ⟨rfl, hb1⟩
  go_wp2_with fail
  refine (HLV.out w1).mono ?_
  rintro e w2 ⟨rfl, hb2⟩
  go_wp2_with fail
  go_ret
  exact ⟨rfl, hb1.trans (hb2.mono hb1.size)⟩
 ·have hd : decide (800 < (len : Int)) = false := by simp; omega
  have HXL := Lib.hid hx
  have HR := Lib.hid hr
  have HP := Lib.hid (fun W (hb : Below w.heap.size w W) => HPK p len cap xs how W (hr.below hb) hx hlc hcm2 (by omega))
  have HXX := Lib.hid (And.intro HX HRT)
  clear hx hr HPK HRT HX hcm2
  go_enter Tryz.func4, Tryz.ntmps4
  go_wp2_with fail
  refine (HLV.out w).mono ?_
  rintro e w1 ⟨rfl, hb1⟩
  have HB1 := Lib.hid hb1
  have HPP := Lib.hid (HP.out w1 hb1)
  clear hb1 HP
  go_wp2_with fail
  refine HPP.out.mono ?_
  rintro e w2 ⟨hb2, ⟨hbad, rfl⟩ | ⟨k, ys, g, c, N, hk, hk2, hX, hN, rfl, hbeg, h1, h2, _⟩⟩
  ·have HB2 := Lib.hid (HB1.out.trans (hb2.mono HB1.out.size))
   clear hb2 HPP
   by_cases hneg : how < 0
   ·have q0 : decide (how < 0) = true := by simpa using hneg
    go_wp2_with fail
    go_ret
    exact ⟨rfl, HB2.out⟩
   ·have q0 : decide (how < 0) = false := by simp; omega
    have q1 : decide (2 < how) = true := by simp; omega
    go_wp2_with fail
    go_ret
    exact ⟨rfl, HB2.out⟩
  ·subst hk
   have q0 : decide ((k : Int) < 0) = false := by simp
   have q1 : decide (2 < (k : Int)) = false := by simp; omega
   have hxl : xs.length ≤ 800 := by rw [HXL.out]; omega
   obtain ⟨hy0, hy3⟩ := HXX.out.1 xs ys k hX hxl
   have HB2 := Lib.hid (HB1.out.trans (hb2.mono HB1.out.size))
   have HRI := Lib.hid (fun W => HXX.out.2 xs ys k W hX hxl)
   have HWR := Lib.hid (fun W => Yrg ys xs W (by omega) (by omega))
   have hN3 : N ≤ 4000 := by omega
   have hN7 : ¬ (N : Int) < 7 := by omega
   have hc4 : ((N - 4 : Nat) : Int) = (N : Int) - 4 := by omega
   have hpart : ∀ W, (Instr.slice 22 (.slice (some ⟨g, 0, none⟩) N c) (some (.int .i64 2)) (some (.int .i64 ((N : Int) - 4))) none).run Tryz.prog W = .ok (.slice (Y9d (some ⟨g, 0, none⟩) c 2) (N - 4 - 2) (c - 2)) W := fun W => by
    rw [← hc4]
    exact Yv3 W (some ⟨g, 0, none⟩) N c 2 (N - 4) (by omega) (by omega)
   have hrow := hbeg.row
   have hwl2 : (Y40 ys xs).length = N := by rw [Y4i, hN]
   have htake : ((Y40 ys xs).drop 2).take (N - 4 - 2) = ys := by
    have : (Y40 ys xs).drop 2 = ys ++ be4 (sumN xs) := rfl
    rw [this, show N - 4 - 2 = ys.length from by omega, List.take_left']
    rfl
   have hrp : Row w2 (Y9d (some ⟨g, 0, none⟩) c 2) ys := by
    have := Yvl (Ykq c 2 hrow (by omega)) (N - 4 - 2)
    rwa [htake] at this
   have cp := Y31 (N - 4 - 2) (c - 2) hrp (by omega)
   have HKP : Hid (∀ V, Below w2.heap.size w2 V → (convert 22 9 (.slice (some ⟨g, 0, none⟩) N c)).run Tryz.prog V = .ok (.string (bs (Y40 ys xs))) V ∧ (convert 22 9 (.slice p len cap)).run Tryz.prog V = .ok (.string (bs xs)) V) := Lib.hid fun V hV =>
    ⟨Y31 N c (hrow.below hV) hwl2, Y31 len cap (HR.out.below (HB2.out.trans (hV.mono HB2.out.size))) HXL.out⟩
   obtain ⟨ca, cb⟩ := HKP.out w2 (Below.refl _ _)
   have hbd : Below w2.heap.size w2 w2.drew := (show Drawn w2 w2.drew from ⟨1, rfl⟩).below _
   have HBD := Lib.hid hbd
   obtain ⟨S, hS⟩ : ∃ S, S = bs (Y40 ys xs) := ⟨_, rfl⟩
   obtain ⟨Y, hY⟩ : ∃ S, S = bs ys := ⟨_, rfl⟩
   obtain ⟨T, hT⟩ : ∃ S, S = bs xs := ⟨_, rfl⟩
   have h120 : bs [120, 1] = { data := #[120, 1] } := rfl
   rw [h120, ← hS, ← hY, ← hT] at HWR
   rw [← hY, ← hT] at HRI
   rw [← hS, ← hT] at HKP
   rw [← hS] at ca
   rw [← hT] at cb
   rw [← hY] at cp
   clear hb2 hX hrow hrp htake hwl2 hbeg HPP hbd hN hS hY hT h120 hxl HXX
   go_wp2_with fail
   go_region_held3 (fun V => (convert 22 9 (.slice (some ⟨g, 0, none⟩) N c)).run Tryz.prog V = .ok (.string S) V ∧ (convert 22 9 (.slice p len cap)).run Tryz.prog V = .ok (.string T) V) (first | exact ⟨ca, cb⟩ | exact HKP.out _ HBD.out | exact HKP.out _ HB3.out | exact HKP.out _ HB4.out) (first
    | (go_at_call 11; refine (HWR.out _).mono ?_; rintro e w3 ⟨rfl, hb3⟩; have HB3 := Lib.hid (HBD.out.trans hb3); clear hb3)
    | (go_at_call 12; refine (HRI.out _).mono ?_; rintro e w4 ⟨rfl, hb4⟩; have HB4 := Lib.hid (HB3.out.trans (hb4.mono HB3.out.size)); clear hb4))
   all_goals
    go_wp2_with fail
    go_ret
    exact ⟨rfl, HB2.out.trans (HB4.out.mono HB2.out.size)⟩
end Go.Proofs.YtkkfkmoikcmhoaaGreat.Zl
namespace Go.Proofs.YtkkfkmoikcmhoaaGreat.Zl
open Bit Hf Inf
set_option maxRecDepth 100000
theorem Yq1 (W : List (List Bool)) (n : Nat) (hW : ∀ w ∈ W, n ≤ w.length) : ∀ (l p : List Bool) (i k : Nat), Y24 W p l = .ok (i, k) → n ≤ k := by
 intro l
 induction l with
 | nil => intro p i k h; cases h
 | cons b t ih =>
  intro p i k h
  rw [Y24] at h
  split at h
  ·rename_i hm
   cases h
   have := hW _ hm
   simpa using this
  ·split at h
   ·exact ih _ i k h
   ·cases h
theorem Ylq : ∀ w ∈ Y04 Y0l, 7 ≤ w.length := by decide +kernel
theorem Yq9 {L : List Bool} {a b v : Nat} (h : Y1p (Y04 Y0l) L a = .ok (v, b)) : a + 7 ≤ b := by
 unfold Y1p at h
 cases hx : Y24 (Y04 Y0l) [] (L.drop a) with
 | error e => rw [hx] at h; cases h
 | ok x =>
  obtain ⟨i, k⟩ := x
  rw [hx] at h
  cases h
  have := Yq1 _ 7 Ylq _ _ _ _ hx
  omega
theorem Yql (L : List Bool) (most h : Nat) (hL : L.length ≤ 8) (h3 : 3 ≤ L.length) : ∃ e, Yce L most h 3 [] = .error e := by
 unfold Yce
 split
 ·refine ⟨2, ?_⟩
  unfold Y25 Yt4
  rw [if_neg (by omega)]
  rfl
 ·split
  ·rw [Y5s _ _ L most 3 [] h3]
   cases hn : Y1p (Y04 Y0l) L 3 with
   | error e => exact ⟨e, rfl⟩
   | ok x =>
    obtain ⟨v, b⟩ := x
    have h1 := Yq9 hn
    have h2 := (Y45 (Y04 Y0l) 3).le h3 hn
    omega
  ·split
   ·refine ⟨2, ?_⟩
    unfold Ygr Y6e
    rw [if_neg (by omega)]
    rfl
   ·exact ⟨3, rfl⟩
theorem Yy1 {ys xs : List UInt8} {most k : Nat} (h : inflate ys most = .ok (xs, k)) : 2 ≤ ys.length := by
 rcases Nat.lt_or_ge ys.length 2 with hl | hl
 ·exfalso
  rw [Y3k] at h
  have hL : (Y02 true ys).length ≤ 8 := by rw [Y03]; omega
  generalize Y02 true ys = L at h hL
  rw [Y9k L most 0 [] (Nat.zero_le _)] at h
  by_cases h3 : 3 ≤ L.length
  ·have hn : Y1k L 0 3 = .ok (Y2o true ((L.drop 0).take 3), 3) := by
    unfold Y1k
    rw [if_pos (by omega)]
   obtain ⟨e, he⟩ := Yql L most (Y2o true ((L.drop 0).take 3)) hL h3
   rw [hn, R.then_ok, he, R.then_err] at h
   cases h
  ·have hn : Y1k L 0 3 = .error 2 := by
    unfold Y1k
    rw [if_neg (by omega)]
   rw [hn, R.then_err] at h
   cases h
 ·exact hl
end Go.Proofs.YtkkfkmoikcmhoaaGreat.Zl
namespace Go.Proofs.YtkkfkmoikcmhoaaGreat.Df
open Go.RowKit Oct Bit Hf Inf
set_option maxRecDepth 100000
def X0d (w : World) (e : Ending) (w' : World) : Prop := e = .returned (.bool true) ∧ Below w.heap.size w w'
end Go.Proofs.YtkkfkmoikcmhoaaGreat.Df
namespace Go.Proofs.YtkkfkmoikcmhoaaGreat.Df
open Go.RowKit Oct Bit Hf Inf
set_option maxRecDepth 100000
set_option maxHeartbeats 1000000 in
theorem Yug (ys : List UInt8) (h k : Nat) (r : List Bool) (w : World) (hl : ys.length ≤ 100000) (h8 : h < 8) (hk : h / 2 = k) (he : Y02 true ys = Y07 true h 3 ++ r) :
  Calls Tryz.prog 24 #[.string (bs ys)] w fun e w' => e = .returned (.int .i64 (k : Int)) ∧ Below w.heap.size w w' := by
 have hpos : 0 < ys.length := by
  have := congrArg List.length he
  rw [Y03, List.length_append, Y00] at this
  omega
 have hsz := Y13 ys
 have x1 : (bs ys).extract 0 1 = bs (ys.take 1) := by rw [Y6h]; simp
 have hN : (bs ys).toList.isEmpty = false := by
  rcases ys with _ | ⟨c, rest⟩
  ·simp at hpos
  ·rw [Y7g]; rfl
 have hmin : min (ys.length : Int) 1 = 1 := by omega
 have hof := Yz4 (ys.take 1) true w (by rw [List.length_take]; omega)
 have hval : rpV 3 true (Y02 true (ys.take 1)) 0 = (h : Int) := by
  unfold rpV
  rw [if_pos (by decide), List.drop_zero]
  show ((Y75 true (Y02 true (ys.take 1)) 3 : Nat) : Int) = (h : Int)
  unfold Y75
  rw [Ya0, he, List.take_append_of_le_length (by rw [List.length_take, List.length_append, Y00]; have := congrArg List.length he; rw [Y03, List.length_append, Y00] at this; omega), List.take_take, show min 3 (8 * 1) = 3 from by decide, List.take_left' (Y00 _ _ _), Y1a true h 3 (by omega)]
 have hlen1 : (Y02 true (ys.take 1)).length ≤ 100000 := by rw [Y03, List.length_take]; omega
 have HPK : Hid (∀ W, Calls Tryz.prog 52 #[.string (ds (Y02 true (ys.take 1))), .int .i64 0, .int .i64 3, .bool true] W (fun e w' => e = .returned (.tuple #[.int .u32 (h : Int), .int .i64 0]) ∧ W = w')) := Lib.hid fun W => by
  have := Y81 (Y02 true (ys.take 1)) 0 3 true W (Nat.zero_le _) hlen1
  rw [hval] at this
  exact this
 have hd1 : (h : Int) / 2 = (k : Int) := by omega
 have hd2 : (h : Int).tdiv 2 = (k : Int) := by rw [Int.tdiv_eq_ediv_of_nonneg (by omega)]; omega
 have HOF := Lib.hid hof
 clear hof hval hlen1 he hk
 go_enter Tryz.func24, Tryz.ntmps24
 go_wp2_with fail
 refine HOF.out.mono ?_
 rintro e w1 ⟨rfl, hb1⟩
 go_wp2_with fail
 refine (HPK.out _).mono ?_
 rintro e w2 ⟨rfl, rfl⟩
 go_wp2_with fail
 go_ret
 exact ⟨rfl, hb1⟩
set_option maxHeartbeats 1000000 in
theorem Yik (xs ys : List UInt8) (k : Nat) (w : World) (hX : DefX xs k ys) (hl : xs.length ≤ 800) : Calls Tryz.prog 12 #[.string (bs ys), .string (bs xs), .int .i64 (k : Int)] w (X0d w) := by
 have hyl : ys.length ≤ 3000 := by have := hX.len; omega
 obtain ⟨h, r, h8, hk, he⟩ := hX.head (by omega)
 have hin := hX.inf xs.length (Nat.le_refl _)
 have HIN : Hid (Y9b ys (xs.length : Int) = .ok (xs, ys.length)) := Lib.hid (by unfold Y9b; rw [if_neg (by omega), Int.toNat_natCast]; exact hin)
 have HRI := Lib.hid (Yg8 ys (xs.length : Int) w hyl (by omega) (by omega))
 have HKI := Lib.hid (fun W => Yug ys h k r W (by omega) h8 hk he)
 have hsx := Y13 xs
 have hsy := Y13 ys
 clear hX hin h8 hk he
 go_enter Tryz.func12, Tryz.ntmps12
 go_wp2_with fail
 refine HRI.out.mono ?_
 rintro e w1 ⟨hb1, hres⟩
 rcases hres with ⟨o, j, h1, rfl⟩ | ⟨c, h1, _⟩
 ·rw [HIN.out] at h1
  cases h1
  have HB1 := Lib.hid hb1
  clear hb1
  go_wp2_with fail
  refine (HKI.out _).mono ?_
  rintro e w2 ⟨rfl, hb2⟩
  have HB2 := Lib.hid (HB1.out.trans (hb2.mono HB1.out.size))
  clear hb2
  go_wp2_with fail
  go_ret
  exact ⟨rfl, HB2.out⟩
 ·rw [HIN.out] at h1; cases h1
end Go.Proofs.YtkkfkmoikcmhoaaGreat.Df
namespace Go.Proofs.YtkkfkmoikcmhoaaGreat.Zl
open Go.RowKit Oct
set_option maxRecDepth 100000
theorem Ymj (p : Option Addr) (len cap : Nat) (zs : List Int) (how : Int) (w : World) (hr0 : Ynn .u8 w p len cap zs) (hw0 : (Lit.int .i64 how).wf = true) :
  Calls Tryz.prog 4 #[.slice p len cap, .int .i64 how] w fun e w' => e = .returned (.bool true) ∧ Below w.heap.size w w' :=
 Ydv Df.DefX Yuk (fun p len cap xs how W hr hx hc hc2 hl => Yk3 p len cap xs how W hr hx hc hc2 (by omega))
  (fun xs ys k h hl => ⟨by have := Yy1 (h.inf xs.length (Nat.le_refl _)); omega, by have := h.len; omega⟩)
  (fun xs ys k W h hl => Df.Yik xs ys k W h hl) p len cap zs how w hr0 hw0
end Go.Proofs.YtkkfkmoikcmhoaaGreat.Zl

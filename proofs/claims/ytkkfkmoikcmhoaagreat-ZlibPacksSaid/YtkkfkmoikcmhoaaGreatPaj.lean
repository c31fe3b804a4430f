/- BitE, BitF, BitS, HfB, HfN: merged. -/
import Derived.Test.YtkkfkmoikcmhoaaGreatPaa
import Derived.Test.YtkkfkmoikcmhoaaGreatPaf
import Derived.Test.YtkkfkmoikcmhoaaGreatPai
set_option linter.unusedVariables false
set_option linter.unusedSimpArgs false
namespace Go.Proofs.YtkkfkmoikcmhoaaGreat.Bit
open Go.RowKit Oct
def dig (b : Bool) : UInt8 := if b then 49 else 48
def ds (l : List Bool) : ByteArray := bs (l.map dig)
theorem Y0w (l : List Bool) : (ds l).size = l.length := by simp [ds, Y13]
theorem Y21 (a b : List Bool) : ds a ++ ds b = ds (a ++ b) := by simp [ds, Y3p]
theorem Y4p (l : List Bool) (a b : Nat) : (ds l).extract a b = ds ((l.drop a).take (b - a)) := by simp [ds, Y6h, List.map_take, List.map_drop]
theorem Yop (l : List Bool) (k : Nat) (h : k < (ds l).size) (h' : k < l.length) : (ds l)[k] = dig l[k] := by
 have h2 := Yby (l.map dig) k h (by simpa using h')
 rw [List.getElem_map] at h2
 exact h2
theorem X0g (a b : List Bool) (h : ds a = ds b) : a = b := by
 unfold ds bs at h
 injection h with h
 have h2 : a.map dig = b.map dig := by simpa using congrArg Array.toList h
 refine (List.map_inj_right (f := dig) ?_).1 h2
 intro x y hxy
 cases x <;> cases y <;> simp [dig] at hxy ⊢
theorem Y7l (b : Bool) : ((dig b).toNat : Int) = 48 + (b.toNat : Int) := by cases b <;> rfl
theorem Yz7 (w : World) (z : Int) (x : UInt8) (h : z = (x.toNat : Int)) : Row (w.alloc (.cells #[.int .u8 z] 5)) (some ⟨w.heap.size, 0, none⟩) [x] := by
 subst h
 exact Yr8 w x _
set_option maxHeartbeats 400000 in
theorem Yrd (xs : List UInt8) (w : World) (hs : xs.length ≤ 1000000) :
  Calls Tryz.prog 62 #[.string (bs xs)] w fun e w' => e = .returned (.string (bs xs.reverse)) ∧ w = w' := by
 have hsz := Y13 xs
 go_enter Tryz.func62, Tryz.ntmps62
 go_wp2
 go_loop [3, 4] (fun n i => ∃ k : Nat, k ≤ xs.length ∧ i = .int .i64 ((k : Int) - 1) ∧ n = .string (bs (xs.drop k).reverse)) (fun _ i => (intOf i + 1).toNat)
 case atStart => exact ⟨xs.length, Nat.le_refl _, rfl, by simp [bs]⟩
 case round =>
  obtain ⟨k, hk, rfl, rfl⟩ := hrel
  rcases k with _ | k
  ·rw [List.drop_zero]
   rw [show (((0 : Nat) : Int) - 1) = -1 by omega]
   go_wp2
   go_ret
   exact ⟨rfl, rfl⟩
  ·rw [show (((k + 1 : Nat) : Int) - 1) = (k : Int) by omega]
   have hlt : k < xs.length := by omega
   have e1 := Y6h xs k (k + 1)
   have h1 := Yjz xs k hlt
   rw [h1] at e1
   have hz1 : (bs [xs[k]]).size = 1 := by simp [Y13]
   have hz2 : (bs (xs.drop (k + 1)).reverse).size ≤ 1000000 := by simp [Y13]; omega
   clear h1
   have hk1 : (k : Int) + 1 ≤ (xs.length : Int) := by omega
   have ht1 : ((k : Int) + 1).toNat = k + 1 := by omega
   have h0 : 0 ≤ (k : Int) := by omega
   go_wp2
   go_round
   case rel => exact ⟨k, by omega, rfl, by rw [Y3p, List.drop_eq_getElem_cons hlt, List.reverse_cons]⟩
   case measure => simp [intOf]
theorem X0t (l : List Bool) (h : l.length ≤ 32) : num l < 4294967296 := by
 have h1 := Y2r l
 have h2 : (2 : Nat) ^ l.length ≤ 2 ^ 32 := Nat.pow_le_pow_right (by omega) h
 omega
theorem Yuu (l : List Bool) (k : Nat) (h : k < l.length) (h32 : l.length ≤ 32) (h' : k < (ds l).size) :
  (((num (l.take k) : Nat) : Int) * 2 % 4294967296 + (((ds l)[k].toNat : Int) - 48) % 256) % 4294967296 = ((num (l.take (k + 1)) : Nat) : Int) := by
 have h2 := X0t (l.take (k + 1)) (by rw [List.length_take]; omega)
 rw [Yop l k h' h, Y7l]
 rw [List.take_succ_eq_append_getElem h, Yut] at h2 ⊢
 generalize num (l.take k) = m at h2 ⊢
 have hx : (l[k]).toNat ≤ 1 := by cases l[k] <;> simp
 generalize (l[k]).toNat = x at h2 hx ⊢
 omega
set_option maxHeartbeats 400000 in
theorem Yb8 (l : List Bool) (w : World) (hs : l.length ≤ 32) :
  Calls Tryz.prog 85 #[.string (ds l)] w fun e w' => e = .returned (.int .u32 ((num l : Nat) : Int)) ∧ w = w' := by
 have hsz := Y0w l
 go_enter Tryz.func85, Tryz.ntmps85
 go_wp2
 go_loop [3, 4] (fun n i => ∃ k : Nat, k ≤ l.length ∧ i = .int .i64 (k : Int) ∧ n = .int .u32 ((num (l.take k) : Nat) : Int)) (fun _ i => l.length - (intOf i).toNat)
 case atStart => exact ⟨0, Nat.zero_le _, rfl, rfl⟩
 case round =>
  obtain ⟨k, hk, rfl, rfl⟩ := hrel
  by_cases hlt : k < l.length
  ·go_wp2
   go_round
   case rel => exact ⟨k + 1, by omega, by go_num, by rw [Yuu l k hlt hs]⟩
   case measure => simp [intOf]; omega
  ·have : k = l.length := by omega
   subst this
   rw [List.take_length]
   go_wp2
   go_ret
   exact ⟨rfl, rfl⟩
set_option maxHeartbeats 400000 in
theorem Yge (v n : Nat) (w : World) (hn : n ≤ 32) (hv : v < 4294967296) :
  Calls Tryz.prog 61 #[.int .u32 (v : Int), .int .i64 (n : Int)] w fun e w' => e = .returned (.string (ds (word v n))) ∧ Below w.heap.size w w' := by
 go_enter Tryz.func61, Tryz.ntmps61
 go_wp2_with fail
 go_loopw [0, 5, 6] (fun m s i wr => ∃ k : Nat, k ≤ n ∧ i = .int .i64 (k : Int) ∧ m = .int .u32 ((v / 2 ^ k : Nat) : Int) ∧ s = .string (ds (word v k)) ∧ Below w.heap.size w wr) (fun _ _ c _ => n - (intOf c).toNat)
 case atStart => exact ⟨0, by omega, rfl, by simp, rfl, Below.refl _ _⟩
 case round =>
  obtain ⟨k, hk, rfl, rfl, rfl, hF⟩ := hrel
  by_cases hlt : k < n
  ·obtain ⟨q, hq⟩ : ∃ q, q = v / 2 ^ k := ⟨_, rfl⟩
   have hqn : q ≤ v := by rw [hq]; exact Nat.div_le_self _ _
   rw [← hq]
   have HQ := Lib.hid hq
   clear hq
   have cv := Y31 1 1 (Yz7 wr (48 + (q : Int) % 2) (dig (q % 2 == 1)) (by rw [Y7l, Y9y]; omega)) rfl
   have hz1 : (bs [dig (q % 2 == 1)]).size = 1 := by simp [Y13]
   have hz2 : (ds (word v k)).size = k := by simp [Y0w, Y0k]
   go_wp2_with fail
   go_roundw
   case rel =>
    refine ⟨k + 1, by omega, by go_num, ?_, ?_, ?_⟩
    ·rw [Nat.pow_succ, ← Nat.div_div_eq_div_mul, ← HQ.out]; go_num
    ·show Value.string (ds [q % 2 == 1] ++ _) = _
     rw [Y21, HQ.out]; rfl
    ·exact Below.alloc hF (Below.size hF) _
   case measure => simp [intOf]; omega
  ·have : k = n := by omega
   subst this
   go_wp2_with fail
   go_ret
   exact ⟨rfl, hF⟩
end Go.Proofs.YtkkfkmoikcmhoaaGreat.Bit
namespace Go.Proofs.YtkkfkmoikcmhoaaGreat.Bit
open Go.RowKit Oct
theorem Yac (l : List Bool) (w : World) (hs : l.length ≤ 1000000) :
  Calls Tryz.prog 62 #[.string (ds l)] w fun e w' => e = .returned (.string (ds l.reverse)) ∧ w = w' := by
 have h := Yrd (l.map dig) w (by simpa using hs)
 rw [← List.map_reverse] at h
 exact h
set_option maxHeartbeats 400000 in
theorem Yz4 (xs : List UInt8) (low : Bool) (w : World) (hs : xs.length ≤ 1000) :
  Calls Tryz.prog 34 #[.string (bs xs), .bool low] w fun e w' => e = .returned (.string (ds (Y02 low xs))) ∧ Below w.heap.size w w' := by
 have hsz := Y13 xs
 go_enter Tryz.func34, Tryz.ntmps34
 go_wp2_with fail
 go_loopw [5, 6] (fun s i wr => ∃ k : Nat, k ≤ xs.length ∧ i = .int .i64 (k : Int) ∧ s = .string (ds (Y02 low (xs.take k))) ∧ Below w.heap.size w wr) (fun _ c _ => xs.length - (intOf c).toNat)
 case atStart => exact ⟨0, by omega, rfl, rfl, Below.refl _ _⟩
 case round =>
  obtain ⟨k, hk, rfl, rfl, hF⟩ := hrel
  by_cases hlt : k < xs.length
  ·obtain ⟨x, hx⟩ : ∃ x, x = xs[k] := ⟨_, rfl⟩
   have hb : x.toNat < 256 := x.toNat_lt
   have hz2 : (ds (Y02 low (xs.take k))).size ≤ 8000 := by rw [Y0w, Y03, List.length_take]; omega
   have hg : ∀ h, (bs xs)[k]'h = x := fun h => (Yby xs k h hlt).trans hx.symm
   have HG := Lib.hid hg
   have HX := Lib.hid (show xs.take (k + 1) = xs.take k ++ [x] by rw [hx, Y1x xs k hlt])
   clear hg hx
   go_wp2_with fail
   rw [HG.out]
   rw [show ((x.toNat : Int) % 4294967296) = (x.toNat : Int) by omega]
   refine (Yge _ 8 _ (by omega) (by omega)).mono ?_
   rintro e w1 ⟨rfl, hb1⟩
   have hF1 : Below w.heap.size w w1 := hF.trans (hb1.mono hF.size)
   have hz1 : (ds (word x.toNat 8)).size = 8 := by rw [Y0w, Y0k]
   cases low
   ·go_wp2_with fail
    go_roundw
    case rel =>
     refine ⟨k + 1, by omega, by go_num, ?_, hF1⟩
     rw [Y21, HX.out, Y0o]; simp [Y02, Y6p, Y07]
    case measure => simp [intOf]; omega
   ·go_wp2_with fail
    refine (Yac _ _ (by rw [Y0k]; omega)).mono ?_
    rintro e w' ⟨rfl, rfl⟩
    have hz3 : (ds (word x.toNat 8).reverse).size = 8 := by rw [Y0w, List.length_reverse, Y0k]
    go_wp2_with fail
    go_roundw
    case rel =>
     refine ⟨k + 1, by omega, by go_num, ?_, hF1⟩
     rw [Y21, HX.out, Y0o]; simp [Y02, Y6p, Y07]
    case measure => simp [intOf]; omega
  ·have : k = xs.length := by omega
   subst this
   rw [List.take_length]
   go_wp2_with fail
   go_ret
   exact ⟨rfl, hF⟩
theorem zs32 : (Value.string { data := #[48, 48, 48, 48, 48, 48, 48, 48, 48, 48, 48, 48, 48, 48, 48, 48, 48, 48, 48, 48, 48, 48, 48, 48, 48, 48, 48, 48, 48, 48, 48, 48] }) = .string (ds (zs 32)) := by rfl
def rpV (n : Int) (low : Bool) (l : List Bool) (at_ : Nat) : Int := if Y8j n then ((Y75 low (l.drop at_) n.toNat : Nat) : Int) else 0
def rrV (n : Int) (low : Bool) (l : List Bool) (at_ : Nat) : Int := if okR n l.length at_ then ((Y75 low (l.drop at_) n.toNat : Nat) : Int) else 0
theorem Y81 (l : List Bool) (at_ : Nat) (n : Int) (low : Bool) (w : World) (ha : at_ ≤ l.length) (hl : l.length ≤ 100000) :
  Calls Tryz.prog 52 #[.string (ds l), .int .i64 (at_ : Int), .int .i64 n, .bool low] w fun e w' => e = .returned (.tuple #[.int .u32 (rpV n low l at_), .int .i64 (Ydy n)]) ∧ w = w' := by
 have hsz := Y0w l
 by_cases hc : Y8j n = true
 ·have e1 : rpV n low l at_ = ((Y75 low (l.drop at_) n.toNat : Nat) : Int) := by unfold rpV; rw [hc]; rfl
  have e2 : Ydy n = 0 := by unfold Ydy; rw [hc]; rfl
  have hb := of_decide_eq_true hc
  obtain ⟨k, rfl⟩ : ∃ k : Nat, n = (k : Int) := ⟨n.toNat, by omega⟩
  rw [e1, e2, Int.toNat_natCast]
  clear e1 e2 hc
  have hk : k ≤ 32 := by omega
  have x1 : (ds l).extract at_ l.length = ds (l.drop at_) := by rw [Y4p, List.take_of_length_le (by simp)]
  have x2 : ds (l.drop at_) ++ ds (zs 32) = ds (l.drop at_ ++ zs 32) := Y21 _ _
  have hz1 : (ds (l.drop at_)).size ≤ 100000 := by rw [Y0w, List.length_drop]; omega
  have hz2 : (ds (zs 32)).size = 32 := by rw [Y0w, Y0a]
  have hz3 : k ≤ (ds (l.drop at_ ++ zs 32)).size := by rw [Y0w, List.length_append, Y0a]; omega
  have x3 : (ds (l.drop at_ ++ zs 32)).extract 0 k = ds ((l.drop at_ ++ zs 32).take k) := by rw [Y4p]; simp
  have hd1 : decide ((k : Int) < 0) = false := by simp
  have hd2 : decide (32 < (k : Int)) = false := by simp; omega
  cases low
  ·have e1 : Y75 false (l.drop at_) k = num ((l.drop at_ ++ zs 32).take k) := rfl
   rw [e1]
   clear e1
   go_enter Tryz.func52, Tryz.ntmps52
   rw [zs32]
   go_wp2_with fail
   refine (Yb8 _ _ (by rw [List.length_take]; omega)).mono ?_
   rintro e w' ⟨rfl, rfl⟩
   go_wp2_with fail
   go_ret2
   exact ⟨rfl, rfl⟩
  ·have e1 : Y75 true (l.drop at_) k = num ((l.drop at_ ++ zs 32).take k).reverse := rfl
   rw [e1]
   clear e1
   go_enter Tryz.func52, Tryz.ntmps52
   rw [zs32]
   go_wp2_with fail
   refine (Yac _ _ (by rw [List.length_take]; omega)).mono ?_
   rintro e w' ⟨rfl, rfl⟩
   go_wp2_with fail
   refine (Yb8 _ _ (by rw [List.length_reverse, List.length_take]; omega)).mono ?_
   rintro e w' ⟨rfl, rfl⟩
   go_wp2_with fail
   go_ret2
   exact ⟨rfl, rfl⟩
 ·have hc' : Y8j n = false := by simpa using hc
  have e1 : rpV n low l at_ = 0 := by unfold rpV; rw [hc']; rfl
  have e2 : Ydy n = 1 := by unfold Ydy; rw [hc']; rfl
  have hb : ¬ (0 ≤ n ∧ n ≤ 32) := of_decide_eq_false hc'
  rw [e1, e2]
  clear e1 e2 hc hc'
  by_cases h0 : n < 0
  ·have hd1 : decide (n < 0) = true := by simpa using h0
   clear hb
   go_enter Tryz.func52, Tryz.ntmps52
   go_wp2_with fail
   go_ret2
   exact ⟨rfl, rfl⟩
  ·have hd1 : decide (n < 0) = false := by simpa using h0
   have hd2 : decide (32 < n) = true := by simp; omega
   clear hb
   go_enter Tryz.func52, Tryz.ntmps52
   go_wp2_with fail
   go_ret2
   exact ⟨rfl, rfl⟩
theorem Ygc (l : List Bool) (at_ : Nat) (n : Int) (low : Bool) (w : World) (ha : at_ ≤ l.length) (hl : l.length ≤ 100000) :
  Calls Tryz.prog 63 #[.string (ds l), .int .i64 (at_ : Int), .int .i64 n, .bool low] w fun e w' => e = .returned (.tuple #[.int .u32 (rrV n low l at_), .int .i64 ((Y5k n l.length at_ : Nat) : Int), .int .i64 (Y5l n l.length at_)]) ∧ w = w' := by
 have hsz := Y0w l
 by_cases hc : Y8j n = true
 ·have hb := of_decide_eq_true hc
  have e0 : rpV n low l at_ = ((Y75 low (l.drop at_) n.toNat : Nat) : Int) := by unfold rpV; rw [hc]; rfl
  have e00 : Ydy n = 0 := by unfold Ydy; rw [hc]; rfl
  obtain ⟨k, rfl⟩ : ∃ k : Nat, n = (k : Int) := ⟨n.toNat, by omega⟩
  by_cases hk : at_ + k ≤ l.length
  ·have ho : okR (k : Int) l.length at_ = true := by unfold okR; rw [hc]; simp; omega
   have e1 : rrV (k : Int) low l at_ = ((Y75 low (l.drop at_) k : Nat) : Int) := by unfold rrV; rw [ho]; rfl
   have e2 : Y5l (k : Int) l.length at_ = 0 := by unfold Y5l; rw [ho]; rfl
   have e3 : ((Y5k (k : Int) l.length at_ : Nat) : Int) = (at_ : Int) + (k : Int) := by unfold Y5k; rw [ho]; simp
   have E0 := Lib.hid e0
   have E00 := Lib.hid e00
   have E1 := Lib.hid e1
   have E2 := Lib.hid e2
   have E3 := Lib.hid e3
   clear e0 e00 e1 e2 e3 hc ho
   have hd : decide ((l.length : Int) < (at_ : Int) + (k : Int)) = false := by simp; omega
   go_enter Tryz.func63, Tryz.ntmps63
   go_wp2_with fail
   refine (Y81 _ _ _ _ _ ha hl).mono ?_
   rintro e w' ⟨rfl, rfl⟩
   rw [E0.out, E00.out, Int.toNat_natCast]
   go_wp2_with fail
   go_ret3
   exact ⟨by rw [E1.out, E2.out, E3.out]; rfl, rfl⟩
  ·have ho : okR (k : Int) l.length at_ = false := by unfold okR; rw [hc]; simp; omega
   have e1 : rrV (k : Int) low l at_ = 0 := by unfold rrV; rw [ho]; rfl
   have e2 : Y5l (k : Int) l.length at_ = 2 := by unfold Y5l; rw [ho, hc]; rfl
   have e3 : ((Y5k (k : Int) l.length at_ : Nat) : Int) = (at_ : Int) := by unfold Y5k; rw [ho]; simp
   have E0 := Lib.hid e0
   have E00 := Lib.hid e00
   have E1 := Lib.hid e1
   have E2 := Lib.hid e2
   have E3 := Lib.hid e3
   clear e0 e00 e1 e2 e3 hc ho
   have hd : decide ((l.length : Int) < (at_ : Int) + (k : Int)) = true := by simp; omega
   go_enter Tryz.func63, Tryz.ntmps63
   go_wp2_with fail
   refine (Y81 _ _ _ _ _ ha hl).mono ?_
   rintro e w' ⟨rfl, rfl⟩
   rw [E0.out, E00.out, Int.toNat_natCast]
   go_wp2_with fail
   go_ret3
   exact ⟨by rw [E1.out, E2.out, E3.out]; rfl, rfl⟩
 ·have hc' : Y8j n = false := by simpa using hc
  have ho : okR n l.length at_ = false := by unfold okR; rw [hc']; simp
  have e00 : Ydy n = 1 := by unfold Ydy; rw [hc']; rfl
  have e1 : rrV n low l at_ = 0 := by unfold rrV; rw [ho]; rfl
  have e2 : Y5l n l.length at_ = 1 := by unfold Y5l; rw [ho, hc']; rfl
  have e3 : ((Y5k n l.length at_ : Nat) : Int) = (at_ : Int) := by unfold Y5k; rw [ho]; simp
  have E00 := Lib.hid e00
  have E1 := Lib.hid e1
  have E2 := Lib.hid e2
  have E3 := Lib.hid e3
  clear e00 e1 e2 e3 hc hc' ho
  go_enter Tryz.func63, Tryz.ntmps63
  go_wp2_with fail
  refine (Y81 _ _ _ _ _ ha hl).mono ?_
  rintro e w' ⟨rfl, rfl⟩
  rw [E00.out]
  go_wp2_with fail
  go_ret3
  exact ⟨by rw [E1.out, E2.out, E3.out]; rfl, rfl⟩
end Go.Proofs.YtkkfkmoikcmhoaaGreat.Bit
namespace Go.Proofs.YtkkfkmoikcmhoaaGreat.Bit
open Go.RowKit Oct
set_option maxRecDepth 20000
def Y79 (xs : List UInt8) : Bool := xs.all fun c => c == 48 || c == 49
theorem Yng (xs : List UInt8) (k : Nat) (h : k < xs.length) : Y79 (xs.take (k + 1)) = (Y79 (xs.take k) && (xs[k] == 48 || xs[k] == 49)) := by
 unfold Y79
 rw [Y1x xs k h, List.all_append]
 simp
theorem Ygx (xs : List UInt8) (k : Nat) (h : k < xs.length) (h0 : xs[k] ≠ 48) (h1 : xs[k] ≠ 49) : Y79 xs = false := by
 unfold Y79
 rw [List.all_eq_false]
 exact ⟨xs[k], List.getElem_mem h, by simp [h0, h1]⟩
theorem Ygz {xs : List UInt8} (h : Y79 xs = true) : ∃ l : List Bool, xs = l.map dig := by
 refine ⟨xs.map fun c => c == 49, ?_⟩
 rw [List.map_map]
 have h' := List.all_eq_true.1 h
 conv => lhs; rw [← List.map_id xs]
 refine List.map_congr_left fun c hc => ?_
 have := h' c hc
 simp at this
 rcases this with rfl | rfl <;> rfl
theorem Ygy (l : List Bool) : Y79 (l.map dig) = true := by
 unfold Y79
 rw [List.all_eq_true]
 intro c hc
 simp at hc
 rcases hc with ⟨_, rfl⟩ | ⟨_, rfl⟩ <;> rfl
theorem Ywb (x : UInt8) (n : Nat) (hn : n < 256) (h : x ≠ UInt8.ofNat n) : ((x.toNat : Int) != (n : Int)) = true := by
 simp
 intro e
 apply h
 apply UInt8.toNat_inj.1
 rw [UInt8.toNat_ofNat', Nat.mod_eq_of_lt hn]
 omega
set_option maxHeartbeats 400000 in
theorem Ym0 (xs : List UInt8) (w : World) (hs : xs.length ≤ 2000000) : Calls Tryz.prog 167 #[.string (bs xs)] w fun e w' => e = .returned (.bool (Y79 xs)) ∧ w = w' := by
 have hsz := Y13 xs
 go_enter Tryz.func167, Tryz.ntmps167
 go_wp2_with fail
 go_loop [3, 6] (fun u i => ∃ k : Nat, k ≤ xs.length ∧ i = .int .i64 (k : Int) ∧ Hid (Y79 (xs.take k) = true)) (fun _ i => xs.length - (intOf i).toNat)
 case atStart => exact ⟨0, Nat.zero_le _, rfl, rfl⟩
 case round =>
  obtain ⟨k, hk, rfl, hH⟩ := hrel
  by_cases hlt : k < xs.length
  ·obtain ⟨x, hx⟩ : ∃ x, x = xs[k] := ⟨_, rfl⟩
   have hg : ∀ h, (bs xs)[k]'h = x := fun h => (Yby xs k h hlt).trans hx.symm
   have HT := Lib.hid (Yng xs k hlt)
   have HB := Lib.hid (Ygx xs k hlt)
   rw [← hx] at HT HB
   clear hx
   by_cases h48 : x = 48
   ·subst h48
    have hb1 : (((48 : UInt8).toNat : Int) != 48) = false := by decide
    go_wp2_with fail
    go_round
    case rel => exact ⟨k + 1, by omega, by go_num, by show Y79 (xs.take (k + 1)) = true; rw [HT.out, hH.out]; rfl⟩
    case measure => simp [intOf]; omega
   ·by_cases h49 : x = 49
    ·subst h49
     have hb1 : (((49 : UInt8).toNat : Int) != 48) = true := by decide
     have hb2 : (((49 : UInt8).toNat : Int) != 49) = false := by decide
     go_wp2_with fail
     go_round
     case rel => exact ⟨k + 1, by omega, by go_num, by show Y79 (xs.take (k + 1)) = true; rw [HT.out, hH.out]; rfl⟩
     case measure => simp [intOf]; omega
    ·have hb1 := Ywb x 48 (by omega) h48
     have hb2 := Ywb x 49 (by omega) h49
     have hbad := HB.out h48 h49
     have HBAD := Lib.hid hbad
     simp only [Int.cast_ofNat_Int] at hb1 hb2
     clear h48 h49 hbad
     go_wp2_with fail
     go_ret
     exact ⟨by rw [HBAD.out]; rfl, rfl⟩
  ·have hkl : k = xs.length := by omega
   subst hkl
   have hH' := hH.out
   rw [List.take_length] at hH'
   have HW := Lib.hid hH'
   clear hH'
   go_wp2_with fail
   go_ret
   exact ⟨by rw [HW.out]; rfl, rfl⟩
end Go.Proofs.YtkkfkmoikcmhoaaGreat.Bit
namespace Go.Proofs.YtkkfkmoikcmhoaaGreat.Hf
open Go.RowKit Oct Bit
set_option maxRecDepth 20000
def VRow (w : World) (C : Nat) (p : Option Addr) (vs : List Value) : Prop :=
 0 < vs.length → ∃ b off, p = some ⟨b, off, none⟩ ∧ b < C ∧ ∀ i (h : i < vs.length), w.cell? ⟨b, off + i, none⟩ = some vs[i]
theorem VRow.below {w w' : World} {C B : Nat} {p : Option Addr} {vs : List Value} (h : VRow w C p vs) (hb : Below B w w') (hC : C ≤ B) : VRow w' C p vs := by
 intro hp
 obtain ⟨b, off, rfl, hlt, hc⟩ := h hp
 exact ⟨b, off, rfl, hlt, fun i hi => (hb.cell (p := ⟨b, off + i, none⟩) (by show b < B; omega)).trans (hc i hi)⟩
theorem VRow.mono {w : World} {C D : Nat} {p : Option Addr} {vs : List Value} (h : VRow w C p vs) (hC : C ≤ D) : VRow w D p vs := by
 intro hp
 obtain ⟨b, off, rfl, hlt, hc⟩ := h hp
 exact ⟨b, off, rfl, by omega, hc⟩
def ints (zs : List Int) : List Value := zs.map fun z => .int .i64 z
def strs (L : List (List UInt8)) : List Value := L.map fun s => .string (bs s)
theorem Y06 (zs : List Int) : (ints zs).length = zs.length := by simp [ints]
theorem Y0z (L : List (List UInt8)) : (strs L).length = L.length := by simp [strs]
theorem Y2w (L M : List Int) : ints (L ++ M) = ints L ++ ints M := by simp [ints]
theorem Y46 {zs : List Int} : ∀ v ∈ ints zs, v.oneCell' = true := by
 intro v hv
 simp [ints] at hv
 obtain ⟨x, _, rfl⟩ := hv
 rfl
theorem Ye8 {L : List (List UInt8)} : ∀ v ∈ strs L, v.oneCell' = true := by
 intro v hv
 simp [strs] at hv
 obtain ⟨x, _, rfl⟩ := hv
 rfl
theorem VRow.int {w : World} {C : Nat} {b off : Nat} {zs : List Int} (h : VRow w C (some ⟨b, off, none⟩) (ints zs)) (i : Nat) (hi : i < zs.length) : w.cell? ⟨b, off + i, none⟩ = some (.int .i64 zs[i]) := by
 obtain ⟨b', off', e, hlt, hc⟩ := h (by rw [Y06]; omega)
 injection e with e
 injection e with e1 e2
 subst e1; subst e2
 have := hc i (by rw [Y06]; exact hi)
 rw [this]
 simp [ints]
theorem VRow.str {w : World} {C : Nat} {b off : Nat} {L : List (List UInt8)} (h : VRow w C (some ⟨b, off, none⟩) (strs L)) (i : Nat) (hi : i < L.length) : w.cell? ⟨b, off + i, none⟩ = some (.string (bs L[i])) := by
 obtain ⟨b', off', e, hlt, hc⟩ := h (by rw [Y0z]; omega)
 injection e with e
 injection e with e1 e2
 subst e1; subst e2
 have := hc i (by rw [Y0z]; exact hi)
 rw [this]
 simp [strs]
theorem VRow.addr {w : World} {C : Nat} {p : Option Addr} {vs : List Value} (h : VRow w C p vs) (hp : 0 < vs.length) : ∃ b off, p = some ⟨b, off, none⟩ ∧ b < C := by
 obtain ⟨b, off, e, hlt, _⟩ := h hp
 exact ⟨b, off, e, hlt⟩
theorem Y17 {w : World} {g C : Nat} {vs : List Value} {T : TypeId} {fr : Nat × Nat} (h : w.heap[g]? = some (.cells vs.toArray T fr)) (hC : g < C) : VRow w C (some ⟨g, 0, none⟩) vs := by
 intro hp
 refine ⟨g, 0, rfl, hC, fun i hi => ?_⟩
 simp [World.cell?, h, hi]
theorem Y18 {w : World} {base n e : Nat} {v : Value} {vs : List Value} (h : w.ownsRow base e 1 v n vs) (hn : vs.length = n) :
  ∃ q c, v = .slice q n c ∧ (q = none → c = 0) ∧ n ≤ c ∧ c ≤ maxLen ∧ VRow w w.heap.size q vs ∧ ∀ a, q = some a → base ≤ a.block := by
 have hl := fun k hk => h.lt k hk
 have hc := fun g hg => h.cells (g := g) hg
 rcases h.2 with ⟨rfl, h0⟩ | ⟨g, cap, cur, rfl, hb, hh, h1, h2, _, _⟩
 ·subst h0
  have : vs = [] := List.eq_nil_of_length_eq_zero hn
  subst this
  exact ⟨none, 0, rfl, fun _ => rfl, Nat.le_refl _, by simp [maxLen], fun h => absurd h (by simp), fun a h => by cases h⟩
 ·refine ⟨some ⟨g, 0, none⟩, cap, rfl, fun h => (by cases h), h1, h2, fun hp => ⟨g, 0, rfl, (hl g rfl).2, fun i hi => ?_⟩, fun a h => by injection h with h; subst h; exact hb⟩
  have := hc g rfl i vs[i] (by simp [hi])
  rw [Y08] at this
  exact this
theorem Tryz.infoStr : (Tryz.prog.info? 9).map (fun i => (i.zero, i.size, i.bytes)) = some (some (.string ByteArray.empty), 1, 16) := by kernel_rfl
theorem Tryz.infoInt : (Tryz.prog.info? 3).map (fun i => (i.zero, i.size, i.bytes)) = some (some (.int .i64 0), 1, 8) := by kernel_rfl
theorem Y0i {w : World} {ops : Array Oper} {rest : List Oper} {o : Oper} {a : Act} {Q : Exit → Act → World → Prop} {T e : TypeId} {i0 : TypeInfo} {z : Value} {by_ : Nat}
  (hT : Tryz.prog.underlying T = some (.slice e)) (hi : Tryz.prog.info? e = some i0) (hz0 : i0.zero = some z) (hz1 : i0.size = 1) (hz2 : i0.bytes = by_) (hzc : z.cells = #[z]) (hby2 : by_ ≤ 16)
  (hgd : o.guard = none) (s x : Operand)
  (ho : o.op = .call { callee := .builtin .append, args := #[s, x], argTypes := #[T, T] })
  (base : Nat) (v : Value) (n : Nat) (ys : List Value) (hs : a.eval s = v) (hown : w.ownsRow base e 1 v n ys)
  (p : Option Addr) (m c : Nat) (xs : List Value) (hx : a.eval x = .slice p m c) (hr : VRow w w.heap.size p xs) (hxm : xs.length = m) (hc0 : p = none → c = 0) (h1 : ∀ u ∈ xs, u.oneCell' = true)
  (h47 : n + m ≤ 100000000) (hbase : base ≤ w.heap.size)
  (h : ∀ v' w', w'.ownsRow base e 1 v' (n + m) (ys ++ xs) → w.grownBy w' v.ownBlock → Below base w w' → wpList Tryz.prog ops Q rest (a.put o.dst v') w') :
  wpList Tryz.prog ops Q (o :: rest) a w := by
 rcases p with _ | ad
 ·have hxs : xs = [] := by
   rcases xs with _ | ⟨x, xs⟩
   ·rfl
   ·obtain ⟨b, off, he, _⟩ := hr (by simp)
    cases he
  subst hxs
  simp at hxm
  subst hxm
  have := hc0 rfl
  subst this
  refine wpList_append_own_none hgd s x T ho base e i0 1 hT hi v n ys hs hown hx ?_
  exact h v w (by simpa using hown) (World.grownBy.refl w _) (Below.refl _ _)
 ·refine wpList_append_own w hgd s x T ho base e i0 z 1 by_ hT hi hz0 hz1 hz2 (by rw [hzc]; rfl) (by decide) v n ys hs hown ad m c xs hx (by rw [hxm]; omega) ?_ h1 (by unfold maxLen; omega) ?_ hbase ?_
  ·intro j u hj
   obtain ⟨hj', hju⟩ := List.getElem?_eq_some_iff.1 hj
   obtain ⟨b, off, he, _, hc⟩ := hr (by omega)
   injection he with he
   subst he
   rw [Y08, ← hju]
   exact hc j hj'
  ·have := Nat.mul_le_mul_left (n + m) hby2
   first | omega | (have := Nat.mul_le_mul_left ((n + m) * 1) hby2; omega)
  ·intro v' w' h2 h3 h4
   exact h v' w' h2 h3 (Y6z hown h3 hbase)
def Ywp (w : World) (vs : List Value) (e : Ending) (w' : World) : Prop :=
 Below w.heap.size w w' ∧ ∃ q cap, e = .returned (.slice q vs.length cap) ∧ VRow w' w'.heap.size q vs ∧ vs.length ≤ cap ∧ cap ≤ maxLen ∧ (q = none → cap = 0) ∧ ∀ a, q = some a → w.heap.size ≤ a.block
set_option maxHeartbeats 400000 in
theorem Y8i (p : Option Addr) (len cap : Nat) (vs : List Value) (w : World) (hr : VRow w w.heap.size p vs) (hx : vs.length = len) (hnil : p = none → cap = 0) (h47 : len ≤ 100000) (h1 : ∀ u ∈ vs, u.oneCell' = true) :
  Calls Tryz.prog 140 #[.slice p len cap] w (Ywp w vs) := by
 obtain ⟨i0, hi, hz0, hz1, hz2⟩ := info_parts Tryz.infoStr
 rcases p with _ | ad
 ·have hxs : vs = [] := by
   rcases vs with _ | ⟨x, xs⟩
   ·rfl
   ·obtain ⟨b, off, he, _⟩ := hr (by simp)
    cases he
  subst hxs
  simp at hx
  subst hx
  have hcap := hnil rfl
  subst hcap
  clear hnil
  have heq : ∀ w' : World, (binOp .eql 77 (.slice none 0 0) (.slice none 0 0)).run Tryz.prog w' = .ok (.bool true) w' := fun w' => Lib.run_eql_slice_nil (P := Tryz.prog) w' 77 9 none 0 0 0 0 Tryz.underlying77
  go_enter Tryz.func140, Tryz.ntmps140
  go_wp2_with fail
  go_ret
  exact ⟨Below.refl _ _, none, 0, rfl, fun h => absurd h (by simp), by simp, by simp [maxLen], fun _ => rfl, (fun a h => by cases h)⟩
 ·have hown := World.ownsRow_made (base := w.heap.size) (e := 9) (size := 1) w #[] 0 (Nat.le_refl _) (by simp [maxLen]) rfl
  have hba : Below w.heap.size w (w.alloc (.cells #[] 9)) := (Below.refl _ w).alloc (Nat.le_refl _) _
  have hr2 : VRow (w.alloc (.cells #[] 9)) (w.alloc (.cells #[] 9)).heap.size (some ad) vs := (hr.below hba (Nat.le_refl _)).mono (by simp)
  have HX := Lib.hid hx
  have HR2 := Lib.hid hr2
  have HBA := Lib.hid hba
  have H1 := Lib.hid h1
  clear hx hnil hr2 hba hr h1
  have heq : ∀ w' : World, (binOp .eql 77 (.slice (some ad) len cap) (.slice none 0 0)).run Tryz.prog w' = .ok (.bool false) w' := fun w' => Lib.run_eql_slice_nil (P := Tryz.prog) w' 77 9 (some ad) len cap 0 0 Tryz.underlying77
  go_enter Tryz.func140, Tryz.ntmps140
  go_wp2_with (at_builtin; refine Y0i Tryz.underlying77 hi hz0 hz1 hz2 rfl (by decide) rfl _ _ rfl w.heap.size _ 0 [] rfl hown (some ad) len cap vs rfl HR2.out HX.out (fun h => by cases h) H1.out (by omega) (by simp) ?_)
  intro v' w2 hown' hgrow hbel
  obtain ⟨q, cap2, hv', hq0, hgc, hgm, hrow2, hqb⟩ := Y18 hown' HX.out
  rw [hv']
  have HB12 := Lib.hid (HBA.out.trans hbel)
  have HROW := Lib.hid hrow2
  have HGC := Lib.hid hgc
  have HGM := Lib.hid hgm
  have HQB := Lib.hid hqb
  have HQ0 := Lib.hid hq0
  clear hown hown' hgrow hbel hv' hrow2 hgc hgm hqb hq0
  go_wp2_with fail
  go_ret
  refine ⟨HB12.out, q, cap2, by rw [HX.out]; simp, HROW.out, by have := HGC.out; rw [HX.out]; omega, HGM.out, HQ0.out, HQB.out⟩
set_option maxHeartbeats 400000 in
theorem Ylc (p : Option Addr) (len cap : Nat) (vs : List Value) (w : World) (hr : VRow w w.heap.size p vs) (hx : vs.length = len) (hnil : p = none → cap = 0) (h47 : len ≤ 100000) (h1 : ∀ u ∈ vs, u.oneCell' = true) :
  Calls Tryz.prog 165 #[.slice p len cap] w (Ywp w vs) := by
 obtain ⟨i0, hi, hz0, hz1, hz2⟩ := info_parts Tryz.infoInt
 rcases p with _ | ad
 ·have hxs : vs = [] := by
   rcases vs with _ | ⟨x, xs⟩
   ·rfl
   ·obtain ⟨b, off, he, _⟩ := hr (by simp)
    cases he
  subst hxs
  simp at hx
  subst hx
  have hcap := hnil rfl
  subst hcap
  clear hnil
  have heq : ∀ w' : World, (binOp .eql 74 (.slice none 0 0) (.slice none 0 0)).run Tryz.prog w' = .ok (.bool true) w' := fun w' => Lib.run_eql_slice_nil (P := Tryz.prog) w' 74 3 none 0 0 0 0 Tryz.underlying74
  go_enter Tryz.func165, Tryz.ntmps165
  go_wp2_with fail
  go_ret
  exact ⟨Below.refl _ _, none, 0, rfl, fun h => absurd h (by simp), by simp, by simp [maxLen], fun _ => rfl, (fun a h => by cases h)⟩
 ·have hown := World.ownsRow_made (base := w.heap.size) (e := 3) (size := 1) w #[] 0 (Nat.le_refl _) (by simp [maxLen]) rfl
  have hba : Below w.heap.size w (w.alloc (.cells #[] 3)) := (Below.refl _ w).alloc (Nat.le_refl _) _
  have hr2 : VRow (w.alloc (.cells #[] 3)) (w.alloc (.cells #[] 3)).heap.size (some ad) vs := (hr.below hba (Nat.le_refl _)).mono (by simp)
  have HX := Lib.hid hx
  have HR2 := Lib.hid hr2
  have HBA := Lib.hid hba
  have H1 := Lib.hid h1
  clear hx hnil hr2 hba hr h1
  have heq : ∀ w' : World, (binOp .eql 74 (.slice (some ad) len cap) (.slice none 0 0)).run Tryz.prog w' = .ok (.bool false) w' := fun w' => Lib.run_eql_slice_nil (P := Tryz.prog) w' 74 3 (some ad) len cap 0 0 Tryz.underlying74
  go_enter Tryz.func165, Tryz.ntmps165
  go_wp2_with (at_builtin; refine Y0i Tryz.underlying74 hi hz0 hz1 hz2 rfl (by decide) rfl _ _ rfl w.heap.size _ 0 [] rfl hown (some ad) len cap vs rfl HR2.out HX.out (fun h => by cases h) H1.out (by omega) (by simp) ?_)
  intro v' w2 hown' hgrow hbel
  obtain ⟨q, cap2, hv', hq0, hgc, hgm, hrow2, hqb⟩ := Y18 hown' HX.out
  rw [hv']
  have HB12 := Lib.hid (HBA.out.trans hbel)
  have HROW := Lib.hid hrow2
  have HGC := Lib.hid hgc
  have HGM := Lib.hid hgm
  have HQB := Lib.hid hqb
  have HQ0 := Lib.hid hq0
  clear hown hown' hgrow hbel hv' hrow2 hgc hgm hqb hq0
  go_wp2_with fail
  go_ret
  refine ⟨HB12.out, q, cap2, by rw [HX.out]; simp, HROW.out, by have := HGC.out; rw [HX.out]; omega, HGM.out, HQ0.out, HQB.out⟩
end Go.Proofs.YtkkfkmoikcmhoaaGreat.Hf
namespace Go.Proofs.YtkkfkmoikcmhoaaGreat.Hf
open Go.RowKit Oct Bit
set_option maxRecDepth 100000
theorem Ye6 {p q : List Bool} {x y : Bool} (h : p ++ [x] = q ++ [y]) : p = q ∧ x = y := by
 obtain ⟨h1, h2⟩ := List.append_inj' h rfl
 injection h2 with h2
 exact ⟨h1, h2⟩
theorem Yze (p : List Bool) (x y : Bool) : p ++ [x] ++ [y] ≠ p ++ [x] := fun h => by
 have := congrArg List.length h
 simp at this
def Yk8 : Option (Nat × Nat) → Value
 | none => .pointer none
 | some (b, o) => .pointer (some ⟨b, o, none⟩)
structure Tr (w : World) (C g : Nat) (v0 v1 : Value) (A : List Bool → Option (Nat × Nat)) (E : List Bool → Option Nat) : Prop where
 root : A [] = some (g, 2)
 lo : ∀ p b o, A p = some (b, o) → g ≤ b ∧ b < C
 n0 : ∀ p b o, A p = some (b, o) → w.cell? ⟨b, o, none⟩ = some (Yk8 (A (p ++ [false])))
 n1 : ∀ p b o, A p = some (b, o) → w.cell? ⟨b, o + 1, none⟩ = some (Yk8 (A (p ++ [true])))
 ne : ∀ p b o, A p = some (b, o) → w.cell? ⟨b, o + 2, none⟩ = some (.bool (E p).isSome)
 ni : ∀ p b o, A p = some (b, o) → w.cell? ⟨b, o + 3, none⟩ = some (.int .i64 (((E p).getD 0 : Nat) : Int))
 fz : ∀ p b o, A p = some (b, o) → ∀ i, w.frozen? ⟨b, i, none⟩ = false
 o2 : ∀ p o, A p = some (g, o) → o = 2
 inj : ∀ p q b o o', A p = some (b, o) → A q = some (b, o') → p = q
 up : ∀ p x, A (p ++ [x]) ≠ none → A p ≠ none
 en : ∀ p, E p ≠ none → A p ≠ none
 h0 : w.cell? ⟨g, 0, none⟩ = some v0
 h1 : w.cell? ⟨g, 1, none⟩ = some v1
section
variable {w w' : World} {C g : Nat} {v0 v1 : Value} {A : List Bool → Option (Nat × Nat)} {E : List Bool → Option Nat}
theorem Tr.mono {D : Nat} (h : Tr w C g v0 v1 A E) (hD : C ≤ D) : Tr w D g v0 v1 A E :=
 ⟨h.root, fun p b o e => ⟨(h.lo p b o e).1, by have := (h.lo p b o e).2; omega⟩, h.n0, h.n1, h.ne, h.ni, h.fz, h.o2, h.inj, h.up, h.en, h.h0, h.h1⟩
def Yek (A : List Bool → Option (Nat × Nat)) (p : List Bool) (v : Nat × Nat) : List Bool → Option (Nat × Nat) := fun q => if q = p then some v else A q
def Yse (E : List Bool → Option Nat) (p : List Bool) (i : Nat) : List Bool → Option Nat := fun q => if q = p then some i else E q
def Ybv : Array Value := #[.pointer none, .pointer none, .bool false, .int .i64 0]
theorem Tr.grow (h : Tr w w.heap.size g v0 v1 A E) {p : List Bool} {b o : Nat} (hp : A p = some (b, o)) (x : Bool) (hx : A (p ++ [x]) = none) :
  Tr ((w.alloc (.cells Ybv 211)).setCell ⟨b, o + x.toNat, none⟩ (.pointer (some ⟨w.heap.size, 0, none⟩))) (w.heap.size + 1) g v0 v1 (Yek A (p ++ [x]) (w.heap.size, 0)) E := by
 have hbl := h.lo p b o hp
 have hg : g < w.heap.size := (h.lo _ _ _ h.root).2
 -- a cell of an elder block that is not the one that is set
 have far : ∀ c i, c < w.heap.size → (c = b → i ≠ o + x.toNat) → ((w.alloc (.cells Ybv 211)).setCell ⟨b, o + x.toNat, none⟩ (.pointer (some ⟨w.heap.size, 0, none⟩))).cell? ⟨c, i, none⟩ = w.cell? ⟨c, i, none⟩ := by
  intro c i hc hne
  rw [World.cell?_setCell_other _ _ _ _ (by
   intro e
   injection e with e1 e2
   exact hne e1.symm e2.symm)]
  exact World.cell?_alloc_lt _ _ _ hc
 have new : ∀ i, ((w.alloc (.cells Ybv 211)).setCell ⟨b, o + x.toNat, none⟩ (.pointer (some ⟨w.heap.size, 0, none⟩))).cell? ⟨w.heap.size, i, none⟩ = Ybv[i]? := by
  intro i
  rw [World.cell?_setCell_other _ _ _ _ (by
   intro e
   injection e with e1 e2
   omega)]
  simp
 have same : ((w.alloc (.cells Ybv 211)).setCell ⟨b, o + x.toNat, none⟩ (.pointer (some ⟨w.heap.size, 0, none⟩))).cell? ⟨b, o + x.toNat, none⟩ = some (.pointer (some ⟨w.heap.size, 0, none⟩)) := by
  have hold : ∃ u, (w.alloc (.cells Ybv 211)).cell? ⟨b, o + x.toNat, none⟩ = some u := by
   cases x
   ·exact ⟨_, (World.cell?_alloc_lt _ _ _ hbl.2).trans (h.n0 p b o hp)⟩
   ·exact ⟨_, (World.cell?_alloc_lt _ _ _ hbl.2).trans (h.n1 p b o hp)⟩
  obtain ⟨u, hu⟩ := hold
  exact World.cell?_setCell_same _ _ _ hu
 have kid : ∀ y, Yek A (p ++ [x]) (w.heap.size, 0) (p ++ [x] ++ [y]) = none := by
  intro y
  unfold Yek
  rw [if_neg (Yze p x y)]
  rcases hc : A (p ++ [x] ++ [y]) with _ | v
  ·rfl
  ·exact absurd hx (h.up _ y (by rw [hc]; simp))
 have hE : E (p ++ [x]) = none := by
  rcases hc : E (p ++ [x]) with _ | v
  ·rfl
  ·exact absurd hx (h.en _ (by rw [hc]; simp))
 have other : ∀ q y, q ≠ p → Yek A (p ++ [x]) (w.heap.size, 0) (q ++ [y]) = A (q ++ [y]) := by
  intro q y hq
  unfold Yek
  rw [if_neg (fun e => hq (Ye6 e).1)]
 have sib : ∀ y, y ≠ x → Yek A (p ++ [x]) (w.heap.size, 0) (p ++ [y]) = A (p ++ [y]) := by
  intro y hy
  unfold Yek
  rw [if_neg (fun e => hy (Ye6 e).2)]
 have mine : Yek A (p ++ [x]) (w.heap.size, 0) (p ++ [x]) = some (w.heap.size, 0) := by unfold Yek; rw [if_pos rfl]
 have cases_ : ∀ q c d, Yek A (p ++ [x]) (w.heap.size, 0) q = some (c, d) → (q = p ++ [x] ∧ c = w.heap.size ∧ d = 0) ∨ (q ≠ p ++ [x] ∧ A q = some (c, d)) := by
  intro q c d e
  unfold Yek at e
  by_cases hq : q = p ++ [x]
  ·rw [if_pos hq] at e
   injection e with e
   injection e with e1 e2
   exact .inl ⟨hq, e1.symm, e2.symm⟩
  ·rw [if_neg hq] at e
   exact .inr ⟨hq, e⟩
 refine ⟨?_, ?_, ?_, ?_, ?_, ?_, ?_, ?_, ?_, ?_, ?_, ?_, ?_⟩
 ·unfold Yek
  rw [if_neg (by intro e; have := congrArg List.length e; simp at this)]
  exact h.root
 ·intro q c d e
  rcases cases_ q c d e with ⟨_, rfl, rfl⟩ | ⟨_, e⟩
  ·exact ⟨by omega, by omega⟩
  ·have := h.lo q c d e; exact ⟨this.1, by omega⟩
 ·intro q c d e
  rcases cases_ q c d e with ⟨rfl, rfl, rfl⟩ | ⟨hq, e'⟩
  ·rw [new, kid]; rfl
  ·clear e
   have e := e'
   clear e'
   have hl := (h.lo q c d e).2
   by_cases hqp : q = p
   ·subst hqp
    rw [hp] at e
    injection e with e
    injection e with e1 e2
    subst e1; subst e2
    cases x
    ·rw [mine]; exact same
    ·rw [sib _ (by simp), far b o hl (by intro _; simp)]; exact h.n0 q b o hp
   ·rw [other q _ hqp, far c d hl (by intro hcb; subst hcb; exact absurd (h.inj q p c d o e hp) hqp)]
    exact h.n0 q c d e
 ·intro q c d e
  rcases cases_ q c d e with ⟨rfl, rfl, rfl⟩ | ⟨hq, e'⟩
  ·rw [new, kid]; rfl
  ·clear e
   have e := e'
   clear e'
   have hl := (h.lo q c d e).2
   by_cases hqp : q = p
   ·subst hqp
    rw [hp] at e
    injection e with e
    injection e with e1 e2
    subst e1; subst e2
    cases x
    ·rw [sib _ (by simp), far b (o + 1) hl (by intro _; simp)]; exact h.n1 q b o hp
    ·rw [mine]; exact same
   ·rw [other q _ hqp, far c (d + 1) hl (by intro hcb; subst hcb; exact absurd (h.inj q p c d o e hp) hqp)]
    exact h.n1 q c d e
 ·intro q c d e
  rcases cases_ q c d e with ⟨rfl, rfl, rfl⟩ | ⟨hq, e'⟩
  ·rw [new, hE]; rfl
  ·clear e
   have e := e'
   clear e'
   have hl := (h.lo q c d e).2
   rw [far c (d + 2) hl (by
    intro hcb; subst hcb
    have hqp := h.inj q p c d o e hp
    subst hqp
    rw [hp] at e
    injection e with e
    injection e with _ e2
    cases x <;> simp <;> omega)]
   exact h.ne q c d e
 ·intro q c d e
  rcases cases_ q c d e with ⟨rfl, rfl, rfl⟩ | ⟨hq, e'⟩
  ·rw [new, hE]; rfl
  ·clear e
   have e := e'
   clear e'
   have hl := (h.lo q c d e).2
   rw [far c (d + 3) hl (by
    intro hcb; subst hcb
    have hqp := h.inj q p c d o e hp
    subst hqp
    rw [hp] at e
    injection e with e
    injection e with _ e2
    cases x <;> simp <;> omega)]
   exact h.ni q c d e
 ·intro q c d e i
  rw [World.frozen?_setCell]
  rcases cases_ q c d e with ⟨rfl, rfl, rfl⟩ | ⟨hq, e'⟩
  ·simp
  ·clear e
   have e := e'
   clear e'
   have hl := (h.lo q c d e).2
   rw [World.frozen?_alloc_past _ _ _ hl]
   exact h.fz q c d e i
 ·intro q d e
  rcases cases_ q _ d e with ⟨_, hgs, _⟩ | ⟨_, e⟩
  ·omega
  ·exact h.o2 q d e
 ·intro q r c d d' e1 e2
  rcases cases_ q c d e1 with ⟨rfl, rfl, rfl⟩ | ⟨hq, e1⟩
  ·rcases cases_ r _ d' e2 with ⟨rfl, _, _⟩ | ⟨hr, e2⟩
   ·rfl
   ·have := (h.lo r _ d' e2).2; omega
  ·rcases cases_ r _ d' e2 with ⟨rfl, rfl, _⟩ | ⟨hr, e2⟩
   ·have := (h.lo q _ d e1).2; omega
   ·exact h.inj q r c d d' e1 e2
 ·intro q y hqy
  by_cases hq : q = p
  ·subst hq
   unfold Yek
   split
   ·simp
   ·rw [hp]; simp
  ·by_cases hq2 : q = p ++ [x]
   ·subst hq2; exact absurd (kid y) hqy
   ·rw [other q y hq] at hqy
    unfold Yek
    rw [if_neg hq2]
    exact h.up q y hqy
 ·intro q hq
  unfold Yek
  split
  ·simp
  ·exact h.en q hq
 ·rw [far g 0 hg (by
   intro e; subst e
   have := h.o2 p o hp
   omega)]
  exact h.h0
 ·rw [far g 1 hg (by
   intro e; subst e
   have := h.o2 p o hp
   omega)]
  exact h.h1
theorem Tr.ends (h : Tr w C g v0 v1 A E) {p : List Bool} {b o : Nat} (hp : A p = some (b, o)) (i : Nat) :
  Tr ((w.setCell ⟨b, o + 2, none⟩ (.bool true)).setCell ⟨b, o + 3, none⟩ (.int .i64 (i : Int))) C g v0 v1 A (Yse E p i) := by
 have hg : g < C := (h.lo _ _ _ h.root).2
 have far : ∀ c j, (c = b → j ≠ o + 2 ∧ j ≠ o + 3) → ((w.setCell ⟨b, o + 2, none⟩ (.bool true)).setCell ⟨b, o + 3, none⟩ (.int .i64 (i : Int))).cell? ⟨c, j, none⟩ = w.cell? ⟨c, j, none⟩ := by
  intro c j hne
  rw [World.cell?_setCell_other _ _ _ _ (by
   intro e
   injection e with e1 e2
   exact (hne e1.symm).2 e2.symm), World.cell?_setCell_other _ _ _ _ (by
   intro e
   injection e with e1 e2
   exact (hne e1.symm).1 e2.symm)]
 have s2 : ((w.setCell ⟨b, o + 2, none⟩ (.bool true)).setCell ⟨b, o + 3, none⟩ (.int .i64 (i : Int))).cell? ⟨b, o + 2, none⟩ = some (.bool true) := by
  rw [World.cell?_setCell_other _ _ _ _ (by
   intro e
   injection e with e1 e2
   omega)]
  exact World.cell?_setCell_same _ _ _ (h.ne p b o hp)
 have s3 : ((w.setCell ⟨b, o + 2, none⟩ (.bool true)).setCell ⟨b, o + 3, none⟩ (.int .i64 (i : Int))).cell? ⟨b, o + 3, none⟩ = some (.int .i64 (i : Int)) := by
  have : (w.setCell ⟨b, o + 2, none⟩ (.bool true)).cell? ⟨b, o + 3, none⟩ = some (.int .i64 (((E p).getD 0 : Nat) : Int)) := by
   rw [World.cell?_setCell_other _ _ _ _ (by
    intro e
    injection e with e1 e2
    omega)]
   exact h.ni p b o hp
  exact World.cell?_setCell_same _ _ _ this
 have off : ∀ q c d, A q = some (c, d) → ∀ k, k < 4 → k ≠ 2 → k ≠ 3 → c = b → d + k ≠ o + 2 ∧ d + k ≠ o + 3 := by
  intro q c d e k h1 h2 h3 hcb
  subst hcb
  have hqp := h.inj q p c d o e hp
  subst hqp
  rw [hp] at e
  injection e with e
  injection e with _ e2
  omega
 have off2 : ∀ q c d, A q = some (c, d) → q ≠ p → c ≠ b := by
  intro q c d e hq hcb
  subst hcb
  exact hq (h.inj q p c d o e hp)
 refine ⟨h.root, h.lo, fun q c d e => ?_, fun q c d e => ?_, fun q c d e => ?_, fun q c d e => ?_, fun q c d e j => ?_, h.o2, h.inj, h.up, fun q hq => ?_, ?_, ?_⟩
 ·rw [far c d (off q c d e 0 (by omega) (by omega) (by omega))]; exact h.n0 q c d e
 ·rw [far c (d + 1) (off q c d e 1 (by omega) (by omega) (by omega))]; exact h.n1 q c d e
 ·unfold Yse
  by_cases hq : q = p
  ·subst hq
   rw [hp] at e
   injection e with e
   injection e with e1 e2
   subst e1; subst e2
   rw [if_pos rfl]
   exact s2
  ·rw [if_neg hq, far c (d + 2) (fun hcb => absurd hcb (off2 q c d e hq))]; exact h.ne q c d e
 ·unfold Yse
  by_cases hq : q = p
  ·subst hq
   rw [hp] at e
   injection e with e
   injection e with e1 e2
   subst e1; subst e2
   rw [if_pos rfl]
   exact s3
  ·rw [if_neg hq, far c (d + 3) (fun hcb => absurd hcb (off2 q c d e hq))]; exact h.ni q c d e
 ·rw [World.frozen?_setCell, World.frozen?_setCell]; exact h.fz q c d e j
 ·unfold Yse at hq
  by_cases hqp : q = p
  ·subst hqp; rw [hp]; simp
  ·rw [if_neg hqp] at hq; exact h.en q hq
 ·rw [far g 0 (by intro e; subst e; have := h.o2 p o hp; omega)]; exact h.h0
 ·rw [far g 1 (by intro e; subst e; have := h.o2 p o hp; omega)]; exact h.h1
end
end Go.Proofs.YtkkfkmoikcmhoaaGreat.Hf

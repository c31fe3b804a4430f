/- IgO, IgP, IgQ: merged. -/
import Derived.Test.YtkkfkmoikcmhoaaGreatAam
import Derived.Test.YtkkfkmoikcmhoaaGreatAbf
set_option linter.unusedVariables false
set_option linter.unusedSimpArgs false
namespace Go.Proofs.YtkkfkmoikcmhoaaGreat.Inf
open Go.RowKit Oct Bit Hf
set_option maxRecDepth 100000
theorem Yuq {L : List Bool} {a m b : Nat} (hx : Y36 L a 14 = .ok (m, b)) : Y54 L a = .ok ((m % 32 + 257, m / 32 % 32 + 1, m / 1024 + 4), b) ∧ m < 16384 := by
 have hend := Yhu hx
 have hm : m = Y38 true ((L.drop a).take 14) ∧ b = a + 14 := by unfold Y36 at hx; rw [if_pos hend] at hx; cases hx; exact ⟨rfl, rfl⟩
 have hl : ((L.drop a).take 14).length = 14 := by rw [List.length_take, List.length_drop]; omega
 have hlt := Ydd true ((L.drop a).take 14)
 rw [hl, ← hm.1] at hlt
 have hlt2 : m < 16384 := hlt
 have h1 := Y4x true ((L.drop a).take 14) 0 5 (by omega)
 have h2 := Y4x true ((L.drop a).take 14) 5 5 (by omega)
 have h3 := Y4x true ((L.drop a).take 14) 10 4 (by omega)
 simp only [gsh, if_true, Nat.pow_zero, Nat.div_one, List.drop_zero] at h1 h2 h3
 rw [← hm.1] at h1 h2 h3
 have e1 : ((L.drop a).take 14).take 5 = (L.drop a).take 5 := by rw [List.take_take]; rfl
 have e2 : (((L.drop a).take 14).drop 5).take 5 = (L.drop (a + 5)).take 5 := by rw [List.drop_take, List.drop_drop, List.take_take]; rfl
 have e3 : (((L.drop a).take 14).drop 10).take 4 = (L.drop (a + 10)).take 4 := by rw [List.drop_take, List.drop_drop, List.take_take]; rfl
 rw [e1] at h1
 rw [e2] at h2
 rw [e3] at h3
 refine ⟨?_, hlt2⟩
 unfold Y54
 rw [if_pos hend, ← h1, ← h2, ← h3, hm.2]
 have e4 : m / 2 ^ 10 % 2 ^ 4 = m / 1024 := by
  show m / 1024 % 16 = m / 1024
  omega
 rw [e4]
theorem Yr4 {L : List Bool} {a c : Nat} (hx : Y36 L a 14 = .error c) : Y54 L a = .error 2 := by
 unfold Y36 at hx
 unfold Y54
 by_cases h : a + 14 ≤ L.length
 ·rw [if_pos h] at hx; cases hx
 ·rw [if_neg h]
theorem and31 (m : Nat) (h : m < 4294967296) : bits .and .u32 (m : Int) 31 = ((m % 32 : Nat) : Int) := by
 rw [show (31 : Int) = ((31 : Nat) : Int) from rfl, u32_and_nat m 31 h (by omega)]
 congr 1
 rw [show (31 : Nat) = 2 ^ 5 - 1 from rfl, Nat.and_two_pow_sub_one_eq_mod]
theorem Y8s (L : List Bool) : ∀ (k i a : Nat) (l : List Nat) {r : List Nat} {b : Nat}, Y6m L k i a l = .ok (r, b) → r.length = l.length
 | 0, i, a, l, r, b, h => by cases h; rfl
 | k + 1, i, a, l, r, b, h => by
  rw [Y6m] at h
  rcases hx : Y36 L a 3 with c | ⟨m, b'⟩
  ·rw [hx] at h; cases h
  ·rw [hx, R.then_ok] at h
   rw [Y8s L k _ _ _ h, List.length_set]
theorem Yw6 (W : World) (b o len cap a : Nat) (h1 : a ≤ cap) (h2 : 0 < cap) :
  (Instr.slice 74 (.slice (some ⟨b, o, none⟩) len cap) none (some (.int .i64 (a : Int))) none).run Tryz.prog W = .ok (.slice (some ⟨b, o, none⟩) a cap) W := by
 have ht' : Tryz.prog.underlying 74 = some (.slice (Tryz.prog.elem 74)) := by kernel_rfl
 have he : Tryz.prog.elem 74 = 3 := by kernel_rfl
 have hz : (Go.sizeOf 3).run Tryz.prog W = .ok 1 W := by
  obtain ⟨i, hi, hs⟩ := Option.map_eq_some_iff.1 Y7o
  simp [Go.sizeOf, typeInfo, hi, hs]
 rw [run_slice_h W 74 (some ⟨b, o, none⟩) len cap ht' .i64 _ (by omega) (by omega), he, hz]
 have h0 : ¬ cap = 0 := by omega
 simp [Result.andThen, sliced, h0, Y08]
theorem Yty (W : World) (b o len cap a : Nat) (h1 : a ≤ len) (h2 : a < cap) :
  (Instr.slice 74 (.slice (some ⟨b, o, none⟩) len cap) (some (.int .i64 (a : Int))) none none).run Tryz.prog W = .ok (.slice (some ⟨b, o + a, none⟩) (len - a) (cap - a)) W := by
 have ht' : Tryz.prog.underlying 74 = some (.slice (Tryz.prog.elem 74)) := by kernel_rfl
 have he : Tryz.prog.elem 74 = 3 := by kernel_rfl
 have hz : (Go.sizeOf 3).run Tryz.prog W = .ok 1 W := by
  obtain ⟨i, hi, hs⟩ := Option.map_eq_some_iff.1 Y7o
  simp [Go.sizeOf, typeInfo, hi, hs]
 rw [run_slice_l W 74 (some ⟨b, o, none⟩) len cap ht' .i64 _ (by omega) (by omega), he, hz]
 have h0 : ¬ cap = a := by omega
 simp [Result.andThen, sliced, h0, Y08]
theorem Yri {w : World} {C b o : Nat} {vs : List Value} (h : VRow w C (some ⟨b, o, none⟩) vs) (a : Nat) : VRow w C (some ⟨b, o, none⟩) (vs.take a) := by
 intro hp
 rw [List.length_take] at hp
 obtain ⟨b', o', e, hlt, hc⟩ := h (by omega)
 exact ⟨b', o', e, hlt, fun i hi => by
  rw [List.length_take] at hi
  rw [hc i (by omega)]
  simp⟩
theorem Yrh {w : World} {C b o : Nat} {vs : List Value} (h : VRow w C (some ⟨b, o, none⟩) vs) (a : Nat) : VRow w C (some ⟨b, o + a, none⟩) (vs.drop a) := by
 intro hp
 rw [List.length_drop] at hp
 obtain ⟨b', o', e, hlt, hc⟩ := h (by omega)
 cases e
 exact ⟨_, _, rfl, hlt, fun i hi => by
  rw [List.length_drop] at hi
  rw [Nat.add_assoc, hc (a + i) (by omega)]
  simp⟩
theorem Yoz (L : List Nat) (a : Nat) : (ints (Y05 L)).take a = ints (Y05 (L.take a)) := by simp [ints, Y05, List.map_take]
theorem Yoy (L : List Nat) (a : Nat) : (ints (Y05 L)).drop a = ints (Y05 (L.drop a)) := by simp [ints, Y05, List.map_drop]
def Ygh (L : List Bool) (most n1 : Nat) (all : List Nat) (a : Nat) (out : List UInt8) : R (List UInt8) :=
 if all.getD 256 0 = 0 then .error 3
 else withW (Y1h (all.take n1) false) fun A => withW (Y1h (all.drop n1) true) fun B => Y1s A B L most a out
theorem Ya4 (all : List Nat) (n1 : Nat) (h : 257 ≤ n1) : (all.take n1).getD 256 0 = all.getD 256 0 := by
 rw [List.getD_eq_getElem?_getD, List.getD_eq_getElem?_getD, List.getElem?_take, if_pos (by omega)]
theorem Yy4 {L : List Bool} {most n1 a : Nat} {all : List Nat} {out : List UInt8} (h1 : 257 ≤ n1) (h : Y6x (all.take n1) (all.drop n1)) :
  Ygh L most n1 all a out = Y1s (Y03 (all.take n1)) (Y03 (all.drop n1)) L most a out := by
 obtain ⟨k1, k2, k3⟩ := h
 rw [Ya4 all n1 h1] at k1
 unfold Ygh
 rw [if_neg k1, Y6t k2 false]
 have : Y1h (all.drop n1) true = .ok (Y03 (all.drop n1)) := by
  unfold Y1h
  rw [if_pos]
  rcases k3 with h | ⟨h, h2⟩
  ·exact .inl h
  ·exact .inr ⟨h, rfl, h2⟩
 rw [this]
 rfl
theorem Yul {L : List Bool} {most n1 a : Nat} {all : List Nat} {out : List UInt8} (h1 : 257 ≤ n1) (h : ¬ Y6x (all.take n1) (all.drop n1)) : Ygh L most n1 all a out = .error 3 := by
 unfold Ygh
 by_cases k1 : all.getD 256 0 = 0
 ·rw [if_pos k1]
 ·rw [if_neg k1]
  by_cases k2 : startN (all.take n1) 31 = 1073741824
  ·rw [Y6t k2 false]
   have : Y1h (all.drop n1) true = .error 3 := by
    unfold Y1h
    rw [if_neg]
    rintro (h2 | ⟨h2, _, h3⟩)
    ·exact h ⟨by rw [Ya4 all n1 h1]; exact k1, k2, .inl h2⟩
    ·exact h ⟨by rw [Ya4 all n1 h1]; exact k1, k2, .inr ⟨h2, h3⟩⟩
   rw [this]
   rfl
  ·rw [Ycg k2]
   rfl
theorem Yms (L : List Bool) (most at_ : Nat) (out : List UInt8) : Ye4 L most at_ out = (Y54 L at_).then fun n a =>
  if n.1 > 286 ∨ n.2.1 > 30 then .error 3
  else (Y6m L n.2.2 0 a (List.replicate 19 0)).then fun l a => withW (Y1h l false) fun W => (Y6l W (n.1 + n.2.1) L a []).then fun all a => Ygh L most n.1 all a out := rfl
def Yvr (w : World) (K : Kon) (a : Nat) (v : Value) (out : List UInt8) (F : Option Fix) (z : Nat) (WA WB : List (List Bool)) (N ga gb : Nat) (wx : World) : Prop :=
 ∃ Bb, De wx K a v out F ∧ Only (Y0x K v) w wx ∧ z ≤ Bb ∧ Bo wx Bb wx.heap.size ga WA ∧ Bo wx Bb wx.heap.size gb WB ∧ wx.heap[N]? = some (.cells #[.pointer (some ⟨ga, 0, none⟩), .pointer (some ⟨gb, 0, none⟩)] 57 (0, 0))
theorem ownA {w w4 w5 : World} {K : Kon} {a : Nat} {v : Value} {out : List UInt8} {F : Option Fix} {WA WB : List (List Bool)} {Bb ga gb : Nat} (hD : De w4 K a v out F) (ho : Only (Y0x K v) w w4) (hb : Below w4.heap.size w4 w5) (hB : w4.heap.size ≤ Bb)
  (h1 : Bo w5 Bb w5.heap.size ga WA) (h2 : Bo w5 Bb w5.heap.size gb WB) : Yvr w K a v out F w4.heap.size WA WB w5.heap.size ga gb (w5.alloc (.cells #[.pointer (some ⟨ga, 0, none⟩), .pointer (some ⟨gb, 0, none⟩)] 57)) := by
 have hba : Below w5.heap.size w5 (w5.alloc (.cells #[.pointer (some ⟨ga, 0, none⟩), .pointer (some ⟨gb, 0, none⟩)] 57)) := (Below.refl _ w5).alloc (Nat.le_refl _) _
 have hbw := hb.trans (hba.mono hb.size)
 exact ⟨Bb, hD.keep (Only.of_below hbw), ho.trans (Only.of_below hbw), hB, (h1.below hba).wide (Nat.le_refl _) hba.size (Nat.le_refl _), (h2.below hba).wide (Nat.le_refl _) hba.size (Nat.le_refl _), Array.getElem?_push_size⟩
theorem Yjl {w w4 w5 : World} {K : Kon} {a : Nat} {v : Value} {out : List UInt8} {F : Option Fix} {WA WB : List (List Bool)} {Bb ga gb : Nat} (hD : De w4 K a v out F) (hL : Low K v F w.heap.size) (ho : Only (Y0x K v) w w4) (hb : Below w4.heap.size w4 w5) (hB : w4.heap.size + 1 ≤ Bb)
  (h1 : Bo w5 Bb w5.heap.size ga WA) (h2 : Bo w5 Bb w5.heap.size gb WB) (hk : w5.heap[w4.heap.size]? = some (.cells #[.pointer none, .pointer none] 57 (0, 0))) :
  Yvr w K a v out F w4.heap.size WA WB w4.heap.size ga gb ((w5.setCell ⟨w4.heap.size, 0, none⟩ (.pointer (some ⟨ga, 0, none⟩))).setCell ⟨w4.heap.size, 1, none⟩ (.pointer (some ⟨gb, 0, none⟩))) := by
 have hz := ho.2.2.2.1
 have hs1 : Only (· = w4.heap.size) w5 (w5.setCell ⟨w4.heap.size, 0, none⟩ (.pointer (some ⟨ga, 0, none⟩))) := Only.setCell (S := (· = w4.heap.size)) (p := ⟨w4.heap.size, 0, none⟩) (by rfl) _
 have hs2 := hs1.trans (Only.setCell (S := (· = w4.heap.size)) (p := ⟨w4.heap.size, 1, none⟩) (by rfl) (.pointer (some ⟨gb, 0, none⟩)))
 have hsz : ((w5.setCell ⟨w4.heap.size, 0, none⟩ (.pointer (some ⟨ga, 0, none⟩))).setCell ⟨w4.heap.size, 1, none⟩ (.pointer (some ⟨gb, 0, none⟩))).heap.size = w5.heap.size := by simp [World.setCell]
 refine ⟨Bb, (hD.keep (Only.of_below hb)).later hs2 hL (fun k hk => by omega), Yam (ho.trans (Only.of_below hb)) hs2 (fun k hk => by omega), by omega, ?_, ?_, Ydw w5 w4.heap.size _ _ _ _ _ hk⟩
 ·rw [hsz]; exact (h1.set (by omega) _).set (by omega) _
 ·rw [hsz]; exact (h2.set (by omega) _).set (by omega) _
set_option maxHeartbeats 2000000 in
theorem Yfu (w : World) (K : Kon) (a : Nat) (v : Value) (out : List UInt8) (F : Option Fix) (h : De w K a v out F) :
  Calls Tryz.prog 58 #[.pointer (some ⟨K.d, 0, none⟩)] w (Res w K v F (Ye4 (Y01 true K.xs) K.most a out)) := by
 obtain ⟨X, hX⟩ : ∃ X, X = Ye4 (Y01 true K.xs) K.most a out := ⟨_, rfl⟩
 rw [← hX]
 have hX2 := hX
 rw [Yms] at hX2
 have hlo := h.lo
 have hlt := h.lt
 have c0 := h.c0
 have H := Lib.hid h
 have HLOW := Lib.hid h.low
 rcases hx : Y36 (Y01 true K.xs) a 14 with c | ⟨m, b⟩
 ·have HRD := Lib.hid (Y64 K.gr K.p K.cap K.xs a 14 c (by omega) w H.out.rd hx)
  have HRES : Hid (∀ w2, Only (· = K.gr) w w2 → Res w K v F X (.returned (.int .i64 2)) w2) := Lib.hid fun w2 ho2 => .inr ⟨2, by rw [hX2, Yr4 hx]; rfl, by decide, rfl, Y0w ho2⟩
  clear hx hX hX2 h
  go_enter Tryz.func58, Tryz.ntmps58
  go_wp2_with fail
  refine HRD.out.mono ?_
  rintro e w2 ⟨rfl, ho2⟩
  have HRES2 := Lib.hid (HRES.out w2 ho2)
  clear ho2
  go_wp2_with fail
  go_ret
  exact HRES2.out
 ·have HRD := Lib.hid (Y8f K.gr K.p K.cap K.xs a 14 m b (by omega) w H.out.rd hx)
  obtain ⟨h3, hm⟩ := Yuq hx
  rw [h3, R.then_ok] at hX2
  obtain ⟨x5, hx5⟩ : ∃ x, x = m % 32 := ⟨_, rfl⟩
  obtain ⟨m5, hm5⟩ : ∃ x, x = m / 32 := ⟨_, rfl⟩
  obtain ⟨y5, hy5⟩ : ∃ x, x = m5 % 32 := ⟨_, rfl⟩
  obtain ⟨m10, hm10⟩ : ∃ x, x = m / 1024 := ⟨_, rfl⟩
  have g1 := and31 m (by omega)
  have g2 := and31 m5 (by omega)
  have d5 : (m : Int) / 32 = (m5 : Int) := by omega
  have d10 : (m : Int) / 1024 = (m10 : Int) := by omega
  rw [← hm5, ← hm10, ← hx5, ← hy5] at hX2
  rw [← hx5] at g1
  rw [← hy5] at g2
  obtain ⟨n1, hn1⟩ : ∃ n, n = x5 + 257 := ⟨_, rfl⟩
  obtain ⟨n2, hn2⟩ : ∃ n, n = y5 + 1 := ⟨_, rfl⟩
  obtain ⟨k, hk⟩ : ∃ k, k = m10 + 4 := ⟨_, rfl⟩
  rw [← hn1, ← hn2, ← hk] at hX2
  have e1 : (257 : Int) + (x5 : Int) = (n1 : Int) := by omega
  have e2 : (1 : Int) + (y5 : Int) = (n2 : Int) := by omega
  have e3 : (4 : Int) + (m10 : Int) = (k : Int) := by omega
  have hy31 : y5 ≤ 31 := by omega
  have hm5b : m5 ≤ 511 := by omega
  have hm10b : m10 ≤ 15 := by omega
  have hx31 : x5 ≤ 31 := by omega
  have b1 : 257 ≤ n1 ∧ n1 ≤ 288 := by omega
  have b2 : 1 ≤ n2 ∧ n2 ≤ 32 := by omega
  have b3 : k ≤ 19 := by omega
  have HX2 := Lib.hid hX2
  clear hx hX hX2 h h3 hx5 hm5 hy5 hm10 hn1 hn2 hk
  by_cases hbad : n1 > 286 ∨ n2 > 30
  ·have HRES : Hid (∀ w2, Only (· = K.gr) w w2 → Res w K v F X (.returned (.int .i64 3)) w2) := Lib.hid fun w2 ho2 => .inr ⟨3, by rw [HX2.out]; exact if_pos hbad, by decide, rfl, Y0w ho2⟩
   have hq : (decide (286 < (n1 : Int)) = true) ∨ (decide (286 < (n1 : Int)) = false ∧ decide (30 < (n2 : Int)) = true) := by
    by_cases h1 : n1 > 286
    ·left; simp; omega
    ·right; simp; omega
   clear hbad
   rcases hq with q1 | ⟨q1, q2⟩
   all_goals
    go_enter Tryz.func58, Tryz.ntmps58
    go_wp2_with fail
    refine HRD.out.mono ?_
    rintro e w2 ⟨rfl, hr2, ho2⟩
    have HRES2 := Lib.hid (HRES.out w2 ho2)
    clear hr2 ho2
    go_wp2_with fail
    go_ret
    exact HRES2.out
  ·have q1 : decide (286 < (n1 : Int)) = false := by simp; omega
   have q2 : decide (30 < (n2 : Int)) = false := by simp; omega
   have hx2 := HX2.out
   have hx2 : X = (Y6m (Y01 true K.xs) k 0 b (List.replicate 19 0)).then fun l a => withW (Y1h l false) fun W => (Y6l W (n1 + n2) (Y01 true K.xs) a []).then fun all a => Ygh (Y01 true K.xs) K.most n1 all a out := by
    rw [hx2]; exact if_neg hbad
   have HX3 := Lib.hid hx2
   have hn286 : n1 ≤ 286 := by omega
   have hn30 : n2 ≤ 30 := by omega
   clear hbad hx2 HX2
   go_enter Tryz.func58, Tryz.ntmps58
   go_wp2_with fail
   refine HRD.out.mono ?_
   rintro e w2 ⟨rfl, hr2, ho2⟩
   have hD2 := H.out.moved ho2 hr2
   have HO2 := Lib.hid (Y0w (v := v) ho2)
   have HLC := Lib.hid (Ybi w2 K b v out F k hD2 b3)
   clear hr2 ho2 hD2
   go_wp2_with fail
   refine HLC.out.mono ?_
   rintro e w3 ⟨ho3, hres⟩
   have HO3 := Lib.hid (HO2.out.trans ho3)
   have hz2 := HO2.out.2.2.2.1
   clear ho3
   rcases hres with ⟨c, hxm, hcne, rfl⟩ | ⟨l, a3, hxm, ⟨hne, rfl⟩ | ⟨hfull, B, g, rfl, hB, hD3, hbo⟩⟩
   ·have hc0 : ((c : Int) != 0) = true := by simp; omega
    have HRES : Hid (Res w K v F X (.returned (.int .i64 (c : Int))) w3) := Lib.hid (.inr ⟨c, by rw [HX3.out, hxm]; rfl, hcne, rfl, HO3.out⟩)
    clear hxm hcne
    go_wp2_with fail
    go_ret
    exact HRES.out
   ·have HRES : Hid (Res w K v F X (.returned (.int .i64 3)) w3) := Lib.hid (.inr ⟨3, by rw [HX3.out, hxm, R.then_ok, Ycg hne]; rfl, by decide, rfl, HO3.out⟩)
    clear hxm hne
    go_wp2_with fail
    go_ret
    exact HRES.out
   ·have hCl : Clr K v B w3.heap.size := ⟨by omega, fun kk hk hh => by have := HLOW.out.v kk hk; omega⟩
    have hWl : (Y03 l).length ≤ 19 := by
     rw [Y0e]
     have := Y8s (Y01 true K.xs) k 0 b (List.replicate 19 0) hxm
     simp at this
     omega
    have hcln := Y9t w3 K a3 v out F B w3.heap.size g (n1 + n2) (Y03 l) hD3 hbo hCl hWl (by omega)
    rw [Int.natCast_add] at hcln
    have HCLN := Lib.hid hcln
    have HX4 : Hid (X = (Y6l (Y03 l) (n1 + n2) (Y01 true K.xs) a3 []).then fun all a => Ygh (Y01 true K.xs) K.most n1 all a out) := Lib.hid (by
     rw [HX3.out, hxm, R.then_ok, Y6t hfull]; rfl)
    have hz3 := HO3.out.2.2.2.1
    clear hcln
    clear hxm hfull hB hD3 hbo hCl hWl
    go_wp2_with fail
    refine HCLN.out.mono ?_
    rintro e w4 ⟨ho4, hres⟩
    have HO4 := Lib.hid (HO3.out.trans ho4)
    have hz4 := ho4.2.2.2.1
    clear ho4
    rcases hres with ⟨c, hxm, hcne, rfl⟩ | ⟨all, a4, q, c8, hxm, hall, hm30, rfl, hD4, hvq, hq0, hqc⟩
    ·have hc0 : ((c : Int) != 0) = true := by simp; omega
     have HRES : Hid (Res w K v F X (.returned (.int .i64 (c : Int))) w4) := Lib.hid (.inr ⟨c, by rw [HX4.out, hxm]; rfl, hcne, rfl, HO4.out⟩)
     clear hxm hcne
     go_wp2_with fail
     go_ret
     exact HRES.out
    ·obtain ⟨bq, oq, rfl, hbq⟩ := hvq.addr (by rw [Y06, Y02]; omega)
     have HX5 : Hid (X = Ygh (Y01 true K.xs) K.most n1 all a4 out) := Lib.hid (by rw [HX4.out, hxm]; rfl)
     have HALL := Lib.hid hall
     have HM30 := Lib.hid hm30
     have HVQ := Lib.hid hvq
     have HD4 := Lib.hid hD4
     clear hxm hall hm30 hvq hD4 hq0
     have hs1 := fun W => Yw6 W bq oq (n1 + n2) c8 n1 (by omega) (by omega)
     have hs2 := fun W => Yty W bq oq (n1 + n2) c8 n1 (by omega) (by omega)
     rw [Nat.add_sub_cancel_left] at hs2
     have hOWN : ∀ V, Below w4.heap.size w4 V → Calls Tryz.prog 95 #[.slice (some ⟨bq, oq, none⟩) n1 c8, .slice (some ⟨bq, oq + n1, none⟩) n2 (c8 - n1)] V (Yv9 V (all.take n1) (all.drop n1)) := fun V hV => by
      have hv := (HVQ.out.below hV (Nat.le_refl _)).mono hV.size
      have h1 := Yri hv n1
      have h2 := Yrh hv n1
      rw [Yoz] at h1
      rw [Yoy] at h2
      have hall := HALL.out
      exact Yfv _ _ c8 (c8 - n1) n1 n2 (all.take n1) (all.drop n1) V h1 (by rw [List.length_take]; omega) (fun m hm => HM30.out m (List.mem_of_mem_take hm)) (by omega) (fun h => by cases h)
       h2 (by rw [List.length_drop]; omega) (fun m hm => HM30.out m (List.mem_of_mem_drop hm)) (by omega) (fun h => by cases h)
     have hbA : Below w4.heap.size w4 w4.drew := (show Drawn w4 w4.drew from ⟨1, rfl⟩).below _
     have hbB : Below w4.heap.size w4 (w4.drew.alloc (.cells #[.pointer none, .pointer none] 57)) := hbA.alloc (Nat.le_refl _) _
     have hblkB : (w4.drew.alloc (.cells #[.pointer none, .pointer none] 57)).heap[w4.heap.size]? = some (.cells #[.pointer none, .pointer none] 57 (0, 0)) := Array.getElem?_push_size
     have hzB : (w4.drew.alloc (.cells #[.pointer none, .pointer none] 57)).heap.size = w4.heap.size + 1 := Array.size_push _
     have HLO := Lib.hid hlo
     by_cases hok : Y6x (all.take n1) (all.drop n1)
     ·have HOWA : Hid (Calls Tryz.prog 95 #[.slice (some ⟨bq, oq, none⟩) n1 c8, .slice (some ⟨bq, oq + n1, none⟩) n2 (c8 - n1)] w4.drew fun e w5 => ∃ Bb ga gb, e = .returned (.tuple #[.agg #[.pointer (some ⟨ga, 0, none⟩), .pointer (some ⟨gb, 0, none⟩)], .int .i64 0]) ∧
        Hid (Below w4.heap.size w4 w5 ∧ w4.heap.size ≤ Bb ∧ Bo w5 Bb w5.heap.size ga (Y03 (all.take n1)) ∧ Bo w5 Bb w5.heap.size gb (Y03 (all.drop n1)))) := Lib.hid ((hOWN _ hbA).mono (by
       rintro e w5 ⟨hb5, ⟨hno, _⟩ | ⟨_, Bb, ga, gb, rfl, h1, h2, h3⟩⟩
       ·exact absurd hok hno
       ·exact ⟨Bb, ga, gb, rfl, Lib.hid ⟨hbA.trans hb5, h1, h2, h3⟩⟩))
      have HOWB : Hid (Calls Tryz.prog 95 #[.slice (some ⟨bq, oq, none⟩) n1 c8, .slice (some ⟨bq, oq + n1, none⟩) n2 (c8 - n1)] (w4.drew.alloc (.cells #[.pointer none, .pointer none] 57)) fun e w5 => ∃ Bb ga gb, e = .returned (.tuple #[.agg #[.pointer (some ⟨ga, 0, none⟩), .pointer (some ⟨gb, 0, none⟩)], .int .i64 0]) ∧
        Hid (Below w4.heap.size w4 w5 ∧ w4.heap.size + 1 ≤ Bb ∧ Bo w5 Bb w5.heap.size ga (Y03 (all.take n1)) ∧ Bo w5 Bb w5.heap.size gb (Y03 (all.drop n1)) ∧ w5.heap[w4.heap.size]? = some (.cells #[.pointer none, .pointer none] 57 (0, 0)))) := Lib.hid ((hOWN _ hbB).mono (by
       rintro e w5 ⟨hb5, ⟨hno, _⟩ | ⟨_, Bb, ga, gb, rfl, h1, h2, h3⟩⟩
       ·exact absurd hok hno
       ·exact ⟨Bb, ga, gb, rfl, Lib.hid ⟨hbB.trans (hb5.mono (by omega)), by omega, h2, h3, (hb5.block _ (by omega)).trans hblkB⟩⟩))
      clear hOWN hbA hbB hblkB
      go_wp2_with fail
      go_cut [4, 9] (fun s4 s9 wx => ∃ N ga gb : Nat, s4 = .int .i64 0 ∧ s9 = .pointer (some ⟨N, 0, none⟩) ∧ Hid (Yvr w K a4 v out F w4.heap.size (Y03 (all.take n1)) (Y03 (all.drop n1)) N ga gb wx))
      case first =>
       go_region_held3 (fun _ => True) (trivial) (first | (go_at_call 95; refine HOWA.out.mono ?_; rintro e w5 ⟨Bb, ga, gb, rfl, HW⟩) | (go_at_call 95; refine HOWB.out.mono ?_; rintro e w5 ⟨Bb, ga, gb, rfl, HW⟩; obtain ⟨u0, u1, f0, f1⟩ := Y0z HW.out.2.2.2.2))
       all_goals
        go_wp2_with fail
        go_meet
        first
        | exact ⟨_, ga, gb, rfl, rfl, Lib.hid (ownA HD4.out HO4.out HW.out.1 HW.out.2.1 HW.out.2.2.1 HW.out.2.2.2)⟩
        | exact ⟨_, ga, gb, rfl, rfl, Lib.hid (Yjl HD4.out HLOW.out HO4.out HW.out.1 HW.out.2.1 HW.out.2.2.1 HW.out.2.2.2.1 HW.out.2.2.2.2)⟩
      case rest =>
       obtain ⟨N, ga, gb, rfl, rfl, HS⟩ := hcut
       obtain ⟨Bb, hDc, hoc, hBb, hba, hbb, hblk⟩ := HS.out
       obtain ⟨r0, r1, _, _⟩ := Y0z hblk
       have hzc := hoc.2.2.2.1
       have hCl : Clr K v Bb wc.heap.size := ⟨by omega, fun kk hk hh => by have := HLOW.out.v kk hk; omega⟩
       have HCD := Lib.hid (Y4c wc K a4 v out F Bb wc.heap.size ga gb (Y03 (all.take n1)) (Y03 (all.drop n1)) hDc hba hbb hCl (by rw [Y0e, List.length_take]; omega) (by rw [Y0e, List.length_drop, HALL.out]; omega))
       have HX6 : Hid (X = Y1s (Y03 (all.take n1)) (Y03 (all.drop n1)) (Y01 true K.xs) K.most a4 out) := Lib.hid (by rw [HX5.out]; exact Yy4 b1.1 hok)
       have HOC := Lib.hid hoc
       clear hDc hoc hBb hba hbb hblk hCl hok HOWA HOWB
       go_wp2_with fail
       refine HCD.out.mono ?_
       rintro e w6 hres
       have HRES : Hid (Res w K v F X e w6) := Lib.hid (by
        rw [HX6.out]
        rcases hres with ⟨o, a6, h1, h2, h3⟩ | ⟨c, h1, h2, h3, h4⟩
        ·exact .inl ⟨o, a6, h1, h2, h3.more HOC.out (fun kk hk => .inl hk)⟩
        ·exact .inr ⟨c, h1, h2, h3, HOC.out.trans h4⟩)
       have hE : ∃ r, e = .returned (.int .i64 r) := by
        rcases hres with ⟨_, _, _, h2, _⟩ | ⟨c, _, _, h3, _⟩
        ·exact ⟨_, h2⟩
        ·exact ⟨_, h3⟩
       obtain ⟨r, rfl⟩ := hE
       clear hres
       go_wp2_with fail
       go_ret
       exact HRES.out
     ·have HRES3 : Hid (∀ wx, Only (Y0x K v) w wx → Res w K v F X (.returned (.int .i64 3)) wx) := Lib.hid fun wx ho => .inr ⟨3, by rw [HX5.out]; exact Yul b1.1 hok, by decide, rfl, ho⟩
      have HOWA : Hid (Calls Tryz.prog 95 #[.slice (some ⟨bq, oq, none⟩) n1 c8, .slice (some ⟨bq, oq + n1, none⟩) n2 (c8 - n1)] w4.drew fun e w5 => e = .returned (.tuple #[.agg #[.pointer none, .pointer none], .int .i64 3]) ∧ Hid (Below w4.heap.size w4 w5)) := Lib.hid ((hOWN _ hbA).mono (by
       rintro e w5 ⟨hb5, ⟨_, rfl⟩ | ⟨hno, _⟩⟩
       ·exact ⟨rfl, Lib.hid (hbA.trans hb5)⟩
       ·exact absurd hno hok))
      have HOWB : Hid (Calls Tryz.prog 95 #[.slice (some ⟨bq, oq, none⟩) n1 c8, .slice (some ⟨bq, oq + n1, none⟩) n2 (c8 - n1)] (w4.drew.alloc (.cells #[.pointer none, .pointer none] 57)) fun e w5 => e = .returned (.tuple #[.agg #[.pointer none, .pointer none], .int .i64 3]) ∧
        Hid (Below w4.heap.size w4 w5 ∧ w5.heap[w4.heap.size]? = some (.cells #[.pointer none, .pointer none] 57 (0, 0)))) := Lib.hid ((hOWN _ hbB).mono (by
       rintro e w5 ⟨hb5, ⟨_, rfl⟩ | ⟨hno, _⟩⟩
       ·exact ⟨rfl, Lib.hid ⟨hbB.trans (hb5.mono (by omega)), (hb5.block _ (by omega)).trans hblkB⟩⟩
       ·exact absurd hno hok))
      clear hOWN hbA hbB hblkB hok
      have HMEETA : Hid (∀ w5, Below w4.heap.size w4 w5 → Only (Y0x K v) w w5) := Lib.hid fun w5 hb => HO4.out.trans (Only.of_below hb)
      have HMEETB : Hid (∀ w5 u u2, Below w4.heap.size w4 w5 → Only (Y0x K v) w ((w5.setCell ⟨w4.heap.size, 0, none⟩ u).setCell ⟨w4.heap.size, 1, none⟩ u2)) := Lib.hid fun w5 u u2 hb =>
       (HMEETA.out _ ((hb.setCell (p := ⟨w4.heap.size, 0, none⟩) (Nat.le_refl _) _).setCell (p := ⟨w4.heap.size, 1, none⟩) (Nat.le_refl _) _))
      go_wp2_with fail
      go_cut [4, 9] (fun s4 s9 wx => s4 = .int .i64 3 ∧ Hid (Only (Y0x K v) w wx))
      case first =>
       go_region_held3 (fun _ => True) (trivial) (first | (go_at_call 95; refine HOWA.out.mono ?_; rintro e w5 ⟨rfl, HW⟩) | (go_at_call 95; refine HOWB.out.mono ?_; rintro e w5 ⟨rfl, HW⟩; obtain ⟨u0, u1, f0, f1⟩ := Y0z HW.out.2))
       all_goals
        go_wp2_with fail
        go_meet
        first
        | exact ⟨rfl, Lib.hid (HMEETA.out _ (HW.out.alloc (by have := HW.out.size; omega) _))⟩
        | exact ⟨rfl, Lib.hid (HMEETB.out _ _ _ HW.out.1)⟩
        | exact ⟨rfl, Lib.hid (HMEETA.out _ HW.out.1)⟩
      case rest =>
       obtain ⟨rfl, HS⟩ := hcut
       have HRES4 := Lib.hid (HRES3.out _ HS.out)
       go_wp2_with fail
       go_ret
       exact HRES4.out
end Go.Proofs.YtkkfkmoikcmhoaaGreat.Inf
namespace Go.Proofs.YtkkfkmoikcmhoaaGreat.Inf
open Go.RowKit Oct Bit Hf
set_option maxRecDepth 100000
def Ymx (w : World) (K : Kon) (v : Value) (x : R (List UInt8)) (e : Ending) (w' : World) : Prop :=
 (∃ o a F, x = .ok (o, a) ∧ e = .returned (.int .i64 0) ∧ DeT w K v a o F w') ∨ ∃ c, x = .error c ∧ c ≠ 0 ∧ e = .returned (.int .i64 (c : Int)) ∧ Only (Y0x K v) w w'
theorem Res.f {w w' : World} {K : Kon} {v : Value} {F : Option Fix} {x : R (List UInt8)} {e : Ending} (h : Res w K v F x e w') : Ymx w K v x e w' := by
 rcases h with ⟨o, a, h1, h2, h3⟩ | h
 ·exact .inl ⟨o, a, F, h1, h2, h3⟩
 ·exact .inr h
theorem Ymx.end_ {w w' : World} {K : Kon} {v : Value} {x : R (List UInt8)} {e : Ending} (h : Ymx w K v x e w') : ∃ r, e = .returned (.int .i64 r) := by
 rcases h with ⟨_, _, _, _, h2, _⟩ | ⟨c, _, _, h3, _⟩
 ·exact ⟨_, h2⟩
 ·exact ⟨_, h3⟩
theorem Ymx.more {w w1 w' : World} {K : Kon} {v : Value} {x : R (List UInt8)} {e : Ending} (ho : Only (Y0x K v) w w1) (h : Ymx w1 K v x e w') : Ymx w K v x e w' := by
 rcases h with ⟨o, a, F, h1, h2, h3⟩ | ⟨c, h1, h2, h3, h4⟩
 ·exact .inl ⟨o, a, F, h1, h2, h3.more ho (fun k hk => .inl hk)⟩
 ·exact .inr ⟨c, h1, h2, h3, ho.trans h4⟩
theorem fixW : (Y03 Y0l).length ≤ 300 ∧ (Y03 Y0s).length ≤ 30 := by rw [Y0e, Y0e]; decide
theorem De.fixed {w : World} {K : Kon} {a : Nat} {v : Value} {out : List UInt8} {B ga gb : Nat} (h : De w K a v out none) (hB : K.d < B) (hv : ∀ k, v.ownBlock = some k → k < B) (h1 : Bo w B w.heap.size ga (Y03 Y0l)) (h2 : Bo w B w.heap.size gb (Y03 Y0s)) :
  De ((w.setCell ⟨K.d, 5, none⟩ (.pointer (some ⟨ga, 0, none⟩))).setCell ⟨K.d, 6, none⟩ (.pointer (some ⟨gb, 0, none⟩))) K a v out (some ⟨B, w.heap.size, ga, gb⟩) ∧
   Only (Y0x K v) w ((w.setCell ⟨K.d, 5, none⟩ (.pointer (some ⟨ga, 0, none⟩))).setCell ⟨K.d, 6, none⟩ (.pointer (some ⟨gb, 0, none⟩))) := by
 have ho : Only (· = K.d) w ((w.setCell ⟨K.d, 5, none⟩ (.pointer (some ⟨ga, 0, none⟩))).setCell ⟨K.d, 6, none⟩ (.pointer (some ⟨gb, 0, none⟩))) :=
  (Only.setCell (S := (· = K.d)) (p := ⟨K.d, 5, none⟩) (by rfl) _).trans (Only.setCell (S := (· = K.d)) (p := ⟨K.d, 6, none⟩) (by rfl) _)
 have hlo := h.lo
 have hhv := h.hv
 refine ⟨⟨?_, Yaw h.rd ho (fun k hk e => by omega), Y5u h.own ho (fun k hk e => by have := hhv k hk; omega), h.tbl.only ho (fun k _ h2 e => by omega), hlo, hhv, h.om, h.sz, ?_, h.cl⟩, ho.mono fun k _ e => .inl e⟩
 ·have hb := h.blk
  simp [World.setCell, Array.getElem?_modify, hb, fixL, fixR]
 ·refine ⟨⟨hB, fun k hk hh => by have := hv k hk; have := hh.1; simp at this; omega⟩, ?_, ?_⟩
  ·exact (h1.set hB _).set hB _
  ·exact (h2.set hB _).set hB _
set_option maxHeartbeats 2000000 in
theorem Ybg (w : World) (K : Kon) (a : Nat) (v : Value) (out : List UInt8) (F : Option Fix) (h : De w K a v out F) :
  Calls Tryz.prog 57 #[.pointer (some ⟨K.d, 0, none⟩)] w (Ymx w K v (Y1s (Y03 Y0l) (Y03 Y0s) (Y01 true K.xs) K.most a out)) := by
 obtain ⟨X, hX⟩ : ∃ X, X = Y1s (Y03 Y0l) (Y03 Y0s) (Y01 true K.xs) K.most a out := ⟨_, rfl⟩
 rw [← hX]
 have HX := Lib.hid hX
 have HLOW := Lib.hid h.low
 have hlo := h.lo
 have c5 := h.c5
 have c6 := h.c6
 rcases F with _ | f
 ·change w.cell? ⟨K.d, 5, none⟩ = some (.pointer none) at c5
  have H := Lib.hid h
  clear h hX c6
  go_enter Tryz.func57, Tryz.ntmps57
  go_wp2_with fail
  refine (Ybh w).mono ?_
  rintro e w2 ⟨hb2, B, ga, gb, rfl, hB, h1, h2⟩
  have hD2 := H.out.keep (Only.of_below hb2)
  obtain ⟨hD3, ho3⟩ := hD2.fixed (B := B) (by have := HLOW.out.d; omega) (fun k hk => by have := HLOW.out.v k hk; omega) h1 h2
  have f5 := hD2.fz 5
  have f6 := hD2.fz 6
  have c5 : w2.cell? ⟨K.d, 5, none⟩ = some (.pointer none) := hD2.c5
  have c6 : w2.cell? ⟨K.d, 6, none⟩ = some (.pointer none) := hD2.c6
  obtain ⟨w3, hw3⟩ : ∃ w3, w3 = (w2.setCell ⟨K.d, 5, none⟩ (.pointer (some ⟨ga, 0, none⟩))).setCell ⟨K.d, 6, none⟩ (.pointer (some ⟨gb, 0, none⟩)) := ⟨_, rfl⟩
  rw [← hw3] at hD3 ho3
  have HCD := Lib.hid (Y4c w3 K a v out _ B w2.heap.size ga gb _ _ hD3 hD3.fx.2.1 hD3.fx.2.2 hD3.fx.1 fixW.1 fixW.2)
  have HO3 := Lib.hid ((Only.of_below (S := Y0x K v) hb2).trans ho3)
  have HW3 := Lib.hid hw3
  clear hb2 hB h1 h2 hD2 hD3 ho3 hw3
  go_wp2_with fail
  rw [← HW3.out]
  refine HCD.out.mono ?_
  rintro e w4 hres
  have HRES : Hid (Ymx w K v X e w4) := Lib.hid (by rw [HX.out]; exact (Res.f hres).more HO3.out)
  obtain ⟨r, rfl⟩ := HRES.out.end_
  clear hres
  go_wp2_with fail
  go_ret
  exact HRES.out
 ·change w.cell? ⟨K.d, 5, none⟩ = some (.pointer (some ⟨f.ga, 0, none⟩)) at c5
  change w.cell? ⟨K.d, 6, none⟩ = some (.pointer (some ⟨f.gb, 0, none⟩)) at c6
  have HCD := Lib.hid (Y4c w K a v out _ f.B f.C f.ga f.gb _ _ h h.fx.2.1 h.fx.2.2 h.fx.1 fixW.1 fixW.2)
  clear h hX
  go_enter Tryz.func57, Tryz.ntmps57
  go_wp2_with fail
  refine HCD.out.mono ?_
  rintro e w4 hres
  have HRES : Hid (Ymx w K v X e w4) := Lib.hid (by rw [HX.out]; exact Res.f hres)
  obtain ⟨r, rfl⟩ := HRES.out.end_
  clear hres
  go_wp2_with fail
  go_ret
  exact HRES.out
def BlP (w : World) (K : Kon) (a : Nat) (v : Value) (out : List UInt8) (e : Ending) (w' : World) : Prop :=
 (∃ h b o a' F, Y36 (Y01 true K.xs) a 3 = .ok (h, b) ∧ Yal (Y01 true K.xs) K.most h b out = .ok (o, a') ∧ e = .returned (.tuple #[.bool (decide (h % 2 = 1)), .int .i64 0]) ∧ DeT w K v a' o F w') ∨
  ∃ c t, ((Y36 (Y01 true K.xs) a 3).then fun h b => Yal (Y01 true K.xs) K.most h b out) = .error c ∧ c ≠ 0 ∧ e = .returned (.tuple #[.bool t, .int .i64 (c : Int)]) ∧ Only (Y0x K v) w w'
theorem and1 (m : Nat) (h : m < 4294967296) : bits .and .u32 (m : Int) 1 = ((m % 2 : Nat) : Int) := by
 rw [show (1 : Int) = ((1 : Nat) : Int) from rfl, u32_and_nat m 1 h (by omega)]
 congr 1
 rw [show (1 : Nat) = 2 ^ 1 - 1 from rfl, Nat.and_two_pow_sub_one_eq_mod]
theorem Ymx.bl {w w1 w' : World} {K : Kon} {a : Nat} {v : Value} {out : List UInt8} {h b : Nat} {r : Int} (hx : Y36 (Y01 true K.xs) a 3 = .ok (h, b)) (ho : Only (Y0x K v) w w1)
  (hr : Ymx w1 K v (Yal (Y01 true K.xs) K.most h b out) (.returned (.int .i64 r)) w') : BlP w K a v out (.returned (.tuple #[.bool (decide (h % 2 = 1)), .int .i64 r])) w' := by
 rcases hr with ⟨o, a', F, h1, h2, h3⟩ | ⟨c, h1, h2, h3, h4⟩
 ·cases h2
  exact .inl ⟨h, b, o, a', F, hx, h1, rfl, h3.more ho (fun k hk => .inl hk)⟩
 ·injection h3 with h3
  injection h3 with _ h3
  subst h3
  exact .inr ⟨c, _, by rw [hx, R.then_ok, h1], h2, rfl, ho.trans h4⟩
set_option maxHeartbeats 2000000 in
theorem Yno (w : World) (K : Kon) (a : Nat) (v : Value) (out : List UInt8) (F : Option Fix) (h : De w K a v out F) :
  Calls Tryz.prog 28 #[.pointer (some ⟨K.d, 0, none⟩)] w (BlP w K a v out) := by
 have c0 := h.c0
 have H := Lib.hid h
 rcases hx : Y36 (Y01 true K.xs) a 3 with c | ⟨m, b⟩
 ·have HRD := Lib.hid (Y64 K.gr K.p K.cap K.xs a 3 c (by omega) w h.rd hx)
  have hc2 := Ydf hx
  have HRES : Hid (∀ w2, Only (· = K.gr) w w2 → BlP w K a v out (.returned (.tuple #[.bool false, .int .i64 2])) w2) := Lib.hid fun w2 ho2 =>
   .inr ⟨2, false, by rw [hx, hc2]; rfl, by decide, rfl, Y0w ho2⟩
  clear hx h
  go_enter Tryz.func28, Tryz.ntmps28
  go_wp2_with fail
  refine HRD.out.mono ?_
  rintro e w2 ⟨rfl, ho2⟩
  have HRES2 := Lib.hid (HRES.out w2 ho2)
  clear ho2
  go_wp2_with fail
  go_ret2
  exact HRES2.out
 ·have HRD := Lib.hid (Y8f K.gr K.p K.cap K.xs a 3 m b (by omega) w h.rd hx)
  obtain ⟨hm8, _⟩ := Y2b hx (by omega)
  have hm8 : m < 8 := hm8
  have g1 := and1 m (by omega)
  obtain ⟨y, hy⟩ : ∃ y, y = m % 2 := ⟨_, rfl⟩
  obtain ⟨q, hq⟩ : ∃ q, q = m / 2 := ⟨_, rfl⟩
  rw [← hy] at g1
  have d1 : (m : Int) / 2 = (q : Int) := by omega
  have hbit : ((y : Int) == 1) = decide (m % 2 = 1) := by
   rw [← hy]
   by_cases h1 : y = 1
   ·subst h1; rfl
   ·have : ¬ (y : Int) = 1 := by omega
    simp [h1, this]
  have HX := Lib.hid hx
  have HQ := Lib.hid hq
  have hq4 : q < 4 := by omega
  have FIN : Hid (∀ w1 r w', Only (Y0x K v) w w1 → Ymx w1 K v (Yal (Y01 true K.xs) K.most m b out) (.returned (.int .i64 r)) w' → BlP w K a v out (.returned (.tuple #[.bool ((y : Int) == 1), .int .i64 r])) w') := Lib.hid fun w1 r w' ho hr => by
   rw [hbit]; exact hr.bl hx ho
  have HPRE : Hid (∀ w2, Rd w2 K.gr K.p K.cap K.xs b true → Only (· = K.gr) w w2 → De w2 K b v out F ∧ Only (Y0x K v) w w2) := Lib.hid fun w2 hr ho => ⟨H.out.moved ho hr, Y0w ho⟩
  clear hx h hy hq hbit
  match q, hq4 with
  | 0, _ =>
   have HONE : Hid (Yal (Y01 true K.xs) K.most m b out = Y3n (Y01 true K.xs) K.most b out) := Lib.hid (by unfold Yal; rw [← HQ.out, if_pos rfl])
   go_enter Tryz.func28, Tryz.ntmps28
   go_wp2_with fail
   refine HRD.out.mono ?_
   rintro e w2 ⟨rfl, hr2, ho2⟩
   obtain ⟨hD2, hO2⟩ := HPRE.out w2 hr2 ho2
   have HC := Lib.hid (Y8j w2 K b v out F hD2)
   have HO2 := Lib.hid hO2
   clear hr2 ho2 hD2 hO2
   go_wp2_with fail
   refine HC.out.mono ?_
   rintro e w3 hres
   have hres2 := Res.f hres
   rw [← HONE.out] at hres2
   obtain ⟨r, rfl⟩ := hres2.end_
   have HRES := Lib.hid (FIN.out w2 r w3 HO2.out hres2)
   clear hres hres2
   go_wp2_with fail
   go_ret2
   exact HRES.out
  | 1, _ =>
   have HONE : Hid (Yal (Y01 true K.xs) K.most m b out = Y1s (Y03 Y0l) (Y03 Y0s) (Y01 true K.xs) K.most b out) := Lib.hid (by unfold Yal; rw [← HQ.out, if_neg (by omega), if_pos rfl])
   go_enter Tryz.func28, Tryz.ntmps28
   go_wp2_with fail
   refine HRD.out.mono ?_
   rintro e w2 ⟨rfl, hr2, ho2⟩
   obtain ⟨hD2, hO2⟩ := HPRE.out w2 hr2 ho2
   have HC := Lib.hid (Ybg w2 K b v out F hD2)
   have HO2 := Lib.hid hO2
   clear hr2 ho2 hD2 hO2
   go_wp2_with fail
   refine HC.out.mono ?_
   rintro e w3 hres2
   rw [← HONE.out] at hres2
   obtain ⟨r, rfl⟩ := hres2.end_
   have HRES := Lib.hid (FIN.out w2 r w3 HO2.out hres2)
   clear hres2
   go_wp2_with fail
   go_ret2
   exact HRES.out
  | 2, _ =>
   have HONE : Hid (Yal (Y01 true K.xs) K.most m b out = Ye4 (Y01 true K.xs) K.most b out) := Lib.hid (by unfold Yal; rw [← HQ.out, if_neg (by omega), if_neg (by omega), if_pos rfl])
   go_enter Tryz.func28, Tryz.ntmps28
   go_wp2_with fail
   refine HRD.out.mono ?_
   rintro e w2 ⟨rfl, hr2, ho2⟩
   obtain ⟨hD2, hO2⟩ := HPRE.out w2 hr2 ho2
   have HC := Lib.hid (Yfu w2 K b v out F hD2)
   have HO2 := Lib.hid hO2
   clear hr2 ho2 hD2 hO2
   go_wp2_with fail
   refine HC.out.mono ?_
   rintro e w3 hres
   have hres2 := Res.f hres
   rw [← HONE.out] at hres2
   obtain ⟨r, rfl⟩ := hres2.end_
   have HRES := Lib.hid (FIN.out w2 r w3 HO2.out hres2)
   clear hres hres2
   go_wp2_with fail
   go_ret2
   exact HRES.out
  | 3, _ =>
   have HONE : Hid (Yal (Y01 true K.xs) K.most m b out = .error 3) := Lib.hid (by unfold Yal; rw [← HQ.out, if_neg (by omega), if_neg (by omega), if_neg (by omega)])
   go_enter Tryz.func28, Tryz.ntmps28
   go_wp2_with fail
   refine HRD.out.mono ?_
   rintro e w2 ⟨rfl, hr2, ho2⟩
   obtain ⟨hD2, hO2⟩ := HPRE.out w2 hr2 ho2
   have HRES := Lib.hid (FIN.out w2 3 w2 hO2 (.inr ⟨3, HONE.out, by decide, rfl, Only.refl _ _⟩))
   clear hr2 ho2 hD2 hO2
   go_wp2_with fail
   go_ret2
   exact HRES.out
end Go.Proofs.YtkkfkmoikcmhoaaGreat.Inf
namespace Go.Proofs.YtkkfkmoikcmhoaaGreat.Inf
open Go.RowKit Oct Bit Hf
set_option maxRecDepth 100000
theorem Yqx {w : World} {base : Nat} {far : Bool} {v : Value} (h : w.ownsRow base 102 2 v (froms far).length (bcells (Yc1 far))) :
  ∃ b c, v = .slice (some ⟨b, 0, none⟩) (froms far).length c ∧ base ≤ b ∧ b < w.heap.size ∧ (froms far).length ≤ c ∧ ∀ w' : World, w'.heap[b]? = w.heap[b]? → Ymz w' b far := by
 have hl := fun k hk => h.lt k hk
 have hc := fun g hg => h.cells (g := g) hg
 have hpos : 0 < (froms far).length := by cases far <;> decide
 rcases h.2 with ⟨_, h0⟩ | ⟨g, cap, cur, rfl, hb, hh, h1, _⟩
 ·omega
 ·refine ⟨g, cap, rfl, hb, (hl g rfl).2, h1, fun w' hw i hi => ?_⟩
  obtain ⟨k1, k2⟩ := Y7x _ _ _ (Yfy far i hi)
  have e1 := hc g rfl _ _ k1
  have e2 := hc g rfl _ _ k2
  rw [Y08, Nat.zero_add] at e1 e2
  exact ⟨(World.cell?_of_block hw).trans e1, (World.cell?_of_block hw).trans e2⟩
def fin8 : R (List UInt8) → Except Nat (List UInt8 × Nat)
 | .ok (o, a) => .ok (o, (a + 7) / 8)
 | .error e => .error e
theorem Yhi (xs : List UInt8) (most : Nat) : inflate xs most = fin8 (Y4t (Y01 true xs) most 0 []) := by
 rw [Y4f]
 unfold fin8
 rcases Y4t (Y01 true xs) most 0 [] with e | ⟨o, a⟩ <;> rfl
def Ywm (xs : List UInt8) (most : Int) : Except Nat (List UInt8 × Nat) := if most < 0 then .error 1 else inflate xs most.toNat
def Yyh (w : World) (xs : List UInt8) (most : Int) (e : Ending) (w' : World) : Prop :=
 Below w.heap.size w w' ∧ ((∃ o k q c, Ywm xs most = .ok (o, k) ∧ e = .returned (.tuple #[.slice q o.length c, .int .i64 (k : Int), .int .i64 0]) ∧ Row w' q o ∧ (q = none → c = 0) ∧ o.length ≤ c ∧ c ≤ maxLen ∧ k ≤ xs.length ∧ ∀ a, q = some a → w.heap.size ≤ a.block) ∨
  ∃ c, Ywm xs most = .error c ∧ c ≠ 0 ∧ e = .returned (.tuple #[.slice none 0 0, .int .i64 0, .int .i64 (c : Int)]))
def Yvp (w0 w : World) (K : Kon) (X : R (List UInt8)) (last : Bool) (wr : World) : Prop :=
 ∃ a v out F, De wr K a v out F ∧ Below w0.heap.size w0 wr ∧ (last = true → X = .ok (out, a)) ∧ (last = false → Y4t (Y01 true K.xs) K.most a out = X)
theorem Yby {w0 w w' : World} {K : Kon} {a : Nat} {v : Value} {out : List UInt8} {F : Option Fix} (h : De w K a v out F) (hg : w0.heap.size ≤ K.gr) (hb : Below w0.heap.size w0 w) (ho : Only (Y0x K v) w w') : Below w0.heap.size w0 w' :=
 hb.trans (ho.below hb.size fun k hk e => by
  have h1 := h.lo
  rcases e with e | e | e
  ·omega
  ·omega
  ·have := h.hv k e; omega)
set_option maxHeartbeats 4000000 in
theorem Yhg (p : Option Addr) (len cap : Nat) (xs : List UInt8) (most : Int) (w : World) (hr : Row w p xs) (hx : xs.length = len) (hnil : p = none → cap = 0) (hl : len ≤ 100000) (hm : most ≤ 200000) :
  Calls Tryz.prog 14 #[.slice p len cap, .int .i64 most] w (Yyh w xs most) := by
 by_cases hneg : most < 0
 ·have HRES : Hid (Yyh w xs most (.returned (.tuple #[.slice none 0 0, .int .i64 0, .int .i64 1])) w) := Lib.hid ⟨Below.refl _ _, .inr ⟨1, by unfold Ywm; rw [if_pos hneg], by decide, rfl⟩⟩
  clear hr hx hnil
  go_enter Tryz.func14, Tryz.ntmps14
  go_wp2_with fail
  go_ret3
  exact HRES.out
 ·obtain ⟨M, rfl⟩ : ∃ M : Nat, most = (M : Int) := ⟨most.toNat, by omega⟩
  have hM : M ≤ 200000 := by omega
  have hd0 : decide ((M : Int) < 0) = false := by simp
  have HNR := Lib.hid (Yd9 p len cap xs true w hr hx hnil (by omega))
  have HX := Lib.hid hx
  clear hr hx hnil hneg hm
  go_enter Tryz.func14, Tryz.ntmps14
  go_wp2_with fail
  refine HNR.out.mono ?_
  rintro e w1 ⟨hb1, gr, q1, cap1, rfl, hg, hR, hq1⟩
  have HB1 := Lib.hid hb1
  have HR := Lib.hid hR
  have hgr := hR.lt
  clear hb1 hR hq1
  go_wp2_with fail
  refine (Y5z w1).mono ?_
  rintro e w2 ⟨vl, rfl, hb2, ho2⟩
  obtain ⟨bl, cl, rfl, hbl1, hbl2, hcl, htl⟩ := Yqx ho2
  have HB2 := Lib.hid hb2
  have HTL := Lib.hid htl
  have HCL := Lib.hid hcl
  clear hb2 ho2 htl hcl
  go_wp2_with fail
  refine (Yez w2).mono ?_
  rintro e w3 ⟨vd, rfl, hb3, ho3⟩
  obtain ⟨bd, cd, rfl, hbd1, hbd2, hcd, htd⟩ := Yqx ho3
  have HB3 := Lib.hid hb3
  have HTD := Lib.hid htd
  have HCD := Lib.hid hcd
  have hz1 := HB1.out.size
  have hz2 := HB2.out.size
  have hz3 := hb3.size
  obtain ⟨K, hK⟩ : ∃ K : Kon, K = ⟨w3.heap.size, gr, q1, cap1, xs, M, bl, cl, bd, cd⟩ := ⟨_, rfl⟩
  obtain ⟨wd, hwd⟩ : ∃ wd, wd = w3.alloc (.cells #[.pointer (some ⟨K.gr, 0, none⟩), .slice none 0 0, .int .i64 (M : Int), .slice (some ⟨bl, 0, none⟩) (froms false).length cl, .slice (some ⟨bd, 0, none⟩) (froms true).length cd, .pointer none, .pointer none] 59) := ⟨_, rfl⟩
  have hbd : Below w3.heap.size w3 wd := by rw [hwd]; exact (Below.refl _ w3).alloc (Nat.le_refl _) _
  have hbw : Below w.heap.size w wd := ((HB1.out.trans (HB2.out.mono hz1)).trans (hb3.mono (by omega))).trans (hbd.mono (by omega))
  have hDe : De wd K 0 (.slice none 0 0) [] none := by
   subst hK
   refine ⟨?_, ((HR.out.below HB2.out hgr).below hb3 (by omega)).below hbd (by omega), World.ownsRow_nil wd 0 5 1, ⟨by show w3.heap.size ≤ _; exact hbd.size, fun w' hz hs => ⟨HTL.out w' ?_, HTD.out w' ?_⟩⟩, by show gr < w3.heap.size; omega, (fun k hk => by cases hk), by simp, hM, trivial, ⟨HCL.out, HCD.out⟩⟩
   ·rw [hwd]; exact Array.getElem?_push_size
   ·rw [hs bl (by show gr + 1 ≤ bl; omega) (by show bl < w3.heap.size; omega), hbd.block bl (by omega), hb3.block bl (by omega)]
   ·rw [hs bd (by show gr + 1 ≤ bd; omega) (by show bd < w3.heap.size; omega), hbd.block bd (by omega)]
  have hKd : w3.heap.size = K.d := by rw [hK]
  have hKg : gr = K.gr := by rw [hK]
  have hKx : K.xs = xs := by rw [hK]
  have hKm : K.most = M := by rw [hK]
  obtain ⟨X, hX⟩ : ∃ X, X = Y4t (Y01 true xs) M 0 [] := ⟨_, rfl⟩
  have HST : Hid (Yvp w wd K X false wd) := Lib.hid ⟨0, _, _, _, hDe, hbw, (fun h => by cases h), (fun _ => by rw [hKx, hKm]; exact hX.symm)⟩
  have HEQ : Hid (Ywm xs (M : Int) = fin8 X) := Lib.hid (by
   unfold Ywm
   rw [if_neg (by omega), Int.toNat_natCast, Yhi, hX])
  have HKX := Lib.hid hKx
  have HKM := Lib.hid hKm
  have HWD := Lib.hid hwd
  have hgK : w.heap.size ≤ K.gr := by omega
  have HBL := Lib.hid (Y04 true K.xs)
  have HIE := Lib.hid (fun (a : Nat) (out : List UInt8) (h : a ≤ (Y01 true K.xs).length) => Ycx (Y01 true K.xs) K.most a out h)
  clear hb3 ho3 htd hcd hwd hbd hbw hDe hX hKx hKm hK HNR HB1 HB2 HB3
  go_wp2_with fail
  rw [← HWD.out]
  go_loopw [8, 9] (fun l _ wr => ∃ last : Bool, l = .bool last ∧ Hid (Yvp w wd K X last wr)) (fun _ _ wr => 8 * K.xs.length - Ytq wr K.gr)
  case atStart => exact ⟨false, rfl, HST⟩
  case round =>
   obtain ⟨last, rfl, HB⟩ := hrel
   obtain ⟨a, v, out, F, hD, hbw, hl1, hl2⟩ := HB.out
   have hpos : Ytq wr K.gr = a := Yau hD.rd
   have hab := hD.rd.2.2.1
   have HD := Lib.hid hD
   have HBW := Lib.hid hbw
   have HPOS := Lib.hid hpos
   cases last
   ·have hrun := hl2 rfl
    rw [HIE.out a out (by rw [HBL.out]; exact hab)] at hrun
    have HRUN := Lib.hid hrun
    have HBLK := Lib.hid (Yno wr K a v out F hD)
    clear hD hbw hpos hl1 hl2 hrun HB HST
    go_wp2_with fail
    refine HBLK.out.mono ?_
    rintro e w4 hres
    rcases hres with ⟨h, b, o, a4, F4, hx, ho, rfl, v4, hD4, ho4, hv4⟩ | ⟨c, t, hx, hcne, rfl, ho4⟩
    ·have hrun := HRUN.out
     rw [hx, R.then_ok, ho, R.then_ok] at hrun
     have hb3 := Yhu hx
     obtain ⟨_, hb⟩ := Y2b hx (by omega)
     have hle := ((Ycw K.most (8 * K.xs.length + 1) h b out).le (v := o) (a := a4) (by rw [hb]; exact hb3) (by rw [Ypq _ _ _ _ _ _ (by rw [hb]; exact hb3) (by rw [HBL.out]; omega)]; exact ho))
     rw [HBL.out] at hle
     have HNX : Hid (Yvp w wd K X (decide (h % 2 = 1)) w4 ∧ Ytq w4 K.gr = a4) := Lib.hid ⟨⟨a4, v4, o, F4, hD4, Yby HD.out hgK HBW.out ho4, fun hd => by
      rw [if_pos (of_decide_eq_true hd)] at hrun; exact hrun.symm, fun hd => by
      rw [if_neg (of_decide_eq_false hd)] at hrun; exact hrun⟩, Yau hD4.rd⟩
     have hmv : a + 3 ≤ a4 ∧ a4 ≤ 8 * K.xs.length := ⟨by omega, hle.2⟩
     generalize decide (h % 2 = 1) = bb at HNX
     clear hx ho hD4 ho4 hv4 hrun hle hb3 hb
     go_wp2_with fail
     go_roundw
     case rel => exact ⟨bb, rfl, Lib.hid HNX.out.1⟩
     case measure =>
      rw [HNX.out.2, HPOS.out]
      omega
    ·have hc0 : ((c : Int) != 0) = true := by simp; omega
     have HRES : Hid (Yyh w xs (M : Int) (.returned (.tuple #[.slice none 0 0, .int .i64 0, .int .i64 (c : Int)])) w4) := Lib.hid ⟨Yby HD.out hgK HBW.out ho4, .inr ⟨c, by
      have hXe : X = .error c := by
       rw [← HRUN.out]
       rcases hn : Y36 (Y01 true K.xs) a 3 with e | ⟨h, b⟩
       ·rw [hn] at hx; exact hx
       ·rw [hn, R.then_ok] at hx
        rw [R.then_ok, hx]
        rfl
      rw [HEQ.out, hXe]; rfl, hcne, rfl⟩⟩
     clear hx ho4 hcne
     go_wp2_with fail
     go_ret3
     exact HRES.out
   ·have hX2 := hl1 rfl
    obtain ⟨pp, cc, hv, hc1, hc2, hn0, hrow⟩ := hD.form
    have HAT := Lib.hid (fun n => Yvb K.gr K.p K.cap K.xs a true (wr.drewN n) (hD.drawn (w' := wr.drewN n) ⟨n, rfl⟩).rd)
    have k1 := hD.c1
    have k0 := hD.c0
    rw [hv] at k1
    have HFRS : Hid (∀ a', pp = some a' → w.heap.size ≤ a'.block) := Lib.hid fun a' ha => by
     have h1 := hD.hv a'.block (by rw [hv, ha]; rfl)
     have h2 := hD.lo
     omega
    have hkx := HKX.out
    have hre := hD.rd.2.2.2
    have HRES : Hid (∀ n, Yyh w xs (M : Int) (.returned (.tuple #[.slice pp out.length cc, .int .i64 (((a + 7) / 8 : Nat) : Int), .int .i64 0])) (wr.drewN n)) := Lib.hid fun n =>
     ⟨HBW.out.trans ((show Drawn wr (wr.drewN n) from ⟨n, rfl⟩).below _), .inl ⟨out, (a + 7) / 8, pp, cc, by rw [HEQ.out, hX2]; rfl, rfl, hrow, hn0, hc1, hc2, by rw [← HKX.out]; omega, HFRS.out⟩⟩
    have HAT0 := Lib.hid (Yvb K.gr K.p K.cap K.xs a true wr.drew (hD.drawn (w' := wr.drew) ⟨1, rfl⟩).rd)
    clear hD hbw hpos hl1 hl2 HB HST hX2 hrow hn0 hkx
    go_wp2_with fail
    go_quiet (first | (go_at_call 29; exact quietly HAT0.out) | (go_at_call 29; exact quietly (HAT.out _)))
    go_wp2_with fail
    go_ret3
    exact HRES.out _
end Go.Proofs.YtkkfkmoikcmhoaaGreat.Inf

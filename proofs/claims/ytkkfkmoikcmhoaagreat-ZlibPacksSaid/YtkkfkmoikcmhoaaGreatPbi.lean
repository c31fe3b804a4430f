/- IiC: merged. -/
import Derived.Test.YtkkfkmoikcmhoaaGreatPbf
import Derived.Test.YtkkfkmoikcmhoaaGreatPbg
import Derived.Test.YtkkfkmoikcmhoaaGreatPbh
set_option linter.unusedVariables false
set_option linter.unusedSimpArgs false
namespace Go.Proofs.YtkkfkmoikcmhoaaGreat.Inf
open Go.RowKit Oct Bit Hf
set_option maxRecDepth 100000
set_option maxHeartbeats 8000000 in
theorem Yg7 (L : List Bool) (a most : Nat) (q : Option Addr) (n cap : Nat) (out : List UInt8) (w : World) (ha : a ≤ L.length) (hl : L.length ≤ 24000) (hown : w.ownsRow 0 5 1 (.slice q n cap) n (cellsOf out)) (hn : out.length = n) (hm : n ≤ most) (hmost : most ≤ 20000) :
  Calls Tryz.prog 40 #[.agg #[.string (ds L), .int .i64 (a : Int), .slice q n cap, .int .i64 (most : Int)]] w (StP w (.slice q n cap) L most (Ygr L most a out)) := by
 obtain ⟨i0, hi, hz0, hz1, hz2⟩ := info_parts Tryz.infoInt
 obtain ⟨X, hX⟩ : ∃ X, X = Ygr L most a out := ⟨_, rfl⟩
 rw [← hX]
 rw [Yn9] at hX
 have hsz := Y0w L
 have HOW := Lib.hid hown
 have HN := Lib.hid hn
 have HS0 : Hid (LnS w w.heap.size L (.slice q n cap) most a (.slice none 0 0) [] ((w.alloc (.cells #[.string (ds L), .int .i64 (a : Int), .slice q n cap, .int .i64 (most : Int)] 69)).alloc (.cells #[.string ByteArray.empty, .int .i64 0, .slice none 0 0, .int .i64 0] 69))) := Lib.hid (LnS.start ha)
 clear hown hn
 by_cases h14 : a + 14 ≤ L.length
 ·have q0 : decide ((L.length : Int) < (a : Int) + 14) = false := by simp; omega
  obtain ⟨x5, e5⟩ : ∃ x, Y2o true ((L.drop a).take 5) = x := ⟨_, rfl⟩
  obtain ⟨y5, e6⟩ : ∃ x, Y2o true ((L.drop (a + 5)).take 5) = x := ⟨_, rfl⟩
  obtain ⟨z4, e4⟩ : ∃ x, Y2o true ((L.drop (a + 10)).take 4) = x := ⟨_, rfl⟩
  have hn1 : Y1k L a 5 = .ok (x5, a + 5) := by unfold Y1k; rw [if_pos (by omega), e5]
  have hn2 : Y1k L (a + 5) 5 = .ok (y5, a + 10) := by unfold Y1k; rw [if_pos (by omega), e6]
  have hn3 : Y1k L (a + 10) 4 = .ok (z4, a + 14) := by unfold Y1k; rw [if_pos (by omega), e4]
  have b5 : x5 < 2 ^ 5 := (Y1q hn1).1
  have b6 : y5 < 2 ^ 5 := (Y1q hn2).1
  have b4 : z4 < 2 ^ 4 := (Y1q hn3).1
  have b5 : x5 < 32 := b5
  have b6 : y5 < 32 := b6
  have b4 : z4 < 16 := b4
  obtain ⟨n1, h1⟩ : ∃ n1, n1 = x5 + 257 := ⟨_, rfl⟩
  obtain ⟨n2, h2⟩ : ∃ n2, n2 = y5 + 1 := ⟨_, rfl⟩
  obtain ⟨k, h3⟩ : ∃ k, k = z4 + 4 := ⟨_, rfl⟩
  have hthree : Y6e L a = .ok ((n1, n2, k), a + 14) := by unfold Y6e; rw [if_pos h14, e5, e6, e4, h1, h2, h3]
  rw [hthree, R.then_ok] at hX
  obtain ⟨A1, hA1⟩ : ∃ A1, a + 5 = A1 := ⟨_, rfl⟩
  obtain ⟨A2, hA2⟩ : ∃ A2, a + 10 = A2 := ⟨_, rfl⟩
  obtain ⟨A3, hA3⟩ : ∃ A3, a + 14 = A3 := ⟨_, rfl⟩
  rw [hA1] at hn1 hn2
  rw [hA2] at hn2 hn3
  rw [hA3] at hn3 hX
  have HAL : Hid (A1 ≤ L.length ∧ A2 ≤ L.length ∧ A3 ≤ L.length) := Lib.hid ⟨by omega, by omega, by omega⟩
  have HN1 := Lib.hid (fun W => Y4k L a 5 most x5 A1 q n cap W (by omega) (by decide) hn1)
  have HN2 := Lib.hid (fun W => Y4k L A1 5 most y5 A2 q n cap W (by omega) (by decide) hn2)
  have HN3 := Lib.hid (fun W => Y4k L A2 4 most z4 A3 q n cap W (by omega) (by decide) hn3)
  have s1 : (x5 : Int) + 257 = (n1 : Int) := by omega
  have s2 : (y5 : Int) + 1 = (n2 : Int) := by omega
  have s3 : (z4 : Int) + 4 = (k : Int) := by omega
  have r1 : 257 ≤ n1 ∧ n1 ≤ 288 := by omega
  have r2 : 1 ≤ n2 ∧ n2 ≤ 32 := by omega
  have r3 : k ≤ 19 := by omega
  have HX := Lib.hid hX
  clear hX hthree hn1 hn2 hn3 e5 e6 e4 h1 h2 h3 hA1 hA2 hA3 h14
  have hq : (decide (286 < (n1 : Int)) = true ∧ Hid (n1 > 286 ∨ n2 > 30)) ∨ (decide (286 < (n1 : Int)) = false ∧ decide (30 < (n2 : Int)) = true ∧ Hid (n1 > 286 ∨ n2 > 30)) ∨ (decide (286 < (n1 : Int)) = false ∧ decide (30 < (n2 : Int)) = false ∧ n1 ≤ 286 ∧ n2 ≤ 30) := by
   by_cases h1 : n1 > 286
   ·left; exact ⟨by simp; omega, Lib.hid (.inl h1)⟩
   ·right
    by_cases h2 : n2 > 30
    ·left; exact ⟨by simp; omega, by simp; omega, Lib.hid (.inr h2)⟩
    ·right; exact ⟨by simp; omega, by simp; omega, by omega, by omega⟩
  go_enter Tryz.func40, Tryz.ntmps40
  go_wp2_with fail
  refine (HN1.out _).mono ?_
  rintro e w2 ⟨rfl, hb2⟩
  have HS2 := Lib.hid (HS0.out.keep hb2)
  obtain ⟨g, hg⟩ : ∃ g, w.heap.size = g := ⟨_, rfl⟩
  rw [hg] at HS2 ⊢
  have HG := Lib.hid hg
  obtain ⟨p0, p1, p2, p3⟩ := HS2.out.bx.cells
  obtain ⟨f0, f1, f2, f3⟩ := HS2.out.bx.free
  clear hb2 hg HS0
  go_wp2_with fail
  refine (HN2.out _).mono ?_
  rintro e w4 ⟨rfl, hb4⟩
  have HS4 := Lib.hid (LnS.keep (HS2.out.put A1 HAL.out.1) hb4)
  clear p0 p1 p2 p3 f0 f1 f2 f3 hb4 HS2
  obtain ⟨p0, p1, p2, p3⟩ := HS4.out.bx.cells
  obtain ⟨f0, f1, f2, f3⟩ := HS4.out.bx.free
  go_wp2_with fail
  refine (HN3.out _).mono ?_
  rintro e w6 ⟨rfl, hb6⟩
  have HS6 := Lib.hid (LnS.keep (HS4.out.put A2 HAL.out.2.1) hb6)
  clear p0 p1 p2 p3 f0 f1 f2 f3 hb6 HS4
  obtain ⟨p0, p1, p2, p3⟩ := HS6.out.bx.cells
  obtain ⟨f0, f1, f2, f3⟩ := HS6.out.bx.free
  go_upto_region 6 with (fail)
  have HS7 := Lib.hid (HS6.out.put A3 HAL.out.2.2)
  obtain ⟨w7, hw7⟩ : ∃ w7, w7 = put4 w6 g (.string (ds L)) (.int .i64 (A3 : Int)) (.slice q n cap) (.int .i64 (most : Int)) := ⟨_, rfl⟩
  rw [← hw7] at HS7
  unfold put4 at hw7
  rw [← hw7]
  clear hw7 p0 p1 p2 p3 f0 f1 f2 f3 HS6 HN1 HN2 HN3
  obtain ⟨p0, p1, p2, p3⟩ := HS7.out.bx.cells
  obtain ⟨f0, f1, f2, f3⟩ := HS7.out.bx.free
  obtain ⟨t0, t1, t2, t3⟩ := HS7.out.rs.cells
  obtain ⟨u0, u1, u2, u3⟩ := HS7.out.rs.free
  rcases hq with ⟨q1, hbad⟩ | ⟨q1, q2, hbad⟩ | ⟨q1, q2, h286, h30⟩
  case inl =>
   have HX2 : Hid (X = .error 3) := Lib.hid (by rw [HX.out]; exact if_pos hbad.out)
   have HE := Lib.hid (HS7.out.err HX2.out (by decide) (by decide) A3)
   have HD := Lib.hid (HS7.out.done A3).2
   clear hbad
   go_wp2_with fail
   refine bodyPost_ret (Y0g rfl _ _ (g + 1) _ _ _ _ (0, 0) rfl HD.out) rfl ?_
   exact HE.out
  case inr.inl =>
   have HX2 : Hid (X = .error 3) := Lib.hid (by rw [HX.out]; exact if_pos hbad.out)
   have HE := Lib.hid (HS7.out.err HX2.out (by decide) (by decide) A3)
   have HD := Lib.hid (HS7.out.done A3).2
   clear hbad
   go_wp2_with fail
   refine bodyPost_ret (Y0g rfl _ _ (g + 1) _ _ _ _ (0, 0) rfl HD.out) rfl ?_
   exact HE.out
  case inr.inr =>
   obtain ⟨X1, hX1⟩ : ∃ X1, X1 = Y8q L k 0 A3 (List.replicate 19 0) := ⟨_, rfl⟩
   have HX2 : Hid (X = X1.then fun l a => withW (Y1z l false) fun W => (Y66 W (n1 + n2) L a []).then fun all a => Yix L most n1 all a out) := Lib.hid (by
    rw [HX.out, hX1]
    exact if_neg (by omega))
   have HX1 := Lib.hid hX1
   clear hX1 HX p0 p1 p2 p3 f0 f1 f2 f3 t0 t1 t2 t3 u0 u1 u2 u3
   go_wp2_with (at_make; refine wpList_make_full _ rfl _ _ 74 rfl w7.heap.size 3 i0 (.int .i64 0) 1 Tryz.underlying74 hi hz0 hz1 .i64 .i64 19 19 19 rfl rfl rfl rfl ?c2 ?c3 ?c4 ?_)
   case c2 => rw [hz2]; omega
   case c3 => unfold maxLen; omega
   case c4 => omega
   intro w8 hown8 hgrow8
   have hb8 : Below w7.heap.size w7 w8 := (Below.refl _ _).grown hgrow8 (Nat.le_refl _) (fun k hk => by cases hk)
   have hblk := Y2s hown8
   have hmv : (madeCells #[Value.int .i64 0] 19).toList = ints (Y05 (List.replicate 19 0)) := by rw [Yao]; rfl
   rw [hmv] at hblk
   have hgH := HS7.out.lt2
   have HST : Hid (MdS w g L (.slice q n cap) most X1 w7.heap.size k 0 w8) := Lib.hid ⟨A3, List.replicate 19 0, HS7.out.keep hb8, hblk, hgH, by simp, by decide, by rw [Nat.sub_zero]; exact HX1.out.symm⟩
   clear hown8 hgrow8 hb8 hblk hmv hgH HX1 HS7
   generalize w7.heap.size = H at HST ⊢
   have k0 : (0 : Int) ≤ (k : Int) := by omega
   have k1 : (k : Int) ≤ 19 := by omega
   go_wp2_with fail
   go_loopw [11, 12, 13, 14] (fun i _ _ _ wr => ∃ j : Nat, j ≤ k ∧ i = .int .i64 (j : Int) ∧ Hid (MdS w g L (.slice q n cap) most X1 H k j wr)) (fun i _ _ _ _ => k - (intOf i).toNat)
   case atStart => exact ⟨0, by omega, rfl, HST⟩
   case round =>
    obtain ⟨j, hj, rfl, HB⟩ := hrel
    obtain ⟨b, l, hS, hblk, hgH, hll, hlm, hrun⟩ := HB.out
    have HS := Lib.hid hS
    have HBLK := Lib.hid hblk
    have HLM := Lib.hid hlm
    have HLL := Lib.hid hll
    have hHz : H < wr.heap.size := by
     rcases Nat.lt_or_ge H wr.heap.size with h | h
     ·exact h
     ·rw [Array.getElem?_eq_none h] at hblk; cases hblk
    obtain ⟨p0, p1, p2, p3⟩ := hS.bx.cells
    obtain ⟨f0, f1, f2, f3⟩ := hS.bx.free
    clear hS hblk hlm hll HST HB
    by_cases hjk : j < k
    ·have ql : decide ((j : Int) < (k : Int)) = true := by simpa using hjk
     have qln : decide (j < k) = true := by simpa using hjk
     have j0 : (0 : Int) ≤ (j : Int) := by omega
     have j1 : (j : Int) < 19 := by omega
     have j19 : j < 19 := by omega
     rw [show k - j = (k - (j + 1)) + 1 from by omega, Y8q] at hrun
     rcases hx : Y1k L b 3 with c | ⟨m, b2⟩
     ·obtain ⟨rfl, _⟩ := Y56 hx
      rw [hx] at hrun
      have HX3 : Hid (X = .error 2) := Lib.hid (by rw [HX2.out, ← hrun, R.then_err, R.then_err])
      have HNB := Lib.hid (Y7z L b 3 most 2 q n cap wr HS.out.le (by omega) (by decide) hx)
      clear hx hrun hjk
      go_wp2_with fail
      refine HNB.out.mono ?_
      rintro e w9 ⟨rfl, hb9⟩
      have HS9 := Lib.hid (fun O : Obj => HS.out.keep (hb9.trans (((Below.refl _ w9).alloc (Nat.le_refl _) O).mono hb9.size)))
      clear p0 p1 p2 p3 f0 f1 f2 f3 hb9
      obtain ⟨t0, t1, t2, t3⟩ := (HS9.out (.cells #[.string (ds L), .int .i64 (b : Int), .slice q n cap, .int .i64 (most : Int)] 69)).rs.cells
      obtain ⟨u0, u1, u2, u3⟩ := (HS9.out (.cells #[.string (ds L), .int .i64 (b : Int), .slice q n cap, .int .i64 (most : Int)] 69)).rs.free
      have HE := Lib.hid ((HS9.out (.cells #[.string (ds L), .int .i64 (b : Int), .slice q n cap, .int .i64 (most : Int)] 69)).err HX3.out (by decide) (by decide) b)
      have HD := Lib.hid ((HS9.out (.cells #[.string (ds L), .int .i64 (b : Int), .slice q n cap, .int .i64 (most : Int)] 69)).done b).2
      go_wp2_with fail
      refine bodyPost_ret (Y0g rfl _ _ (g + 1) _ _ _ _ (0, 0) rfl HD.out) rfl ?_
      exact HE.out
     ·rw [hx, R.then_ok] at hrun
      obtain ⟨m8, hb3e, hb2L⟩ := Y1q hx
      clear hb3e
      have m8 : m < 8 := m8
      have m0 : (0 : Int) ≤ (m : Int) := by omega
      obtain ⟨s, hs⟩ : ∃ s, order.getD j 0 = s := ⟨_, rfl⟩
      have hs19 : s < 19 := by rw [← hs]; exact Ydt j j19
      rw [hs] at hrun
      have HRUN := Lib.hid hrun
      have HOG : Hid ((Y05 order)[j]? = some (s : Int)) := Lib.hid (by rw [Yqr j j19, hs])
      have HNB := Lib.hid (Y4k L b 3 most m b2 q n cap wr (by omega) (by decide) hx)
      clear hx hrun hs
      go_upto_region 14 with (go_at_call 35; refine HNB.out.mono ?_; rintro e w9 ⟨rfl, hb9⟩; have HB9 := Lib.hid hb9; clear hb9)
      have hb10 : Below wr.heap.size wr (w9.alloc (.cells #[.string (ds L), .int .i64 (b2 : Int), .slice q n cap, .int .i64 (most : Int)] 69)) := HB9.out.trans (((Below.refl _ w9).alloc (Nat.le_refl _) _).mono HB9.out.size)
      have hT : Bx (w9.alloc (.cells #[.string (ds L), .int .i64 (b2 : Int), .slice q n cap, .int .i64 (most : Int)] 69)) w9.heap.size (.string (ds L)) (.int .i64 (b2 : Int)) (.slice q n cap) (.int .i64 (most : Int)) := heap_alloc_new _ _
      have htz : wr.heap.size ≤ w9.heap.size := HB9.out.size
      obtain ⟨w10, hw10⟩ : ∃ V, V = w9.alloc (.cells #[.string (ds L), .int .i64 (b2 : Int), .slice q n cap, .int .i64 (most : Int)] 69) := ⟨_, rfl⟩
      rw [← hw10] at hb10 hT ⊢
      obtain ⟨tt, htt⟩ : ∃ tt, w9.heap.size = tt := ⟨_, rfl⟩
      rw [htt] at hT htz ⊢
      have HB10 := Lib.hid hb10
      have HT := Lib.hid hT
      clear hb10 hT hw10 htt HB9 HNB p0 p1 p2 p3 f0 f1 f2 f3
      go_wp2_with fail
      refine (Ymr w10).mono ?_
      rintro e w11 ⟨rfl, hb11, hv11⟩
      have HB11 := Lib.hid (HB10.out.trans (hb11.mono HB10.out.size))
      have HS11 := Lib.hid (HS.out.keep HB11.out)
      have HT11 := Lib.hid (HT.out.below hb11)
      have hoc : w11.cell? ⟨w10.heap.size, j, none⟩ = some (.int .i64 (s : Int)) := by
       have hjl : j < (Y05 order).length := by rw [Y01]; exact j19
       have := hv11.int j hjl
       rw [Nat.zero_add] at this
       rw [this]
       have h2 := HOG.out
       rw [List.getElem?_eq_getElem hjl] at h2
       injection h2 with h2
       rw [h2]
      have hbH : w11.heap[H]? = some (.cells (ints (Y05 l)).toArray 3 (0, 0)) := (HB11.out.block H hHz).trans HBLK.out
      have hsl : (ints (Y05 l)).length = 19 := by rw [Y06, Y01, HLL.out]
      obtain ⟨u, hcH⟩ : ∃ u, w11.cell? ⟨H, s, none⟩ = some u := ⟨(ints (Y05 l))[s]'(by omega), by simp [World.cell?, hbH, hsl, hs19]⟩
      have hfH : w11.frozen? ⟨H, s, none⟩ = false := by simp [World.frozen?, hbH]
      have s0 : (0 : Int) ≤ (s : Int) := by omega
      have s19 : (s : Int) < 19 := by omega
      have HNXT : Hid (MdS w g L (.slice q n cap) most X1 H k (j + 1) (put4 (w11.setCell ⟨H, s, none⟩ (.int .i64 (m : Int))) g (.string (ds L)) (.int .i64 (b2 : Int)) (.slice q n cap) (.int .i64 (most : Int)))) := Lib.hid (MdS.next HS.out HB11.out HBLK.out hgH hHz HLL.out HLM.out (by omega) hb2L HRUN.out)
      obtain ⟨p0, p1, p2, p3⟩ := HS11.out.bx.cells
      obtain ⟨f0, f1, f2, f3⟩ := HS11.out.bx.free
      obtain ⟨o0, o1, o2, o3⟩ := HT11.out.cells
      have z1 : ¬ (H = tt) := by omega
      have z2 : ¬ (tt = H) := by omega
      have z3 : ¬ (H = g) := by omega
      have z4' : ¬ (g = H) := by omega
      clear hb11 hv11 hbH hsl HB11 HB10 HT HRUN HOG
      generalize w10.heap.size = O at hoc ⊢
      go_wp2_with fail
      go_roundw
      case rel => exact ⟨j + 1, by omega, by first | rfl | (push_cast; rfl), HNXT⟩
      case measure => simp [intOf]; omega
    ·have hjk2 : j = k := by omega
     subst hjk2
     have ql : decide ((j : Int) < (j : Int)) = false := by simp
     have qln : decide (j < j) = false := by simp
     rw [Nat.sub_self, Y8q] at hrun
     have HX3 : Hid (X = withW (Y1z l false) fun W => (Y66 W (n1 + n2) L b []).then fun all a => Yix L most n1 all a out) := Lib.hid (by rw [HX2.out, ← hrun, R.then_ok])
     have HCW := Lib.hid (Y6f (some ⟨H, 0, none⟩) 19 19 l true false wr (Y17 HBLK.out hHz) HLL.out HLM.out (by omega))
     clear hrun HX2 hjk hj
     go_wp2_with fail
     refine HCW.out.mono ?_
     rintro e w3 ⟨hb3, hres⟩
     rw [Y7a] at hres
     have HS3 := Lib.hid (HS.out.keep hb3)
     clear p0 p1 p2 p3 f0 f1 f2 f3 hb3 HS HBLK HCW
     obtain ⟨p0, p1, p2, p3⟩ := HS3.out.bx.cells
     rcases hres with ⟨qw, cw, hxw, rfl, hvw, _, _⟩ | ⟨hxw, rfl⟩
     case inr =>
      have HX4 : Hid (X = .error 3) := Lib.hid (by rw [HX3.out, hxw, Ybn])
      obtain ⟨t0, t1, t2, t3⟩ := HS3.out.rs.cells
      obtain ⟨u0, u1, u2, u3⟩ := HS3.out.rs.free
      have HE := Lib.hid (HS3.out.err HX4.out (by decide) (by decide) b)
      have HD := Lib.hid (HS3.out.done b).2
      clear hxw
      go_wp2_with fail
      refine bodyPost_ret (Y0g rfl _ _ (g + 1) _ _ _ _ (0, 0) rfl HD.out) rfl ?_
      exact HE.out
     case inl =>
      rw [HLL.out]
      have HX4 : Hid (X = (Y66 (Y04 l) (n1 + n2) L b []).then fun all a => Yix L most n1 all a out) := Lib.hid (by rw [HX3.out, hxw, Y5g])
      have hln := Ygb L b most q n cap qw 19 cw (n1 + n2) (Y04 l) w3 HS3.out.le (by omega) hvw (by rw [Y0c]; exact HLL.out) (by omega) (by omega) (Yd2 l HLM.out) (by omega)
      rw [Int.natCast_add] at hln
      have HLN := Lib.hid hln
      clear hln hxw hvw HX3 HLL HLM
      go_wp2_with fail
      refine HLN.out.mono ?_
      rintro e w4 ⟨hb4, hres⟩
      have HS4 := Lib.hid (HS3.out.keep hb4)
      clear p0 p1 p2 p3 hb4 HLN
      obtain ⟨p0, p1, p2, p3⟩ := HS4.out.bx.cells
      obtain ⟨f0, f1, f2, f3⟩ := HS4.out.bx.free
      rcases hres with ⟨all, a4, p4, c4, hxl, ha4, hal, hm30, rfl, hv4, hp0, hc4, hp4⟩ | ⟨c, b4', hxl, hc0, hc8, rfl⟩
      case inr =>
       have HX5 : Hid (X = .error c) := Lib.hid (by rw [HX4.out, hxl, R.then_err])
       have q5 : ((c : Int) != 0) = true := by simp; omega
       obtain ⟨t0, t1, t2, t3⟩ := HS4.out.rs.cells
       obtain ⟨u0, u1, u2, u3⟩ := HS4.out.rs.free
       have HE2 := Lib.hid (HS4.out.err2 HX5.out hc0 hc8 b4' (.string (ds L)) (.int .i64 (b4' : Int)) (.slice q n cap) (.int .i64 (most : Int)))
       clear hxl
       go_wp2_with fail
       refine bodyPost_ret (Y0g rfl _ _ (g + 1) _ _ _ _ (0, 0) rfl HE2.out.2) rfl ?_
       exact HE2.out.1
      case inl =>
       have HX5 : Hid (X = Yix L most n1 all a4 out) := Lib.hid (by rw [HX4.out, hxl, R.then_ok])
       have HAL4 := Lib.hid hal
       have HM30 := Lib.hid hm30
       have HV4 := Lib.hid hv4
       have HP4 := Lib.hid hp4
       have hz3 := HS3.out.lt2
       clear hxl hal hm30 hv4 hp0 hp4 HX4
       go_upto_region 22 with (fail)
       have HS5 := Lib.hid (HS4.out.put a4 ha4)
       have hv5 : VRow (put4 w4 g (.string (ds L)) (.int .i64 (a4 : Int)) (.slice q n cap) (.int .i64 (most : Int))) (put4 w4 g (.string (ds L)) (.int .i64 (a4 : Int)) (.slice q n cap) (.int .i64 (most : Int))).heap.size p4 (ints (Y05 all)) := by
        rw [Yr3]
        exact Ysl HV4.out (fun ad h => by have := HP4.out ad h; omega) _ _ _ _
       obtain ⟨w5, hw5⟩ : ∃ V, V = put4 w4 g (.string (ds L)) (.int .i64 (a4 : Int)) (.slice q n cap) (.int .i64 (most : Int)) := ⟨_, rfl⟩
       rw [← hw5] at HS5 hv5
       unfold put4 at hw5
       rw [← hw5]
       clear hw5 p0 p1 p2 p3 f0 f1 f2 f3 HV4 HP4 HS4 hz3 HS3
       have hlall : (ints (Y05 all)).length = n1 + n2 := by rw [Y06, Y01, HAL4.out]
       obtain ⟨bq, oq, rfl, hbq⟩ := hv5.addr (by omega)
       obtain ⟨x, hx⟩ : ∃ x, all.getD 256 0 = x := ⟨_, rfl⟩
       have hc256 : w5.cell? ⟨bq, oq + 256, none⟩ = some (.int .i64 (x : Int)) := by
        have h256 : 256 < all.length := by rw [HAL4.out]; omega
        have := hv5.int 256 (by rw [Y01]; exact h256)
        rw [this]
        congr 2
        rw [← hx, List.getD_eq_getElem?_getD, List.getElem?_eq_getElem h256]
        simp [Y05]
       have HV5 := Lib.hid hv5
       obtain ⟨p0, p1, p2, p3⟩ := HS5.out.bx.cells
       have i256 : (256 : Int) < ((n1 + n2 : Nat) : Int) := by omega
       have i256b : (256 : Int) < (n1 : Int) + (n2 : Int) := by omega
       have x0 : (0 : Int) ≤ (x : Int) := by omega
       by_cases hx0 : x = 0
       ·have q5 : ((x : Int) == 0) = true := by rw [hx0]; rfl
        have HX6 : Hid (X = .error 3) := Lib.hid (by rw [HX5.out]; unfold Yix; rw [hx, if_pos hx0])
        obtain ⟨t0, t1, t2, t3⟩ := HS5.out.rs.cells
        obtain ⟨u0, u1, u2, u3⟩ := HS5.out.rs.free
        have HE := Lib.hid (HS5.out.err HX6.out (by decide) (by decide) a4)
        have HD := Lib.hid (HS5.out.done a4).2
        clear hx0 hx hv5 hlall
        go_wp2_with fail
        refine bodyPost_ret (Y0g rfl _ _ (g + 1) _ _ _ _ (0, 0) rfl HD.out) rfl ?_
        exact HE.out
       ·have q5 : ((x : Int) == 0) = false := by simp; omega
        have HX6 : Hid (X = withW (Y1z (all.take n1) false) fun A => withW (Y1z (all.drop n1) true) fun B => Y1d A B L most a4 out) := Lib.hid (by rw [HX5.out]; unfold Yix; rw [hx, if_neg hx0])
        have hs1 := fun W => Yxl W bq oq (n1 + n2) c4 n1 (by omega) (by omega)
        have hs2 := fun W => Yvd W bq oq (n1 + n2) c4 n1 (by omega) (by omega)
        rw [Nat.add_sub_cancel_left] at hs2
        have HLT : Hid ((all.take n1).length = n1) := Lib.hid (by rw [List.length_take, HAL4.out]; omega)
        have HLD : Hid ((all.drop n1).length = n2) := Lib.hid (by rw [List.length_drop, HAL4.out]; omega)
        have hvt := Ysm hv5 n1
        rw [Ypq] at hvt
        have HWA := Lib.hid (Y6f (some ⟨bq, oq, none⟩) c4 n1 (all.take n1) true false w5 hvt HLT.out (fun m hm => HM30.out m (List.mem_of_mem_take hm)) (by omega))
        clear hvt hx0 hx hv5 hlall HX5
        go_wp2_with fail
        refine HWA.out.mono ?_
        rintro e w6 ⟨hb6, hres⟩
        rw [Y7a] at hres
        have HS6 := Lib.hid (HS5.out.keep hb6)
        have HV6 := Lib.hid ((HV5.out.below hb6 (Nat.le_refl _)).mono hb6.size)
        clear p0 p1 p2 p3 hc256 hb6 HWA
        obtain ⟨p0, p1, p2, p3⟩ := HS6.out.bx.cells
        rcases hres with ⟨qa, ca, hxa, rfl, hva, _, hqa⟩ | ⟨hxa, rfl⟩
        case inr =>
         have HX7 : Hid (X = .error 3) := Lib.hid (by rw [HX6.out, hxa, Ybn])
         obtain ⟨t0, t1, t2, t3⟩ := HS6.out.rs.cells
         obtain ⟨u0, u1, u2, u3⟩ := HS6.out.rs.free
         have HE := Lib.hid (HS6.out.err HX7.out (by decide) (by decide) a4)
         have HD := Lib.hid (HS6.out.done a4).2
         clear hxa
         go_wp2_with fail
         refine bodyPost_ret (Y0g rfl _ _ (g + 1) _ _ _ _ (0, 0) rfl HD.out) rfl ?_
         exact HE.out
        case inl =>
         rw [HLT.out]
         have HX7 : Hid (X = withW (Y1z (all.drop n1) true) fun B => Y1d (Y04 (all.take n1)) B L most a4 out) := Lib.hid (by rw [HX6.out, hxa, Y5g])
         have HVA := Lib.hid hva
         have HQA := Lib.hid hqa
         have hvd := Ysk HV6.out n1
         rw [Ypp] at hvd
         have HWB := Lib.hid (Y6f (some ⟨bq, oq + n1, none⟩) (c4 - n1) n2 (all.drop n1) true true w6 hvd HLD.out (fun m hm => HM30.out m (List.mem_of_mem_drop hm)) (by omega))
         clear hvd hxa hva hqa HX6
         go_wp2_with fail
         refine HWB.out.mono ?_
         rintro e w9 ⟨hb9, hres⟩
         rw [Y7a] at hres
         have HS9 := Lib.hid (HS6.out.keep hb9)
         have HVA9 := Lib.hid ((HVA.out.below hb9 (Nat.le_refl _)).mono hb9.size)
         clear p0 p1 p2 p3 hb9 HWB
         obtain ⟨p0, p1, p2, p3⟩ := HS9.out.bx.cells
         rcases hres with ⟨qb, cb, hxb, rfl, hvb, _, hqb⟩ | ⟨hxb, rfl⟩
         case inr =>
          have HX8 : Hid (X = .error 3) := Lib.hid (by rw [HX7.out, hxb, Ybn])
          obtain ⟨t0, t1, t2, t3⟩ := HS9.out.rs.cells
          obtain ⟨u0, u1, u2, u3⟩ := HS9.out.rs.free
          have HE := Lib.hid (HS9.out.err HX8.out (by decide) (by decide) a4)
          have HD := Lib.hid (HS9.out.done a4).2
          clear hxb
          go_wp2_with fail
          refine bodyPost_ret (Y0g rfl _ _ (g + 1) _ _ _ _ (0, 0) rfl HD.out) rfl ?_
          exact HE.out
         case inl =>
          rw [HLD.out]
          have HX8 : X = Y1d (Y04 (all.take n1)) (Y04 (all.drop n1)) L most a4 out := by rw [HX7.out, hxb, Y5g]
          have hlt : ∀ k, (Value.slice q n cap).ownBlock = some k → k < g := fun k hk => by
           have := (HOW.out.lt k hk).2
           have := HG.out
           omega
          have hown9 : w9.ownsRow 0 5 1 (.slice q n cap) n (cellsOf out) := Y1s HOW.out (by rw [HG.out]; exact HS9.out.bl)
          have hz5 := HS5.out.lt2
          have hz6 := HS6.out.lt2
          have hBK := Ych L a4 most q n cap out qa qb n1 ca n2 cb (Y04 (all.take n1)) (Y04 (all.drop n1)) w9 ha4 hl hown9 HN.out hm hmost
           (fun V hV => (Y6n HVA9.out hV (fun ad e hk => by have := HQA.out ad e; have := hlt _ hk; omega) (Nat.le_refl _)).mono hV.2.2.2.1)
           (fun V hV => (Y6n hvb hV (fun ad e hk => by have := hqb ad e; have := hlt _ hk; omega) (Nat.le_refl _)).mono hV.2.2.2.1)
           (by rw [Y0c]; exact HLT.out) (by rw [Y0c]; exact HLD.out) (by omega) (by omega) (Yd2 _ (fun m hm => HM30.out m (List.mem_of_mem_take hm))) (Yd2 _ (fun m hm => HM30.out m (List.mem_of_mem_drop hm)))
          rw [← HX8] at hBK
          have HBK := Lib.hid hBK
          have HLTG := Lib.hid hlt
          clear hBK hvb hqb hown9 hxb HX8 hlt
          go_wp2_with fail
          refine HBK.out.mono ?_
          rintro e w10 hst
          obtain ⟨aR, q8, n8, c8, cc, rfl, hb8, hst8⟩ := HS9.out.out HLTG.out hst
          have HB8 := Lib.hid hb8
          have HST8 := Lib.hid hst8
          clear p0 p1 p2 p3 hst hst8
          obtain ⟨t0, t1, t2, t3⟩ := hb8.cells
          obtain ⟨u0, u1, u2, u3⟩ := hb8.free
          clear hb8
          go_wp2_with fail
          refine bodyPost_ret (Y0g rfl _ _ (g + 1) _ _ _ _ (0, 0) rfl (HB8.out.put _ _ _ _)) rfl ?_
          exact HST8.out
 ·have q0 : decide ((L.length : Int) < (a : Int) + 14) = true := by simp; omega
  have HX : Hid (X = .error 2) := Lib.hid (by rw [hX]; unfold Y6e; rw [if_neg h14]; rfl)
  have HE := Lib.hid (HS0.out.err HX.out (by decide) (by decide) a)
  have HD := Lib.hid (HS0.out.done a).2
  clear hX
  go_enter Tryz.func40, Tryz.ntmps40
  go_wp2_with fail
  refine bodyPost_ret (Y0g rfl _ _ (w.heap.size + 1) _ _ _ _ (0, 0) rfl (heap_alloc2_new _ _ _)) rfl ?_
  exact ⟨a, q, n, cap, Only.of_below (((Below.refl _ w).alloc (Nat.le_refl _) _).alloc (by simp) _), fun k hk => .inl hk, .inr ⟨2, HX.out, by decide, by decide, rfl⟩⟩
end Go.Proofs.YtkkfkmoikcmhoaaGreat.Inf
namespace Go.Proofs.YtkkfkmoikcmhoaaGreat.Inf
open Go.RowKit Oct Bit Hf
set_option maxRecDepth 100000
structure InS (w : World) (g : Nat) (L : List Bool) (most a : Nat) (v : Value) (out : List UInt8) (wr : World) : Prop where
 bx : Bx wr g (.string (ds L)) (.int .i64 (a : Int)) v (.int .i64 (most : Int))
 own : wr.ownsRow 0 5 1 v out.length (cellsOf out)
 sep : ∀ k, v.ownBlock = some k → w.heap.size ≤ k ∧ k ≠ g
 bl : Below w.heap.size w wr
 hg : w.heap.size ≤ g
 le : a ≤ L.length
 om : out.length ≤ most
section
variable {w wr w2 w6 : World} {g : Nat} {L : List Bool} {most a : Nat} {v : Value} {out : List UInt8}
theorem InS.keep (h : InS w g L most a v out wr) (hb : Below wr.heap.size wr w2) : InS w g L most a v out w2 where
 bx := h.bx.below hb
 own := Y1s h.own hb
 sep := h.sep
 bl := h.bl.trans (hb.mono h.bl.size)
 hg := h.hg
 le := h.le
 om := h.om
theorem InS.put (h : InS w g L most a v out wr) (b : Nat) (hb : b ≤ L.length) : InS w g L most b v out (put4 wr g (.string (ds L)) (.int .i64 (b : Int)) v (.int .i64 (most : Int))) where
 bx := h.bx.put _ _ _ _
 own := Y4b h.own (fun k hk => (h.sep k hk).2) _ _ _ _
 sep := h.sep
 bl := Y1w h.bl h.hg _ _ _ _
 hg := h.hg
 le := hb
 om := h.om
theorem InS.took {q : Option Addr} {n cap : Nat} {X1 : R (List UInt8)} {e : Ending} (h : InS w g L most a (.slice q n cap) out wr) (hst : StP wr (.slice q n cap) L most X1 e w6) (hX : ∀ o b, X1 = .ok (o, b) → a ≤ b ∧ b ≤ L.length) :
  ∃ (b : Nat) (q6 : Option Addr) (n6 c6 cc : Nat), e = .returned (.tuple #[.agg #[.string (ds L), .int .i64 (b : Int), .slice q6 n6 c6, .int .i64 (most : Int)], .int .i64 (cc : Int)]) ∧
   Bx w6 g (.string (ds L)) (.int .i64 (a : Int)) (.slice q n cap) (.int .i64 (most : Int)) ∧ Below w.heap.size w (put4 w6 g (.string (ds L)) (.int .i64 (b : Int)) (.slice q6 n6 c6) (.int .i64 (most : Int))) ∧
   ((cc = 0 ∧ ∃ o, X1 = .ok (o, b) ∧ a ≤ b ∧ InS w g L most b (.slice q6 n6 c6) o (put4 w6 g (.string (ds L)) (.int .i64 (b : Int)) (.slice q6 n6 c6) (.int .i64 (most : Int)))) ∨ (cc ≠ 0 ∧ cc ≤ 8 ∧ X1 = .error cc)) := by
 obtain ⟨b, q6, n6, c6, ho, hfr, hres⟩ := hst
 have hgl := h.bx.lt
 have hz := h.bl.size
 have hb6 : Bx w6 g (.string (ds L)) (.int .i64 (a : Int)) (.slice q n cap) (.int .i64 (most : Int)) := h.bx.only ho (fun e => (h.sep _ e).2 rfl)
 have hbl : Below w.heap.size w w6 := h.bl.trans (ho.below hz fun k hk e => by have := (h.sep k e).1; omega)
 have hbp : Below w.heap.size w (put4 w6 g (.string (ds L)) (.int .i64 (b : Int)) (.slice q6 n6 c6) (.int .i64 (most : Int))) := Y1w hbl h.hg _ _ _ _
 have hsep : ∀ k, (Value.slice q6 n6 c6).ownBlock = some k → w.heap.size ≤ k ∧ k ≠ g := fun k hk => by
  rcases hfr k hk with e | e
  ·exact h.sep k e
  ·exact ⟨by omega, by omega⟩
 rcases hres with ⟨o, h1, h2, h2m, h3, rfl⟩ | ⟨c, h1, h2, h3, rfl⟩
 ·obtain ⟨k1, k2⟩ := hX o b h1
  refine ⟨b, q6, n6, c6, 0, rfl, hb6, hbp, .inl ⟨rfl, o, h1, k1, hb6.put _ _ _ _, ?_, hsep, hbp, h.hg, k2, by omega⟩⟩
  rw [h2]
  exact Y4b h3 (fun k hk => (hsep k hk).2) _ _ _ _
 ·exact ⟨b, q6, n6, c6, c, rfl, hb6, hbp, .inr ⟨h2, h3, h1⟩⟩
end
theorem Yjz {L : List Bool} {most v a b : Nat} {out o : List UInt8} (ha : a ≤ L.length) (h : Yce L most v a out = .ok (o, b)) : a ≤ b ∧ b ≤ L.length := by
 rw [← Yia L most (L.length + 1) v a out ha (by omega)] at h
 exact (Yai most (L.length + 1) v a out).le ha h
def X06 (w : World) (g : Nat) (L : List Bool) (most : Nat) (X : R (List UInt8)) (wr : World) : Prop :=
 ∃ a v out, InS w g L most a v out wr ∧ Y2v L most a out = X
end Go.Proofs.YtkkfkmoikcmhoaaGreat.Inf
namespace Go.Proofs.YtkkfkmoikcmhoaaGreat.Inf
open Go.RowKit Oct Bit Hf
set_option maxRecDepth 100000
def X0b (w : World) (xs : List UInt8) (most : Int) (e : Ending) (w' : World) : Prop :=
 Below w.heap.size w w' ∧ ((∃ o k, Y9b xs most = .ok (o, k) ∧ e = .returned (.tuple #[.string (bs o), .int .i64 (k : Int), .int .i64 0])) ∨
  ∃ c : Nat, Y9b xs most = .error c ∧ c ≤ 8 ∧ c ≠ 0 ∧ e = .returned (.tuple #[.string ByteArray.empty, .int .i64 0, .int .i64 (c : Int)]))
end Go.Proofs.YtkkfkmoikcmhoaaGreat.Inf
namespace Go.Proofs.YtkkfkmoikcmhoaaGreat.Inf
open Go.RowKit Oct Bit Hf
set_option maxRecDepth 100000
set_option maxHeartbeats 400000 in
theorem Yvf (xs : List UInt8) (low : Bool) (w : World) (hs : xs.length ≤ 10000) :
  Calls Tryz.prog 34 #[.string (bs xs), .bool low] w fun e w' => e = .returned (.string (ds (Y02 low xs))) ∧ Below w.heap.size w w' := by
 have hsz := Y13 xs
 go_enter Tryz.func34, Tryz.ntmps34
 go_wp2_with fail
 go_loopw [5, 6] (fun s i wr => ∃ k : Nat, k ≤ xs.length ∧ i = .int .i64 (k : Int) ∧ s = .string (ds (Y02 low (xs.take k))) ∧ Below w.heap.size w wr) (fun _ c _ => xs.length - (intOf c).toNat)
 case atStart => exact ⟨0, by omega, rfl, rfl, Below.refl _ _⟩
 case round =>
  obtain ⟨k, hk, rfl, rfl, hF⟩ := hrel
  by_cases hlt : k < xs.length
  ·obtain ⟨x, hx⟩ : ∃ x, x = xs[k] := ⟨_, rfl⟩
   have hb : x.toNat < 256 := x.toNat_lt
   have hz2 : (ds (Y02 low (xs.take k))).size ≤ 80000 := by rw [Y0w, Y03, List.length_take]; omega
   have hg : ∀ h, (bs xs)[k]'h = x := fun h => (Yby xs k h hlt).trans hx.symm
   have HG := Lib.hid hg
   have HX := Lib.hid (show xs.take (k + 1) = xs.take k ++ [x] by rw [hx, Y1x xs k hlt])
   clear hg hx
   go_wp2_with fail
   rw [HG.out]
   rw [show ((x.toNat : Int) % 4294967296) = (x.toNat : Int) by omega]
   refine (Yge _ 8 _ (by omega) (by omega)).mono ?_
   rintro e w1 ⟨rfl, hb1⟩
   have hF1 : Below w.heap.size w w1 := hF.trans (hb1.mono hF.size)
   have hz1 : (ds (word x.toNat 8)).size = 8 := by rw [Y0w, Y0k]
   cases low
   ·go_wp2_with fail
    go_roundw
    case rel =>
     refine ⟨k + 1, by omega, by go_num, ?_, hF1⟩
     rw [Y21, HX.out, Y0o]; simp [Y02, Y6p, Y07]
    case measure => simp [intOf]; omega
   ·go_wp2_with fail
    refine (Yac _ _ (by rw [Y0k]; omega)).mono ?_
    rintro e w' ⟨rfl, rfl⟩
    have hz3 : (ds (word x.toNat 8).reverse).size = 8 := by rw [Y0w, List.length_reverse, Y0k]
    go_wp2_with fail
    go_roundw
    case rel =>
     refine ⟨k + 1, by omega, by go_num, ?_, hF1⟩
     rw [Y21, HX.out, Y0o]; simp [Y02, Y6p, Y07]
    case measure => simp [intOf]; omega
  ·have : k = xs.length := by omega
   subst this
   rw [List.take_length]
   go_wp2_with fail
   go_ret
   exact ⟨rfl, hF⟩
set_option maxHeartbeats 8000000 in
theorem Yg8 (xs : List UInt8) (most : Int) (w : World) (hx : xs.length ≤ 3000) (hm : most ≤ 20000) (hm0 : -9223372036854775808 ≤ most) : Calls Tryz.prog 17 #[.string (bs xs), .int .i64 most] w (X0b w xs most) := by
 by_cases hneg : most < 0
 ·have q0 : decide (most < 0) = true := by simpa using hneg
  have HRES : Hid (X0b w xs most (.returned (.tuple #[.string ByteArray.empty, .int .i64 0, .int .i64 1])) w) := Lib.hid ⟨Below.refl _ _, .inr ⟨1, by unfold Y9b; rw [if_pos hneg], by decide, by decide, rfl⟩⟩
  clear hneg
  go_enter Tryz.func17, Tryz.ntmps17
  go_wp2_with fail
  go_ret3
  exact HRES.out
 ·obtain ⟨M, rfl⟩ : ∃ M : Nat, most = (M : Int) := ⟨most.toNat, by omega⟩
  have hM : M ≤ 20000 := by omega
  have q0 : decide ((M : Int) < 0) = false := by simp
  obtain ⟨L, hL⟩ : ∃ L, L = Y02 true xs := ⟨_, rfl⟩
  have hlen : L.length ≤ 24000 := by rw [hL, Y03]; omega
  have hsz := Y0w L
  obtain ⟨X, hX⟩ : ∃ X, X = Y2v L M 0 [] := ⟨_, rfl⟩
  have HEQ : Hid (Y9b xs (M : Int) = fin8 X) := Lib.hid (by
   unfold Y9b
   rw [if_neg (by omega), Int.toNat_natCast, Y71, hX, hL])
  have HX := Lib.hid hX
  have hof := Yvf xs true w (by omega)
  rw [← hL] at hof
  have HOF := Lib.hid hof
  clear hof hL hX hneg hm hm0
  go_enter Tryz.func17, Tryz.ntmps17
  go_wp2_with fail
  refine HOF.out.mono ?_
  rintro e w1 ⟨rfl, hb1⟩
  have HST : Hid (X06 w w1.heap.size L M X (w1.alloc (.cells #[.string (ds L), .int .i64 0, .slice none 0 0, .int .i64 (M : Int)] 69))) := Lib.hid
   ⟨0, .slice none 0 0, [], ⟨heap_alloc_new _ _, World.ownsRow_nil _ 0 5 1, (fun k hk => by cases hk), hb1.trans (((Below.refl _ w1).alloc (Nat.le_refl _) _).mono hb1.size), hb1.size, Nat.zero_le _, Nat.zero_le _⟩, HX.out.symm⟩
  clear hb1 HOF HX
  go_wp2_with fail
  generalize w1.heap.size = g at HST ⊢
  go_loopw [8, 9, 10, 11, 12, 13, 14, 15, 16] (fun _ _ _ _ _ _ _ _ _ wr => Hid (X06 w g L M X wr)) (fun _ _ _ _ _ _ _ _ _ wr => L.length + 1 - plc wr g)
  case atStart => exact HST
  case round =>
   obtain ⟨a, v, out, hS, hE⟩ := hrel.out
   obtain ⟨q, c, rfl, hq0, hnc, hcm, _⟩ := Y39 hS.own rfl
   unfold maxLen at hcm
   obtain ⟨n, hn⟩ : ∃ n, out.length = n := ⟨_, rfl⟩
   have hone := Y9k L M a out hS.le
   rw [hE] at hone
   have hom := hS.om
   rw [hn] at hnc hS hom
   have HN := Lib.hid hn
   have HS := Lib.hid hS
   have HPL := Lib.hid (Yb3 hS.bx)
   obtain ⟨p0, p1, p2, p3⟩ := hS.bx.cells
   clear hn hS hE hrel HST hq0
   rcases hnum : Y1k L a 3 with e3 | ⟨h, a1⟩
   ·obtain ⟨rfl, _⟩ := Y56 hnum
    rw [hnum] at hone
    have HZ : Hid (Y9b xs (M : Int) = .error 2) := Lib.hid (by rw [HEQ.out, hone]; rfl)
    have HNB := Lib.hid (Y7z L a 3 M 2 q n c wr HS.out.le (by omega) (by decide) hnum)
    clear hone hnum
    go_wp2_with fail
    refine HNB.out.mono ?_
    rintro e w2 ⟨rfl, hb2⟩
    have HB2 := Lib.hid (fun O : Obj => (HS.out.keep (hb2.trans (((Below.refl _ w2).alloc (Nat.le_refl _) O).mono hb2.size))).bl)
    clear p0 p1 p2 p3 hb2
    go_wp2_with fail
    go_ret3
    exact ⟨HB2.out _, .inr ⟨2, HZ.out, by decide, by decide, rfl⟩⟩
   ·rw [hnum, R.then_ok] at hone
    obtain ⟨h8, ha1, ha1L⟩ := Y1q hnum
    have h8 : h < 8 := h8
    have h0 : (0 : Int) ≤ (h : Int) := by omega
    have HNB := Lib.hid (Y4k L a 3 M h a1 q n c wr (by omega) (by decide) hnum)
    have HA1 : Hid (a < a1 ∧ a1 ≤ L.length) := Lib.hid ⟨by omega, ha1L⟩
    obtain ⟨X1, hX1⟩ : ∃ X1, X1 = Yce L M h a1 out := ⟨_, rfl⟩
    rw [← hX1] at hone
    have HAT : Hid (∀ o b, X1 = .ok (o, b) → a1 ≤ b ∧ b ≤ L.length) := Lib.hid (fun o b hob => Yjz ha1L (hX1 ▸ hob))
    have HX1 := Lib.hid hX1
    have HONE := Lib.hid hone
    clear hnum hone hX1 ha1 ha1L
    go_upto_region 5 with (go_at_call 35; refine HNB.out.mono ?_; rintro e w2 ⟨rfl, hb2⟩; have HB2 := Lib.hid hb2; clear hb2)
    have HS3 := Lib.hid (HS.out.keep (HB2.out.trans (((Below.refl _ w2).alloc (Nat.le_refl _) (.cells #[.string (ds L), .int .i64 (a1 : Int), .slice q n c, .int .i64 (M : Int)] 69)).mono HB2.out.size)))
    clear p0 p1 p2 p3
    obtain ⟨p0, p1, p2, p3⟩ := HS3.out.bx.cells
    obtain ⟨f0, f1, f2, f3⟩ := HS3.out.bx.free
    go_upto_region 8 with (fail)
    have HS5 := Lib.hid (HS3.out.put a1 HA1.out.2)
    obtain ⟨w5, hw5⟩ : ∃ V, V = put4 (w2.alloc (.cells #[.string (ds L), .int .i64 (a1 : Int), .slice q n c, .int .i64 (M : Int)] 69)) g (.string (ds L)) (.int .i64 (a1 : Int)) (.slice q n c) (.int .i64 (M : Int)) := ⟨_, rfl⟩
    rw [← hw5] at HS5
    unfold put4 at hw5
    rw [← hw5]
    clear hw5 p0 p1 p2 p3 f0 f1 f2 f3 HS3 HB2 HNB HS
    obtain ⟨p0, p1, p2, p3⟩ := HS5.out.bx.cells
    obtain ⟨f0, f1, f2, f3⟩ := HS5.out.bx.free
    obtain ⟨hh, hhh⟩ : ∃ hh, h / 2 = hh := ⟨_, rfl⟩
    obtain ⟨hp, hhp⟩ : ∃ hp, h % 2 = hp := ⟨_, rfl⟩
    have d2 : (h : Int) / 2 = (hh : Int) := by omega
    have dp : (h : Int) % 2 = (hp : Int) := by omega
    have hh4 : hh < 4 := by omega
    have hp2 : hp < 2 := by omega
    have HONE2 : Hid (X = X1.then fun o a => if hp = 1 then .ok (o, a) else Y2v L M a o) := Lib.hid (by rw [HONE.out, hhp])
    have hx1 := HX1.out
    unfold Yce at hx1
    rw [hhh] at hx1
    have hown5 := HS5.out.own
    rw [HN.out] at hown5
    clear hhh hhp HONE HX1
    have hcase : hh = 0 ∨ hh = 1 ∨ hh = 2 ∨ hh = 3 := by omega
    rcases hcase with rfl | rfl | rfl | rfl
    ·rw [if_pos rfl] at hx1
     have hC := Yim L a1 M q n c out w5 HA1.out.2 hlen hown5 HN.out hom hM
     rw [← hx1] at hC
     have HC := Lib.hid hC
     clear hC hx1 hown5 f0 f1 f2 f3
     go_wp2_with fail
     refine HC.out.mono ?_
     rintro e w6 hst
     obtain ⟨b, q6, n6, c6, cc, rfl, hb6, hbl6, hres6⟩ := HS5.out.took hst HAT.out
     have HBL6 := Lib.hid hbl6
     have HRES6 := Lib.hid hres6
     clear p0 p1 p2 p3 hst hbl6 hres6
     obtain ⟨p0, p1, p2, p3⟩ := hb6.cells
     obtain ⟨f0, f1, f2, f3⟩ := hb6.free
     clear hb6
     go_upto_region 19 with (fail)
     obtain ⟨w8, hw8⟩ : ∃ V, V = put4 w6 g (.string (ds L)) (.int .i64 (b : Int)) (.slice q6 n6 c6) (.int .i64 (M : Int)) := ⟨_, rfl⟩
     rw [← hw8] at HBL6 HRES6
     unfold put4 at hw8
     rw [← hw8]
     clear hw8 p0 p1 p2 p3 f0 f1 f2 f3
     rcases HRES6.out with ⟨rfl, o, hok, hab, hS8⟩ | ⟨hcne, hc8, herr⟩
     ·have HX2 : Hid (X = if hp = 1 then .ok (o, b) else Y2v L M b o) := Lib.hid (by rw [HONE2.out, hok, R.then_ok])
      by_cases hpar : hp = 1
      ·have qp : ((hp : Int) == 1) = true := by rw [hpar]; rfl
       have HZ : Hid (Y9b xs (M : Int) = .ok (o, (b + 7) / 8)) := Lib.hid (by rw [HEQ.out, HX2.out, if_pos hpar]; rfl)
       obtain ⟨k8, hk8⟩ : ∃ k8, (b + 7) / 8 = k8 := ⟨_, rfl⟩
       have d8 : ((b : Int) + 7) / 8 = (k8 : Int) := by omega
       have hbb : b ≤ 24000 := Nat.le_trans hS8.le hlen
       obtain ⟨q7, c7, e7, _, _, _, hr8⟩ := Y39 hS8.own rfl
       injection e7 with e71 e72 e73
       subst e71 e72 e73
       have cn8 := fun k : Nat => Y31 (w := w8.drewN k) o.length c6 (show Row (w8.drewN k) q6 o from hr8) rfl
       rw [hk8] at HZ
       obtain ⟨p0, p1, p2, p3⟩ := hS8.bx.cells
       clear hS8 hr8 hpar hok hab hk8 HRES6
       go_wp2_with fail
       go_quiet (fail)
       go_wp2_with fail
       go_ret3
       exact ⟨HBL6.out.trans ((show Drawn w8 (w8.drewN nq) from ⟨nq, rfl⟩).below _), .inl ⟨o, k8, HZ.out, by first | (rw [← d8]; done) | (rw [← d8]; rfl)⟩⟩
      ·have qp : ((hp : Int) == 1) = false := by simp; omega
       have HINF : Hid (X06 w g L M X w8) := Lib.hid ⟨b, _, o, hS8, by rw [HX2.out, if_neg hpar]⟩
       have HPL8 := Lib.hid (Yb3 hS8.bx)
       have HB8 : Hid (b ≤ L.length) := Lib.hid hS8.le
       clear hS8 hpar hok HRES6
       go_wp2_with fail
       refine ⟨HINF, ?_⟩
       rw [HPL8.out, HPL.out]
       have h1 := HA1.out
       have h2 := HB8.out
       omega
     ·have qc : ((cc : Int) != 0) = true := by simp; omega
      have HZ : Hid (Y9b xs (M : Int) = .error cc) := Lib.hid (by rw [HEQ.out, HONE2.out, herr, R.then_err]; rfl)
      have HCC := Lib.hid hcne
      clear herr HRES6
      go_wp2_with fail
      go_ret3
      exact ⟨HBL6.out, .inr ⟨cc, HZ.out, hc8, HCC.out, rfl⟩⟩
    ·rw [if_neg (by decide), if_pos rfl] at hx1
     have HX1 := Lib.hid hx1
     clear hx1 hown5 f0 f1 f2 f3
     go_wp2_with fail
     refine (Ymq w5).mono ?_
     rintro e w51 ⟨hb51, qx, cx, qy, cy, rfl, hqx, hqx0, hqy, hqy0⟩
     have HS51 := Lib.hid (HS5.out.keep hb51)
     have HWA := Lib.hid (Y6f qx cx 288 Y0l false false w51 hqx (by decide) Yc4 (by omega))
     have HQY := Lib.hid hqy
     clear p0 p1 p2 p3 hb51 hqx hqx0 hqy hqy0 HS5
     go_wp2_with fail
     refine HWA.out.mono ?_
     rintro e w52 ⟨hb52, hres⟩
     rw [Ywj] at hres
     rcases hres with ⟨qa, ca, _, rfl, hva, _, hqa⟩ | ⟨hno, _⟩
     case inr => cases hno
     have HS52 := Lib.hid (HS51.out.keep hb52)
     have HVA := Lib.hid hva
     have HQA := Lib.hid hqa
     have HWB := Lib.hid (Y6f qy cy 30 Y0m false false w52 ((HQY.out.below hb52 (Nat.le_refl _)).mono hb52.size) (by decide) Yc5 (by omega))
     have hz52 := hb52.size
     have e288 : Y0l.length = 288 := by decide
     rw [e288]
     clear hb52 hva hqa HQY HWA e288
     go_wp2_with fail
     refine HWB.out.mono ?_
     rintro e w53 ⟨hb53, hres⟩
     rw [Ywk] at hres
     rcases hres with ⟨qb, cb, _, rfl, hvb, _, hqb⟩ | ⟨hno, _⟩
     case inr => cases hno
     have HS53 := Lib.hid (HS52.out.keep hb53)
     have HVA3 := Lib.hid ((HVA.out.below hb53 (Nat.le_refl _)).mono hb53.size)
     have e30 : Y0m.length = 30 := by decide
     rw [e30]
     have hown53 := HS53.out.own
     rw [HN.out] at hown53
     have hlt : ∀ k, (Value.slice q n c).ownBlock = some k → k < w51.heap.size := fun k hk => (HS51.out.own.lt k hk).2
     have hBK := Ych L a1 M q n c out qa qb 288 ca 30 cb (Y04 Y0l) (Y04 Y0m) w53 HA1.out.2 hlen hown53 HN.out hom hM
      (fun V hV => (Y6n HVA3.out hV (fun ad e hk => by have := HQA.out ad e; have := hlt _ hk; omega) (Nat.le_refl _)).mono hV.2.2.2.1)
      (fun V hV => (Y6n hvb hV (fun ad e hk => by have := hqb ad e; have := hlt _ hk; omega) (Nat.le_refl _)).mono hV.2.2.2.1)
      (by rw [Y0c]; rfl) (by rw [Y0c]; rfl) (by omega) (by omega) Yu1 Yu2
     rw [← HX1.out] at hBK
     have HBK := Lib.hid hBK
     obtain ⟨p0, p1, p2, p3⟩ := HS53.out.bx.cells
     clear hBK hvb hqb hown53 hlt hb53 HWB e30
     go_wp2_with fail
     refine HBK.out.mono ?_
     rintro e w6 hst
     obtain ⟨b, q6, n6, c6, cc, rfl, hb6, hbl6, hres6⟩ := HS53.out.took hst HAT.out
     have HBL6 := Lib.hid hbl6
     have HRES6 := Lib.hid hres6
     clear p0 p1 p2 p3 hst hbl6 hres6
     obtain ⟨p0, p1, p2, p3⟩ := hb6.cells
     obtain ⟨f0, f1, f2, f3⟩ := hb6.free
     clear hb6
     go_upto_region 19 with (fail)
     obtain ⟨w8, hw8⟩ : ∃ V, V = put4 w6 g (.string (ds L)) (.int .i64 (b : Int)) (.slice q6 n6 c6) (.int .i64 (M : Int)) := ⟨_, rfl⟩
     rw [← hw8] at HBL6 HRES6
     unfold put4 at hw8
     rw [← hw8]
     clear hw8 p0 p1 p2 p3 f0 f1 f2 f3
     rcases HRES6.out with ⟨rfl, o, hok, hab, hS8⟩ | ⟨hcne, hc8, herr⟩
     ·have HX2 : Hid (X = if hp = 1 then .ok (o, b) else Y2v L M b o) := Lib.hid (by rw [HONE2.out, hok, R.then_ok])
      by_cases hpar : hp = 1
      ·have qp : ((hp : Int) == 1) = true := by rw [hpar]; rfl
       have HZ : Hid (Y9b xs (M : Int) = .ok (o, (b + 7) / 8)) := Lib.hid (by rw [HEQ.out, HX2.out, if_pos hpar]; rfl)
       obtain ⟨k8, hk8⟩ : ∃ k8, (b + 7) / 8 = k8 := ⟨_, rfl⟩
       have d8 : ((b : Int) + 7) / 8 = (k8 : Int) := by omega
       have hbb : b ≤ 24000 := Nat.le_trans hS8.le hlen
       obtain ⟨q7, c7, e7, _, _, _, hr8⟩ := Y39 hS8.own rfl
       injection e7 with e71 e72 e73
       subst e71 e72 e73
       have cn8 := fun k : Nat => Y31 (w := w8.drewN k) o.length c6 (show Row (w8.drewN k) q6 o from hr8) rfl
       rw [hk8] at HZ
       obtain ⟨p0, p1, p2, p3⟩ := hS8.bx.cells
       clear hS8 hr8 hpar hok hab hk8 HRES6
       go_wp2_with fail
       go_quiet (fail)
       go_wp2_with fail
       go_ret3
       exact ⟨HBL6.out.trans ((show Drawn w8 (w8.drewN nq) from ⟨nq, rfl⟩).below _), .inl ⟨o, k8, HZ.out, by first | (rw [← d8]; done) | (rw [← d8]; rfl)⟩⟩
      ·have qp : ((hp : Int) == 1) = false := by simp; omega
       have HINF : Hid (X06 w g L M X w8) := Lib.hid ⟨b, _, o, hS8, by rw [HX2.out, if_neg hpar]⟩
       have HPL8 := Lib.hid (Yb3 hS8.bx)
       have HB8 : Hid (b ≤ L.length) := Lib.hid hS8.le
       clear hS8 hpar hok HRES6
       go_wp2_with fail
       refine ⟨HINF, ?_⟩
       rw [HPL8.out, HPL.out]
       have h1 := HA1.out
       have h2 := HB8.out
       omega
     ·have qc : ((cc : Int) != 0) = true := by simp; omega
      have HZ : Hid (Y9b xs (M : Int) = .error cc) := Lib.hid (by rw [HEQ.out, HONE2.out, herr, R.then_err]; rfl)
      have HCC := Lib.hid hcne
      clear herr HRES6
      go_wp2_with fail
      go_ret3
      exact ⟨HBL6.out, .inr ⟨cc, HZ.out, hc8, HCC.out, rfl⟩⟩
    ·rw [if_neg (by decide), if_neg (by decide), if_pos rfl] at hx1
     have hC := Yg7 L a1 M q n c out w5 HA1.out.2 hlen hown5 HN.out hom hM
     rw [← hx1] at hC
     have HC := Lib.hid hC
     clear hC hx1 hown5 f0 f1 f2 f3
     go_wp2_with fail
     refine HC.out.mono ?_
     rintro e w6 hst
     obtain ⟨b, q6, n6, c6, cc, rfl, hb6, hbl6, hres6⟩ := HS5.out.took hst HAT.out
     have HBL6 := Lib.hid hbl6
     have HRES6 := Lib.hid hres6
     clear p0 p1 p2 p3 hst hbl6 hres6
     obtain ⟨p0, p1, p2, p3⟩ := hb6.cells
     obtain ⟨f0, f1, f2, f3⟩ := hb6.free
     clear hb6
     go_upto_region 19 with (fail)
     obtain ⟨w8, hw8⟩ : ∃ V, V = put4 w6 g (.string (ds L)) (.int .i64 (b : Int)) (.slice q6 n6 c6) (.int .i64 (M : Int)) := ⟨_, rfl⟩
     rw [← hw8] at HBL6 HRES6
     unfold put4 at hw8
     rw [← hw8]
     clear hw8 p0 p1 p2 p3 f0 f1 f2 f3
     rcases HRES6.out with ⟨rfl, o, hok, hab, hS8⟩ | ⟨hcne, hc8, herr⟩
     ·have HX2 : Hid (X = if hp = 1 then .ok (o, b) else Y2v L M b o) := Lib.hid (by rw [HONE2.out, hok, R.then_ok])
      by_cases hpar : hp = 1
      ·have qp : ((hp : Int) == 1) = true := by rw [hpar]; rfl
       have HZ : Hid (Y9b xs (M : Int) = .ok (o, (b + 7) / 8)) := Lib.hid (by rw [HEQ.out, HX2.out, if_pos hpar]; rfl)
       obtain ⟨k8, hk8⟩ : ∃ k8, (b + 7) / 8 = k8 := ⟨_, rfl⟩
       have d8 : ((b : Int) + 7) / 8 = (k8 : Int) := by omega
       have hbb : b ≤ 24000 := Nat.le_trans hS8.le hlen
       obtain ⟨q7, c7, e7, _, _, _, hr8⟩ := Y39 hS8.own rfl
       injection e7 with e71 e72 e73
       subst e71 e72 e73
       have cn8 := fun k : Nat => Y31 (w := w8.drewN k) o.length c6 (show Row (w8.drewN k) q6 o from hr8) rfl
       rw [hk8] at HZ
       obtain ⟨p0, p1, p2, p3⟩ := hS8.bx.cells
       clear hS8 hr8 hpar hok hab hk8 HRES6
       go_wp2_with fail
       go_quiet (fail)
       go_wp2_with fail
       go_ret3
       exact ⟨HBL6.out.trans ((show Drawn w8 (w8.drewN nq) from ⟨nq, rfl⟩).below _), .inl ⟨o, k8, HZ.out, by first | (rw [← d8]; done) | (rw [← d8]; rfl)⟩⟩
      ·have qp : ((hp : Int) == 1) = false := by simp; omega
       have HINF : Hid (X06 w g L M X w8) := Lib.hid ⟨b, _, o, hS8, by rw [HX2.out, if_neg hpar]⟩
       have HPL8 := Lib.hid (Yb3 hS8.bx)
       have HB8 : Hid (b ≤ L.length) := Lib.hid hS8.le
       clear hS8 hpar hok HRES6
       go_wp2_with fail
       refine ⟨HINF, ?_⟩
       rw [HPL8.out, HPL.out]
       have h1 := HA1.out
       have h2 := HB8.out
       omega
     ·have qc : ((cc : Int) != 0) = true := by simp; omega
      have HZ : Hid (Y9b xs (M : Int) = .error cc) := Lib.hid (by rw [HEQ.out, HONE2.out, herr, R.then_err]; rfl)
      have HCC := Lib.hid hcne
      clear herr HRES6
      go_wp2_with fail
      go_ret3
      exact ⟨HBL6.out, .inr ⟨cc, HZ.out, hc8, HCC.out, rfl⟩⟩
    ·rw [if_neg (by decide), if_neg (by decide), if_neg (by decide)] at hx1
     have HZ : Hid (Y9b xs (M : Int) = .error 3) := Lib.hid (by rw [HEQ.out, HONE2.out, hx1, R.then_err]; rfl)
     have HBL5 := Lib.hid HS5.out.bl
     clear hx1 hown5
     go_wp2_with fail
     go_ret3
     exact ⟨HBL5.out, .inr ⟨3, HZ.out, by decide, by decide, rfl⟩⟩
end Go.Proofs.YtkkfkmoikcmhoaaGreat.Inf

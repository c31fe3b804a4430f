
/- Contracts of the laws of grids: square; slices.Equal of equal rows. -/
import Derived.Test.YtjecakkdongcoaaGrF
namespace Go.Proofs.Ytjecakkdongcoaa.Gr
open Go.RowKit Go.Proofs.Ytjecakkdongcoaa.Oct
open Go.Proofs.Ytjecakkdongcoaa.Lp (VRow Only ints ints_length ints_append ints_one vrow_blk vrow_own blk_set blk_far blk_frozen)
open Go.Proofs.Ytjecakkdongcoaa.Gd (canG cutG cutG_length)
open Go.Proofs.Ytjecakkdongcoaa.Fm (Ow)
set_option linter.unusedVariables false
set_option linter.unusedSimpArgs false
set_option maxRecDepth 100000

/-- a square's cells, so many of which are set -/
def sqN (a b m : Nat) : List Int := (List.range (a * b)).map fun i => if i < m then 100 * ((i / a : Nat) : Int) + ((i % a : Nat) : Int) else 0
theorem sqN_length (a b m : Nat) : (sqN a b m).length = a * b := by simp [sqN]
theorem sqN_zero (a b : Nat) : sqN a b 0 = List.replicate (a * b) 0 := by
  apply List.ext_getElem
  · simp [sqN]
  · intro i h1 h2
    simp [sqN]
theorem sqN_set {a b x y : Nat} (hx : x < a) (hy : y < b) : (sqN a b (y * a + x)).set (y * a + x) (100 * (y : Int) + (x : Int)) = sqN a b (y * a + x + 1) := by
  obtain ⟨h1, h2⟩ := Gd.place (j := y) hx
  apply List.ext_getElem
  · simp [sqN]
  · intro i h3 h4
    rw [List.getElem_set]
    by_cases e : y * a + x = i
    · subst e
      rw [if_pos rfl]
      simp only [sqN, List.getElem_map, List.getElem_range]
      rw [if_pos (Nat.lt_succ_self _), h1, h2]
    · rw [if_neg e]
      simp only [sqN, List.getElem_map, List.getElem_range]
      by_cases h : i < y * a + x
      · rw [if_pos h, if_pos (by omega)]
      · rw [if_neg h, if_neg (by omega)]
/-- what stands in memory while a square is made -/
structure SqS (w : World) (b5 a b n : Nat) (L : List Int) (wr : World) : Prop where
  bel : Below w.heap.size w wr
  b4 : Bx 26 wr w.heap.size (.int .i64 0) (.int .i64 0) (.slice none 0 0)
  gr : ∃ G, Bx 26 wr b5 (.int .i64 (a : Int)) (.int .i64 (b : Int)) (.slice (some ⟨G, 0, none⟩) n n) ∧ wr.heap[G]? = some (.cells (ints L).toArray 3 (0, 0)) ∧ G ≠ b5 ∧ w.heap.size < G
  ne : w.heap.size < b5
set_option maxHeartbeats 2000000 in
theorem sq_any (a b : Nat) (w : World) (ha : 1 ≤ a) (hb : 1 ≤ b) (ha2 : a ≤ 10) (hb2 : b ≤ 10) :
    Calls Try.prog 29 #[.int .i64 (a : Int), .int .i64 (b : Int)] w (GrP w (a : Int) (b : Int) (a * b) (sqN a b (a * b))) := by
  have hab : a * b ≤ 100 := Nat.mul_le_mul ha2 hb2
  have hcan : canG (a : Int) (b : Int) = true := by
    have : (a : Int) * (b : Int) = ((a * b : Nat) : Int) := by push_cast; rfl
    unfold canG
    rw [this]
    exact decide_eq_true ⟨by omega, by omega, by omega, by omega, by omega⟩
  obtain ⟨w1, hw1, HB1, HX1, hz1⟩ := box1 26 w (.int .i64 0) (.int .i64 0) (.slice none 0 0)
  have HNW := Lib.hid (new_any (a : Int) (b : Int) w1)
  have HCAN := Lib.hid hcan
  have HW1 := Lib.hid hw1
  have hni : ((a : Int) * (b : Int)).toNat = a * b := by rw [← Int.natCast_mul]; rfl
  obtain ⟨n, hn⟩ : ∃ n, n = a * b := ⟨_, rfl⟩
  have HN := Lib.hid hn
  rw [hni, ← hn] at HNW
  rw [← hn] at hab ⊢
  have HHAS : Hid (∀ x y : Nat, x < a → y < b → hasI (a : Int) (b : Int) n (x : Int) (y : Int) = true) := Lib.hid (fun x y hx hy => by
    unfold hasI rightI
    rw [HCAN.out, HN.out, decide_eq_true (by push_cast; rfl), decide_eq_true ⟨by omega, by omega, by omega, by omega⟩]
    rfl)
  have HSZ := Lib.hid hz1
  clear hcan hni hn hw1 hz1
  go_enter Try.func29, Try.ntmps29
  go_wp2_with fail
  rw [← HW1.out]
  refine HNW.out.mono ?_
  rintro e w2 (⟨_, G, rfl, ho⟩ | ⟨hq, _⟩)
  case inr => rw [HCAN.out] at hq; cases hq
  obtain ⟨w3, hw3, HB3, HX3, hz3⟩ := box1 26 w2 (.int .i64 (a : Int)) (.int .i64 (b : Int)) (.slice (some ⟨G, 0, none⟩) n n)
  have HS : Hid (SqS w w2.heap.size a b n (sqN a b 0) w3) := Lib.hid
    ⟨HB1.out.trans ((ho.1.trans (HB3.out.mono ho.1.size)).mono HB1.out.size), HX1.out.go (ho.1.trans (HB3.out.mono ho.1.size)),
      ⟨G, HX3.out, by rw [sqN_zero, ← HN.out]; exact (ho.go HB3.out).2.2.2, Nat.ne_of_lt ho.2.2.1, by have := ho.2.1; have := HSZ.out; omega⟩, by have := ho.1.size; have := HSZ.out; omega⟩
  have HW3 := Lib.hid hw3
  clear ho hw3 hz3 HX3 HB3 HX1 HNW HW1 HB1
  go_wp2_with fail
  rw [← HW3.out]
  go_loopw [7, 8, 16] (fun s7 s8 i wr => ∃ y : Nat, y ≤ b ∧ i = .int .i64 (y : Int) ∧ Hid (SqS w w2.heap.size a b n (sqN a b (y * a)) wr)) (fun _ _ i _ => b - (intOf i).toNat)
  case atStart => exact ⟨0, Nat.zero_le _, rfl, by rw [Nat.zero_mul]; exact HS⟩
  case round =>
    clear HS
    obtain ⟨y, hy, rfl, HS⟩ := hrel
    by_cases hlt : y < b
    · have ql : decide ((y : Int) < (b : Int)) = true := by simpa using hlt
      go_wp2_with fail
      go_loopw [8, 20] (fun s8 i wr => ∃ x : Nat, x ≤ a ∧ i = .int .i64 (x : Int) ∧ Hid (SqS w w2.heap.size a b n (sqN a b (y * a + x)) wr)) (fun _ i _ => a - (intOf i).toNat)
      case atStart => exact ⟨0, Nat.zero_le _, rfl, HS⟩
      case round =>
        clear HS
        obtain ⟨x, hx, rfl, HS⟩ := hrel
        by_cases hlt2 : x < a
        · have ql2 : decide ((x : Int) < (a : Int)) = true := by simpa using hlt2
          have hS := HS.out
          obtain ⟨G2, hbx, hgc, hne, hgw⟩ := hS.gr
          have hset := set_any (a : Int) (b : Int) (some ⟨G2, 0, none⟩) n n (sqN a b (y * a + x)) (x : Int) (y : Int) (100 * (y : Int) + (x : Int)) wr (vrow_blk hgc (blk_lt hgc)) (by rw [sqN_length, HN.out]) (by omega)
          rw [HHAS.out x y hlt2 hlt, if_pos rfl, if_pos rfl, Int.toNat_natCast, Int.toNat_natCast, Int.toNat_natCast, sqN_set hlt2 hlt] at hset
          have HSET := Lib.hid hset
          obtain ⟨k0, k1, k2⟩ := hbx.cells
          have f := hbx.fz
          have hb100 : (y : Int) ≤ 10 := by omega
          have hx100 : (x : Int) ≤ 10 := by omega
          have HBX := Lib.hid hbx
          clear hset hbx hgc hne hgw hS f
          go_wp2_with fail
          refine HSET.out.mono ?_
          rintro e w5 ⟨G5, rfl, ho5⟩
          have hb5 := HBX.out.go ho5.1
          have hlt5 := HBX.out.lt
          have f := hb5.fz
          have f0 := f 0
          have f1 := f 1
          have f2 := f 2
          obtain ⟨k0, k1, k2⟩ := hb5.cells
          have hne5 : w2.heap.size ≠ G5 := by have := ho5.2.1; omega
          have hwb := HS.out.ne
          have hb4 := HS.out.b4.go ho5.1
          have HS6 : Hid (SqS w w2.heap.size a b n (sqN a b (y * a + x + 1)) (((w5.setCell ⟨w2.heap.size, 0, none⟩ (.int .i64 (a : Int))).setCell ⟨w2.heap.size, 1, none⟩ (.int .i64 (b : Int))).setCell ⟨w2.heap.size, 2, none⟩ (.slice (some ⟨G5, 0, none⟩) n n))) := Lib.hid
            ⟨((((HS.out.bel.trans (ho5.1.mono HS.out.bel.size))).setCell (p := ⟨w2.heap.size, 0, none⟩) (Nat.le_of_lt hwb) _).setCell (p := ⟨w2.heap.size, 1, none⟩) (Nat.le_of_lt hwb) _).setCell (p := ⟨w2.heap.size, 2, none⟩) (Nat.le_of_lt hwb) _,
              ((hb4.far (by omega) _).far (by omega) _).far (by omega) _, ⟨G5, hb5.put _ _ _, blk_far (blk_far (blk_far ho5.2.2.2 hne5 _ _) hne5 _ _) hne5 _ _, hne5.symm, by have := ho5.2.1; have := HS.out.bel.size; omega⟩, hwb⟩
          clear ho5 hb5 f hb4 HBX HS
          go_wp2_with fail
          go_roundw
          case rel => exact ⟨x + 1, by omega, by go_num, HS6⟩
          case measure => simp [intOf]; omega
        · obtain rfl : x = a := by omega
          have ql2 : decide ((x : Int) < (x : Int)) = false := by simp
          have HS2 : Hid (SqS w w2.heap.size x b n (sqN x b ((y + 1) * x)) wr) := by rw [Nat.succ_mul]; exact HS
          go_wp2_with fail
          go_roundw
          case rel => exact ⟨y + 1, by omega, by go_num, HS2⟩
          case measure => simp [intOf]; omega
    · obtain rfl : y = b := by omega
      have ql : decide ((y : Int) < (y : Int)) = false := by simp
      have hS := HS.out
      rw [Nat.mul_comm y a, ← HN.out] at hS
      obtain ⟨G2, hbx, hgc, hne, hgw⟩ := hS.gr
      obtain ⟨k0, k1, k2⟩ := hbx.cells
      have f := hS.b4.fz
      have f0 := f 0
      have f1 := f 1
      have f2 := f 2
      obtain ⟨j0, j1, j2⟩ := hS.b4.cells
      have HR := Lib.hid (hS.b4.put (.int .i64 (a : Int)) (.int .i64 (y : Int)) (.slice (some ⟨G2, 0, none⟩) n n))
      have hO : Ow w G2 3 (ints (sqN a y n)) wr := ⟨hS.bel, Nat.le_of_lt hgw, blk_lt hgc, hgc⟩
      have hgn : w.heap.size ≠ G2 := by omega
      have HO := Lib.hid (ow_far (i := 2) (ow_far (i := 1) (ow_far (i := 0) hO hgn (Nat.le_refl _) (.int .i64 (a : Int))) hgn (Nat.le_refl _) (.int .i64 (y : Int))) hgn (Nat.le_refl _) (.slice (some ⟨G2, 0, none⟩) n n))
      clear hS hbx hgc hne hgw f hO hgn HS
      go_wp2_with fail
      refine bodyPost_ret (res_one Try.underlying26 size_gi rfl _ _ w.heap.size _ _ _ rfl HR.out) rfl ?_
      exact ⟨G2, rfl, HO.out⟩
end Go.Proofs.Ytjecakkdongcoaa.Gr

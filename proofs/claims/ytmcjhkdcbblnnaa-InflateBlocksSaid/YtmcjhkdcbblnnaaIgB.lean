
/- The contract of a decoder's number. -/
import Derived.Test.YtmcjhkdcbblnnaaIgA
import Derived.Deep.RegionHeld3
namespace Go.Proofs.Ytmcjhkdcbblnnaa.Inf
open Go.RowKit Go.Proofs.Ytmcjhkdcbblnnaa.Oct Go.Proofs.Ytmcjhkdcbblnnaa.Bit Go.Proofs.Ytmcjhkdcbblnnaa.Hf
set_option linter.unusedVariables false
set_option linter.unusedSimpArgs false
set_option maxRecDepth 100000

/-- a number and where the reader is behind it, or the error 2 -/
def NumP (w : World) (K : Kon) (v : Value) (out : List UInt8) (F : Option Fix) (a n from_ : Nat) (e : Ending) (w' : World) : Prop :=
  ((∃ m, numR (bitsOf true K.xs) a n = .ok (m, a + n) ∧ m < 2 ^ n ∧ e = .returned (.tuple #[.int .i64 ((from_ + m : Nat) : Int), .int .i64 0]) ∧ De w' K (a + n) v out F) ∨
    (numR (bitsOf true K.xs) a n = .error 2 ∧ e = .returned (.tuple #[.int .i64 0, .int .i64 2]))) ∧ Only (MineE K v) w w'
theorem only_gr {K : Kon} {v : Value} {w w' : World} (h : Only (· = K.gr) w w') : Only (MineE K v) w w' := h.mono fun k _ e => .inr (.inl e)
theorem num_lt {xs : List UInt8} {a n m b : Nat} (h : numR (bitsOf true xs) a n = .ok (m, b)) (hn : n ≤ 32) : m < 2 ^ n ∧ b = a + n := by
  by_cases hc : a + n ≤ 8 * xs.length
  · rw [num_ok hc hn] at h
    cases h
    exact ⟨nextV_lt true xs a n hn, rfl⟩
  · rw [num_bad hc] at h; cases h
theorem num_err {xs : List UInt8} {a n c : Nat} (h : numR (bitsOf true xs) a n = .error c) : c = 2 := by
  unfold numR at h
  split at h
  · cases h
  · cases h; rfl
theorem read_ok (g : Nat) (p : Option Addr) (cap : Nat) (xs : List UInt8) (a n m b : Nat) (hn : n ≤ 32) (w : World) (hR : Rd w g p cap xs a true) (hx : numR (bitsOf true xs) a n = .ok (m, b)) :
    Calls Try.prog 37 #[.pointer (some ⟨g, 0, none⟩), .int .i64 (n : Int)] w fun e w' => e = .returned (.tuple #[.int .u32 (m : Int), .int .i64 0]) ∧ Rd w' g p cap xs b true ∧ Only (· = g) w w' := by
  refine (read_num g p cap xs a n hn w hR).mono ?_
  rintro e w' ⟨h, ho, hz⟩
  rcases h with ⟨v, h1, _, h3, h4⟩ | ⟨h1, _⟩
  · rw [hx] at h1
    cases h1
    exact ⟨h3, h4, ho⟩
  · rw [hx] at h1; cases h1
theorem read_bad (g : Nat) (p : Option Addr) (cap : Nat) (xs : List UInt8) (a n c : Nat) (hn : n ≤ 32) (w : World) (hR : Rd w g p cap xs a true) (hx : numR (bitsOf true xs) a n = .error c) :
    Calls Try.prog 37 #[.pointer (some ⟨g, 0, none⟩), .int .i64 (n : Int)] w fun e w' => e = .returned (.tuple #[.int .u32 0, .int .i64 2]) ∧ Only (· = g) w w' := by
  refine (read_num g p cap xs a n hn w hR).mono ?_
  rintro e w' ⟨h, ho, hz⟩
  rcases h with ⟨v, h1, _⟩ | ⟨h1, h2, _⟩
  · rw [hx] at h1; cases h1
  · exact ⟨h2, ho⟩
set_option maxHeartbeats 1000000 in
theorem number_any (w : World) (K : Kon) (a : Nat) (v : Value) (out : List UInt8) (F : Option Fix) (from_ n : Nat) (h : De w K a v out F) (hf : from_ ≤ 100000) (hn : n ≤ 13) :
    Calls Try.prog 71 #[.pointer (some ⟨K.d, 0, none⟩), .agg #[.int .i64 (from_ : Int), .int .i64 (n : Int)]] w (NumP w K v out F a n from_) := by
  obtain ⟨wb, hwb⟩ : ∃ wb, wb = w.alloc (.cells #[.int .i64 (from_ : Int), .int .i64 (n : Int)] 40) := ⟨_, rfl⟩
  have hob : Only (fun _ => False) w wb := by rw [hwb]; exact Only.of_below ((Below.refl _ w).alloc (Nat.le_refl _) _)
  have hD := h.keep hob
  have k0 := hD.c0
  have b0 : wb.cell? ⟨w.heap.size, 0, none⟩ = some (.int .i64 (from_ : Int)) := by rw [hwb]; simp
  have b1 : wb.cell? ⟨w.heap.size, 1, none⟩ = some (.int .i64 (n : Int)) := by
    rw [hwb]
    simp only [World.cell?, World.alloc, Array.getElem?_push_size]
    rfl
  have hdl := hD.lt
  have hlo := hD.lo
  have hwlt := h.lt
  have hsz : wb.heap.size = w.heap.size + 1 := by rw [hwb]; exact Array.size_push _
  have HKP : Hid (∀ w2, Only (· = K.gr) wb.drew w2 → w2.cell? ⟨K.d, 0, none⟩ = some (.pointer (some ⟨K.gr, 0, none⟩)) ∧ w2.cell? ⟨w.heap.size, 0, none⟩ = some (.int .i64 (from_ : Int)) ∧ w2.cell? ⟨w.heap.size, 1, none⟩ = some (.int .i64 (n : Int))) := Lib.hid (by
    intro w2 ho
    have e1 : ∀ k, k < wb.heap.size → k ≠ K.gr → ∀ i, w2.cell? ⟨k, i, none⟩ = wb.cell? ⟨k, i, none⟩ := fun k h1 h2 i => World.cell?_of_block (ho.2.2.2.2 k h1 h2)
    exact ⟨(e1 _ hdl (by omega) 0).trans k0, (e1 _ (by omega) (by omega) 0).trans b0, (e1 _ (by omega) (by omega) 1).trans b1⟩)
  have HDD := Lib.hid (hD.drawn (w' := wb.drew) ⟨1, rfl⟩)
  have HOB := Lib.hid (hob.trans (Only.drawn (fun _ => False) (w := wb) (w' := wb.drew) ⟨1, rfl⟩))
  have HWB := Lib.hid hwb
  have HN := Lib.hid hn
  clear hD hob h hwb
  rcases hx : numR (bitsOf true K.xs) a n with c | ⟨m, b⟩
  · have HRD := Lib.hid (read_bad K.gr K.p K.cap K.xs a n c (by omega) wb.drew HDD.out.rd hx)
    have HX := Lib.hid hx
    have HE := Lib.hid (num_err hx)
    clear hx
    go_enter Try.func71, Try.ntmps71
    go_wp2_with fail
    rw [← HWB.out]
    go_region_held3 (fun w2 => w2.cell? ⟨K.d, 0, none⟩ = some (.pointer (some ⟨K.gr, 0, none⟩)) ∧ w2.cell? ⟨w.heap.size, 0, none⟩ = some (.int .i64 (from_ : Int)) ∧ w2.cell? ⟨w.heap.size, 1, none⟩ = some (.int .i64 (n : Int))) (first | exact ⟨k0, b0, b1⟩ | exact HKP.out _ HO2.out) (first | (go_at_call 37; refine HRD.out.mono ?_; rintro e w2 ⟨rfl, ho2⟩; have HO2 := Lib.hid ho2; clear ho2))
    all_goals
      go_wp2_with fail
      go_ret2
      refine ⟨.inr ⟨by rw [HX.out, HE.out], rfl⟩, only_gr ((HOB.out.mono fun _ _ e => e.elim).trans HO2.out)⟩
  · have HRD := Lib.hid (read_ok K.gr K.p K.cap K.xs a n m b (by omega) wb.drew HDD.out.rd hx)
    obtain ⟨hm, rfl⟩ := num_lt hx (by omega)
    have HX := Lib.hid hx
    have hm2 : m < 8192 := Nat.lt_of_lt_of_le hm (Nat.pow_le_pow_right (by decide) HN.out)
    have HM := Lib.hid hm
    clear hx hm
    go_enter Try.func71, Try.ntmps71
    go_wp2_with fail
    rw [← HWB.out]
    go_region_held3 (fun w2 => w2.cell? ⟨K.d, 0, none⟩ = some (.pointer (some ⟨K.gr, 0, none⟩)) ∧ w2.cell? ⟨w.heap.size, 0, none⟩ = some (.int .i64 (from_ : Int)) ∧ w2.cell? ⟨w.heap.size, 1, none⟩ = some (.int .i64 (n : Int))) (first | exact ⟨k0, b0, b1⟩ | exact HKP.out _ HO2.out) (first | (go_at_call 37; refine HRD.out.mono ?_; rintro e w2 ⟨rfl, hr2, ho2⟩; have HO2 := Lib.hid ho2; have HR2 := Lib.hid hr2; clear ho2 hr2))
    all_goals
      obtain ⟨_, d0, d1⟩ := HKP.out _ HO2.out
      go_wp2_with fail
      go_ret2
      refine ⟨.inl ⟨m, HX.out, HM.out, ?_, HDD.out.moved HO2.out HR2.out⟩, only_gr ((HOB.out.mono fun _ _ e => e.elim).trans HO2.out)⟩
      first | rfl | (push_cast; rfl)
end Go.Proofs.Ytmcjhkdcbblnnaa.Inf

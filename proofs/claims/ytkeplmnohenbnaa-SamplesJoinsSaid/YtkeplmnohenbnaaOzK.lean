
/- octets' Get and Put, the document's Number and Put, over the words of Base. -/
import Derived.Test.YtkeplmnohenbnaaBase
import Derived.Test.YtkeplmnohenbnaaOctA
import Derived.Test.YtkeplmnohenbnaaOctJ
import Derived.Deep.QuietTactic
import Derived.BigQuiet
import Derived.Outline
import Derived.Laws.CopyOwn
import Derived.Laws.NewBlocks
import Derived.Laws.Concat
import Derived.Laws.Strings2
import Derived.WalkSpells
namespace Go.Proofs.Ytkeplmnohenbnaa.Oct
open Go.RowKit
set_option linter.unusedVariables false

def okGet (xs : List UInt8) (at_ size : Int) : Bool := sizeB size && withinB xs.length at_ size
def getV (xs : List UInt8) (at_ size : Int) (big : Bool) : Int :=
  if okGet xs at_ size then ((numOf big ((xs.drop at_.toNat).take size.toNat) : Nat) : Int) else 0
def getE (xs : List UInt8) (at_ size : Int) : Int :=
  if sizeB size then (if withinB xs.length at_ size then 0 else 2) else 1
def winV (xs : List UInt8) (at_ n : Int) : List UInt8 := if withinB xs.length at_ n then (xs.drop at_.toNat).take n.toNat else []
def winE (xs : List UInt8) (at_ n : Int) : Int := if withinB xs.length at_ n then 0 else 2
theorem size_cases {n : Int} (h : sizeB n = true) : ∃ k : Nat, n = (k : Int) ∧ 1 ≤ k ∧ k ≤ 8 := by
  have h' := of_decide_eq_true h
  exact ⟨n.toNat, by omega, by omega, by omega⟩
theorem term_wrap (x : UInt8) (k sz : Nat) (big : Bool) (h : k < sz) (h8 : sz ≤ 8) : IntKind.u64.wrap ((x.toNat : Int) * 2 ^ min (shiftN k sz big) 64) = ((x.toNat * 2 ^ shiftN k sz big : Nat) : Int) := by
  have e : min (shiftN k sz big) 64 = shiftN k sz big := by
    apply Nat.min_eq_left
    cases big <;> simp [shiftN] <;> omega
  have ht := term_lt x k sz big h h8
  rw [e]
  have e2 : ((x.toNat : Int) * 2 ^ shiftN k sz big) = ((x.toNat * 2 ^ shiftN k sz big : Nat) : Int) := by push_cast; rfl
  rw [e2, IntWalk.u64_in _ (by omega)]
set_option maxHeartbeats 1000000 in
theorem get_loop (b off len cap a sz : Nat) (big : Bool) (ys : List UInt8) (w : World) (hy : ys.length = sz) (h1 : 1 ≤ sz) (h8 : sz ≤ 8) (hw : a + sz ≤ len) (hl : len ≤ maxLen)
    (hc : ∀ i (h : i < ys.length), w.cell? ⟨b, off + (a + i), none⟩ = some (.int .u8 (ys[i].toNat : Int)))
    (hs : sizeB (sz : Int) = true) (hin : withinB len (a : Int) (sz : Int) = true) :
    Calls Try.prog 33 #[.slice (some ⟨b, off, none⟩) len cap, .int .u64 (a : Int), .int .i64 (sz : Int), .bool big] w
      fun e w' => e = .returned (.tuple #[.int .u64 ((numOf big ys : Nat) : Int), .int .i64 0]) ∧ Drawn w w' := by
  have hl' := hl
  unfold maxLen at hl
  go_enter Try.func33, Try.ntmps33
  go_wp2_with fail
  refine (size_any _ _).mono ?_
  rintro e w' ⟨rfl, rfl⟩
  rw [hs]
  go_wp2_with fail
  refine (within_any _ _ _ _ _ _ hl' (by omega) (by omega) (by omega) (by omega)).mono ?_
  rintro e w' ⟨rfl, rfl⟩
  rw [hin]
  clear hs hin
  have HC := Lib.hid hc; clear hc
  have HY := Lib.hid hy; clear hy
  go_wp2_with fail
  go_loopw [10, 11, 22] (fun n i c wr => ∃ k : Nat, k ≤ sz ∧ c = .int .i64 (k : Int) ∧ n = .int .u64 ((part big sz (ys.take k) : Nat) : Int) ∧ Drawn w wr) (fun _ _ c _ => sz - (intOf c).toNat)
  case atStart => exact ⟨0, by omega, rfl, by simp [part_nil], ⟨0, rfl⟩⟩
  case round =>
    obtain ⟨k, hk, rfl, rfl, hq⟩ := hrel
    by_cases hlt : k < sz
    · have hky : k < ys.length := by rw [HY.out]; exact hlt
      have hcell : wr.cell? ⟨b, off + (a + k), none⟩ = some (.int .u8 (ys[k].toNat : Int)) := by
        obtain ⟨nq, rfl⟩ := hq; exact HC.out k hky
      have hx : ys[k].toNat < 256 := ys[k].toNat_lt
      have ht := term_lt ys[k] k sz big hlt h8
      have hp := part_lt big sz (ys.take k) (by rw [List.length_take]; omega) h8
      have HT0 : bits .or .u64 ((part big sz (ys.take k) : Nat) : Int) (((ys[k].toNat * 2 ^ shiftN k sz big : Nat)) : Int) = ((part big sz (ys.take (k + 1)) : Nat) : Int) := by
        rw [u64_or_nat _ _ hp ht, take_succ' ys k hky]
        have hlen : (ys.take k).length = k := by rw [List.length_take]; omega
        have := part_step big sz (ys.take k) ys[k] (by omega) h8
        rw [hlen] at this
        rw [this]
      have HT := Lib.hid HT0
      clear HT0 ht hp
      go_wp2_with fail
      go_quiet ((go_at_call 38; exact quietly (shift_any _ _ _ _ (by omega) (by omega))))
      go_wp2_with fail
      go_roundw
      case rel => exact ⟨k + 1, by omega, by go_num, by rw [term_wrap _ _ _ _ hlt h8, HT.out], hq.more _⟩
      case measure => simp [intOf]; omega
    · have : k = sz := by omega
      subst this
      have hp := part_full big k ys HY.out
      rw [List.take_of_length_le (by rw [HY.out]; omega)]
      rw [hp]
      clear hp
      go_wp2_with fail
      go_ret2
      exact ⟨rfl, hq⟩
theorem get_wrong (p : Option Addr) (len cap : Nat) (at_ size : Int) (big : Bool) (w : World) (hs : sizeB size = false) :
    Calls Try.prog 33 #[.slice p len cap, .int .u64 at_, .int .i64 size, .bool big] w fun e w' => e = .returned (.tuple #[.int .u64 0, .int .i64 1]) ∧ Drawn w w' := by
  go_enter Try.func33, Try.ntmps33
  go_wp2_with fail
  refine (size_any _ _).mono ?_
  rintro e w' ⟨rfl, rfl⟩
  rw [hs]
  go_wp2_with fail
  go_ret2
  exact ⟨rfl, 0, rfl⟩
theorem get_cut (p : Option Addr) (len cap : Nat) (at_ : Int) (sz : Nat) (big : Bool) (w : World) (hl : len ≤ maxLen) (ha : 0 ≤ at_) (ha' : at_ ≤ 18446744073709551615) (h1 : 1 ≤ sz) (h8 : sz ≤ 8)
    (hs : sizeB (sz : Int) = true) (hin : withinB len at_ (sz : Int) = false) :
    Calls Try.prog 33 #[.slice p len cap, .int .u64 at_, .int .i64 (sz : Int), .bool big] w fun e w' => e = .returned (.tuple #[.int .u64 0, .int .i64 2]) ∧ Drawn w w' := by
  have hl' := hl
  unfold maxLen at hl
  go_enter Try.func33, Try.ntmps33
  go_wp2_with fail
  refine (size_any _ _).mono ?_
  rintro e w' ⟨rfl, rfl⟩
  rw [hs]
  go_wp2_with fail
  refine (within_any _ _ _ _ _ _ hl' (by omega) (by omega) (by omega) (by omega)).mono ?_
  rintro e w' ⟨rfl, rfl⟩
  rw [hin]
  go_wp2_with fail
  go_ret2
  exact ⟨rfl, 0, rfl⟩
theorem get_any (p : Option Addr) (len cap : Nat) (at_ size : Int) (big : Bool) (xs : List UInt8) (w : World) (hr : Row w p xs) (hx : xs.length = len) (hl : len ≤ maxLen) (ha : 0 ≤ at_) (ha' : at_ ≤ 18446744073709551615) :
    Calls Try.prog 33 #[.slice p len cap, .int .u64 at_, .int .i64 size, .bool big] w
      fun e w' => e = .returned (.tuple #[.int .u64 (getV xs at_ size big), .int .i64 (getE xs at_ size)]) ∧ Drawn w w' := by
  by_cases hs : sizeB size = true
  · obtain ⟨sz, rfl, h1, h8⟩ := size_cases hs
    by_cases hin : withinB len at_ (sz : Int) = true
    · obtain ⟨a, rfl⟩ : ∃ a : Nat, at_ = (a : Int) := ⟨at_.toNat, by omega⟩
      have hw : a + sz ≤ len := by have := of_decide_eq_true hin; omega
      obtain ⟨b, off, rfl, hb, hc⟩ := hr (by omega)
      have e1 : getV xs (a : Int) (sz : Int) big = ((numOf big ((xs.drop a).take sz) : Nat) : Int) := by
        unfold getV okGet
        rw [hx, hs, hin]; simp
      have e2 : getE xs (a : Int) (sz : Int) = 0 := by
        unfold getE
        rw [hx, hs, hin]; simp
      rw [e1, e2]
      refine get_loop b off len cap a sz big _ w (by simp; omega) h1 h8 hw hl ?_ hs hin
      intro i h
      have h' : a + i < xs.length := by simp at h; omega
      rw [hc (a + i) h']
      simp
    · have hin' : withinB len at_ (sz : Int) = false := by simpa using hin
      have e1 : getV xs at_ (sz : Int) big = 0 := by
        unfold getV okGet
        rw [hx, hin']; simp
      have e2 : getE xs at_ (sz : Int) = 2 := by
        unfold getE
        rw [hx, hs, hin']; simp
      rw [e1, e2]
      exact get_cut p len cap at_ sz big w hl ha ha' h1 h8 hs hin'
  · have hs' : sizeB size = false := by simpa using hs
    have e1 : getV xs at_ size big = 0 := by
      unfold getV okGet
      rw [hs']; simp
    have e2 : getE xs at_ size = 1 := by
      unfold getE
      rw [hs']; simp
    rw [e1, e2]
    exact get_wrong p len cap at_ size big w hs'
def NewBytes (w : World) (xs : List UInt8) (er : Int) (e : Ending) (w' : World) : Prop :=
  Below w.heap.size w w' ∧ ((er = 0 ∧ e = .returned (.tuple #[.slice (some ⟨w.heap.size, 0, none⟩) xs.length xs.length, .int .i64 0]) ∧ Blk w' w.heap.size xs) ∨ (er ≠ 0 ∧ xs = [] ∧ e = .returned (.tuple #[.slice none 0 0, .int .i64 er])))
set_option maxHeartbeats 400000 in
theorem turn_any (xs : List UInt8) (w : World) (hs : xs.length ≤ 4611686018427387903) :
    Calls Try.prog 31 #[.string (bs xs)] w fun e w' => e = .returned (.string (bs xs.reverse)) ∧ w = w' := by
  have hsz := bs_size xs
  go_enter Try.func31, Try.ntmps31
  go_wp2
  go_loop [3, 4] (fun n i => ∃ k : Nat, k ≤ xs.length ∧ i = .int .i64 k ∧ n = .string (bs (xs.take k).reverse)) (fun _ i => xs.length - (intOf i).toNat)
  case atStart => exact ⟨0, Nat.zero_le _, rfl, rfl⟩
  case round =>
    obtain ⟨k, hk, rfl, rfl⟩ := hrel
    by_cases hlt : k < xs.length
    · have e1 := bs_extract xs k (k + 1)
      have h1 := one_at xs k hlt
      rw [h1] at e1
      have hz1 : (bs [xs[k]]).size = 1 := by simp [bs_size]
      have hz2 : (bs (xs.take k).reverse).size = k := by simp [bs_size]; omega
      clear h1
      have hk1 : (k : Int) + 1 ≤ (xs.length : Int) := by omega
      have ht1 : ((k : Int) + 1).toNat = k + 1 := by omega
      go_wp2
      go_round
      case rel => exact ⟨k + 1, by omega, by go_num, by rw [bs_append, take_succ' xs k hlt, List.reverse_append]; rfl⟩
      case measure => simp [intOf]; omega
    · have : k = xs.length := by omega
      subst this
      rw [List.take_length]
      go_wp2
      go_ret
      exact ⟨rfl, rfl⟩
theorem numB_bd (xs : List UInt8) (h : xs.length ≤ 8) : numB xs < 18446744073709551616 := by
  have := part_lt true xs.length xs (Nat.le_refl _) h
  simpa [part] using this
theorem num_step (ys : List UInt8) (k : Nat) (h : k < ys.length) (h8 : ys.length ≤ 8) (h' : k < (bs ys).size) :
    IntKind.u64.wrap (IntKind.u64.wrap (((numB (ys.take k) : Nat) : Int) * 256) + IntKind.u64.wrap (((bs ys)[k].toNat : Nat) : Int)) = ((numB (ys.take (k + 1)) : Nat) : Int) := by
  have h2 := numB_bd (ys.take (k + 1)) (by rw [List.length_take]; omega)
  rw [show (bs ys)[k] = ys[k] from bs_get ys k h' h]
  rw [take_succ' ys k h, numB_snoc] at h2 ⊢
  generalize numB (ys.take k) = m at h2 ⊢
  have hx : ys[k].toNat < 256 := ys[k].toNat_lt
  generalize ys[k].toNat = x at h2 hx ⊢
  rw [IntKind.wrap_u64, IntKind.wrap_u64, IntKind.wrap_u64]
  omega
def fitsB (n : Int) (sz : Nat) : Bool := decide (n < 256 ^ sz)
def putV (n size : Int) (big : Bool) : List UInt8 := if sizeB size && fitsB n size.toNat then putL n.toNat size.toNat big else []
def putE (n size : Int) : Int := if sizeB size then (if fitsB n size.toNat then 0 else 7) else 1
theorem size_cases4 {n : Int} (h : sizeB n = true) : n = 1 ∨ n = 2 ∨ n = 4 ∨ n = 8 := of_decide_eq_true h
theorem fits_any (n size : Int) (w : World) (hn : 0 ≤ n) (hn' : n ≤ 18446744073709551615) (hs : sizeB size = true) :
    Calls Try.prog 37 #[.int .u64 n, .int .i64 size] w fun e w' => e = .returned (.bool (fitsB n size.toNat)) ∧ w = w' := by
  have key : ∀ k : Nat, k = 1 ∨ k = 2 ∨ k = 4 ∨ k = 8 → (n / 2 ^ (8 * k) == 0) = fitsB n k := by
    intro k hk
    rw [Bool.eq_iff_iff]
    unfold fitsB
    simp only [beq_iff_eq, decide_eq_true_eq]
    rcases hk with rfl | rfl | rfl | rfl <;> simp <;> omega
  rcases size_cases4 hs with rfl | rfl | rfl | rfl
  · have h := key 1 (by simp)
    rw [show ((1 : Int).toNat) = 1 from rfl, ← h]
    clear key h hs
    go_enter Try.func37, Try.ntmps37
    go_wp2
    go_ret
    exact ⟨rfl, rfl⟩
  · have h := key 2 (by simp)
    rw [show ((2 : Int).toNat) = 2 from rfl, ← h]
    clear key h hs
    go_enter Try.func37, Try.ntmps37
    go_wp2
    go_ret
    exact ⟨rfl, rfl⟩
  · have h := key 4 (by simp)
    rw [show ((4 : Int).toNat) = 4 from rfl, ← h]
    clear key h hs
    go_enter Try.func37, Try.ntmps37
    go_wp2
    go_ret
    exact ⟨rfl, rfl⟩
  · have h := key 8 (by simp)
    rw [show ((8 : Int).toNat) = 8 from rfl, ← h]
    clear key h hs
    go_enter Try.func37, Try.ntmps37
    go_wp2
    go_ret
    exact ⟨rfl, rfl⟩
theorem shr_val (n : Nat) (k sz : Nat) (big : Bool) (h : k < sz) (h8 : sz ≤ 8) (hk : k < (putL n sz big).length) : IntKind.u8.wrap ((n : Int) / 2 ^ min (shiftN k sz big) 64) = (((putL n sz big)[k].toNat : Nat) : Int) := by
  have e : min (shiftN k sz big) 64 = shiftN k sz big := by
    apply Nat.min_eq_left
    cases big <;> simp [shiftN] <;> omega
  rw [putL_get, byte_toNat, e, IntKind.wrap_u8]
  have : ((n : Int) / 2 ^ shiftN k sz big) = ((n / 2 ^ shiftN k sz big : Nat) : Int) := by simp
  rw [this]; omega
def PutR (g : Nat) (w : World) (ps : List UInt8) (k : Nat) (wr : World) : Prop := Below g w wr ∧ Blk wr g (fillL ps k)
theorem PutR.step {g : Nat} {w wr : World} {n sz k : Nat} {big : Bool} (h : PutR g w (putL n sz big) k wr) (hk : k < sz) (h8 : sz ≤ 8) :
    PutR g w (putL n sz big) (k + 1) (wr.setCell ⟨g, k, none⟩ (.int .u8 (IntKind.u8.wrap ((n : Int) / 2 ^ min (shiftN k sz big) 64)))) := by
  have hl : k < (putL n sz big).length := by rw [putL_length]; exact hk
  refine ⟨h.1.setCell (Nat.le_refl _) _, ?_⟩
  rw [shr_val n k sz big hk h8 hl, ← fillL_step _ _ hl]
  exact h.2.set_ k _
set_option maxHeartbeats 1000000 in
theorem put_in (n sz : Nat) (big : Bool) (w : World) (hn : (n : Int) ≤ 18446744073709551615) (h1 : 1 ≤ sz) (h8 : sz ≤ 8) (hs : sizeB (sz : Int) = true) (hf : fitsB (n : Int) ((sz : Int).toNat) = true) :
    Calls Try.prog 26 #[.int .u64 (n : Int), .int .i64 (sz : Int), .bool big] w
      fun e w' => Below w.heap.size w w' ∧ e = .returned (.tuple #[.slice (some ⟨w.heap.size, 0, none⟩) sz sz, .int .i64 0]) ∧ Blk w' w.heap.size (putL n sz big) := by
  obtain ⟨i0, hi, hz0, hz1, hz2⟩ := info_parts Try.infoByte
  go_enter Try.func26, Try.ntmps26
  go_wp2_with fail
  refine (size_any _ _).mono ?_
  rintro e w' ⟨rfl, rfl⟩
  rw [hs]
  go_wp2_with fail
  refine (fits_any _ _ _ (by omega) hn hs).mono ?_
  rintro e w' ⟨rfl, rfl⟩
  rw [hf]
  clear hs hf
  go_wp2_with (at_make; refine wpList_make_full _ rfl _ _ 24 rfl w.heap.size 5 i0 (.int .u8 0) 1 Try.underlying24 hi hz0 hz1 .i64 .i64 (sz : Int) (sz : Int) sz rfl rfl rfl rfl ?c2 ?c3 ?c4 ?_)
  case c2 => rw [hz2]; omega
  case c3 => unfold maxLen; omega
  case c4 => omega
  intro w1 hown hgrow
  have hg0 := blk_of_own hown
  have hb1 : Below w.heap.size w w1 := (Below.refl _ _).grown hgrow (Nat.le_refl _) (fun k hk => by cases hk)
  have hP : PutR w.heap.size w (putL n sz big) 0 w1 := ⟨hb1, by
    unfold Blk
    rw [fillL_zero, putL_length, ← made_zero]
    simpa using hg0⟩
  clear hown hgrow hg0 hb1
  go_wp2_with fail
  go_loopw [9, 21] (fun i c wr => ∃ k : Nat, k ≤ sz ∧ c = .int .i64 (k : Int) ∧ PutR w.heap.size w (putL n sz big) k wr) (fun _ c _ => sz - (intOf c).toNat)
  case atStart => exact ⟨0, by omega, rfl, hP⟩
  case round =>
    obtain ⟨k, hk, rfl, hR⟩ := hrel
    by_cases hlt : k < sz
    · have hc := hR.2.cell k (by rw [fillL_length _ _ (by rw [putL_length]; omega), putL_length]; exact hlt)
      have hfz := hR.2.frozen k
      generalize ((fillL (putL n sz big) k)[k]'(by rw [fillL_length _ _ (by rw [putL_length]; omega), putL_length]; exact hlt)) = old at hc
      go_wp2_with (go_at_call 38; refine (shift_any _ _ _ _ (by omega) (by omega)).mono ?_; rintro e w' ⟨rfl, rfl⟩)
      go_roundw
      case rel => exact ⟨k + 1, by omega, by go_num, hR.step hlt h8⟩
      case measure => simp [intOf]; omega
    · have : k = sz := by omega
      subst this
      have hfull := hR.2
      have e : fillL (putL n k big) k = putL n k big := by
        have := fillL_all (putL n k big)
        rwa [putL_length] at this
      rw [e] at hfull
      clear e
      go_wp2_with fail
      go_ret2
      exact ⟨hR.1, rfl, hfull⟩
theorem put_size (n size : Int) (big : Bool) (w : World) (hs : sizeB size = false) :
    Calls Try.prog 26 #[.int .u64 n, .int .i64 size, .bool big] w fun e w' => e = .returned (.tuple #[.slice none 0 0, .int .i64 1]) ∧ w = w' := by
  go_enter Try.func26, Try.ntmps26
  go_wp2_with fail
  refine (size_any _ _).mono ?_
  rintro e w' ⟨rfl, rfl⟩
  rw [hs]
  go_wp2_with fail
  go_ret2
  exact ⟨rfl, rfl⟩
theorem put_over (n size : Int) (big : Bool) (w : World) (hn : 0 ≤ n) (hn' : n ≤ 18446744073709551615) (hs : sizeB size = true) (hf : fitsB n size.toNat = false) :
    Calls Try.prog 26 #[.int .u64 n, .int .i64 size, .bool big] w fun e w' => e = .returned (.tuple #[.slice none 0 0, .int .i64 7]) ∧ w = w' := by
  go_enter Try.func26, Try.ntmps26
  go_wp2_with fail
  refine (size_any _ _).mono ?_
  rintro e w' ⟨rfl, rfl⟩
  rw [hs]
  go_wp2_with fail
  refine (fits_any _ _ _ hn hn' hs).mono ?_
  rintro e w' ⟨rfl, rfl⟩
  rw [hf]
  go_wp2_with fail
  go_ret2
  exact ⟨rfl, rfl⟩
theorem put_any (n size : Int) (big : Bool) (w : World) (hn : 0 ≤ n) (hn' : n ≤ 18446744073709551615) :
    Calls Try.prog 26 #[.int .u64 n, .int .i64 size, .bool big] w (NewBytes w (putV n size big) (putE n size)) := by
  by_cases hs : sizeB size = true
  · by_cases hf : fitsB n size.toNat = true
    · obtain ⟨sz, rfl, h1, h8⟩ := size_cases hs
      obtain ⟨m, rfl⟩ : ∃ m : Nat, n = (m : Int) := ⟨n.toNat, by omega⟩
      have e1 : putV (m : Int) (sz : Int) big = putL m sz big := by unfold putV; rw [hs, hf]; simp
      have e2 : putE (m : Int) (sz : Int) = 0 := by unfold putE; rw [hs, hf]; simp
      rw [e1, e2]
      refine (put_in m sz big w hn' h1 h8 hs hf).mono fun e w' ⟨h1, h2, h3⟩ => ⟨h1, .inl ⟨rfl, ?_, h3⟩⟩
      rw [putL_length]; exact h2
    · have hf' : fitsB n size.toNat = false := by simpa using hf
      have e1 : putV n size big = [] := by unfold putV; rw [hs, hf']; simp
      have e2 : putE n size = 7 := by unfold putE; rw [hs, hf']; simp
      rw [e1, e2]
      exact (put_over n size big w hn hn' hs hf').mono fun e w' ⟨h1, h2⟩ => ⟨by subst h2; exact Below.refl _ _, .inr ⟨by decide, rfl, h1⟩⟩
  · have hs' : sizeB size = false := by simpa using hs
    have e1 : putV n size big = [] := by unfold putV; rw [hs']; simp
    have e2 : putE n size = 1 := by unfold putE; rw [hs']; simp
    rw [e1, e2]
    exact (put_size n size big w hs').mono fun e w' ⟨h1, h2⟩ => ⟨by subst h2; exact Below.refl _ _, .inr ⟨by decide, rfl, h1⟩⟩
theorem one_row (w : World) (q : Nat) : Row (w.alloc (.cells #[.int .u8 ((q : Int) % 256)] 5)) (some ⟨w.heap.size, 0, none⟩) [UInt8.ofNat (q % 256)] := by
  intro _
  refine ⟨w.heap.size, 0, rfl, by simp, fun i hi => ?_⟩
  have : i = 0 := by simpa using hi
  subst this
  simp
def Fresh (w w' : World) : Prop := Below w.heap.size w w'
set_option maxHeartbeats 1000000 in
theorem rput_loop (n sz : Nat) (big : Bool) (w : World) (hn : (n : Int) ≤ 18446744073709551615) (h1 : 1 ≤ sz) (h8 : sz ≤ 8) (hs : sizeB (sz : Int) = true) :
    Calls Try.prog 21 #[.int .u64 (n : Int), .int .i64 (sz : Int), .bool big] w
      fun e w' => e = .returned (.tuple #[.string (bs (putV n sz big)), .int .i64 (putE n sz)]) ∧ Below w.heap.size w w' := by
  have hs' := hs
  go_enter Try.func21, Try.ntmps21
  go_wp2_with fail
  refine (rsize_any _ _).mono ?_
  rintro e w' ⟨rfl, rfl⟩
  rw [hs]
  have HS := Lib.hid hs'
  clear hs hs'
  go_wp2_with fail
  go_loopw [0, 8, 9] (fun m s i wr => ∃ k : Nat, k ≤ sz ∧ i = .int .i64 (k : Int) ∧ m = .int .u64 ((n / 256 ^ k : Nat) : Int) ∧ s = .string (bs (beB n k)) ∧ Fresh w wr) (fun _ _ c _ => sz - (intOf c).toNat)
  case atStart => exact ⟨0, by omega, rfl, by simp, rfl, Below.refl _ _⟩
  case round =>
    obtain ⟨k, hk, rfl, rfl, rfl, hF⟩ := hrel
    by_cases hlt : k < sz
    · obtain ⟨q, hq⟩ : ∃ q, q = n / 256 ^ k := ⟨_, rfl⟩
      have hqn : q ≤ n := by rw [hq]; exact Nat.div_le_self _ _
      rw [← hq]
      have HQ := Lib.hid hq
      clear hq
      have cv := conv_row 1 1 (one_row wr q) rfl
      have hz1 : (bs [UInt8.ofNat (q % 256)]).size = 1 := by simp [bs_size]
      have hz2 : (bs (beB n k)).size = k := by simp [bs_size, beB_length]
      go_wp2_with fail
      go_roundw
      case rel =>
        refine ⟨k + 1, by omega, by go_num, ?_, ?_, ?_⟩
        · rw [← div_step, ← HQ.out]; go_num
        · rw [bs_append, ← beB_step, ← HQ.out]; rfl
        · exact Below.alloc hF (Below.size hF) _
      case measure => simp [intOf]; omega
    · have : k = sz := by omega
      subst this
      obtain ⟨q, hq⟩ : ∃ q, q = n / 256 ^ k := ⟨_, rfl⟩
      rw [← hq]
      have hiff := div_zero_iff n k
      rw [← hq] at hiff
      have hp : ((256 : Int) ^ k) = ((256 ^ k : Nat) : Int) := by simp
      by_cases h0 : q = 0
      · have hf : fitsB (n : Int) ((k : Int).toNat) = true := by
          unfold fitsB; rw [Int.toNat_natCast, hp]
          have := hiff.1 h0
          simp; omega
        have e1 : putV (n : Int) (k : Int) big = putL n k big := by unfold putV; rw [HS.out, hf]; simp
        have e2 : putE (n : Int) (k : Int) = 0 := by unfold putE; rw [HS.out, hf]; simp
        have E1 := Lib.hid e1
        have E2 := Lib.hid e2
        clear e1 e2 hf hiff hp hq HS
        subst h0
        cases big
        · go_wp2_with fail
          refine (turn_any _ _ (by rw [beB_length]; omega)).mono ?_
          rintro e w' ⟨rfl, rfl⟩
          go_wp2_with fail
          go_ret2
          exact ⟨by rw [E1.out, E2.out]; rfl, hF⟩
        · go_wp2_with fail
          go_ret2
          exact ⟨by rw [E1.out, E2.out]; rfl, hF⟩
      · have hf : fitsB (n : Int) ((k : Int).toNat) = false := by
          unfold fitsB; rw [Int.toNat_natCast, hp]
          have := mt hiff.2 h0
          simp; omega
        have e1 : putV (n : Int) (k : Int) big = [] := by unfold putV; rw [HS.out, hf]; simp
        have e2 : putE (n : Int) (k : Int) = 7 := by unfold putE; rw [HS.out, hf]; simp
        have E1 := Lib.hid e1
        have E2 := Lib.hid e2
        clear e1 e2 hf hiff hp hq HS
        have hne : ((q : Int) != 0) = true := by simpa using h0
        go_wp2_with fail
        go_ret2
        exact ⟨by rw [E1.out, E2.out]; rfl, hF⟩
theorem rput_any (n size : Int) (big : Bool) (w : World) (hn : 0 ≤ n) (hn' : n ≤ 18446744073709551615) :
    Calls Try.prog 21 #[.int .u64 n, .int .i64 size, .bool big] w
      fun e w' => e = .returned (.tuple #[.string (bs (putV n size big)), .int .i64 (putE n size)]) ∧ Below w.heap.size w w' := by
  by_cases hs : sizeB size = true
  · obtain ⟨sz, rfl, h1, h8⟩ := size_cases hs
    obtain ⟨m, rfl⟩ : ∃ m : Nat, n = (m : Int) := ⟨n.toNat, by omega⟩
    exact rput_loop m sz big w hn' h1 h8 hs
  · have hs' : sizeB size = false := by simpa using hs
    have e1 : putV n size big = [] := by unfold putV; rw [hs']; simp
    have e2 : putE n size = 1 := by unfold putE; rw [hs']; simp
    rw [e1, e2]
    clear e1 e2 hs
    go_enter Try.func21, Try.ntmps21
    go_wp2_with fail
    refine (rsize_any _ _).mono ?_
    rintro e w' ⟨rfl, rfl⟩
    rw [hs']
    go_wp2_with fail
    go_ret2
    exact ⟨rfl, Below.refl _ _⟩
end Go.Proofs.Ytkeplmnohenbnaa.Oct

/- Contracts of octets.Put and of the document's Put: the number's bytes, or the error, whatever the arguments. -/
import Derived.Test.YtmobdanpkojbbaaOctH
import Derived.Test.YtmobdanpkojbbaaOctJ
namespace Go.Proofs.Ytmobdanpkojbbaa.Oct
open Go.RowKit
set_option linter.unusedVariables false

def fitsB (n : Int) (sz : Nat) : Bool := decide (n < 256 ^ sz)
def putV (n size : Int) (big : Bool) : List UInt8 := if sizeB size && fitsB n size.toNat then putL n.toNat size.toNat big else []
def putE (n size : Int) : Int := if sizeB size then (if fitsB n size.toNat then 0 else 7) else 1

theorem size_cases4 {n : Int} (h : sizeB n = true) : n = 1 ∨ n = 2 ∨ n = 4 ∨ n = 8 := of_decide_eq_true h

theorem fits_any (n size : Int) (w : World) (hn : 0 ≤ n) (hn' : n ≤ 18446744073709551615) (hs : sizeB size = true) :
    Calls Try.prog 25 #[.int .u64 n, .int .i64 size] w fun e w' => e = .returned (.bool (fitsB n size.toNat)) ∧ w = w' := by
  have key : ∀ k : Nat, k = 1 ∨ k = 2 ∨ k = 4 ∨ k = 8 → (n / 2 ^ (8 * k) == 0) = fitsB n k := by
    intro k hk
    rw [Bool.eq_iff_iff]
    unfold fitsB
    simp only [beq_iff_eq, decide_eq_true_eq]
    rcases hk with rfl | rfl | rfl | rfl <;> simp <;> omega
  rcases size_cases4 hs with rfl | rfl | rfl | rfl
  · have h := key 1 (by simp)
    rw [show ((1 : Int).toNat) = 1 from rfl, ← h]
    clear key h hs
    go_enter Try.func25, Try.ntmps25
    go_wp2
    go_ret
    exact ⟨rfl, rfl⟩
  · have h := key 2 (by simp)
    rw [show ((2 : Int).toNat) = 2 from rfl, ← h]
    clear key h hs
    go_enter Try.func25, Try.ntmps25
    go_wp2
    go_ret
    exact ⟨rfl, rfl⟩
  · have h := key 4 (by simp)
    rw [show ((4 : Int).toNat) = 4 from rfl, ← h]
    clear key h hs
    go_enter Try.func25, Try.ntmps25
    go_wp2
    go_ret
    exact ⟨rfl, rfl⟩
  · have h := key 8 (by simp)
    rw [show ((8 : Int).toNat) = 8 from rfl, ← h]
    clear key h hs
    go_enter Try.func25, Try.ntmps25
    go_wp2
    go_ret
    exact ⟨rfl, rfl⟩
/-- the row while it is filled: the first k bytes stand -/
def fillL (ps : List UInt8) (k : Nat) : List UInt8 := ps.take k ++ List.replicate (ps.length - k) 0
theorem fillL_length (ps : List UInt8) (k : Nat) (h : k ≤ ps.length) : (fillL ps k).length = ps.length := by simp [fillL]; omega
theorem fillL_zero (ps : List UInt8) : fillL ps 0 = List.replicate ps.length 0 := by simp [fillL]
theorem fillL_all (ps : List UInt8) : fillL ps ps.length = ps := by simp [fillL]
theorem fillL_step (ps : List UInt8) (k : Nat) (h : k < ps.length) : (fillL ps k).set k ps[k] = fillL ps (k + 1) := by
  unfold fillL
  rw [List.set_append, if_neg (by simp; omega)]
  rw [take_succ' ps k h, List.append_assoc]
  congr 1
  rw [List.length_take, Nat.min_eq_left (by omega), Nat.sub_self, show ps.length - k = (ps.length - (k + 1)) + 1 by omega, List.replicate_succ]
  simp
theorem made_zero (n : Nat) : (madeCells #[Value.int IntKind.u8 0] n).toList = cellsOf (List.replicate n 0) := by
  simp [madeCells, cellsOf]
  apply List.ext_getElem <;> simp [Nat.mod_one]
theorem shr_val (n : Nat) (k sz : Nat) (big : Bool) (h : k < sz) (h8 : sz ≤ 8) (hk : k < (putL n sz big).length) : IntKind.u8.wrap ((n : Int) / 2 ^ min (shiftN k sz big) 64) = (((putL n sz big)[k].toNat : Nat) : Int) := by
  have e : min (shiftN k sz big) 64 = shiftN k sz big := by
    apply Nat.min_eq_left
    cases big <;> simp [shiftN] <;> omega
  rw [putL_get, byte_toNat, e, IntKind.wrap_u8]
  have : ((n : Int) / 2 ^ shiftN k sz big) = ((n / 2 ^ shiftN k sz big : Nat) : Int) := by simp
  rw [this]; omega

def PutR (g : Nat) (w : World) (ps : List UInt8) (k : Nat) (wr : World) : Prop := Below g w wr ∧ Blk wr g (fillL ps k)
theorem PutR.step {g : Nat} {w wr : World} {n sz k : Nat} {big : Bool} (h : PutR g w (putL n sz big) k wr) (hk : k < sz) (h8 : sz ≤ 8) :
    PutR g w (putL n sz big) (k + 1) (wr.setCell ⟨g, k, none⟩ (.int .u8 (IntKind.u8.wrap ((n : Int) / 2 ^ min (shiftN k sz big) 64)))) := by
  have hl : k < (putL n sz big).length := by rw [putL_length]; exact hk
  refine ⟨h.1.setCell (Nat.le_refl _) _, ?_⟩
  rw [shr_val n k sz big hk h8 hl, ← fillL_step _ _ hl]
  exact h.2.set_ k _

set_option maxHeartbeats 1000000 in
theorem put_in (n sz : Nat) (big : Bool) (w : World) (hn : (n : Int) ≤ 18446744073709551615) (h1 : 1 ≤ sz) (h8 : sz ≤ 8) (hs : sizeB (sz : Int) = true) (hf : fitsB (n : Int) ((sz : Int).toNat) = true) :
    Calls Try.prog 17 #[.int .u64 (n : Int), .int .i64 (sz : Int), .bool big] w
      fun e w' => Below w.heap.size w w' ∧ e = .returned (.tuple #[.slice (some ⟨w.heap.size, 0, none⟩) sz sz, .int .i64 0]) ∧ Blk w' w.heap.size (putL n sz big) := by
  obtain ⟨i0, hi, hz0, hz1, hz2⟩ := info_parts Try.infoByte
  go_enter Try.func17, Try.ntmps17
  go_wp2_with fail
  refine (size_any _ _).mono ?_
  rintro e w' ⟨rfl, rfl⟩
  rw [hs]
  go_wp2_with fail
  refine (fits_any _ _ _ (by omega) hn hs).mono ?_
  rintro e w' ⟨rfl, rfl⟩
  rw [hf]
  clear hs hf
  go_wp2_with (at_make; refine wpList_make_full _ rfl _ _ 30 rfl w.heap.size 5 i0 (.int .u8 0) 1 Try.underlying30 hi hz0 hz1 .i64 .i64 (sz : Int) (sz : Int) sz rfl rfl rfl rfl ?c2 ?c3 ?c4 ?_)
  case c2 => rw [hz2]; omega
  case c3 => unfold maxLen; omega
  case c4 => omega
  intro w1 hown hgrow
  have hg0 := blk_of_own hown
  have hb1 : Below w.heap.size w w1 := (Below.refl _ _).grown hgrow (Nat.le_refl _) (fun k hk => by cases hk)
  have hP : PutR w.heap.size w (putL n sz big) 0 w1 := ⟨hb1, by
    unfold Blk
    rw [fillL_zero, putL_length, ← made_zero]
    simpa using hg0⟩
  clear hown hgrow hg0 hb1
  go_wp2_with fail
  go_loopw [9, 21] (fun i c wr => ∃ k : Nat, k ≤ sz ∧ c = .int .i64 (k : Int) ∧ PutR w.heap.size w (putL n sz big) k wr) (fun _ c _ => sz - (intOf c).toNat)
  case atStart => exact ⟨0, by omega, rfl, hP⟩
  case round =>
    obtain ⟨k, hk, rfl, hR⟩ := hrel
    by_cases hlt : k < sz
    · have hc := hR.2.cell k (by rw [fillL_length _ _ (by rw [putL_length]; omega), putL_length]; exact hlt)
      have hfz := hR.2.frozen k
      generalize ((fillL (putL n sz big) k)[k]'(by rw [fillL_length _ _ (by rw [putL_length]; omega), putL_length]; exact hlt)) = old at hc
      go_wp2_with (go_at_call 22; refine (shift_any _ _ _ _ (by omega) (by omega)).mono ?_; rintro e w' ⟨rfl, rfl⟩)
      go_roundw
      case rel => exact ⟨k + 1, by omega, by go_num, hR.step hlt h8⟩
      case measure => simp [intOf]; omega
    · have : k = sz := by omega
      subst this
      have hfull := hR.2
      have e : fillL (putL n k big) k = putL n k big := by
        have := fillL_all (putL n k big)
        rwa [putL_length] at this
      rw [e] at hfull
      clear e
      go_wp2_with fail
      go_ret2
      exact ⟨hR.1, rfl, hfull⟩
theorem put_size (n size : Int) (big : Bool) (w : World) (hs : sizeB size = false) :
    Calls Try.prog 17 #[.int .u64 n, .int .i64 size, .bool big] w fun e w' => e = .returned (.tuple #[.slice none 0 0, .int .i64 1]) ∧ w = w' := by
  go_enter Try.func17, Try.ntmps17
  go_wp2_with fail
  refine (size_any _ _).mono ?_
  rintro e w' ⟨rfl, rfl⟩
  rw [hs]
  go_wp2_with fail
  go_ret2
  exact ⟨rfl, rfl⟩
theorem put_over (n size : Int) (big : Bool) (w : World) (hn : 0 ≤ n) (hn' : n ≤ 18446744073709551615) (hs : sizeB size = true) (hf : fitsB n size.toNat = false) :
    Calls Try.prog 17 #[.int .u64 n, .int .i64 size, .bool big] w fun e w' => e = .returned (.tuple #[.slice none 0 0, .int .i64 7]) ∧ w = w' := by
  go_enter Try.func17, Try.ntmps17
  go_wp2_with fail
  refine (size_any _ _).mono ?_
  rintro e w' ⟨rfl, rfl⟩
  rw [hs]
  go_wp2_with fail
  refine (fits_any _ _ _ hn hn' hs).mono ?_
  rintro e w' ⟨rfl, rfl⟩
  rw [hf]
  go_wp2_with fail
  go_ret2
  exact ⟨rfl, rfl⟩
theorem put_any (n size : Int) (big : Bool) (w : World) (hn : 0 ≤ n) (hn' : n ≤ 18446744073709551615) :
    Calls Try.prog 17 #[.int .u64 n, .int .i64 size, .bool big] w (NewBytes w (putV n size big) (putE n size)) := by
  by_cases hs : sizeB size = true
  · by_cases hf : fitsB n size.toNat = true
    · obtain ⟨sz, rfl, h1, h8⟩ := size_cases hs
      obtain ⟨m, rfl⟩ : ∃ m : Nat, n = (m : Int) := ⟨n.toNat, by omega⟩
      have e1 : putV (m : Int) (sz : Int) big = putL m sz big := by unfold putV; rw [hs, hf]; simp
      have e2 : putE (m : Int) (sz : Int) = 0 := by unfold putE; rw [hs, hf]; simp
      rw [e1, e2]
      refine (put_in m sz big w hn' h1 h8 hs hf).mono fun e w' ⟨h1, h2, h3⟩ => ⟨h1, .inl ⟨rfl, ?_, h3⟩⟩
      rw [putL_length]; exact h2
    · have hf' : fitsB n size.toNat = false := by simpa using hf
      have e1 : putV n size big = [] := by unfold putV; rw [hs, hf']; simp
      have e2 : putE n size = 7 := by unfold putE; rw [hs, hf']; simp
      rw [e1, e2]
      exact (put_over n size big w hn hn' hs hf').mono fun e w' ⟨h1, h2⟩ => ⟨by subst h2; exact Below.refl _ _, .inr ⟨by decide, rfl, h1⟩⟩
  · have hs' : sizeB size = false := by simpa using hs
    have e1 : putV n size big = [] := by unfold putV; rw [hs']; simp
    have e2 : putE n size = 1 := by unfold putE; rw [hs']; simp
    rw [e1, e2]
    exact (put_size n size big w hs').mono fun e w' ⟨h1, h2⟩ => ⟨by subst h2; exact Below.refl _ _, .inr ⟨by decide, rfl, h1⟩⟩

theorem one_row (w : World) (q : Nat) : Row (w.alloc (.cells #[.int .u8 ((q : Int) % 256)] 5)) (some ⟨w.heap.size, 0, none⟩) [UInt8.ofNat (q % 256)] := by
  intro _
  refine ⟨w.heap.size, 0, rfl, by simp, fun i hi => ?_⟩
  have : i = 0 := by simpa using hi
  subst this
  simp
def Fresh (w w' : World) : Prop := Below w.heap.size w w'
set_option maxHeartbeats 1000000 in
theorem rput_loop (n sz : Nat) (big : Bool) (w : World) (hn : (n : Int) ≤ 18446744073709551615) (h1 : 1 ≤ sz) (h8 : sz ≤ 8) (hs : sizeB (sz : Int) = true) :
    Calls Try.prog 18 #[.int .u64 (n : Int), .int .i64 (sz : Int), .bool big] w
      fun e w' => e = .returned (.tuple #[.string (bs (putV n sz big)), .int .i64 (putE n sz)]) ∧ Below w.heap.size w w' := by
  have hs' := hs
  go_enter Try.func18, Try.ntmps18
  go_wp2_with fail
  refine (rsize_any _ _).mono ?_
  rintro e w' ⟨rfl, rfl⟩
  rw [hs]
  have HS := Lib.hid hs'
  clear hs hs'
  go_wp2_with fail
  go_loopw [0, 8, 9] (fun m s i wr => ∃ k : Nat, k ≤ sz ∧ i = .int .i64 (k : Int) ∧ m = .int .u64 ((n / 256 ^ k : Nat) : Int) ∧ s = .string (bs (beB n k)) ∧ Fresh w wr) (fun _ _ c _ => sz - (intOf c).toNat)
  case atStart => exact ⟨0, by omega, rfl, by simp, rfl, Below.refl _ _⟩
  case round =>
    obtain ⟨k, hk, rfl, rfl, rfl, hF⟩ := hrel
    by_cases hlt : k < sz
    · obtain ⟨q, hq⟩ : ∃ q, q = n / 256 ^ k := ⟨_, rfl⟩
      have hqn : q ≤ n := by rw [hq]; exact Nat.div_le_self _ _
      rw [← hq]
      have HQ := Lib.hid hq
      clear hq
      have cv := conv_row 1 1 (one_row wr q) rfl
      have hz1 : (bs [UInt8.ofNat (q % 256)]).size = 1 := by simp [bs_size]
      have hz2 : (bs (beB n k)).size = k := by simp [bs_size, beB_length]
      go_wp2_with fail
      go_roundw
      case rel =>
        refine ⟨k + 1, by omega, by go_num, ?_, ?_, ?_⟩
        · rw [← div_step, ← HQ.out]; go_num
        · rw [bs_append, ← beB_step, ← HQ.out]; rfl
        · exact Below.alloc hF (Below.size hF) _
      case measure => simp [intOf]; omega
    · have : k = sz := by omega
      subst this
      obtain ⟨q, hq⟩ : ∃ q, q = n / 256 ^ k := ⟨_, rfl⟩
      rw [← hq]
      have hiff := div_zero_iff n k
      rw [← hq] at hiff
      have hp : ((256 : Int) ^ k) = ((256 ^ k : Nat) : Int) := by simp
      by_cases h0 : q = 0
      · have hf : fitsB (n : Int) ((k : Int).toNat) = true := by
          unfold fitsB; rw [Int.toNat_natCast, hp]
          have := hiff.1 h0
          simp; omega
        have e1 : putV (n : Int) (k : Int) big = putL n k big := by unfold putV; rw [HS.out, hf]; simp
        have e2 : putE (n : Int) (k : Int) = 0 := by unfold putE; rw [HS.out, hf]; simp
        have E1 := Lib.hid e1
        have E2 := Lib.hid e2
        clear e1 e2 hf hiff hp hq HS
        subst h0
        cases big
        · go_wp2_with fail
          refine (turn_any _ _ (by rw [beB_length]; omega)).mono ?_
          rintro e w' ⟨rfl, rfl⟩
          go_wp2_with fail
          go_ret2
          exact ⟨by rw [E1.out, E2.out]; rfl, hF⟩
        · go_wp2_with fail
          go_ret2
          exact ⟨by rw [E1.out, E2.out]; rfl, hF⟩
      · have hf : fitsB (n : Int) ((k : Int).toNat) = false := by
          unfold fitsB; rw [Int.toNat_natCast, hp]
          have := mt hiff.2 h0
          simp; omega
        have e1 : putV (n : Int) (k : Int) big = [] := by unfold putV; rw [HS.out, hf]; simp
        have e2 : putE (n : Int) (k : Int) = 7 := by unfold putE; rw [HS.out, hf]; simp
        have E1 := Lib.hid e1
        have E2 := Lib.hid e2
        clear e1 e2 hf hiff hp hq HS
        have hne : ((q : Int) != 0) = true := by simpa using h0
        go_wp2_with fail
        go_ret2
        exact ⟨by rw [E1.out, E2.out]; rfl, hF⟩
theorem rput_any (n size : Int) (big : Bool) (w : World) (hn : 0 ≤ n) (hn' : n ≤ 18446744073709551615) :
    Calls Try.prog 18 #[.int .u64 n, .int .i64 size, .bool big] w
      fun e w' => e = .returned (.tuple #[.string (bs (putV n size big)), .int .i64 (putE n size)]) ∧ Below w.heap.size w w' := by
  by_cases hs : sizeB size = true
  · obtain ⟨sz, rfl, h1, h8⟩ := size_cases hs
    obtain ⟨m, rfl⟩ : ∃ m : Nat, n = (m : Int) := ⟨n.toNat, by omega⟩
    exact rput_loop m sz big w hn' h1 h8 hs
  · have hs' : sizeB size = false := by simpa using hs
    have e1 : putV n size big = [] := by unfold putV; rw [hs']; simp
    have e2 : putE n size = 1 := by unfold putE; rw [hs']; simp
    rw [e1, e2]
    clear e1 e2 hs
    go_enter Try.func18, Try.ntmps18
    go_wp2_with fail
    refine (rsize_any _ _).mono ?_
    rintro e w' ⟨rfl, rfl⟩
    rw [hs']
    go_wp2_with fail
    go_ret2
    exact ⟨rfl, Below.refl _ _⟩
end Go.Proofs.Ytmobdanpkojbbaa.Oct

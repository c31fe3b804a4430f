/- Slices of Op that came in, and the contract of fits over them. -/
import Derived.Test.YtpphcooikhncfaaBitF
import Derived.Deep.Slices
import Derived.Deep.Fields
import Derived.ChangeSame
namespace Go.Proofs.Ytpphcooikhncfaa.Bit
open Go.RowKit Go.Proofs.Ytpphcooikhncfaa.Oct Go.ChangeShapes Go.WideShapes Go.Deep
set_option linter.unusedVariables false

/-- an Op at a place -/
def OpAt (w : World) (b off i : Nat) (k n v : Int) (s : ByteArray) : Prop :=
  w.cell? ⟨b, off + i * 4, none⟩ = some (.int .i64 k) ∧ w.cell? ⟨b, off + i * 4 + 1, none⟩ = some (.int .i64 n) ∧ w.cell? ⟨b, off + i * 4 + 2, none⟩ = some (.int .u32 v) ∧ w.cell? ⟨b, off + i * 4 + 3, none⟩ = some (.string s)
def OpOk (k n v : Int) (s : ByteArray) : Prop :=
  -9223372036854775808 ≤ k ∧ k ≤ 9223372036854775807 ∧ -9223372036854775808 ≤ n ∧ n ≤ 9223372036854775807 ∧ 0 ≤ v ∧ v ≤ 4294967295 ∧ s.size ≤ maxLen
def IsOps (w : World) (a : Option Addr) (len cap : Nat) : Prop :=
  len ≤ cap ∧ cap ≤ maxLen ∧ (0 < len → ∃ b off, a = some ⟨b, off, none⟩ ∧ b < w.heap.size ∧ ∀ i, i < len → ∃ k n v s, OpAt w b off i k n v s ∧ OpOk k n v s)
theorem OpAt.below {w w' : World} {b off i B : Nat} {k n v : Int} {s : ByteArray} (h : OpAt w b off i k n v s) (hb : Below B w w') (hlt : b < B) : OpAt w' b off i k n v s :=
  ⟨(hb.cell (by exact hlt)).trans h.1, (hb.cell (by exact hlt)).trans h.2.1, (hb.cell (by exact hlt)).trans h.2.2.1, (hb.cell (by exact hlt)).trans h.2.2.2⟩
section
variable {H : Type} {enc : TypeId × Value → H} {w : World} {spare : Nat → Bool} {held : Bool}
theorem four {α : Type} {l : List α} (h : l.length = 4) : ∃ a b c d, l = [a, b, c, d] := by
  match l, h with
  | [a, b, c, d], _ => exact ⟨a, b, c, d, rfl⟩
theorem op_fields {fuel : Nat} {cs : List Value} {x : DataW H × List MemPlace} (h : DataW.trod enc Try.prog w 0 spare held fuel 31 cs = some x) :
    ∃ k n v s, cs = [.int .i64 k, .int .i64 n, .int .u32 v, .string s] ∧ OpOk k n v s := by
  have hC : Try.prog.cellsOf 31 = 4 := by kernel_rfl
  have k3 : Try.prog.cellsOf 3 = 1 := by kernel_rfl
  have k4 : Try.prog.cellsOf 29 = 1 := by kernel_rfl
  have k5 : Try.prog.cellsOf 9 = 1 := by kernel_rfl
  obtain ⟨ys, n', _, _, hlen, hyl, hf⟩ := DataW.trod_struct Try.underlying31 h
  rw [hC] at hlen
  obtain ⟨c0, c1, c2, c3, rfl⟩ := four hlen
  obtain ⟨y0, y1, y2, y3, rfl⟩ := four hyl
  have h0 := hf 0 _ rfl
  have h1 := hf 1 _ rfl
  have h2 := hf 2 _ rfl
  have h3 := hf 3 _ rfl
  simp [k3] at h0 h1
  simp [k4] at h2
  simp [k5] at h3
  obtain ⟨k, e0, _, w0⟩ := DataW.trod_int Try.underlying3 h0
  obtain ⟨n, e1, _, w1⟩ := DataW.trod_int Try.underlying3 h1
  obtain ⟨v, e2, _, w2⟩ := DataW.trod_int Try.underlying29 h2
  obtain ⟨s, e3, _, w3⟩ := DataW.trod_string Try.underlying9 h3
  simp at e0 e1 e2 e3
  subst e0 e1 e2 e3
  have b0 := bounds_i64 w0
  have b1 := bounds_i64 w1
  have b2 := bounds_u32 w2
  exact ⟨k, n, v, s, rfl, b0.1, b0.2, b1.1, b1.2, b2.1, b2.2, w3⟩
theorem open_ops {fuel : Nat} {a : Option Addr} {len cap : Nat} {x : DataW H × List MemPlace} (h : DataW.trod enc Try.prog w 0 spare held fuel 23 [.slice a len cap] = some x) : IsOps w a len cap := by
  have hC : Try.prog.cellsOf 31 = 4 := by kernel_rfl
  rcases open_slice Try.underlying23 h with ⟨hcs, _⟩ | ⟨ad, l, c, m, n, D, Pl, hcs, hb, hl, hm, hmm, _, hi⟩
  · simp at hcs
    obtain ⟨rfl, rfl, rfl⟩ := hcs
    exact ⟨Nat.le_refl _, by simp [maxLen], fun h => by omega⟩
  · simp at hcs
    obtain ⟨rfl, rfl, rfl⟩ := hcs
    refine ⟨hl, hm, fun hp => ?_⟩
    have hlm : len ≤ m := by rw [hmm]; split <;> omega
    obtain ⟨b, off, spot⟩ := ad
    have hs : spot = none := by
      obtain ⟨cs', hc, ht⟩ := hi 0 (by omega)
      rw [hC] at hc
      obtain ⟨_, hcl, hat⟩ := World.cells?_some hc
      have h0 := hat 0 (by omega)
      rw [List.getElem?_eq_getElem (by omega)] at h0
      simpa [Addr.add] using World.cell?_spot h0
    subst hs
    have key : ∀ i, i < len → ∃ k n v s, OpAt w b off i k n v s ∧ OpOk k n v s := by
      intro i hil
      obtain ⟨cs', hc, ht⟩ := hi i (by omega)
      rw [hC] at hc
      obtain ⟨_, hcl, hat⟩ := World.cells?_some hc
      obtain ⟨k, n, v, s, rfl, hok⟩ := op_fields ht
      have h0 := hat 0 (by omega)
      have h1 := hat 1 (by omega)
      have h2 := hat 2 (by omega)
      have h3 := hat 3 (by omega)
      simp only [Oct.add_plain] at h0 h1 h2 h3
      exact ⟨k, n, v, s, ⟨h0, h1, h2, h3⟩, hok⟩
    refine ⟨b, off, rfl, ?_, key⟩
    obtain ⟨k, n, v, s, hat, _⟩ := key 0 hp
    exact lt_of_cell hat.1
end
/-- all texts are short, and there are few -/
def FitsP (w : World) (a : Option Addr) (len : Nat) (e : Ending) (w' : World) : Prop :=
  Below w.heap.size w w' ∧ ∃ fb : Bool, e = .returned (.bool fb) ∧ (fb = true → len ≤ 100 ∧ ∀ b off i k n v s, a = some ⟨b, off, none⟩ → i < len → OpAt w b off i k n v s → s.size ≤ 60)
def FitR (w : World) (a : Option Addr) (j : Nat) (wr : World) : Prop :=
  Below w.heap.size w wr ∧ ∀ b off i k n v s, a = some ⟨b, off, none⟩ → i < j → OpAt w b off i k n v s → s.size ≤ 60
set_option maxHeartbeats 400000 in
theorem fits_any (a : Option Addr) (len cap : Nat) (w : World) (h : IsOps w a len cap) : Calls Try.prog 10 #[.slice a len cap] w (FitsP w a len) := by
  obtain ⟨hlc, hcm, hops⟩ := h
  unfold maxLen at hcm
  go_enter Try.func10, Try.ntmps10
  go_wp2_with fail
  go_loopw [7] (fun c wr => ∃ j : Nat, j ≤ len ∧ c = .int .i64 (j : Int) ∧ FitR w a j wr) (fun c _ => len - (intOf c).toNat)
  case atStart => exact ⟨0, by omega, rfl, Below.refl _ _, fun _ _ i _ _ _ _ _ hi => by omega⟩
  case round =>
    obtain ⟨j, hj, rfl, hF⟩ := hrel
    by_cases hlt : j < len
    · obtain ⟨b, off, rfl, hbl, hall⟩ := hops (by omega)
      obtain ⟨k, n, v, s, hat, hok⟩ := hall j hlt
      obtain ⟨c0, c1, c2, c3⟩ := hat.below hF.1 hbl
      have hsl := hok.2.2.2.2.2.2
      unfold maxLen at hsl
      clear hall
      by_cases hs : s.size ≤ 60
      · have hd : decide (60 < (s.size : Int)) = false := by simp; omega
        go_wp2_with fail
        go_roundw
        case rel =>
          refine ⟨j + 1, by omega, by go_num, hF.1.alloc hF.1.size _, fun b' off' i k' n' v' s' he hi hat' => ?_⟩
          rcases Nat.lt_or_ge i j with hij | hij
          · exact hF.2 b' off' i k' n' v' s' he hij hat'
          · have : i = j := by omega
            subst this
            injection he with he
            injection he with e1 e2
            subst e1
            subst e2
            have := hat.2.2.2.symm.trans hat'.2.2.2
            simp at this
            subst this
            exact hs
        case measure => simp [intOf]; omega
      · have hd : decide (60 < (s.size : Int)) = true := by simp; omega
        go_wp2_with fail
        go_ret
        exact ⟨hF.1.alloc hF.1.size _, false, rfl, fun h => by cases h⟩
    · have hjl : j = len := by omega
      subst hjl
      by_cases h100 : j ≤ 100
      · have hd : decide ((j : Int) ≤ 100) = true := by simp; omega
        go_wp2_with fail
        go_ret
        exact ⟨hF.1, true, rfl, fun _ => ⟨h100, hF.2⟩⟩
      · have hd : decide ((j : Int) ≤ 100) = false := by simp; omega
        go_wp2_with fail
        go_ret
        exact ⟨hF.1, false, rfl, fun h => by cases h⟩
end Go.Proofs.Ytpphcooikhncfaa.Bit

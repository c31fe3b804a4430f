/- Contracts of package packbits: threeEqual, equals, literals, pieceSize. -/
import Derived.Test.YtcgoejijeeeanaaBase
import Derived.Test.YtcgoejijeeeanaaPbM
import Derived.Lib.MinMax
namespace Go.Proofs.Ytcgoejijeeeanaa.Pb
open Go.RowKit Go.Proofs.Ytcgoejijeeeanaa.Oct
set_option linter.unusedVariables false

theorem u8_beq (a b : UInt8) : ((a.toNat : Int) == (b.toNat : Int)) = (a == b) := by
  by_cases h : a = b
  · subst h; simp
  · have : ¬ a.toNat = b.toNat := fun e => h (UInt8.toNat_inj.1 e)
    rw [beq_eq_false_iff_ne.2 h, beq_eq_false_iff_ne.2 (by omega)]
theorem three_any (p : Option Addr) (len cap : Nat) (xs : List UInt8) (w : World) (hr : Row w p xs) (hx : xs.length = len) (hl : len ≤ maxLen) :
    Calls Try.prog 17 #[.slice p len cap] w fun e w' => e = .returned (.bool (three xs)) ∧ Drawn w w' := by
  unfold maxLen at hl
  by_cases h3 : len < 3
  · rw [three_short xs (by omega)]
    have hd : decide (3 ≤ (len : Int)) = false := by simp; omega
    clear hr hx
    go_enter Try.func17, Try.ntmps17
    go_wp2_with fail
    go_quiet (fail)
    go_wp2_with fail
    go_ret
    exact ⟨rfl, _, rfl⟩
  · have hd : decide (3 ≤ (len : Int)) = true := by simp; omega
    rw [three_long xs (by omega)]
    obtain ⟨b, off, rfl, hb, hc⟩ := hr (by omega)
    have c0 := hc 0 (by omega)
    have c1 := hc 1 (by omega)
    have c2 := hc 2 (by omega)
    have q1 := u8_beq (xs[0]'(by omega)) (xs[1]'(by omega))
    have q2 := u8_beq (xs[1]'(by omega)) (xs[2]'(by omega))
    generalize (xs[0]'(by omega)) = x0 at c0 q1 ⊢
    generalize (xs[1]'(by omega)) = x1 at c1 q1 q2 ⊢
    generalize (xs[2]'(by omega)) = x2 at c2 q2 ⊢
    have k0 := x0.toNat_lt
    have k1 := x1.toNat_lt
    have k2 := x2.toNat_lt
    clear hc hx
    have i1 : (1 : Int) < (len : Int) := by omega
    have i2 : (2 : Int) < (len : Int) := by omega
    have i0 : (0 : Int) < (len : Int) := by omega
    have j0 : 0 < len := by omega
    have j1 : 1 < len := by omega
    have j2 : 2 < len := by omega
    have c0' : w.cell? ⟨b, off, none⟩ = some (.int .u8 (x0.toNat : Int)) := by simpa using c0
    rcases hq : (x0 == x1) with _ | _
    · rw [hq] at q1
      clear q2
      go_enter Try.func17, Try.ntmps17
      go_wp2_with fail
      go_quiet (fail)
      go_wp2_with fail
      go_ret
      exact ⟨rfl, _, rfl⟩
    · rw [hq] at q1
      go_enter Try.func17, Try.ntmps17
      go_wp2_with fail
      go_quiet (fail)
      go_wp2_with fail
      go_ret
      exact ⟨by first | rfl | rw [q2]; rfl | (simp [q2]; done), _, rfl⟩
theorem eqs_step {xs : List UInt8} {n : Nat} (h0 : 0 < xs.length) (hn : n < xs.length) (h : ∀ i (h : i < xs.length), i < n → xs[i] = xs[0]) (hq : xs[n] = xs[0]) : ∀ i (h : i < xs.length), i < n + 1 → xs[i] = xs[0] := by
  intro i hi hin
  rcases Nat.lt_or_ge i n with h1 | h1
  · exact h i hi h1
  · have : i = n := by omega
    subst this
    exact hq
set_option maxHeartbeats 400000 in
theorem equals_any (p : Option Addr) (len cap : Nat) (xs : List UInt8) (w : World) (hr : Row w p xs) (hx : xs.length = len) (hl : len ≤ maxLen) (h0 : 0 < len) :
    Calls Try.prog 14 #[.slice p len cap] w fun e w' => ∃ n : Nat, e = .returned (.int .i64 (n : Int)) ∧ Eqs xs n ∧ Drawn w w' := by
  unfold maxLen at hl
  obtain ⟨b, off, rfl, hb, hc⟩ := hr (by omega)
  have HC := Lib.hid hc
  have HX := Lib.hid hx
  clear hc hx hr
  have hx0 : 0 < xs.length := by rw [HX.out]; exact h0
  have hmin : min (len : Int) 128 = ((min len 128 : Nat) : Int) := by omega
  obtain ⟨m, hm⟩ : ∃ m, m = min len 128 := ⟨_, rfl⟩
  rw [← hm] at hmin
  have hm1 : m ≤ len := by omega
  have hm2 : m ≤ 128 := by omega
  have hm3 : 1 ≤ m := by omega
  have HM := Lib.hid hm
  clear hm
  have i0 : (0 : Int) < (len : Int) := by omega
  go_enter Try.func14, Try.ntmps14
  go_wp2_with fail
  go_loopw [3] (fun v wr => ∃ n : Nat, 1 ≤ n ∧ n ≤ m ∧ v = .int .i64 (n : Int) ∧ Hid (∀ i (h : i < xs.length), i < n → xs[i] = xs[0]) ∧ Drawn w wr) (fun v _ => m - (intOf v).toNat)
  case atStart => exact ⟨1, by omega, hm3, rfl, Lib.hid (fun i hi h => by have : i = 0 := by omega
                                                                          subst this; rfl), ⟨0, rfl⟩⟩
  case round =>
    obtain ⟨n, hn1, hnm, rfl, HE, hq⟩ := hrel
    by_cases hlt : n < m
    · have hd : decide ((n : Int) < (m : Int)) = true := by simp; omega
      have hnx : n < xs.length := by rw [HX.out]; omega
      have cn : wr.cell? ⟨b, off + n, none⟩ = some (.int .u8 (xs[n].toNat : Int)) := by
        obtain ⟨nq, rfl⟩ := hq; exact HC.out n hnx
      have c0 : wr.cell? ⟨b, off, none⟩ = some (.int .u8 (xs[0].toNat : Int)) := by
        obtain ⟨nq, rfl⟩ := hq; exact HC.out 0 hx0
      obtain ⟨x, y, cn', c0', HS, HN⟩ : ∃ x y : UInt8, wr.cell? ⟨b, off + n, none⟩ = some (.int .u8 (y.toNat : Int)) ∧ wr.cell? ⟨b, off, none⟩ = some (.int .u8 (x.toNat : Int)) ∧ Hid (y = x → ∀ i (h : i < xs.length), i < n + 1 → xs[i] = xs[0]) ∧ Hid (y ≠ x → Eqs xs n) :=
        ⟨xs[0], xs[n], cn, c0, Lib.hid (fun h => eqs_step hx0 hnx HE.out h), Lib.hid (fun h => ⟨hn1, by have := HX.out; have := HM.out; omega, HE.out, fun _ _ => h⟩)⟩
      have q1 := u8_beq y x
      have in1 : (n : Int) < (len : Int) := by omega
      have in2 : n < len := by omega
      clear HE cn c0 hnx
      have k0 := x.toNat_lt
      have k1 := y.toNat_lt
      rcases hyx : (y == x) with _ | _
      · rw [hyx] at q1
        have HNx := Lib.hid (HN.out (by simpa using hyx))
        clear HN HS hyx
        go_wp2_with fail
        go_quiet (fail)
        go_wp2_with fail
        go_ret
        exact ⟨n, rfl, HNx.out, hq.more _⟩
      · rw [hyx] at q1
        have HSx := Lib.hid (HS.out (by simpa using hyx))
        clear HN HS hyx
        go_wp2_with fail
        go_quiet (fail)
        go_wp2_with fail
        go_roundw
        case rel => exact ⟨n + 1, by omega, by omega, by go_num, HSx, hq.more _⟩
        case measure => simp [intOf]; omega
    · have hnm' : n = m := by omega
      subst hnm'
      have hd : decide ((n : Int) < (n : Int)) = false := by simp
      have HN : Hid (Eqs xs n) := Lib.hid ⟨hn1, by have := HX.out; have := HM.out; omega, HE.out, fun h h' => by have := HX.out; have := HM.out; omega⟩
      clear HE
      go_wp2_with fail
      go_quiet (fail)
      go_wp2_with fail
      go_ret
      exact ⟨n, rfl, HN.out, hq.more _⟩
theorem row_drop {w : World} {b off : Nat} {xs : List UInt8} (h : Row w (some ⟨b, off, none⟩) xs) (n : Nat) : Row w (some ⟨b, off + n, none⟩) (xs.drop n) := by
  intro hp
  rw [List.length_drop] at hp
  obtain ⟨b', off', he, hb, hc⟩ := h (by omega)
  injection he with he
  injection he with e1 e2
  subst e1
  subst e2
  refine ⟨b, off + n, rfl, hb, fun i hi => ?_⟩
  rw [List.length_drop] at hi
  rw [Nat.add_assoc, hc (n + i) (by omega)]
  simp
theorem row_take {w : World} {p : Option Addr} {xs : List UInt8} (h : Row w p xs) (n : Nat) : Row w p (xs.take n) := by
  intro hp
  rw [List.length_take] at hp
  obtain ⟨b, off, rfl, hb, hc⟩ := h (by omega)
  refine ⟨b, off, rfl, hb, fun i hi => ?_⟩
  rw [List.length_take] at hi
  rw [hc i (by omega)]
  simp
theorem row_drawn {w w' : World} {p : Option Addr} {xs : List UInt8} (h : Row w p xs) (hd : Drawn w w') : Row w' p xs := h.below (hd.below _)
set_option maxHeartbeats 400000 in
theorem literals_any (p : Option Addr) (len cap : Nat) (xs : List UInt8) (w : World) (hr : Row w p xs) (hx : xs.length = len) (hlc : len ≤ cap) (hl : cap ≤ maxLen) (h0 : 0 < len) :
    Calls Try.prog 15 #[.slice p len cap] w fun e w' => ∃ n : Nat, e = .returned (.int .i64 (n : Int)) ∧ Lits xs n ∧ Drawn w w' := by
  have hml : len ≤ maxLen := Nat.le_trans hlc hl
  unfold maxLen at hl
  obtain ⟨b, off, rfl, hb, _⟩ := hr (by omega)
  have HR := Lib.hid hr
  have HX := Lib.hid hx
  have HML := Lib.hid hml
  clear hx hr hml
  have hmin : min (len : Int) 128 = ((min len 128 : Nat) : Int) := by omega
  obtain ⟨m, hm⟩ : ∃ m, m = min len 128 := ⟨_, rfl⟩
  rw [← hm] at hmin
  have hm1 : m ≤ len := by omega
  have hm2 : m ≤ 128 := by omega
  have hm3 : 1 ≤ m := by omega
  have HM := Lib.hid hm
  clear hm
  go_enter Try.func15, Try.ntmps15
  go_wp2_with fail
  go_loopw [3] (fun v wr => ∃ n : Nat, 1 ≤ n ∧ n ≤ m ∧ v = .int .i64 (n : Int) ∧ Drawn w wr) (fun v _ => m - (intOf v).toNat)
  case atStart => exact ⟨1, by omega, hm3, rfl, ⟨0, rfl⟩⟩
  case round =>
    obtain ⟨n, hn1, hnm, rfl, hq⟩ := hrel
    by_cases hlt : n < m
    · have hd : decide ((n : Int) < (m : Int)) = true := by simp; omega
      have HRn := Lib.hid (row_drop (row_drawn HR.out hq) n)
      have hln : (xs.drop n).length = len - n := by rw [List.length_drop, HX.out]
      have HLn := Lib.hid hln
      clear hln
      go_wp2_with fail
      refine (three_any _ _ _ (xs.drop n) _ (by exact HRn.out) HLn.out (by have := HML.out; omega)).mono ?_
      rintro e w' ⟨rfl, hq2⟩
      obtain ⟨nq, rfl⟩ := hq
      obtain ⟨mq, rfl⟩ := hq2
      rcases h3 : three (xs.drop n) with _ | _
      · go_wp2_with fail
        go_roundw
        case rel => exact ⟨n + 1, by omega, by omega, by go_num, ⟨nq + mq, rfl⟩⟩
        case measure => simp [intOf]; omega
      · have HL : Hid (Lits xs n) := Lib.hid ⟨hn1, by have := HX.out; have := HM.out; omega, fun _ => h3⟩
        clear h3
        go_wp2_with fail
        go_ret
        exact ⟨n, rfl, HL.out, ⟨nq + mq, rfl⟩⟩
    · have hnm' : n = m := by omega
      subst hnm'
      have hd : decide ((n : Int) < (n : Int)) = false := by simp
      have HL : Hid (Lits xs n) := Lib.hid ⟨hn1, by have := HX.out; have := HM.out; omega, fun h => by have := HX.out; have := HM.out; omega⟩
      go_wp2_with fail
      go_ret
      exact ⟨n, rfl, HL.out, hq⟩
/-- how many bytes the first piece takes; 0: it isn't whole -/
def szN (xs : List UInt8) : Nat := match piece xs with
  | none => 0
  | some (_, k) => k
theorem szN_none {xs : List UInt8} (h : piece xs = none) : szN xs = 0 := by simp [szN, h]
theorem szN_some {xs p : List UInt8} {k : Nat} (h : piece xs = some (p, k)) : szN xs = k := by simp [szN, h]
theorem piece_of_sz {xs : List UInt8} (h : szN xs ≠ 0) : ∃ p, piece xs = some (p, szN xs) := by
  rcases hp : piece xs with _ | ⟨p, k⟩
  · exact absurd (szN_none hp) h
  · exact ⟨p, by rw [szN_some hp]⟩
theorem none_of_sz {xs : List UInt8} (h : szN xs = 0) : piece xs = none := by
  rcases hp : piece xs with _ | ⟨p, k⟩
  · rfl
  · have := piece_size hp
    rw [szN_some hp] at h
    omega
set_option maxRecDepth 100000 in
theorem pieceSize_any (p : Option Addr) (len cap : Nat) (xs : List UInt8) (w : World) (hr : Row w p xs) (hx : xs.length = len) (hl : len ≤ maxLen) :
    Calls Try.prog 11 #[.slice p len cap] w fun e w' => e = .returned (.int .i64 ((szN xs : Nat) : Int)) ∧ w = w' := by
  unfold maxLen at hl
  rcases xs with _ | ⟨c, rest⟩
  · simp at hx
    subst hx
    clear hr
    rw [szN_none piece_nil]
    go_enter Try.func11, Try.ntmps11
    go_wp2_with fail
    go_ret
    exact ⟨rfl, rfl⟩
  · obtain ⟨b, off, rfl, hb, hc⟩ := hr (by simp)
    have c0 : w.cell? ⟨b, off, none⟩ = some (.int .u8 (c.toNat : Int)) := hc 0 (by simp)
    have hlen : len = rest.length + 1 := by simpa using hx.symm
    have hb := c.toNat_lt
    subst hlen
    clear hc hx
    rcases Nat.lt_trichotomy c.toNat 128 with h1 | h1 | h1
    · by_cases h2 : rest.length ≤ c.toNat
      · rw [szN_none (piece_short c rest h1 h2)]
        have q : ((c.toNat : Int) == 128) = false := by simp; omega
        generalize c.toNat = d at c0 hb h1 h2 q ⊢
        generalize rest.length = r at hl h2 ⊢
        go_enter Try.func11, Try.ntmps11
        go_wp2_with fail
        go_ret
        exact ⟨rfl, rfl⟩
      · rw [szN_some (piece_lit c rest h1 (by omega))]
        have q : ((c.toNat : Int) == 128) = false := by simp; omega
        generalize c.toNat = d at c0 hb h1 h2 q ⊢
        generalize rest.length = r at hl h2 ⊢
        go_enter Try.func11, Try.ntmps11
        go_wp2_with fail
        go_ret
        exact ⟨rfl, rfl⟩
    · rw [szN_some (piece_128 c rest h1)]
      rw [h1] at c0
      clear h1 hb
      generalize rest.length = r at hl ⊢
      go_enter Try.func11, Try.ntmps11
      go_wp2_with fail
      go_ret
      exact ⟨rfl, rfl⟩
    · rcases rest with _ | ⟨y, t⟩
      · rw [szN_none (piece_one c h1)]
        have q : ((c.toNat : Int) == 128) = false := by simp; omega
        generalize c.toNat = d at c0 hb h1 q ⊢
        simp only [List.length_nil]
        go_enter Try.func11, Try.ntmps11
        go_wp2_with fail
        go_ret
        exact ⟨rfl, rfl⟩
      · rw [szN_some (piece_run c y t h1)]
        have q : ((c.toNat : Int) == 128) = false := by simp; omega
        generalize c.toNat = d at c0 hb h1 q ⊢
        simp only [List.length_cons] at hl ⊢
        generalize t.length = r at hl ⊢
        go_enter Try.func11, Try.ntmps11
        go_wp2_with fail
        go_ret
        exact ⟨rfl, rfl⟩
end Go.Proofs.Ytcgoejijeeeanaa.Pb


/- The contracts of fault, size, appendToken. -/
import Derived.Test.YtboknaakcbjkiaaLtA
import Derived.LoopTactic
import Derived.BigQuiet
import Derived.Lib.MinMax
namespace Go.Proofs.Ytboknaakcbjkiaa.Lzt
open Go.RowKit Go.Proofs.Ytboknaakcbjkiaa.Oct
set_option linter.unusedVariables false
set_option linter.unusedSimpArgs false
set_option maxRecDepth 100000

/-- a token's value -/
def tokV (t : Tok) : Value := .agg #[.int .u8 (t.lit.toNat : Int), .int .i64 t.len, .int .i64 t.dist]
def faultX (t : Tok) (k : Nat) : Nat := if t.len = 0 then 0 else if t.len < 3 ∨ 258 < t.len ∨ t.dist < 1 ∨ 32768 < t.dist then 1 else if (k : Int) < t.dist then 3 else 0
theorem fault_any (t : Tok) (k : Nat) (w : World) : Calls Try.prog 10 #[tokV t, .int .i64 (k : Int)] w fun e w' => e = .returned (.int .i64 (faultX t k : Int)) ∧ Below w.heap.size w w' := by
  obtain ⟨x, n, d⟩ := t
  have hba : Below w.heap.size w (w.alloc (.cells #[.int .u8 (x.toNat : Int), .int .i64 n, .int .i64 d] 31)) := (Below.refl _ w).alloc (Nat.le_refl _) _
  have HBA := Lib.hid hba
  unfold faultX tokV
  simp only
  by_cases hn0 : n = 0
  · subst hn0
    rw [if_pos rfl]
    clear hba
    go_enter Try.func10, Try.ntmps10
    go_wp2_with fail
    go_ret
    exact ⟨rfl, HBA.out⟩
  · rw [if_neg hn0]
    have q0 : (n == 0) = false := by simpa using hn0
    by_cases hbad : n < 3 ∨ 258 < n ∨ d < 1 ∨ 32768 < d
    · rw [if_pos hbad]
      have hcase : (decide (n < 3) = true) ∨ (decide (n < 3) = false ∧ decide (258 < n) = true) ∨ (decide (n < 3) = false ∧ decide (258 < n) = false ∧ decide (d < 1) = true) ∨
          (decide (n < 3) = false ∧ decide (258 < n) = false ∧ decide (d < 1) = false ∧ decide (32768 < d) = true) := by
        simp only [decide_eq_true_eq, decide_eq_false_iff_not]
        omega
      clear hbad hn0 hba
      rcases hcase with p1 | ⟨p1, p2⟩ | ⟨p1, p2, p3⟩ | ⟨p1, p2, p3, p4⟩
      all_goals
        go_enter Try.func10, Try.ntmps10
        go_wp2_with fail
        go_ret
        exact ⟨rfl, HBA.out⟩
    · rw [if_neg hbad]
      have p1 : decide (n < 3) = false := by simp; omega
      have p2 : decide (258 < n) = false := by simp; omega
      have p3 : decide (d < 1) = false := by simp; omega
      have p4 : decide (32768 < d) = false := by simp; omega
      by_cases hfar : (k : Int) < d
      · rw [if_pos hfar]
        have p5 : decide ((k : Int) < d) = true := by simpa using hfar
        clear hbad hn0 hba hfar
        go_enter Try.func10, Try.ntmps10
        go_wp2_with fail
        go_ret
        exact ⟨rfl, HBA.out⟩
      · rw [if_neg hfar]
        have p5 : decide ((k : Int) < d) = false := by simpa using hfar
        clear hbad hn0 hba hfar
        go_enter Try.func10, Try.ntmps10
        go_wp2_with fail
        go_ret
        exact ⟨rfl, HBA.out⟩
theorem size_any (t : Tok) (w : World) : Calls Try.prog 11 #[tokV t] w fun e w' => e = .returned (.int .i64 (max t.len 1)) ∧ Below w.heap.size w w' := by
  obtain ⟨x, n, d⟩ := t
  have hba : Below w.heap.size w (w.alloc (.cells #[.int .u8 (x.toNat : Int), .int .i64 n, .int .i64 d] 31)) := (Below.refl _ w).alloc (Nat.le_refl _) _
  have HBA := Lib.hid hba
  unfold tokV
  clear hba
  go_enter Try.func11, Try.ntmps11
  go_wp2_with fail
  go_ret
  exact ⟨rfl, HBA.out⟩
/-- what comes of a token that may stand -/
def tellX (t : Tok) (out : List UInt8) : List UInt8 := if t.len = 0 then out ++ [t.lit] else copyN out t.dist.toNat t.len.toNat
def AppP (w : World) (base : Nat) (o : List UInt8) (e : Ending) (w' : World) : Prop :=
  ∃ v, e = .returned v ∧ w'.ownsRow base 5 1 v o.length (cellsOf o) ∧ Below base w w'
theorem own_zero {w : World} {base n : Nat} {v : Value} {cs : List Value} (h : w.ownsRow base 5 1 v n cs) : w.ownsRow 0 5 1 v n cs :=
  ⟨h.1, h.2.imp id fun ⟨g, cap, cur, a, b, r⟩ => ⟨g, cap, cur, a, Nat.zero_le _, r⟩⟩
theorem own_base {w : World} {base n : Nat} {v : Value} {cs : List Value} (h : w.ownsRow 0 5 1 v n cs) (hb : ∀ k, v.ownBlock = some k → base ≤ k) : w.ownsRow base 5 1 v n cs := by
  refine ⟨h.1, ?_⟩
  rcases h.2 with hn | ⟨g, cap, cur, rfl, _, r⟩
  · exact .inl hn
  · exact .inr ⟨g, cap, cur, rfl, hb g rfl, r⟩
set_option maxHeartbeats 1000000 in
theorem append_lit (v : Value) (base : Nat) (x : UInt8) (d : Int) (out : List UInt8) (w : World) (ho : w.ownsRow base 5 1 v out.length (cellsOf out)) (hbw : base ≤ w.heap.size) (hl : out.length ≤ 100000) :
    Calls Try.prog 12 #[v, tokV ⟨x, 0, d⟩] w (AppP w base (out ++ [x])) := by
  have hb1 := fun k hk => ho.lt k hk
  have HB1 := Lib.hid hb1
  have hba : Below w.heap.size w (w.alloc (.cells #[.int .u8 (x.toNat : Int), .int .i64 0, .int .i64 d] 31)) := (Below.refl _ w).alloc (Nat.le_refl _) _
  have hz : (w.alloc (.cells #[.int .u8 (x.toNat : Int), .int .i64 0, .int .i64 d] 31)).heap.size = w.heap.size + 1 := by simp
  have HO := Lib.hid (own_zero (own_below ho hba))
  have HBA := Lib.hid hba
  have HL : Hid (out.length ≤ 200000) := Lib.hid (by omega)
  have HBW := Lib.hid hbw
  have HZ := Lib.hid hz
  unfold tokV
  clear ho hb1 hba hl hbw hz
  go_enter Try.func12, Try.ntmps12
  go_wp2_with (at_builtin; (refine app_one (W := w.alloc (.cells #[.int .u8 (x.toNat : Int), .int .i64 0, .int .i64 d] 31)) rfl _ _ rfl v out x (x.toNat : Int) rfl rfl HO.out (w.heap.size + 1) HZ.out rfl out.length rfl HL.out ?_; intro g9 c9 w9 hc91 hc92 hown9 hon9 hat9; have HOWN9 := Lib.hid hown9; have HON9 := Lib.hid hon9; have HAT9 := Lib.hid hat9; clear hown9 hon9 hat9))
  go_ret
  have h9 := HAT9.out
  have hzz := HZ.out
  have hbw := HBW.out
  have hlw : ∀ k, (Value.slice (some ⟨g9, 0, none⟩) (out.length + 1) c9).ownBlock = some k → base ≤ k := fun k hk => by
    have : g9 = k := by simpa [Value.ownBlock] using hk
    subst this
    rcases h9 with h | h
    · exact (HB1.out _ h).1
    · omega
  refine ⟨_, rfl, ?_, ?_⟩
  · have := own_base HOWN9.out hlw
    rw [List.length_append] at this ⊢
    exact this
  · have h4 : Below base ((w.alloc (.cells #[.int .u8 (x.toNat : Int), .int .i64 0, .int .i64 d] 31)).alloc (.cells #[.int .u8 (x.toNat : Int)] 5)) w9 := HON9.out.below (by simp; omega) (fun k hk e => by have := (HB1.out _ e).1; omega)
    exact ((HBA.out.alloc (by simp) _).mono hbw).trans h4
end Go.Proofs.Ytboknaakcbjkiaa.Lzt

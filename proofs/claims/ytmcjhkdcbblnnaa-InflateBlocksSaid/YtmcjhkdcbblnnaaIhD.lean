
/- The document's Words. -/
import Derived.Test.YtmcjhkdcbblnnaaIhB
namespace Go.Proofs.Ytmcjhkdcbblnnaa.Inf
open Go.RowKit Go.Proofs.Ytmcjhkdcbblnnaa.Oct Go.Proofs.Ytmcjhkdcbblnnaa.Bit Go.Proofs.Ytmcjhkdcbblnnaa.Hf
set_option linter.unusedVariables false
set_option linter.unusedSimpArgs false
set_option maxRecDepth 100000

def wordsX (L : List Nat) (full one : Bool) : Except Nat (List (List Bool)) :=
  if startN L 31 ≤ 1073741824 then (if full = true ∧ startN L 31 ≠ 1073741824 ∧ ¬ (one = true ∧ lone L = true) then .error 3 else .ok (canonW L)) else .error 3
theorem wordsX_full (L : List Nat) (one : Bool) : wordsX L true one = wordsR L one := by
  unfold wordsX wordsR
  by_cases h1 : startN L 31 ≤ 1073741824
  · rw [if_pos h1]
    by_cases h2 : startN L 31 = 1073741824
    · rw [if_neg (fun h => h.2.1 h2), if_pos (.inl h2)]
    · by_cases h3 : one = true ∧ lone L = true
      · rw [if_neg (fun h => h.2.2 h3), if_pos (.inr ⟨by omega, h3⟩)]
      · rw [if_pos ⟨rfl, h2, h3⟩, if_neg (fun h => by
          rcases h with h | h
          · exact h2 h
          · exact h3 h.2)]
  · rw [if_neg h1, if_neg (fun h => by
      rcases h with h | h
      · omega
      · omega)]
/-- words, or that they can't be -/
def WoP (w : World) (L : List Nat) (x : Except Nat (List (List Bool))) (e : Ending) (w' : World) : Prop :=
  Below w.heap.size w w' ∧ ((∃ q c, x = .ok (canonW L) ∧ e = .returned (.tuple #[.slice q L.length c, .int .i64 0]) ∧ VRow w' w'.heap.size q (strs (wordsU (canonW L))) ∧ (q = none → c = 0)) ∨
    (x = .error 3 ∧ e = .returned (.tuple #[.slice none 0 0, .int .i64 3])))
theorem count_take9 (L : List Nat) (k : Nat) (h : k < L.length) : (L.take (k + 1)).countP (fun n => decide (0 < n)) = (L.take k).countP (fun n => decide (0 < n)) + (if 0 < L[k] then 1 else 0) := by
  rw [List.take_succ_eq_append_getElem h, List.countP_append]
  simp [List.countP_cons]
set_option maxHeartbeats 4000000 in
theorem words_any (p : Option Addr) (cap n : Nat) (L : List Nat) (full one : Bool) (w : World) (hr : VRow w w.heap.size p (ints (castZ L))) (hn : L.length = n) (hL : ∀ m ∈ L, m ≤ 30) (hn3 : n ≤ 300) :
    Calls Try.prog 18 #[.slice p n cap, .bool full, .bool one] w (WoP w L (wordsX L full one)) := by
  obtain ⟨X, hX⟩ : ∃ X, X = wordsX L full one := ⟨_, rfl⟩
  rw [← hX]
  have HCA := Lib.hid (rcanon_any p n cap (castZ L) w hr (by rw [castZ_length]; exact hn) (by omega))
  have HR := Lib.hid hr
  have HN := Lib.hid hn
  have HL := Lib.hid hL
  clear hr hn hL
  by_cases hov : startN L 31 ≤ 1073741824
  · have hX2 : X = if full = true ∧ startN L 31 ≠ 1073741824 ∧ ¬ (one = true ∧ lone L = true) then .error 3 else .ok (canonW L) := by rw [hX]; unfold wordsX; rw [if_pos hov]
    have HX := Lib.hid hX2
    have HE := Lib.hid (cErr_ok L HL.out hov)
    clear hov hX hX2
    go_enter Try.func18, Try.ntmps18
    go_wp2_with fail
    refine HCA.out.mono ?_
    rintro e w1 ⟨hb1, hres⟩
    rcases hres with ⟨hne, _⟩ | ⟨_, q, c, rfl, hv, hq0, hqc, hqm, hqa⟩
    · exact absurd HE.out hne
    rw [lensN_cast] at hv
    rw [lensN_cast, castZ_length, HN.out]
    have HB1 := Lib.hid hb1
    have HV := Lib.hid hv
    have HQ0 := Lib.hid hq0
    obtain ⟨all, hall⟩ : ∃ all, all = decide (startN L 31 = 1073741824) := ⟨_, rfl⟩
    rw [← hall]
    have HALL := Lib.hid hall
    clear hb1 hv hq0 hqc hqm hqa hall
    go_wp2_with fail
    go_loop [11, 12, 13] (fun s u i => ∃ k : Nat, k ≤ n ∧ i = .int .i64 (k : Int) ∧ s = .int .i64 (((L.take k).sum : Nat) : Int) ∧ u = .int .i64 (((L.take k).countP (fun n => decide (0 < n)) : Nat) : Int) ∧ (L.take k).sum ≤ 30 * k ∧ (L.take k).countP (fun n => decide (0 < n)) ≤ k) (fun s u i => n - (intOf i).toNat)
    case atStart => exact ⟨0, by omega, rfl, rfl, rfl, by simp, by simp⟩
    case round =>
      obtain ⟨k, hk, rfl, rfl, rfl, hs, hu⟩ := hrel
      by_cases hlt : k < n
      · have ql : decide ((k : Int) < (n : Int)) = true := by simpa using hlt
        have i1 : (0 : Int) ≤ (k : Int) := by omega
        have i2 : (k : Int) < (n : Int) := by omega
        have hkL : k < L.length := by rw [HN.out]; exact hlt
        obtain ⟨b, off, rfl, hbl⟩ := HR.out.addr (by rw [ints_length, castZ_length]; omega)
        have hc := (HB1.out.cell (p := ⟨b, off + k, none⟩) hbl).trans (HR.out.int k (by rw [castZ_length]; exact hkL))
        have hz : (castZ L)[k]'(by rw [castZ_length]; exact hkL) = (L[k] : Int) := by simp [castZ]
        rw [hz] at hc
        have HST := Lib.hid (sum_take L k hkL)
        have HCT := Lib.hid (count_take9 L k hkL)
        have h30 := HL.out _ (List.getElem_mem hkL)
        generalize hx : L[k] = x at hc h30 HST HCT
        generalize (L.take k).sum = s at hs HST
        generalize (L.take k).countP (fun n => decide (0 < n)) = u at hu HCT
        have hsb : s ≤ 9000 := by omega
        have hub : u ≤ 300 := by omega
        clear hz hx
        by_cases hx0 : 0 < x
        · have qx : decide (0 < (x : Int)) = true := by simpa using hx0
          have qxn : decide (0 < x) = true := by simpa using hx0
          rw [if_pos hx0] at HCT
          go_wp2_with fail
          go_round
          case rel => exact ⟨k + 1, by omega, by go_num, by rw [HST.out]; first | rfl | (push_cast; rfl), by rw [HCT.out]; first | rfl | (push_cast; rfl), by rw [HST.out]; omega, by rw [HCT.out]; omega⟩
          case measure => simp [intOf]; omega
        · have qx : decide (0 < (x : Int)) = false := by simp; omega
          have qxn : decide (0 < x) = false := by simp; omega
          rw [if_neg hx0] at HCT
          go_wp2_with fail
          go_round
          case rel => exact ⟨k + 1, by omega, by go_num, by rw [HST.out]; first | rfl | (push_cast; rfl), by rw [HCT.out, Nat.add_zero], by rw [HST.out]; omega, by rw [HCT.out]; omega⟩
          case measure => simp [intOf]; omega
      · have hkn : k = n := by omega
        subst hkn
        have ql : decide ((k : Int) < (k : Int)) = false := by simp
        have hfin : L.take k = L := by rw [← HN.out, List.take_length]
        rw [hfin] at hs hu ⊢
        have hlo : lone L = (L.countP (fun n => decide (0 < n)) == 0 || (L.countP (fun n => decide (0 < n)) == 1 && L.sum == 1)) := rfl
        have HLO := Lib.hid hlo
        generalize L.sum = s at hs HLO ⊢
        generalize L.countP (fun n => decide (0 < n)) = u at hu HLO ⊢
        clear hfin hlo
        have HOKP : Hid (X = .ok (canonW L) → WoP w L X (.returned (.tuple #[.slice q k c, .int .i64 0])) w1) := Lib.hid fun hx => ⟨HB1.out, .inl ⟨q, c, hx, by rw [HN.out], HV.out, HQ0.out⟩⟩
        have HBAD : Hid (X = .error 3 → WoP w L X (.returned (.tuple #[.slice none 0 0, .int .i64 3])) w1) := Lib.hid fun hx => ⟨HB1.out, .inr ⟨hx, rfl⟩⟩
        have hcase : (((u : Int) == 0) = true ∧ lone L = true) ∨ (((u : Int) == 0) = false ∧ ((u : Int) == 1) = true ∧ ((s : Int) == 1) = true ∧ lone L = true) ∨
            (((u : Int) == 0) = false ∧ ((u : Int) == 1) = true ∧ ((s : Int) == 1) = false ∧ lone L = false) ∨ (((u : Int) == 0) = false ∧ ((u : Int) == 1) = false ∧ lone L = false) := by
          rw [HLO.out]
          by_cases hu0 : u = 0
          · left; subst hu0; exact ⟨rfl, rfl⟩
          · right
            have q0 : ((u : Int) == 0) = false := by simp; omega
            have e0 : (u == 0) = false := by simpa using hu0
            by_cases hu1 : u = 1
            · subst hu1
              by_cases hs1 : s = 1
              · left; subst hs1; exact ⟨rfl, rfl, rfl, rfl⟩
              · right; left
                have q2 : ((s : Int) == 1) = false := by simp; omega
                have e2 : (s == 1) = false := by simpa using hs1
                exact ⟨rfl, rfl, q2, by rw [e2]; rfl⟩
            · right; right
              have q1 : ((u : Int) == 1) = false := by simp; omega
              have e1 : (u == 1) = false := by simpa using hu1
              exact ⟨q0, q1, by rw [e0, e1]; rfl⟩
        have hx2 := HX.out
        have hal := HALL.out
        rcases hcase with ⟨q0, hll⟩ | ⟨q0, q1, q2, hll⟩ | ⟨q0, q1, q2, hll⟩ | ⟨q0, q1, hll⟩
        all_goals
          rw [hll] at hx2
          cases full
          · have HR1 := Lib.hid (HOKP.out (by rw [hx2, if_neg (by rintro ⟨h, _⟩; cases h)]))
            clear hx2 hal hll
            go_wp2_with fail
            go_ret2
            exact HR1.out
          · cases all
            · have hne : startN L 31 ≠ 1073741824 := of_decide_eq_false hal.symm
              cases one
              · have HR1 := Lib.hid (HBAD.out (by rw [hx2, if_pos ⟨rfl, hne, by rintro ⟨h, _⟩; cases h⟩]))
                clear hx2 hal hne hll
                go_wp2_with fail
                go_ret2
                exact HR1.out
              · first
                | (have HR1 := Lib.hid (HBAD.out (by rw [hx2, if_pos ⟨rfl, hne, by rintro ⟨_, h⟩; cases h⟩]))
                   clear hx2 hal hne hll
                   go_wp2_with fail
                   go_ret2
                   exact HR1.out)
                | (have HR1 := Lib.hid (HOKP.out (by rw [hx2, if_neg (by rintro ⟨_, _, h⟩; exact h ⟨rfl, rfl⟩)]))
                   clear hx2 hal hne hll
                   go_wp2_with fail
                   go_ret2
                   exact HR1.out)
            · have heq : startN L 31 = 1073741824 := of_decide_eq_true hal.symm
              have HR1 := Lib.hid (HOKP.out (by rw [hx2, if_neg (by rintro ⟨_, h, _⟩; exact h heq)]))
              clear hx2 hal heq hll
              go_wp2_with fail
              go_ret2
              exact HR1.out
  · have HX : Hid (X = .error 3) := Lib.hid (by rw [hX]; unfold wordsX; rw [if_neg hov])
    have HE := Lib.hid (cErr_over L HL.out hov)
    clear hov hX
    go_enter Try.func18, Try.ntmps18
    go_wp2_with fail
    refine HCA.out.mono ?_
    rintro e w1 ⟨hb1, hres⟩
    rcases hres with ⟨_, rfl⟩ | ⟨he, _⟩
    · rw [HE.out]
      have HB1 := Lib.hid hb1
      clear hb1
      go_wp2_with fail
      go_ret2
      exact ⟨HB1.out, .inr ⟨HX.out, rfl⟩⟩
    · rw [HE.out] at he; cases he
end Go.Proofs.Ytmcjhkdcbblnnaa.Inf

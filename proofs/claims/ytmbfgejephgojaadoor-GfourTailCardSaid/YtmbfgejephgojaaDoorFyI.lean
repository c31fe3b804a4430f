
/- The contracts of Write and WriteMode: lengths and modes told. -/
import Derived.Test.YtmbfgejephgojaaDoorFyE
import Derived.Lib.MinMax
namespace Go.Proofs.YtmbfgejephgojaaDoor.Fx
open Go.RowKit Go.Proofs.YtmbfgejephgojaaDoor.Oct Go.Proofs.YtmbfgejephgojaaDoor.Bit Go.Proofs.YtmbfgejephgojaaDoor.Hf Go.Proofs.YtmbfgejephgojaaDoor.Inf
set_option linter.unusedVariables false
set_option linter.unusedSimpArgs false
set_option maxRecDepth 100000

theorem tell_last (b : Bool) {m : Nat} (h : m < 64) : tellF b m = (wordsF b).getD m [] := by
  unfold tellF
  rw [Nat.div_eq_of_lt (by omega), Nat.mod_eq_of_lt (by omega : m < 2560), if_pos h, Nat.mod_eq_of_lt h]
  rfl
theorem tell_mid (b : Bool) {m : Nat} (h : 64 ≤ m) (h2 : m < 2560) : tellF b m = (wordsF b).getD (63 + m / 64) [] ++ tellF b (m % 64) := by
  rw [tell_last b (Nat.mod_lt _ (by decide))]
  unfold tellF
  rw [Nat.div_eq_of_lt h2, Nat.mod_eq_of_lt h2, if_neg (by omega)]
  rfl
theorem tell_big (b : Bool) {m : Nat} (h : 2560 ≤ m) : tellF b m = (wordsF b).getD 103 [] ++ tellF b (m - 2560) := by
  have e1 : m / 2560 = (m - 2560) / 2560 + 1 := by omega
  have e2 : m % 2560 = (m - 2560) % 2560 := by omega
  have e3 : m % 64 = (m - 2560) % 64 := by omega
  unfold tellF
  rw [e1, e2, e3, List.replicate_succ, List.flatten_cons, List.append_assoc]
theorem wordsF_some (b : Bool) {i : Nat} (h : i < 104) : (wordsU (wordsF b))[i]? = some (((wordsF b).getD i []).map dig) := by
  rw [wordsU_get, List.getD_eq_getElem?_getD]
  obtain ⟨x, hx⟩ : ∃ x, (wordsF b)[i]? = some x := ⟨_, List.getElem?_eq_getElem (by rw [wordsF_length]; exact h)⟩
  rw [hx]
  rfl
theorem modesF_some {i : Nat} (h : i < 10) : (wordsU modesF)[i]? = some ((modesF.getD i []).map dig) := by
  rw [wordsU_get, List.getD_eq_getElem?_getD]
  obtain ⟨x, hx⟩ : ∃ x, modesF[i]? = some x := ⟨_, List.getElem?_eq_getElem (by rw [modesF_length]; exact h)⟩
  rw [hx]
  rfl
theorem word_len (b : Bool) {i : Nat} (h : i < 104) : 2 ≤ ((wordsF b).getD i []).length ∧ ((wordsF b).getD i []).length ≤ 13 := by
  rw [List.getD_eq_getElem?_getD]
  obtain ⟨x, hx⟩ : ∃ x, (wordsF b)[i]? = some x := ⟨_, List.getElem?_eq_getElem (by rw [wordsF_length]; exact h)⟩
  rw [hx]
  exact words_len b x (List.mem_of_getElem? hx)
theorem mode_len {i : Nat} (h : i < 10) : 1 ≤ (modesF.getD i []).length ∧ (modesF.getD i []).length ≤ 7 := by
  rw [List.getD_eq_getElem?_getD]
  obtain ⟨x, hx⟩ : ∃ x, modesF[i]? = some x := ⟨_, List.getElem?_eq_getElem (by rw [modesF_length]; exact h)⟩
  rw [hx]
  exact modes_len x (List.mem_of_getElem? hx)
theorem not_nil {m : List Bool} (h : 1 ≤ m.length) : m ≠ [] := fun e => by rw [e] at h; simp at h
/-- one word of a colour's book written -/
theorem wordW (w : World) (B C g : Nat) (b : Bool) (gw : Nat) (v : Value) (l : List Bool) (low : Bool) (i : Nat) (hB : BoI w B C g (wordsF b) (ints (lensF 104))) (hi : i < 104) (hW : Ws w gw v l low) (hl : l.length ≤ 1900000) :
    Calls Tryd.prog 90 #[.pointer (some ⟨g, 0, none⟩), .pointer (some ⟨gw, 0, none⟩), .int .i64 (i : Int)] w (WriteP w gw v l ((wordsF b).getD i []) low) := by
  obtain ⟨C1, hk⟩ := hB.bk
  have h13 := word_len b hi
  exact bwrite_in w C1 g _ _ gw v l _ low i hk (wordsF_some b hi) (not_nil (by omega)) hW (by omega)
/-- a writer's own blocks lie outside these -/
def OutW (B C gw : Nat) (v : Value) : Prop := ∀ k, Mine gw v k → Out B C k
def WrP (w : World) (gw : Nat) (v : Value) (l m : List Bool) (low : Bool) (e : Ending) (w' : World) : Prop := e = .returned (.int .i64 0) ∧ WsT w gw v (l ++ m) low w'
/-- the part that is told next, and where its word is -/
theorem tell_part (b : Bool) {m : Nat} (h : 64 ≤ m) : ∃ p i : Nat, min ((m : Int) - ((m % 64 : Nat) : Int)) 2560 = (p : Int) ∧ (if p < 64 then p else 63 + p / 64) = i ∧ i < 104 ∧ tellF b m = (wordsF b).getD i [] ++ tellF b (m - p) ∧ 64 ≤ p ∧ p ≤ m ∧ p ≤ 2560 := by
  by_cases h2 : m < 2560
  · refine ⟨m - m % 64, 63 + m / 64, by omega, by rw [if_neg (by omega)]; omega, by omega, ?_, by omega, by omega, by omega⟩
    rw [show m - (m - m % 64) = m % 64 by omega]
    exact tell_mid b h h2
  · exact ⟨2560, 103, by omega, rfl, by decide, tell_big b (by omega), by omega, by omega, by omega⟩
theorem flat_len {α : Type} (x : List α) : ∀ k : Nat, (List.replicate k x).flatten.length = k * x.length
  | 0 => by simp
  | k + 1 => by rw [List.replicate_succ, List.flatten_cons, List.length_append, flat_len x k, Nat.succ_mul, Nat.add_comm]
theorem tell_len (b : Bool) {n : Nat} (h : n ≤ 32768) : (tellF b n).length ≤ 200 := by
  unfold tellF
  rw [List.length_append, List.length_append, flat_len]
  have h1 := (word_len b (i := 103) (by decide)).2
  have h2 := (word_len b (i := n % 64) (by omega)).2
  have h3 : (if n % 2560 < 64 then [] else (wordsF b).getD (63 + n % 2560 / 64) []).length ≤ 13 := by
    split
    · simp
    · exact (word_len b (by omega)).2
  have h4 : n / 2560 * ((wordsF b).getD 103 []).length ≤ 12 * 13 := Nat.mul_le_mul (by omega) h1
  omega
set_option maxHeartbeats 2000000 in
theorem cwrite_any (w : World) (B C c : Nat) (gw : Nat) (v : Value) (l : List Bool) (low : Bool) (n : Nat) (b : Bool) (hC : Cd w B C c) (hW : Ws w gw v l low) (hO : OutW B C gw v) (hn : n ≤ 32768) (hl : l.length ≤ 1800000) :
    Calls Tryd.prog 81 #[.pointer (some ⟨c, 0, none⟩), .pointer (some ⟨gw, 0, none⟩), .int .i64 (n : Int), .bool b] w (WrP w gw v l (tellF b n) low) := by
  have HCO := Lib.hid (colour_any b w B C c hC)
  have HCZ := Lib.hid hC.1
  have HW := Lib.hid hW
  have HO := Lib.hid hO
  have HTL := Lib.hid (tell_len b hn)
  have d1 : decide ((n : Int) < 0) = false := by simp
  have d2 : decide ((32768 : Int) < (n : Int)) = false := by simp; omega
  clear hC hW hO
  go_enter Tryd.func81, Tryd.ntmps81
  go_wp2_with fail
  refine HCO.out.mono ?_
  rintro e w1 ⟨⟨g, rfl, hg⟩, rfl⟩
  have HG := Lib.hid hg
  clear hg d1 d2
  go_wp2_with fail
  go_loopw [2, 10, 11] (fun s _ _ wr => ∃ (m : Nat) (d : List Bool) (v' : Value), m ≤ n ∧ s = .int .i64 (m : Int) ∧ Hid (d ++ tellF b m = tellF b n) ∧ Hid (Ws wr gw v' (l ++ d) low) ∧ Hid (Only (Mine gw v) w wr) ∧ Hid (∀ k, v'.ownBlock = some k → v.ownBlock = some k ∨ w.heap.size ≤ k)) (fun s _ _ _ => (intOf s).toNat)
  case atStart => exact ⟨n, [], v, by omega, rfl, Lib.hid rfl, Lib.hid (by rw [List.append_nil]; exact HW.out), Lib.hid (Only.refl _ _), Lib.hid (fun _ h => .inl h)⟩
  case round =>
    obtain ⟨m, d, v', hm, rfl, HT, HWR, HON, HOV⟩ := hrel
    have hdl : d.length ≤ 200 := by
      have := congrArg List.length HT.out
      rw [List.length_append] at this
      have := HTL.out
      omega
    have hll : (l ++ d).length ≤ 1900000 := by rw [List.length_append]; omega
    have HGr : Hid (BoI wr B C g (wordsF b) (ints (lensF 104))) := Lib.hid (HG.out.same HON.out.2.2.2.1 fun k h1 h2 => HON.out.2.2.2.2 k (by have := HCZ.out; omega) (fun e => by rcases HO.out k e with h | h <;> omega))
    by_cases h64 : 64 ≤ m
    · obtain ⟨p, i, hp, hi, hi2, ht, hp1, hp2, hp3⟩ := tell_part b h64
      have HI := Lib.hid (index_any p hp3)
      rw [hi] at HI
      have HWW := Lib.hid (wordW wr B C g b gw v' (l ++ d) low i HGr.out hi2 HWR.out hll)
      have HT2 : Hid ((d ++ (wordsF b).getD i []) ++ tellF b (m - p) = tellF b n) := Lib.hid (by rw [List.append_assoc, ← ht]; exact HT.out)
      have hd : decide ((64 : Int) ≤ (m : Int)) = true := by simp; omega
      have e1 : (m : Int) % 64 = ((m % 64 : Nat) : Int) := by omega
      have e2 : m % 64 < 64 := Nat.mod_lt _ (by decide)
      have HP := Lib.hid hp
      generalize m % 64 = r at *
      have HM2 : Hid ((m : Int) - (p : Int) = ((m - p : Nat) : Int)) := Lib.hid (by omega)
      clear hp hi ht HTL
      go_wp2_with fail
      rw [HP.out]
      refine (HI.out wr).mono ?_
      rintro e w2 ⟨rfl, rfl⟩
      go_wp2_with fail
      refine HWW.out.mono ?_
      rintro e w3 ⟨rfl, v2, hW2, hO2, hV2⟩
      have HW2 := Lib.hid hW2
      have HO2 : Hid (Only (Mine gw v) w w3) := Lib.hid (by
        have hz := HON.out.2.2.2.1
        refine ⟨hO2.1.trans HON.out.1, hO2.2.1.trans HON.out.2.1, hO2.2.2.1.trans HON.out.2.2.1, Nat.le_trans hz hO2.2.2.2.1, fun k hk hn => (hO2.2.2.2.2 k (by omega) (fun hm => hn ?_)).trans (HON.out.2.2.2.2 k hk hn)⟩
        rcases hm with h | h
        · exact .inl h
        · rcases HOV.out k h with h | h
          · exact .inr h
          · omega)
      have HV2 : Hid (∀ k, v2.ownBlock = some k → v.ownBlock = some k ∨ w.heap.size ≤ k) := Lib.hid fun k hk => by
        have hz := HON.out.2.2.2.1
        rcases hV2 k hk with h | h
        · exact HOV.out k h
        · exact .inr (by omega)
      clear hW2 hO2 hV2
      go_wp2_with fail
      go_roundw
      case rel => exact ⟨m - p, _, v2, by omega, by rw [← HM2.out], HT2, Lib.hid (by have := HW2.out; rwa [List.append_assoc] at this), HO2, HV2⟩
      case measure => simp [intOf]; omega
    · have hd : decide ((64 : Int) ≤ (m : Int)) = false := by simp; omega
      have HI := Lib.hid (index_any m (by omega) wr)
      rw [if_pos (by omega)] at HI
      have HWW := Lib.hid (wordW wr B C g b gw v' (l ++ d) low m HGr.out (by omega) HWR.out hll)
      have HT2 : Hid (d ++ (wordsF b).getD m [] = tellF b n) := Lib.hid (by rw [← tell_last b (by omega)]; exact HT.out)
      clear HTL
      go_wp2_with fail
      refine HI.out.mono ?_
      rintro e w2 ⟨rfl, rfl⟩
      go_wp2_with fail
      refine HWW.out.mono ?_
      rintro e w3 ⟨rfl, hws⟩
      have HWS : Hid (WsT w gw v (l ++ tellF b n) low w3) := Lib.hid (by
        have h2 := WrT.more HON.out HOV.out hws
        rw [List.append_assoc, HT2.out] at h2
        exact h2)
      clear hws
      go_wp2_with fail
      go_ret
      exact ⟨rfl, HWS.out⟩
/-- a length that can't be told -/
theorem cwrite_bad (w : World) (c : Nat) (r : Value) (n : Int) (b : Bool) (hn : n < 0 ∨ 32768 < n) :
    Calls Tryd.prog 81 #[.pointer (some ⟨c, 0, none⟩), r, .int .i64 n, .bool b] w fun e w' => e = .returned (.int .i64 1) ∧ w = w' := by
  by_cases h0 : n < 0
  · have d1 : decide (n < 0) = true := by simpa using h0
    clear hn h0
    go_enter Tryd.func81, Tryd.ntmps81
    go_wp2_with fail
    go_ret
    exact ⟨rfl, rfl⟩
  · have d1 : decide (n < 0) = false := by simpa using h0
    have d2 : decide ((32768 : Int) < n) = true := by simp; omega
    clear hn h0
    go_enter Tryd.func81, Tryd.ntmps81
    go_wp2_with fail
    go_ret
    exact ⟨rfl, rfl⟩
theorem cwrite_nil (w : World) (r : Value) (n : Int) (b : Bool) : Calls Tryd.prog 81 #[.pointer none, r, .int .i64 n, .bool b] w fun e w' => e = .returned (.int .i64 1) ∧ w = w' := by
  go_enter Tryd.func81, Tryd.ntmps81
  go_wp2_with fail
  go_ret
  exact ⟨rfl, rfl⟩
theorem modeW (w : World) (B C g : Nat) (gw : Nat) (v : Value) (l : List Bool) (low : Bool) (i : Nat) (hB : BoI w B C g modesF (ints (modesN 10))) (hi : i < 10) (hW : Ws w gw v l low) (hl : l.length ≤ 1900000) :
    Calls Tryd.prog 62 #[.pointer (some ⟨g, 0, none⟩), .pointer (some ⟨gw, 0, none⟩), .int .i64 (i : Int)] w (WriteP w gw v l (modesF.getD i []) low) := by
  obtain ⟨C1, hk⟩ := hB.bk
  have h13 := mode_len hi
  exact mbwrite_in w C1 g _ _ gw v l _ low i hk (modesF_some hi) (not_nil (by omega)) hW (by omega)
theorem Cd.modes {w : World} {B C c : Nat} (h : Cd w B C c) : ∃ g, w.cell? ⟨c, 2, none⟩ = some (.pointer (some ⟨g, 0, none⟩)) ∧ BoI w B C g modesF (ints (modesN 10)) := by
  obtain ⟨h1, h2, h3, g1, g2, g3, h4, h5, h6, h7⟩ := h
  exact ⟨g3, by simp [World.cell?, h4], h7⟩
theorem cmode_any (w : World) (B C c : Nat) (gw : Nat) (v : Value) (l : List Bool) (low : Bool) (i : Nat) (hC : Cd w B C c) (hW : Ws w gw v l low) (hi : i < 9) (hl : l.length ≤ 1900000) :
    Calls Tryd.prog 36 #[.pointer (some ⟨c, 0, none⟩), .pointer (some ⟨gw, 0, none⟩), .int .i64 ((i : Int) - 3)] w (WrP w gw v l (modesF.getD i []) low) := by
  obtain ⟨g, hc, hg⟩ := hC.modes
  have HWW := Lib.hid (modeW w B C g gw v l low i hg (by omega) hW hl)
  obtain ⟨z, hz⟩ : ∃ z : Int, (i : Int) - 3 = z := ⟨_, rfl⟩
  have d1 : decide (z < -3) = false := by simp; omega
  have d2 : decide (5 < z) = false := by simp; omega
  have e1 : z - -3 = (i : Int) := by omega
  have e2 : z + 3 = (i : Int) := by omega
  have e3 : z ≤ 5 := by omega
  have e4 : -3 ≤ z := by omega
  rw [hz]
  clear hC hW hz hg
  go_enter Tryd.func36, Tryd.ntmps36
  go_wp2_with fail
  refine HWW.out.mono ?_
  rintro e w3 ⟨rfl, hws⟩
  have HWS := Lib.hid hws
  clear hws
  go_wp2_with fail
  go_ret
  exact ⟨rfl, HWS.out⟩
theorem cmode_bad (w : World) (c : Nat) (r : Value) (z : Int) (hz : z < -3 ∨ 5 < z) :
    Calls Tryd.prog 36 #[.pointer (some ⟨c, 0, none⟩), r, .int .i64 z] w fun e w' => e = .returned (.int .i64 1) ∧ w = w' := by
  by_cases h0 : z < -3
  · have d1 : decide (z < -3) = true := by simpa using h0
    clear hz h0
    go_enter Tryd.func36, Tryd.ntmps36
    go_wp2_with fail
    go_ret
    exact ⟨rfl, rfl⟩
  · have d1 : decide (z < -3) = false := by simpa using h0
    have d2 : decide (5 < z) = true := by simp; omega
    clear hz h0
    go_enter Tryd.func36, Tryd.ntmps36
    go_wp2_with fail
    go_ret
    exact ⟨rfl, rfl⟩
theorem cmode_nil (w : World) (r z : Value) (hz : ∃ k, z = .int .i64 k) : Calls Tryd.prog 36 #[.pointer none, r, z] w fun e w' => e = .returned (.int .i64 1) ∧ w = w' := by
  obtain ⟨k, rfl⟩ := hz
  go_enter Tryd.func36, Tryd.ntmps36
  go_wp2_with fail
  go_ret
  exact ⟨rfl, rfl⟩
end Go.Proofs.YtmbfgejephgojaaDoor.Fx
/- The contracts of Read and ReadMode: lengths and modes read. -/
namespace Go.Proofs.YtmbfgejephgojaaDoor.Fx
open Go.RowKit Go.Proofs.YtmbfgejephgojaaDoor.Oct Go.Proofs.YtmbfgejephgojaaDoor.Bit Go.Proofs.YtmbfgejephgojaaDoor.Hf Go.Proofs.YtmbfgejephgojaaDoor.Inf
set_option linter.unusedVariables false
set_option linter.unusedSimpArgs false
set_option maxRecDepth 100000

/-- a length read, the bound being any number -/
def lenZ (black : Bool) (L : List Bool) (most : Int) (at_ n : Nat) : Nat × Except Nat Nat :=
  if 0 ≤ most then lenA black L most.toNat at_ n else match (lookP (wordsF black) [] (L.drop at_)).2 with
    | .error e => (at_ + (lookP (wordsF black) [] (L.drop at_)).1, .error e)
    | .ok i => (at_ + (lookP (wordsF black) [] (L.drop at_)).1, .error 5)
/-- one word more -/
theorem lenZ_eq (black : Bool) (L : List Bool) (most : Int) (at_ n : Nat) (ha : at_ ≤ L.length) : lenZ black L most at_ n = match (lookP (wordsF black) [] (L.drop at_)).2 with
    | .error e => (at_ + (lookP (wordsF black) [] (L.drop at_)).1, .error e)
    | .ok i => if most < ((n + lenF i : Nat) : Int) then (at_ + (lookP (wordsF black) [] (L.drop at_)).1, .error 5)
      else if i < 64 then (at_ + (lookP (wordsF black) [] (L.drop at_)).1, .ok (n + lenF i))
      else lenZ black L most (at_ + (lookP (wordsF black) [] (L.drop at_)).1) (n + lenF i) := by
  unfold lenZ
  by_cases h : 0 ≤ most
  · rw [if_pos h, lenA_eq black L _ at_ n ha]
    rcases (lookP (wordsF black) [] (L.drop at_)).2 with e | i
    · rfl
    · simp only
      by_cases h2 : most < ((n + lenF i : Nat) : Int)
      · rw [if_pos h2, if_pos (by omega)]
      · rw [if_neg h2, if_neg (by omega), if_pos h]
  · rw [if_neg h]
    rcases (lookP (wordsF black) [] (L.drop at_)).2 with e | i
    · rfl
    · simp only
      rw [if_pos (by omega)]
theorem lenZ_nat (black : Bool) (L : List Bool) (most at_ n : Nat) : lenZ black L (most : Int) at_ n = lenA black L most at_ n := by
  unfold lenZ
  rw [if_pos (by omega)]
  rfl
/-- a mode read: the place behind it, and its number or the error -/
def modeZ (L : List Bool) (at_ : Nat) : Nat × Except Nat Nat := match (lookP modesF [] (L.drop at_)).2 with
  | .error e => (at_ + (lookP modesF [] (L.drop at_)).1, .error e)
  | .ok i => (at_ + (lookP modesF [] (L.drop at_)).1, if i = 9 then .error 9 else .ok i)
def valR (k : Int) : Except Nat Nat → Int
  | .ok n => (n : Int) - k
  | .error _ => 0
def errR : Except Nat Nat → Int
  | .ok _ => 0
  | .error e => (e : Int)
theorem look_err {W : List (List Bool)} : ∀ (l p : List Bool) {k c : Nat}, lookP W p l = (k, .error c) → c = 2 ∨ c = 6
  | [], p, k, c, h => by
    rw [lookP] at h
    injection h with h1 h2
    injection h2 with h2
    exact .inl h2.symm
  | b :: r, p, k, c, h => by
    rw [lookP] at h
    split at h
    · injection h with h1 h2
      cases h2
    · split at h
      · exact look_err r _ h
      · injection h with h1 h2
        injection h2 with h2
        exact .inr h2.symm
theorem look_ok {W : List (List Bool)} : ∀ (l p : List Bool) {k i : Nat}, lookP W p l = (k, .ok i) → i < W.length
  | [], p, k, c, h => by
    rw [lookP] at h
    injection h with h1 h2
    cases h2
  | b :: r, p, k, c, h => by
    rw [lookP] at h
    split at h
    · rename_i hm
      injection h with h1 h2
      injection h2 with h2
      rw [← h2]
      exact List.idxOf_lt_length_of_mem hm
    · split at h
      · exact look_ok r _ h
      · injection h with h1 h2
        cases h2
theorem lenF_le {i : Nat} (h : i < 104) : lenF i ≤ 2560 := by
  unfold lenF
  split <;> omega
theorem lenF_lt (i : Nat) : lenF i < 64 ↔ i < 64 := by
  unfold lenF
  split <;> omega
def CReadP (w : World) (gr : Nat) (p : Option Addr) (cap : Nat) (xs : List UInt8) (low : Bool) (k : Int) (r : Nat × Except Nat Nat) (e : Ending) (w' : World) : Prop :=
  e = .returned (.tuple #[.int .i64 (valR k r.2), .int .i64 (errR r.2)]) ∧ Rd w' gr p cap xs r.1 low ∧ Only (· = gr) w w' ∧ w'.heap.size = w.heap.size
set_option maxHeartbeats 2000000 in
theorem cread_any (w : World) (B C c : Nat) (gr : Nat) (p : Option Addr) (cap : Nat) (xs : List UInt8) (a : Nat) (low : Bool) (most : Int) (b : Bool) (hC : Cd w B C c) (hO : Out B C gr) (hR : Rd w gr p cap xs a low) (hm1 : -9223372036854775808 ≤ most) (hm2 : most ≤ 9223372036854775807) :
    Calls Tryd.prog 99 #[.pointer (some ⟨c, 0, none⟩), .pointer (some ⟨gr, 0, none⟩), .int .i64 most, .bool b] w (CReadP w gr p cap xs low 0 (lenZ b (bitsOf low xs) most a 0)) := by
  have HCO := Lib.hid (colour_any b w B C c hC)
  have HCZ := Lib.hid hC.1
  have HR := Lib.hid hR
  have HO := Lib.hid hO
  have hal : a ≤ (bitsOf low xs).length := by rw [bitsOf_length]; exact hR.2.2.1
  have hbig : 8 * xs.length ≤ 2000000000000000 := hR.2.2.2
  obtain ⟨L, hL⟩ : ∃ L, L = bitsOf low xs := ⟨_, rfl⟩
  have HL := Lib.hid hL
  have hLl : L.length ≤ 2000000000000000 := by rw [hL, bitsOf_length]; exact hbig
  rw [← hL] at hal ⊢
  obtain ⟨r, hr⟩ : ∃ r, r = lenZ b L most a 0 := ⟨_, rfl⟩
  rw [← hr]
  have HRES := Lib.hid hr.symm
  clear hC hO hR hL hr hbig
  go_enter Tryd.func99, Tryd.ntmps99
  go_wp2_with fail
  refine HCO.out.mono ?_
  rintro e w1 ⟨⟨g, rfl, hg⟩, rfl⟩
  have HG := Lib.hid hg
  clear hg
  go_wp2_with fail
  go_loopw [11, 12, 13] (fun s _ _ wr => ∃ (n t : Nat), s = .int .i64 (n : Int) ∧ t ≤ L.length ∧ n ≤ 2560 * t ∧ (n = 0 ∨ (n : Int) ≤ most) ∧ Hid (lenZ b L most t n = r) ∧ Hid (Rd wr gr p cap xs t low) ∧ Hid (Only (· = gr) w wr) ∧ Hid (wr.heap.size = w.heap.size)) (fun _ _ _ wr => L.length - rdAt gr wr)
  case atStart => exact ⟨0, a, rfl, hal, by omega, .inl rfl, HRES, HR, Lib.hid (Only.refl _ _), Lib.hid rfl⟩
  case round =>
    obtain ⟨n, t, rfl, ht, hn, hnm, HE, HRr, HON, HZ⟩ := hrel
    have HRT := Lib.hid (rdAt_of HRr.out)
    obtain ⟨B1, C1, hB1, hC1, hbo⟩ : BoI wr B C g (wordsF b) (ints (lensF 104)) := HG.out.same HON.out.2.2.2.1 fun k h1 h2 => HON.out.2.2.2.2 k (by have := HCZ.out; omega) (fun e => by rcases HO.out with h | h <;> omega)
    have HRD := Lib.hid (readI_out wr B1 C1 g (wordsF b) (ints (lensF 104)) gr p cap xs t low hbo (by rcases HO.out with h | h <;> omega) HRr.out (by rw [ints_length, lensF_length, wordsF_length]))
    have HQ := Lib.hid (lenZ_eq b L most t n ht)
    clear hbo hB1 hC1
    go_wp2_with fail
    refine HRD.out.mono ?_
    rintro e w2 ⟨hres, ho2, hz2⟩
    have HO2 := Lib.hid (HON.out.trans ho2)
    have HZ2 := Lib.hid (hz2.trans HZ.out)
    rw [← HL.out] at hres
    clear ho2 hz2
    rcases hres with ⟨i, k, v, hlk, hv, rfl, hr2⟩ | ⟨ce, k, hlk, rfl, hr2⟩
    · have hi : i < 104 := by have := look_ok _ _ hlk; rwa [wordsF_length] at this
      rw [lensF_get hi] at hv
      injection hv with hv
      subst hv
      have hle := lookP_le (wordsF b) (L.drop t) []
      rw [hlk, List.length_nil, List.length_drop] at hle
      have hk1 : 1 ≤ k := by
        rcases Nat.eq_zero_or_pos k with h0 | h0
        · exfalso
          by_cases hd : L.drop t = []
          · rw [hd] at hlk; cases hlk
          · have := hle.2.2 hd; simp only at this; omega
        · exact h0
      have hk2 : t + k ≤ L.length := by have := hle.2.1; simp only at this; omega
      have hq := HQ.out
      rw [hlk, HE.out] at hq
      simp only at hq
      have hp := lenF_le hi
      have hp2 := lenF_lt i
      generalize lenF i = pt at *
      have HR2 := Lib.hid hr2
      have HSUB : IntKind.i64.wrap (most - (n : Int)) = most - (n : Int) := by rw [IntKind.wrap_i64]; omega
      by_cases hbig : most < ((n + pt : Nat) : Int)
      · rw [if_pos hbig] at hq
        have HQ2 := Lib.hid hq
        have hd : decide (most - (n : Int) < (pt : Int)) = true := by simp; omega
        clear hlk hq hr2 hle hp2 hi hk1 hk2 hbig
        go_wp2_with fail
        go_ret2
        exact ⟨by rw [HQ2.out]; rfl, by rw [HQ2.out]; exact HR2.out, HO2.out, HZ2.out⟩
      · rw [if_neg hbig] at hq
        have hd : decide (most - (n : Int) < (pt : Int)) = false := by simp; omega
        by_cases hlt : i < 64
        · rw [if_pos hlt] at hq
          have HQ2 := Lib.hid hq
          have hd2 : decide ((pt : Int) < 64) = true := by simp; omega
          have HS2 : Hid ((n : Int) + (pt : Int) = ((n + pt : Nat) : Int)) := Lib.hid (by omega)
          clear hlk hq hr2 hle hp2 hi hk1 hk2 hbig hlt
          go_wp2_with fail
          go_ret2
          exact ⟨by rw [HQ2.out]; simp only [valR, errR]; rw [Int.sub_zero, ← HS2.out]; rfl, by rw [HQ2.out]; exact HR2.out, HO2.out, HZ2.out⟩
        · rw [if_neg hlt] at hq
          have HQ2 := Lib.hid hq
          have hd2 : decide ((pt : Int) < 64) = false := by simp; omega
          have HS2 : Hid ((n : Int) + (pt : Int) = ((n + pt : Nat) : Int)) := Lib.hid (by omega)
          have HBD : Hid (n + pt ≤ 2560 * (t + k) ∧ ((n + pt : Nat) : Int) ≤ most ∧ t + k ≤ L.length ∧ 1 ≤ k) := Lib.hid ⟨by omega, by omega, hk2, hk1⟩
          clear hlk hq hr2 hle hp2 hi hk1 hk2 hbig hlt
          go_wp2_with fail
          go_roundw
          case rel => exact ⟨n + pt, t + k, by rw [← HS2.out], HBD.out.2.2.1, HBD.out.1,   .inr HBD.out.2.1, Lib.hid HQ2.out.symm, HR2, HO2, HZ2⟩
          case measure => rw [HRT.out, rdAt_of HR2.out]; have := HBD.out.2.2; omega
    · have hce := look_err _ _ hlk
      have hq := HQ.out
      rw [hlk, HE.out] at hq
      have HQ2 := Lib.hid hq
      have HR2 := Lib.hid hr2
      have hcz : ((ce : Int) != 0) = true := by rcases hce with rfl | rfl <;> rfl
      clear hlk hce hq hr2
      go_wp2_with fail
      go_ret2
      exact ⟨by rw [HQ2.out]; rfl, by rw [HQ2.out]; exact HR2.out, HO2.out, HZ2.out⟩
theorem cread_nil (w : World) (r : Value) (n : Int) (b : Bool) : Calls Tryd.prog 99 #[.pointer none, r, .int .i64 n, .bool b] w fun e w' => e = .returned (.tuple #[.int .i64 0, .int .i64 1]) ∧ w = w' := by
  go_enter Tryd.func99, Tryd.ntmps99
  go_wp2_with fail
  go_ret2
  exact ⟨rfl, rfl⟩
theorem Cd.modesR {w : World} {B C c : Nat} (h : Cd w B C c) : ∃ g, w.cell? ⟨c, 2, none⟩ = some (.pointer (some ⟨g, 0, none⟩)) ∧ BoI w B C g modesF (ints (modesN 10)) := by
  obtain ⟨h1, h2, h3, g1, g2, g3, h4, h5, h6, h7⟩ := h
  exact ⟨g3, by simp [World.cell?, h4], h7⟩
theorem creadm_any (w : World) (B C c : Nat) (gr : Nat) (p : Option Addr) (cap : Nat) (xs : List UInt8) (a : Nat) (low : Bool) (hC : Cd w B C c) (hO : Out B C gr) (hR : Rd w gr p cap xs a low) :
    Calls Tryd.prog 83 #[.pointer (some ⟨c, 0, none⟩), .pointer (some ⟨gr, 0, none⟩)] w (CReadP w gr p cap xs low 3 (modeZ (bitsOf low xs) a)) := by
  obtain ⟨g, hc, B1, C1, hB1, hC1, hbo⟩ := hC.modesR
  have HRD := Lib.hid (mreadI_out w B1 C1 g modesF (ints (modesN 10)) gr p cap xs a low hbo (by rcases hO with h | h <;> omega) hR (by rw [ints_length, modesN_length, modesF_length]))
  obtain ⟨L, hL⟩ : ∃ L, L = bitsOf low xs := ⟨_, rfl⟩
  have HL := Lib.hid hL
  obtain ⟨r, hr⟩ : ∃ r, r = modeZ L a := ⟨_, rfl⟩
  rw [← hL, ← hr]
  have HRES := Lib.hid hr
  clear hC hO hR hL hr hbo hB1 hC1
  go_enter Tryd.func83, Tryd.ntmps83
  go_wp2_with fail
  refine HRD.out.mono ?_
  rintro e w2 ⟨hres, ho2, hz2⟩
  have HO2 := Lib.hid ho2
  have HZ2 := Lib.hid hz2
  rw [← HL.out] at hres
  clear ho2 hz2
  have hrq := HRES.out
  unfold modeZ at hrq
  rcases hres with ⟨i, k, v, hlk, hv, rfl, hr2⟩ | ⟨ce, k, hlk, rfl, hr2⟩
  · have hi : i < 10 := by have := look_ok _ _ hlk; rwa [modesF_length] at this
    rw [modesN_get hi] at hv
    injection hv with hv
    subst hv
    rw [hlk] at hrq
    simp only at hrq
    have HR2 := Lib.hid hr2
    obtain ⟨z, hz⟩ : ∃ z : Int, z = (i : Int) - 3 := ⟨_, rfl⟩
    rw [← hz]
    by_cases h9 : i = 9
    · rw [if_pos h9] at hrq
      have HQ := Lib.hid hrq
      have hd : (z == 6) = true := by simp; omega
      clear hlk hrq hr2 hz h9 hi
      go_wp2_with fail
      go_ret2
      exact ⟨by rw [HQ.out]; rfl, by rw [HQ.out]; exact HR2.out, HO2.out, HZ2.out⟩
    · rw [if_neg h9] at hrq
      have HQ := Lib.hid hrq
      have HZE := Lib.hid hz
      have hd : (z == 6) = false := by simp; omega
      clear hlk hrq hr2 hz h9 hi
      go_wp2_with fail
      go_ret2
      exact ⟨by rw [HQ.out, HZE.out]; rfl, by rw [HQ.out]; exact HR2.out, HO2.out, HZ2.out⟩
  · have hce := look_err _ _ hlk
    rw [hlk] at hrq
    have HQ := Lib.hid hrq
    have HR2 := Lib.hid hr2
    have hcz : ((ce : Int) != 0) = true := by rcases hce with rfl | rfl <;> rfl
    clear hlk hce hrq hr2
    go_wp2_with fail
    go_ret2
    exact ⟨by rw [HQ.out]; rfl, by rw [HQ.out]; exact HR2.out, HO2.out, HZ2.out⟩
theorem creadm_nil (w : World) (r : Value) : Calls Tryd.prog 83 #[.pointer none, r] w fun e w' => e = .returned (.tuple #[.int .i64 0, .int .i64 1]) ∧ w = w' := by
  go_enter Tryd.func83, Tryd.ntmps83
  go_wp2_with fail
  go_ret2
  exact ⟨rfl, rfl⟩
end Go.Proofs.YtmbfgejephgojaaDoor.Fx
/- The document's Split, Words, Modes and Length. -/
namespace Go.Proofs.YtmbfgejephgojaaDoor.Fx
open Go.RowKit Go.Proofs.YtmbfgejephgojaaDoor.Oct Go.Proofs.YtmbfgejephgojaaDoor.Bit Go.Proofs.YtmbfgejephgojaaDoor.Hf Go.Proofs.YtmbfgejephgojaaDoor.Inf
set_option linter.unusedVariables false
set_option linter.unusedSimpArgs false
set_option maxRecDepth 100000

/-- what stands between blanks -/
def splitB : List UInt8 → List UInt8 → List (List UInt8)
  | cur, [] => [cur]
  | cur, x :: r => if x = 32 then cur :: splitB [] r else splitB (cur ++ [x]) r
set_option maxHeartbeats 2000000 in
theorem rsplit_any (L : List UInt8) (w : World) (hL : L.length ≤ 5000) : Calls Tryd.prog 68 #[.string (bs L)] w (RowN w (strs (splitB [] L))) := by
  obtain ⟨i0, hi, hz0, hz1, hz2⟩ := info_parts Tryd.infoStr
  have hsz := bs_size L
  go_enter Tryd.func68, Tryd.ntmps68
  go_wp2_with fail
  go_loopw [3, 4, 5] (fun u s i wr => ∃ (k : Nat) (D : List (List UInt8)) (cur : List UInt8), k ≤ L.length ∧ i = .int .i64 (k : Int) ∧ s = .string (bs cur) ∧ cur.length ≤ k ∧ D.length ≤ k ∧ Hid (D ++ splitB cur (L.drop k) = splitB [] L) ∧ Hid (wr.ownsRow w.heap.size 9 1 u D.length (strs D)) ∧ Hid (Below w.heap.size w wr)) (fun _ _ i _ => L.length - (intOf i).toNat)
  case atStart => exact ⟨0, [], [], by omega, rfl, rfl, by simp, by simp, Lib.hid rfl, Lib.hid (by simpa [strs] using World.ownsRow_nil w w.heap.size 9 1), Lib.hid (Below.refl _ _)⟩
  case round =>
    obtain ⟨k, D, cur, hk, rfl, rfl, hcur, hD, HS, HO, HB⟩ := hrel
    by_cases hlt : k < L.length
    · obtain ⟨x, hx⟩ : ∃ x, x = L[k] := ⟨_, rfl⟩
      have hg : ∀ h, (bs L)[k]'h = x := fun h => (bs_get L k h hlt).trans hx.symm
      have hd : decide ((k : Int) < (L.length : Int)) = true := by simp; omega
      have hst := HS.out
      rw [List.drop_eq_getElem_cons hlt, ← hx, splitB] at hst
      have e1 := bs_extract L k (k + 1)
      rw [List.drop_eq_getElem_cons hlt, ← hx, show k + 1 - k = 1 by omega] at e1
      simp only [List.take_succ_cons, List.take_zero] at e1
      by_cases h32 : x = 32
      · rw [if_pos h32] at hst
        have hq : (((x.toNat : Nat) : Int) != 32) = false := by rw [h32]; rfl
        have HST : Hid ((D ++ [cur]) ++ splitB [] (L.drop (k + 1)) = splitB [] L) := Lib.hid (by rw [List.append_assoc]; exact hst)
        have hb1 : Below wr.heap.size wr (wr.alloc (.cells (strs [cur]).toArray 9)) := (Below.refl _ wr).alloc (Nat.le_refl _) _
        have HV := Lib.hid (vals_new wr (strs [cur]) 9 (0, 0))
        have HO2 := Lib.hid (own_below HO.out hb1)
        have HB2 := Lib.hid (HB.out.trans (hb1.mono HB.out.size))
        have HZ := Lib.hid HB2.out.size
        clear hb1 hst h32 e1 hx
        go_wp2_with (at_builtin; refine wpList_append_vals Tryd.underlying24 hi hz0 hz1 hz2 rfl (by decide) rfl _ _ rfl w.heap.size _ D.length (strs D) rfl HO2.out (some ⟨wr.heap.size, 0, none⟩) 1 1 (strs [cur]) rfl HV.out rfl (fun h => by cases h) strs_one (by omega) HZ.out ?_)
        intro v2 w2 hown2 _ hb3
        rw [← strs_append] at hown2
        have HO3 : Hid (w2.ownsRow w.heap.size 9 1 v2 (D ++ [cur]).length (strs (D ++ [cur]))) := Lib.hid (by rw [List.length_append]; exact hown2)
        have HB3 := Lib.hid (HB2.out.trans hb3)
        clear hown2 hb3
        go_wp2_with fail
        go_roundw
        case rel => exact ⟨k + 1, D ++ [cur], [], by omega, by go_num, rfl, by simp, by simp; omega, HST, HO3, HB3⟩
        case measure => simp [intOf]; omega
      · rw [if_neg h32] at hst
        have hq : (((x.toNat : Nat) : Int) != 32) = true := by
          simp
          intro e
          exact h32 (UInt8.toNat_inj.1 (by show x.toNat = 32; omega))
        have HST := Lib.hid hst
        have hcs := bs_size cur
        have h1s : (bs [x]).size = 1 := bs_size [x]
        have HAP := Lib.hid (bs_append cur [x])
        generalize hT : bs cur = T at *
        generalize hX : bs [x] = X at *
        have hk1 : (k : Int) + 1 ≤ (L.length : Int) := by omega
        have ht1 : ((k : Int) + 1).toNat = k + 1 := by omega
        have h0 : 0 ≤ (k : Int) := by omega
        clear hst h32 hx hT hX
        go_wp2_with fail
        go_roundw
        case rel => exact ⟨k + 1, D, cur ++ [x], by omega, by go_num, by rw [← HAP.out], by simp; omega, by omega, HST, HO, HB⟩
        case measure => simp [intOf]; omega
    · have hke : k = L.length := by omega
      have hd : decide ((k : Int) < (L.length : Int)) = false := by simp; omega
      have hst := HS.out
      rw [hke, List.drop_length, splitB] at hst
      have HST := Lib.hid hst
      have hb1 : Below wr.heap.size wr (wr.alloc (.cells (strs [cur]).toArray 9)) := (Below.refl _ wr).alloc (Nat.le_refl _) _
      have HV := Lib.hid (vals_new wr (strs [cur]) 9 (0, 0))
      have HO2 := Lib.hid (own_below HO.out hb1)
      have HB2 := Lib.hid (HB.out.trans (hb1.mono HB.out.size))
      have HZ := Lib.hid HB2.out.size
      clear hb1 hst hke
      go_wp2_with (at_builtin; refine wpList_append_vals Tryd.underlying24 hi hz0 hz1 hz2 rfl (by decide) rfl _ _ rfl w.heap.size _ D.length (strs D) rfl HO2.out (some ⟨wr.heap.size, 0, none⟩) 1 1 (strs [cur]) rfl HV.out rfl (fun h => by cases h) strs_one (by omega) HZ.out ?_)
      intro v2 w2 hown2 _ hb3
      rw [← strs_append, HST.out] at hown2
      have hll : (splitB [] L).length = D.length + 1 := by rw [← HST.out, List.length_append]; rfl
      obtain ⟨q, c, rfl, hq0, hlc, hcm, hv, hqb⟩ := vrow_own hown2 (by rw [strs_length]; exact hll)
      have HNV : Hid (NewV w (strs (splitB [] L)) q c w2) := Lib.hid ⟨hv, hq0, by rw [strs_length, hll]; exact hlc, hcm, hqb⟩
      have HB3 := Lib.hid (HB2.out.trans hb3)
      have HLL := Lib.hid hll
      clear hown2 hb3 hll hq0 hlc hcm hv hqb
      go_wp2_with fail
      go_ret
      exact ⟨HB3.out, q, c, by rw [strs_length, HLL.out]; rfl, HNV.out⟩
theorem rsplit_is (W : List (List Bool)) (s : ByteArray) (w : World) (hk : splitB [] s.data.toList = wordsU W) (hs : decide (s.data.toList.length ≤ 5000) = true) : Calls Tryd.prog 68 #[.string s] w (RowN w (strs (wordsU W))) := by
  have h := rsplit_any s.data.toList w (of_decide_eq_true hs)
  rw [hk, ← bs_of] at h
  exact h
theorem rwords_any (b : Bool) (w : World) : Calls Tryd.prog 49 #[.bool b] w (RowN w (strs (wordsU (wordsF b)))) := by
  go_enter Tryd.func49, Tryd.ntmps49
  cases b
  · go_wp2_with fail
    refine (rsplit_is (wordsF false) _ w (by kernel_rfl) (by kernel_rfl)).mono ?_
    rintro e w1 ⟨hb1, q, c, rfl, hv⟩
    have HB1 := Lib.hid hb1
    have HV := Lib.hid hv
    clear hb1 hv
    go_wp2_with fail
    go_ret
    exact ⟨HB1.out, q, c, rfl, HV.out⟩
  · go_wp2_with fail
    refine (rsplit_is (wordsF true) _ w (by kernel_rfl) (by kernel_rfl)).mono ?_
    rintro e w1 ⟨hb1, q, c, rfl, hv⟩
    have HB1 := Lib.hid hb1
    have HV := Lib.hid hv
    clear hb1 hv
    go_wp2_with fail
    go_ret
    exact ⟨HB1.out, q, c, rfl, HV.out⟩
theorem rmodes_any (w : World) : Calls Tryd.prog 42 #[] w (RowN w (strs (wordsU modesF))) := by
  go_enter Tryd.func42, Tryd.ntmps42
  go_wp2_with fail
  refine (rsplit_is modesF _ w (by kernel_rfl) (by kernel_rfl)).mono ?_
  rintro e w1 ⟨hb1, q, c, rfl, hv⟩
  have HB1 := Lib.hid hb1
  have HV := Lib.hid hv
  clear hb1 hv
  go_wp2_with fail
  go_ret
  exact ⟨HB1.out, q, c, rfl, HV.out⟩
theorem rlength_any (i : Nat) (hi : i < 104) (w : World) : Calls Tryd.prog 74 #[.int .i64 (i : Int)] w fun e w' => e = .returned (.int .i64 ((lenF i : Nat) : Int)) ∧ w = w' := by
  unfold lenF
  by_cases h : i < 64
  · have hd : decide ((i : Int) < (64 : Int)) = true := by simp; omega
    rw [if_pos h]
    clear h
    go_enter Tryd.func74, Tryd.ntmps74
    go_wp2_with fail
    go_ret
    exact ⟨rfl, rfl⟩
  · have hd : decide ((i : Int) < (64 : Int)) = false := by simp; omega
    rw [if_neg h, show ((64 * (i - 63) : Nat) : Int) = 64 * ((i : Int) - 63) by omega]
    clear h
    go_enter Tryd.func74, Tryd.ntmps74
    go_wp2_with fail
    go_ret
    exact ⟨rfl, rfl⟩
end Go.Proofs.YtmbfgejephgojaaDoor.Fx
/- The document's Tell, Read and ReadMode. -/
namespace Go.Proofs.YtmbfgejephgojaaDoor.Fx
open Go.RowKit Go.Proofs.YtmbfgejephgojaaDoor.Oct Go.Proofs.YtmbfgejephgojaaDoor.Bit Go.Proofs.YtmbfgejephgojaaDoor.Hf Go.Proofs.YtmbfgejephgojaaDoor.Inf
set_option linter.unusedVariables false
set_option linter.unusedSimpArgs false
set_option maxRecDepth 100000

set_option maxHeartbeats 2000000 in
theorem rtell_any (n : Nat) (b : Bool) (w : World) (hn : n ≤ 32768) : Calls Tryd.prog 43 #[.int .i64 (n : Int), .bool b] w fun e w' => e = .returned (.string (ds (tellF b n))) ∧ Below w.heap.size w w' := by
  have HTL := Lib.hid (tell_len b hn)
  go_enter Tryd.func43, Tryd.ntmps43
  go_wp2_with fail
  refine (rwords_any b w).mono ?_
  rintro e w1 ⟨hb1, q, c, rfl, hv⟩
  obtain ⟨bb, off, rfl, _⟩ := hv.1.addr (by rw [strs_length, wordsU_length, wordsF_length]; omega)
  have HCE : Hid (∀ i, i < 104 → w1.cell? ⟨bb, off + i, none⟩ = some (.string (ds ((wordsF b).getD i [])))) := Lib.hid fun i hi => strs_word hv.1 (by rw [wordsF_length]; exact hi)
  have HB1 := Lib.hid hb1
  rw [strs_length, wordsU_length, wordsF_length]
  clear hb1 hv
  go_wp2_with fail
  go_loop [0, 6] (fun i s => ∃ (m : Nat) (d : List Bool), m ≤ n ∧ i = .int .i64 (m : Int) ∧ s = .string (ds d) ∧ Hid (d ++ tellF b m = tellF b n)) (fun i _ => (intOf i).toNat)
  case atStart => exact ⟨n, [], by omega, rfl, rfl, Lib.hid rfl⟩
  case round =>
    obtain ⟨m, d, hm, rfl, rfl, HT⟩ := hrel
    have hdl : d.length ≤ 200 := by
      have := congrArg List.length HT.out
      rw [List.length_append] at this
      have := HTL.out
      omega
    have hds := ds_size d
    by_cases hbig : 2560 ≤ m
    · have hd : decide ((2560 : Int) ≤ (m : Int)) = true := by simp; omega
      have hc := HCE.out 103 (by decide)
      have hx := ds_size ((wordsF b).getD 103 [])
      have hxl := (word_len b (i := 103) (by decide)).2
      have HAP := Lib.hid (ds_append d ((wordsF b).getD 103 []))
      have HT2 : Hid ((d ++ (wordsF b).getD 103 []) ++ tellF b (m - 2560) = tellF b n) := Lib.hid (by rw [List.append_assoc, ← tell_big b hbig]; exact HT.out)
      generalize hX : ds ((wordsF b).getD 103 []) = X at *
      generalize hD : ds d = T at *
      clear hX hD
      go_wp2_with fail
      go_round
      case rel => exact ⟨m - 2560, _, by omega, by congr 1; omega, by rw [HAP.out], HT2⟩
      case measure => simp [intOf]; omega
    · have hd : decide ((2560 : Int) ≤ (m : Int)) = false := by simp; omega
      by_cases h64 : 64 ≤ m
      · have hd2 : decide ((64 : Int) ≤ (m : Int)) = true := by simp; omega
        have e1 : (m : Int) / 64 = ((m / 64 : Nat) : Int) := by omega
        have e2 : (m : Int) % 64 = ((m % 64 : Nat) : Int) := by omega
        have hc := HCE.out (63 + m / 64) (by omega)
        have hc2 := HCE.out (m % 64) (by omega)
        have hx := ds_size ((wordsF b).getD (63 + m / 64) [])
        have hxl := (word_len b (i := 63 + m / 64) (by omega)).2
        have hy := ds_size ((wordsF b).getD (m % 64) [])
        have hyl := (word_len b (i := m % 64) (by omega)).2
        have HRS : Hid (ds d ++ ds ((wordsF b).getD (63 + m / 64) []) ++ ds ((wordsF b).getD (m % 64) []) = ds (tellF b n)) := Lib.hid (by
          rw [ds_append, ds_append, List.append_assoc, ← tell_last b (Nat.mod_lt _ (by decide)), ← tell_mid b h64 (by omega), HT.out])
        have e3 : m / 64 < 40 := by omega
        have e4 : m % 64 < 64 := by omega
        have e5 : (63 : Int) + ((m / 64 : Nat) : Int) = ((63 + m / 64 : Nat) : Int) := by omega
        have e6 : 63 + m / 64 < 104 := by omega
        generalize hk : 63 + m / 64 = k at *
        generalize m / 64 = u at *
        generalize m % 64 = r at *
        generalize hX : ds ((wordsF b).getD k []) = X at *
        generalize hY : ds ((wordsF b).getD r []) = Y at *
        generalize hD : ds d = T at *
        have hTX : (T ++ X).size = T.size + X.size := ByteArray.size_append
        have hT2 : (T ++ X).size ≤ 213 := by omega
        have hY2 : Y.size ≤ 13 := by omega
        have hX2 : X.size ≤ 13 := by omega
        have hT3 : T.size ≤ 200 := by omega
        clear hTX hx hy hds hxl hyl
        have i1 : (0 : Int) ≤ (k : Int) := by omega
        have i2 : (k : Int) < 104 := by omega
        have i3 : (0 : Int) ≤ (r : Int) := by omega
        have i4 : (r : Int) < 104 := by omega
        clear hX hY hD HCE hk
        go_wp2_with fail
        go_ret
        exact ⟨by rw [← HRS.out]; rfl, HB1.out⟩
      · have hd2 : decide ((64 : Int) ≤ (m : Int)) = false := by simp; omega
        have hc2 := HCE.out m (by omega)
        have hy := ds_size ((wordsF b).getD m [])
        have hyl := (word_len b (i := m) (by omega)).2
        have HRS : Hid (ds d ++ ds ((wordsF b).getD m []) = ds (tellF b n)) := Lib.hid (by
          rw [ds_append, ← tell_last b (by omega), HT.out])
        generalize hY : ds ((wordsF b).getD m []) = Y at *
        generalize hD : ds d = T at *
        have i3 : (0 : Int) ≤ (m : Int) := by omega
        have i4 : (m : Int) < 104 := by omega
        clear hY hD HCE
        go_wp2_with fail
        go_ret
        exact ⟨by rw [← HRS.out]; rfl, HB1.out⟩
def RReadP (k : Int) (r : Nat × Except Nat Nat) (e : Ending) : Prop := e = .returned (.tuple #[.int .i64 (valR k r.2), .int .i64 ((r.1 : Nat) : Int), .int .i64 (errR r.2)])
set_option maxHeartbeats 2000000 in
theorem rread_all (q : Option Addr) (cap : Nat) (b : Bool) (l : List Bool) (a : Nat) (most : Int) (w : World) (hv : VRow w w.heap.size q (strs (wordsU (wordsF b)))) (ha : a ≤ l.length) (hl : l.length ≤ 100000) :
    Calls Tryd.prog 52 #[.string (ds l), .int .i64 (a : Int), .int .i64 most, .slice q 104 cap] w fun e w' => RReadP 0 (lenZ b l most a 0) e ∧ w = w' := by
  have HV := Lib.hid hv
  obtain ⟨r, hr⟩ : ∃ r, r = lenZ b l most a 0 := ⟨_, rfl⟩
  rw [← hr]
  have HRES := Lib.hid hr.symm
  clear hr hv
  go_enter Tryd.func52, Tryd.ntmps52
  go_wp2_with fail
  go_loop [1, 11, 12, 13, 14] (fun s u _ _ _ => ∃ (n t : Nat), s = .int .i64 (t : Int) ∧ u = .int .i64 (n : Int) ∧ t ≤ l.length ∧ n ≤ 2560 * t ∧ Hid (lenZ b l most t n = r)) (fun s _ _ _ _ => l.length - (intOf s).toNat)
  case atStart => exact ⟨0, a, rfl, rfl, ha, by omega, HRES⟩
  case round =>
    obtain ⟨n, t, rfl, rfl, ht, hn, HE⟩ := hrel
    have HRD := Lib.hid (rread6_pos q 104 cap (wordsF b) l t w HV.out (wordsF_length b) (by omega) (by omega) (fun m hm => by have := (words_len b m hm).2; omega) ht hl)
    have HQ := Lib.hid (lenZ_eq b l most t n ht)
    go_wp2_with fail
    refine HRD.out.mono ?_
    rintro e w2 ⟨hres, rfl⟩
    rcases hres with ⟨i, k, bp, hlk, rfl, rfl⟩ | ⟨ce, k, bp, hlk, hce, rfl, rfl⟩
    · have hi : i < 104 := by have := look_ok _ _ hlk; rwa [wordsF_length] at this
      have hle := lookP_le (wordsF b) (l.drop t) []
      rw [hlk, List.length_nil, List.length_drop] at hle
      have hk1 : 1 ≤ k := by
        rcases Nat.eq_zero_or_pos k with h0 | h0
        · exfalso
          by_cases hd : l.drop t = []
          · rw [hd] at hlk; cases hlk
          · have := hle.2.2 hd; simp only at this; omega
        · exact h0
      have hk2 : t + k ≤ l.length := by have := hle.2.1; simp only at this; omega
      have hq := HQ.out
      rw [hlk, HE.out] at hq
      simp only at hq
      have HLN := Lib.hid (rlength_any i hi w)
      have hp := lenF_le hi
      generalize lenF i = pt at *
      generalize htk : t + k = tk at *
      have hS : (n : Int) + (pt : Int) = ((n + pt : Nat) : Int) := by omega
      by_cases hbig : most < ((n + pt : Nat) : Int)
      · rw [if_pos hbig] at hq
        have HQ2 := Lib.hid hq
        have hd : decide (most < (n : Int) + (pt : Int)) = true := by simp; omega
        clear hlk hq hle hk1 hbig hS
        go_wp2_with fail
        refine HLN.out.mono ?_
        rintro e w3 ⟨rfl, rfl⟩
        go_wp2_with fail
        go_ret3
        exact ⟨by unfold RReadP; rw [HQ2.out]; rfl, rfl⟩
      · rw [if_neg hbig] at hq
        have hd : decide (most < (n : Int) + (pt : Int)) = false := by simp; omega
        by_cases hlt : i < 64
        · rw [if_pos hlt] at hq
          have HQ2 := Lib.hid hq
          have hd2 : decide ((i : Int) < 64) = true := by simp; omega
          have HS := Lib.hid hS
          clear hlk hq hle hk1 hbig hS hlt hi
          go_wp2_with fail
          refine HLN.out.mono ?_
          rintro e w3 ⟨rfl, rfl⟩
          go_wp2_with fail
          go_ret3
          exact ⟨by unfold RReadP; rw [HQ2.out]; simp only [valR, errR]; rw [Int.sub_zero, ← HS.out]; rfl, rfl⟩
        · rw [if_neg hlt] at hq
          have HQ2 := Lib.hid hq.symm
          have hd2 : decide ((i : Int) < 64) = false := by simp; omega
          have HS := Lib.hid hS
          have HBD : Hid (n + pt ≤ 2560 * tk ∧ tk ≤ l.length ∧ t < tk) := Lib.hid ⟨by omega, by omega, by omega⟩
          clear hlk hq hle hk1 hbig hS hlt hi htk
          go_wp2_with fail
          refine HLN.out.mono ?_
          rintro e w3 ⟨rfl, rfl⟩
          go_wp2_with fail
          go_round
          case rel => exact ⟨n + pt, tk, rfl, by rw [← HS.out], HBD.out.2.1, HBD.out.1, HQ2⟩
          case measure => simp [intOf]; have := HBD.out; omega
    · have hq := HQ.out
      rw [hlk, HE.out] at hq
      have HQ2 := Lib.hid hq
      have hcz : ((ce : Int) != 0) = true := by rcases hce with rfl | rfl <;> rfl
      generalize t + k = tk at *
      clear hlk hce hq
      go_wp2_with fail
      go_ret3
      exact ⟨by unfold RReadP; rw [HQ2.out]; rfl, rfl⟩
set_option maxHeartbeats 2000000 in
theorem rreadm_all (l : List Bool) (a : Nat) (w : World) (ha : a ≤ l.length) (hl : l.length ≤ 100000) :
    Calls Tryd.prog 50 #[.string (ds l), .int .i64 (a : Int)] w fun e w' => RReadP 3 (modeZ l a) e ∧ Below w.heap.size w w' := by
  obtain ⟨r, hr⟩ : ∃ r, r = modeZ l a := ⟨_, rfl⟩
  rw [← hr]
  have HRES := Lib.hid hr
  clear hr
  go_enter Tryd.func50, Tryd.ntmps50
  go_wp2_with fail
  refine (rmodes_any w).mono ?_
  rintro e w1 ⟨hb1, q, c, rfl, hv⟩
  rw [strs_length, wordsU_length, modesF_length]
  have HB1 := Lib.hid hb1
  have HRD := Lib.hid (rread6_pos q 10 c modesF l a w1 hv.1 modesF_length (by omega) (by omega) (fun m hm => by have := (modes_len m hm).2; omega) ha hl)
  clear hb1 hv
  go_wp2_with fail
  refine HRD.out.mono ?_
  rintro e w2 ⟨hres, rfl⟩
  have hrq := HRES.out
  unfold modeZ at hrq
  rcases hres with ⟨i, k, bp, hlk, rfl, rfl⟩ | ⟨ce, k, bp, hlk, hce, rfl, rfl⟩
  · have hi : i < 10 := by have := look_ok _ _ hlk; rwa [modesF_length] at this
    rw [hlk] at hrq
    simp only at hrq
    generalize a + k = tk at *
    by_cases h9 : i = 9
    · rw [if_pos h9] at hrq
      have HQ := Lib.hid hrq
      have hd : ((i : Int) == 9) = true := by simp; omega
      clear hlk hrq h9 hi
      go_wp2_with fail
      go_ret3
      exact ⟨by unfold RReadP; rw [HQ.out]; rfl, HB1.out⟩
    · rw [if_neg h9] at hrq
      have HQ := Lib.hid hrq
      have hd : ((i : Int) == 9) = false := by simp; omega
      clear hlk hrq h9
      go_wp2_with fail
      go_ret3
      exact ⟨by unfold RReadP; rw [HQ.out]; rfl, HB1.out⟩
  · rw [hlk] at hrq
    have HQ := Lib.hid hrq
    have hcz : ((ce : Int) != 0) = true := by rcases hce with rfl | rfl <;> rfl
    generalize a + k = tk at *
    clear hlk hce hrq
    go_wp2_with fail
    go_ret3
    exact ⟨by unfold RReadP; rw [HQ.out]; rfl, HB1.out⟩
end Go.Proofs.YtmbfgejephgojaaDoor.Fx

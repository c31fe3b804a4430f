
/- The contracts of Write and WriteMode: lengths and modes told. -/
import Derived.Test.YtmbfgejephgojaaGreatDoorFyE
import Derived.Lib.MinMax
namespace Go.Proofs.YtmbfgejephgojaaGreatDoor.Fx
open Go.RowKit Go.Proofs.YtmbfgejephgojaaGreatDoor.Oct Go.Proofs.YtmbfgejephgojaaGreatDoor.Bit Go.Proofs.YtmbfgejephgojaaGreatDoor.Hf Go.Proofs.YtmbfgejephgojaaGreatDoor.Inf
set_option linter.unusedVariables false
set_option linter.unusedSimpArgs false
set_option maxRecDepth 100000

theorem tell_last (b : Bool) {m : Nat} (h : m < 64) : tellF b m = (wordsF b).getD m [] := by
  unfold tellF
  rw [Nat.div_eq_of_lt (by omega), Nat.mod_eq_of_lt (by omega : m < 2560), if_pos h, Nat.mod_eq_of_lt h]
  rfl
theorem tell_mid (b : Bool) {m : Nat} (h : 64 ≤ m) (h2 : m < 2560) : tellF b m = (wordsF b).getD (63 + m / 64) [] ++ tellF b (m % 64) := by
  rw [tell_last b (Nat.mod_lt _ (by decide))]
  unfold tellF
  rw [Nat.div_eq_of_lt h2, Nat.mod_eq_of_lt h2, if_neg (by omega)]
  rfl
theorem tell_big (b : Bool) {m : Nat} (h : 2560 ≤ m) : tellF b m = (wordsF b).getD 103 [] ++ tellF b (m - 2560) := by
  have e1 : m / 2560 = (m - 2560) / 2560 + 1 := by omega
  have e2 : m % 2560 = (m - 2560) % 2560 := by omega
  have e3 : m % 64 = (m - 2560) % 64 := by omega
  unfold tellF
  rw [e1, e2, e3, List.replicate_succ, List.flatten_cons, List.append_assoc]
theorem wordsF_some (b : Bool) {i : Nat} (h : i < 104) : (wordsU (wordsF b))[i]? = some (((wordsF b).getD i []).map dig) := by
  rw [wordsU_get, List.getD_eq_getElem?_getD]
  obtain ⟨x, hx⟩ : ∃ x, (wordsF b)[i]? = some x := ⟨_, List.getElem?_eq_getElem (by rw [wordsF_length]; exact h)⟩
  rw [hx]
  rfl
theorem modesF_some {i : Nat} (h : i < 10) : (wordsU modesF)[i]? = some ((modesF.getD i []).map dig) := by
  rw [wordsU_get, List.getD_eq_getElem?_getD]
  obtain ⟨x, hx⟩ : ∃ x, modesF[i]? = some x := ⟨_, List.getElem?_eq_getElem (by rw [modesF_length]; exact h)⟩
  rw [hx]
  rfl
theorem word_len (b : Bool) {i : Nat} (h : i < 104) : 2 ≤ ((wordsF b).getD i []).length ∧ ((wordsF b).getD i []).length ≤ 13 := by
  rw [List.getD_eq_getElem?_getD]
  obtain ⟨x, hx⟩ : ∃ x, (wordsF b)[i]? = some x := ⟨_, List.getElem?_eq_getElem (by rw [wordsF_length]; exact h)⟩
  rw [hx]
  exact words_len b x (List.mem_of_getElem? hx)
theorem mode_len {i : Nat} (h : i < 10) : 1 ≤ (modesF.getD i []).length ∧ (modesF.getD i []).length ≤ 7 := by
  rw [List.getD_eq_getElem?_getD]
  obtain ⟨x, hx⟩ : ∃ x, modesF[i]? = some x := ⟨_, List.getElem?_eq_getElem (by rw [modesF_length]; exact h)⟩
  rw [hx]
  exact modes_len x (List.mem_of_getElem? hx)
theorem not_nil {m : List Bool} (h : 1 ≤ m.length) : m ≠ [] := fun e => by rw [e] at h; simp at h
/-- one word of a colour's book written -/
theorem wordW (w : World) (B C g : Nat) (b : Bool) (gw : Nat) (v : Value) (l : List Bool) (low : Bool) (i : Nat) (hB : BoI w B C g (wordsF b) (ints (lensF 104))) (hi : i < 104) (hW : Ws w gw v l low) (hl : l.length ≤ 1900000) :
    Calls Tryz.prog 81 #[.pointer (some ⟨g, 0, none⟩), .pointer (some ⟨gw, 0, none⟩), .int .i64 (i : Int)] w (WriteP w gw v l ((wordsF b).getD i []) low) := by
  obtain ⟨C1, hk⟩ := hB.bk
  have h13 := word_len b hi
  exact bwrite_in w C1 g _ _ gw v l _ low i hk (wordsF_some b hi) (not_nil (by omega)) hW (by omega)
/-- a writer's own blocks lie outside these -/
def OutW (B C gw : Nat) (v : Value) : Prop := ∀ k, Mine gw v k → Out B C k
def WrP (w : World) (gw : Nat) (v : Value) (l m : List Bool) (low : Bool) (e : Ending) (w' : World) : Prop := e = .returned (.int .i64 0) ∧ WsT w gw v (l ++ m) low w'
/-- the part that is told next, and where its word is -/
theorem tell_part (b : Bool) {m : Nat} (h : 64 ≤ m) : ∃ p i : Nat, min ((m : Int) - ((m % 64 : Nat) : Int)) 2560 = (p : Int) ∧ (if p < 64 then p else 63 + p / 64) = i ∧ i < 104 ∧ tellF b m = (wordsF b).getD i [] ++ tellF b (m - p) ∧ 64 ≤ p ∧ p ≤ m ∧ p ≤ 2560 := by
  by_cases h2 : m < 2560
  · refine ⟨m - m % 64, 63 + m / 64, by omega, by rw [if_neg (by omega)]; omega, by omega, ?_, by omega, by omega, by omega⟩
    rw [show m - (m - m % 64) = m % 64 by omega]
    exact tell_mid b h h2
  · exact ⟨2560, 103, by omega, rfl, by decide, tell_big b (by omega), by omega, by omega, by omega⟩
theorem flat_len {α : Type} (x : List α) : ∀ k : Nat, (List.replicate k x).flatten.length = k * x.length
  | 0 => by simp
  | k + 1 => by rw [List.replicate_succ, List.flatten_cons, List.length_append, flat_len x k, Nat.succ_mul, Nat.add_comm]
theorem tell_len (b : Bool) {n : Nat} (h : n ≤ 32768) : (tellF b n).length ≤ 200 := by
  unfold tellF
  rw [List.length_append, List.length_append, flat_len]
  have h1 := (word_len b (i := 103) (by decide)).2
  have h2 := (word_len b (i := n % 64) (by omega)).2
  have h3 : (if n % 2560 < 64 then [] else (wordsF b).getD (63 + n % 2560 / 64) []).length ≤ 13 := by
    split
    · simp
    · exact (word_len b (by omega)).2
  have h4 : n / 2560 * ((wordsF b).getD 103 []).length ≤ 12 * 13 := Nat.mul_le_mul (by omega) h1
  omega
set_option maxHeartbeats 2000000 in
theorem cwrite_any (w : World) (B C c : Nat) (gw : Nat) (v : Value) (l : List Bool) (low : Bool) (n : Nat) (b : Bool) (hC : Cd w B C c) (hW : Ws w gw v l low) (hO : OutW B C gw v) (hn : n ≤ 32768) (hl : l.length ≤ 1800000) :
    Calls Tryz.prog 62 #[.pointer (some ⟨c, 0, none⟩), .pointer (some ⟨gw, 0, none⟩), .int .i64 (n : Int), .bool b] w (WrP w gw v l (tellF b n) low) := by
  have HCO := Lib.hid (colour_any b w B C c hC)
  have HCZ := Lib.hid hC.1
  have HW := Lib.hid hW
  have HO := Lib.hid hO
  have HTL := Lib.hid (tell_len b hn)
  have d1 : decide ((n : Int) < 0) = false := by simp
  have d2 : decide ((32768 : Int) < (n : Int)) = false := by simp; omega
  clear hC hW hO
  go_enter Tryz.func62, Tryz.ntmps62
  go_wp2_with fail
  refine HCO.out.mono ?_
  rintro e w1 ⟨⟨g, rfl, hg⟩, rfl⟩
  have HG := Lib.hid hg
  clear hg d1 d2
  go_wp2_with fail
  go_loopw [2, 10, 11] (fun s _ _ wr => ∃ (m : Nat) (d : List Bool) (v' : Value), m ≤ n ∧ s = .int .i64 (m : Int) ∧ Hid (d ++ tellF b m = tellF b n) ∧ Hid (Ws wr gw v' (l ++ d) low) ∧ Hid (Only (Mine gw v) w wr) ∧ Hid (∀ k, v'.ownBlock = some k → v.ownBlock = some k ∨ w.heap.size ≤ k)) (fun s _ _ _ => (intOf s).toNat)
  case atStart => exact ⟨n, [], v, by omega, rfl, Lib.hid rfl, Lib.hid (by rw [List.append_nil]; exact HW.out), Lib.hid (Only.refl _ _), Lib.hid (fun _ h => .inl h)⟩
  case round =>
    obtain ⟨m, d, v', hm, rfl, HT, HWR, HON, HOV⟩ := hrel
    have hdl : d.length ≤ 200 := by
      have := congrArg List.length HT.out
      rw [List.length_append] at this
      have := HTL.out
      omega
    have hll : (l ++ d).length ≤ 1900000 := by rw [List.length_append]; omega
    have HGr : Hid (BoI wr B C g (wordsF b) (ints (lensF 104))) := Lib.hid (HG.out.same HON.out.2.2.2.1 fun k h1 h2 => HON.out.2.2.2.2 k (by have := HCZ.out; omega) (fun e => by rcases HO.out k e with h | h <;> omega))
    by_cases h64 : 64 ≤ m
    · obtain ⟨p, i, hp, hi, hi2, ht, hp1, hp2, hp3⟩ := tell_part b h64
      have HI := Lib.hid (index_any p hp3)
      rw [hi] at HI
      have HWW := Lib.hid (wordW wr B C g b gw v' (l ++ d) low i HGr.out hi2 HWR.out hll)
      have HT2 : Hid ((d ++ (wordsF b).getD i []) ++ tellF b (m - p) = tellF b n) := Lib.hid (by rw [List.append_assoc, ← ht]; exact HT.out)
      have hd : decide ((64 : Int) ≤ (m : Int)) = true := by simp; omega
      have e1 : (m : Int) % 64 = ((m % 64 : Nat) : Int) := by omega
      have e2 : m % 64 < 64 := Nat.mod_lt _ (by decide)
      have HP := Lib.hid hp
      generalize m % 64 = r at *
      have HM2 : Hid ((m : Int) - (p : Int) = ((m - p : Nat) : Int)) := Lib.hid (by omega)
      clear hp hi ht HTL
      go_wp2_with fail
      rw [HP.out]
      refine (HI.out wr).mono ?_
      rintro e w2 ⟨rfl, rfl⟩
      go_wp2_with fail
      refine HWW.out.mono ?_
      rintro e w3 ⟨rfl, v2, hW2, hO2, hV2⟩
      have HW2 := Lib.hid hW2
      have HO2 : Hid (Only (Mine gw v) w w3) := Lib.hid (by
        have hz := HON.out.2.2.2.1
        refine ⟨hO2.1.trans HON.out.1, hO2.2.1.trans HON.out.2.1, hO2.2.2.1.trans HON.out.2.2.1, Nat.le_trans hz hO2.2.2.2.1, fun k hk hn => (hO2.2.2.2.2 k (by omega) (fun hm => hn ?_)).trans (HON.out.2.2.2.2 k hk hn)⟩
        rcases hm with h | h
        · exact .inl h
        · rcases HOV.out k h with h | h
          · exact .inr h
          · omega)
      have HV2 : Hid (∀ k, v2.ownBlock = some k → v.ownBlock = some k ∨ w.heap.size ≤ k) := Lib.hid fun k hk => by
        have hz := HON.out.2.2.2.1
        rcases hV2 k hk with h | h
        · exact HOV.out k h
        · exact .inr (by omega)
      clear hW2 hO2 hV2
      go_wp2_with fail
      go_roundw
      case rel => exact ⟨m - p, _, v2, by omega, by rw [← HM2.out], HT2, Lib.hid (by have := HW2.out; rwa [List.append_assoc] at this), HO2, HV2⟩
      case measure => simp [intOf]; omega
    · have hd : decide ((64 : Int) ≤ (m : Int)) = false := by simp; omega
      have HI := Lib.hid (index_any m (by omega) wr)
      rw [if_pos (by omega)] at HI
      have HWW := Lib.hid (wordW wr B C g b gw v' (l ++ d) low m HGr.out (by omega) HWR.out hll)
      have HT2 : Hid (d ++ (wordsF b).getD m [] = tellF b n) := Lib.hid (by rw [← tell_last b (by omega)]; exact HT.out)
      clear HTL
      go_wp2_with fail
      refine HI.out.mono ?_
      rintro e w2 ⟨rfl, rfl⟩
      go_wp2_with fail
      refine HWW.out.mono ?_
      rintro e w3 ⟨rfl, hws⟩
      have HWS : Hid (WsT w gw v (l ++ tellF b n) low w3) := Lib.hid (by
        have h2 := WrT.more HON.out HOV.out hws
        rw [List.append_assoc, HT2.out] at h2
        exact h2)
      clear hws
      go_wp2_with fail
      go_ret
      exact ⟨rfl, HWS.out⟩
/-- a length that can't be told -/
theorem cwrite_bad (w : World) (c : Nat) (r : Value) (n : Int) (b : Bool) (hn : n < 0 ∨ 32768 < n) :
    Calls Tryz.prog 62 #[.pointer (some ⟨c, 0, none⟩), r, .int .i64 n, .bool b] w fun e w' => e = .returned (.int .i64 1) ∧ w = w' := by
  by_cases h0 : n < 0
  · have d1 : decide (n < 0) = true := by simpa using h0
    clear hn h0
    go_enter Tryz.func62, Tryz.ntmps62
    go_wp2_with fail
    go_ret
    exact ⟨rfl, rfl⟩
  · have d1 : decide (n < 0) = false := by simpa using h0
    have d2 : decide ((32768 : Int) < n) = true := by simp; omega
    clear hn h0
    go_enter Tryz.func62, Tryz.ntmps62
    go_wp2_with fail
    go_ret
    exact ⟨rfl, rfl⟩
theorem cwrite_nil (w : World) (r : Value) (n : Int) (b : Bool) : Calls Tryz.prog 62 #[.pointer none, r, .int .i64 n, .bool b] w fun e w' => e = .returned (.int .i64 1) ∧ w = w' := by
  go_enter Tryz.func62, Tryz.ntmps62
  go_wp2_with fail
  go_ret
  exact ⟨rfl, rfl⟩
theorem modeW (w : World) (B C g : Nat) (gw : Nat) (v : Value) (l : List Bool) (low : Bool) (i : Nat) (hB : BoI w B C g modesF (ints (modesN 10))) (hi : i < 10) (hW : Ws w gw v l low) (hl : l.length ≤ 1900000) :
    Calls Tryz.prog 67 #[.pointer (some ⟨g, 0, none⟩), .pointer (some ⟨gw, 0, none⟩), .int .i64 (i : Int)] w (WriteP w gw v l (modesF.getD i []) low) := by
  obtain ⟨C1, hk⟩ := hB.bk
  have h13 := mode_len hi
  exact mbwrite_in w C1 g _ _ gw v l _ low i hk (modesF_some hi) (not_nil (by omega)) hW (by omega)
theorem Cd.modes {w : World} {B C c : Nat} (h : Cd w B C c) : ∃ g, w.cell? ⟨c, 2, none⟩ = some (.pointer (some ⟨g, 0, none⟩)) ∧ BoI w B C g modesF (ints (modesN 10)) := by
  obtain ⟨h1, h2, h3, g1, g2, g3, h4, h5, h6, h7⟩ := h
  exact ⟨g3, by simp [World.cell?, h4], h7⟩
theorem cmode_any (w : World) (B C c : Nat) (gw : Nat) (v : Value) (l : List Bool) (low : Bool) (i : Nat) (hC : Cd w B C c) (hW : Ws w gw v l low) (hi : i < 9) (hl : l.length ≤ 1900000) :
    Calls Tryz.prog 45 #[.pointer (some ⟨c, 0, none⟩), .pointer (some ⟨gw, 0, none⟩), .int .i64 ((i : Int) - 3)] w (WrP w gw v l (modesF.getD i []) low) := by
  obtain ⟨g, hc, hg⟩ := hC.modes
  have HWW := Lib.hid (modeW w B C g gw v l low i hg (by omega) hW hl)
  obtain ⟨z, hz⟩ : ∃ z : Int, (i : Int) - 3 = z := ⟨_, rfl⟩
  have d1 : decide (z < -3) = false := by simp; omega
  have d2 : decide (5 < z) = false := by simp; omega
  have e1 : z - -3 = (i : Int) := by omega
  have e2 : z + 3 = (i : Int) := by omega
  have e3 : z ≤ 5 := by omega
  have e4 : -3 ≤ z := by omega
  rw [hz]
  clear hC hW hz hg
  go_enter Tryz.func45, Tryz.ntmps45
  go_wp2_with fail
  refine HWW.out.mono ?_
  rintro e w3 ⟨rfl, hws⟩
  have HWS := Lib.hid hws
  clear hws
  go_wp2_with fail
  go_ret
  exact ⟨rfl, HWS.out⟩
theorem cmode_bad (w : World) (c : Nat) (r : Value) (z : Int) (hz : z < -3 ∨ 5 < z) :
    Calls Tryz.prog 45 #[.pointer (some ⟨c, 0, none⟩), r, .int .i64 z] w fun e w' => e = .returned (.int .i64 1) ∧ w = w' := by
  by_cases h0 : z < -3
  · have d1 : decide (z < -3) = true := by simpa using h0
    clear hz h0
    go_enter Tryz.func45, Tryz.ntmps45
    go_wp2_with fail
    go_ret
    exact ⟨rfl, rfl⟩
  · have d1 : decide (z < -3) = false := by simpa using h0
    have d2 : decide (5 < z) = true := by simp; omega
    clear hz h0
    go_enter Tryz.func45, Tryz.ntmps45
    go_wp2_with fail
    go_ret
    exact ⟨rfl, rfl⟩
theorem cmode_nil (w : World) (r z : Value) (hz : ∃ k, z = .int .i64 k) : Calls Tryz.prog 45 #[.pointer none, r, z] w fun e w' => e = .returned (.int .i64 1) ∧ w = w' := by
  obtain ⟨k, rfl⟩ := hz
  go_enter Tryz.func45, Tryz.ntmps45
  go_wp2_with fail
  go_ret
  exact ⟨rfl, rfl⟩
end Go.Proofs.YtmbfgejephgojaaGreatDoor.Fx
/- The contracts of Read and ReadMode: lengths and modes read. -/
namespace Go.Proofs.YtmbfgejephgojaaGreatDoor.Fx
open Go.RowKit Go.Proofs.YtmbfgejephgojaaGreatDoor.Oct Go.Proofs.YtmbfgejephgojaaGreatDoor.Bit Go.Proofs.YtmbfgejephgojaaGreatDoor.Hf Go.Proofs.YtmbfgejephgojaaGreatDoor.Inf
set_option linter.unusedVariables false
set_option linter.unusedSimpArgs false
set_option maxRecDepth 100000

/-- a length read, the bound being any number -/
def lenZ (black : Bool) (L : List Bool) (most : Int) (at_ n : Nat) : Nat × Except Nat Nat :=
  if 0 ≤ most then lenA black L most.toNat at_ n else match (lookP (wordsF black) [] (L.drop at_)).2 with
    | .error e => (at_ + (lookP (wordsF black) [] (L.drop at_)).1, .error e)
    | .ok i => (at_ + (lookP (wordsF black) [] (L.drop at_)).1, .error 5)
/-- one word more -/
theorem lenZ_eq (black : Bool) (L : List Bool) (most : Int) (at_ n : Nat) (ha : at_ ≤ L.length) : lenZ black L most at_ n = match (lookP (wordsF black) [] (L.drop at_)).2 with
    | .error e => (at_ + (lookP (wordsF black) [] (L.drop at_)).1, .error e)
    | .ok i => if most < ((n + lenF i : Nat) : Int) then (at_ + (lookP (wordsF black) [] (L.drop at_)).1, .error 5)
      else if i < 64 then (at_ + (lookP (wordsF black) [] (L.drop at_)).1, .ok (n + lenF i))
      else lenZ black L most (at_ + (lookP (wordsF black) [] (L.drop at_)).1) (n + lenF i) := by
  unfold lenZ
  by_cases h : 0 ≤ most
  · rw [if_pos h, lenA_eq black L _ at_ n ha]
    rcases (lookP (wordsF black) [] (L.drop at_)).2 with e | i
    · rfl
    · simp only
      by_cases h2 : most < ((n + lenF i : Nat) : Int)
      · rw [if_pos h2, if_pos (by omega)]
      · rw [if_neg h2, if_neg (by omega), if_pos h]
  · rw [if_neg h]
    rcases (lookP (wordsF black) [] (L.drop at_)).2 with e | i
    · rfl
    · simp only
      rw [if_pos (by omega)]
theorem lenZ_nat (black : Bool) (L : List Bool) (most at_ n : Nat) : lenZ black L (most : Int) at_ n = lenA black L most at_ n := by
  unfold lenZ
  rw [if_pos (by omega)]
  rfl
/-- a mode read: the place behind it, and its number or the error -/
def modeZ (L : List Bool) (at_ : Nat) : Nat × Except Nat Nat := match (lookP modesF [] (L.drop at_)).2 with
  | .error e => (at_ + (lookP modesF [] (L.drop at_)).1, .error e)
  | .ok i => (at_ + (lookP modesF [] (L.drop at_)).1, if i = 9 then .error 9 else .ok i)
def valR (k : Int) : Except Nat Nat → Int
  | .ok n => (n : Int) - k
  | .error _ => 0
def errR : Except Nat Nat → Int
  | .ok _ => 0
  | .error e => (e : Int)
theorem look_err {W : List (List Bool)} : ∀ (l p : List Bool) {k c : Nat}, lookP W p l = (k, .error c) → c = 2 ∨ c = 6
  | [], p, k, c, h => by
    rw [lookP] at h
    injection h with h1 h2
    injection h2 with h2
    exact .inl h2.symm
  | b :: r, p, k, c, h => by
    rw [lookP] at h
    split at h
    · injection h with h1 h2
      cases h2
    · split at h
      · exact look_err r _ h
      · injection h with h1 h2
        injection h2 with h2
        exact .inr h2.symm
theorem look_ok {W : List (List Bool)} : ∀ (l p : List Bool) {k i : Nat}, lookP W p l = (k, .ok i) → i < W.length
  | [], p, k, c, h => by
    rw [lookP] at h
    injection h with h1 h2
    cases h2
  | b :: r, p, k, c, h => by
    rw [lookP] at h
    split at h
    · rename_i hm
      injection h with h1 h2
      injection h2 with h2
      rw [← h2]
      exact List.idxOf_lt_length_of_mem hm
    · split at h
      · exact look_ok r _ h
      · injection h with h1 h2
        cases h2
theorem lenF_le {i : Nat} (h : i < 104) : lenF i ≤ 2560 := by
  unfold lenF
  split <;> omega
theorem lenF_lt (i : Nat) : lenF i < 64 ↔ i < 64 := by
  unfold lenF
  split <;> omega
def CReadP (w : World) (gr : Nat) (p : Option Addr) (cap : Nat) (xs : List UInt8) (low : Bool) (k : Int) (r : Nat × Except Nat Nat) (e : Ending) (w' : World) : Prop :=
  e = .returned (.tuple #[.int .i64 (valR k r.2), .int .i64 (errR r.2)]) ∧ Rd w' gr p cap xs r.1 low ∧ Only (· = gr) w w' ∧ w'.heap.size = w.heap.size
set_option maxHeartbeats 2000000 in
theorem cread_any (w : World) (B C c : Nat) (gr : Nat) (p : Option Addr) (cap : Nat) (xs : List UInt8) (a : Nat) (low : Bool) (most : Int) (b : Bool) (hC : Cd w B C c) (hO : Out B C gr) (hR : Rd w gr p cap xs a low) (hm1 : -9223372036854775808 ≤ most) (hm2 : most ≤ 9223372036854775807) :
    Calls Tryz.prog 71 #[.pointer (some ⟨c, 0, none⟩), .pointer (some ⟨gr, 0, none⟩), .int .i64 most, .bool b] w (CReadP w gr p cap xs low 0 (lenZ b (bitsOf low xs) most a 0)) := by
  have HCO := Lib.hid (colour_any b w B C c hC)
  have HCZ := Lib.hid hC.1
  have HR := Lib.hid hR
  have HO := Lib.hid hO
  have hal : a ≤ (bitsOf low xs).length := by rw [bitsOf_length]; exact hR.2.2.1
  have hbig : 8 * xs.length ≤ 2000000000000000 := hR.2.2.2
  obtain ⟨L, hL⟩ : ∃ L, L = bitsOf low xs := ⟨_, rfl⟩
  have HL := Lib.hid hL
  have hLl : L.length ≤ 2000000000000000 := by rw [hL, bitsOf_length]; exact hbig
  rw [← hL] at hal ⊢
  obtain ⟨r, hr⟩ : ∃ r, r = lenZ b L most a 0 := ⟨_, rfl⟩
  rw [← hr]
  have HRES := Lib.hid hr.symm
  clear hC hO hR hL hr hbig
  go_enter Tryz.func71, Tryz.ntmps71
  go_wp2_with fail
  refine HCO.out.mono ?_
  rintro e w1 ⟨⟨g, rfl, hg⟩, rfl⟩
  have HG := Lib.hid hg
  clear hg
  go_wp2_with fail
  go_loopw [11, 12, 13] (fun s _ _ wr => ∃ (n t : Nat), s = .int .i64 (n : Int) ∧ t ≤ L.length ∧ n ≤ 2560 * t ∧ (n = 0 ∨ (n : Int) ≤ most) ∧ Hid (lenZ b L most t n = r) ∧ Hid (Rd wr gr p cap xs t low) ∧ Hid (Only (· = gr) w wr) ∧ Hid (wr.heap.size = w.heap.size)) (fun _ _ _ wr => L.length - rdAt gr wr)
  case atStart => exact ⟨0, a, rfl, hal, by omega, .inl rfl, HRES, HR, Lib.hid (Only.refl _ _), Lib.hid rfl⟩
  case round =>
    obtain ⟨n, t, rfl, ht, hn, hnm, HE, HRr, HON, HZ⟩ := hrel
    have HRT := Lib.hid (rdAt_of HRr.out)
    obtain ⟨B1, C1, hB1, hC1, hbo⟩ : BoI wr B C g (wordsF b) (ints (lensF 104)) := HG.out.same HON.out.2.2.2.1 fun k h1 h2 => HON.out.2.2.2.2 k (by have := HCZ.out; omega) (fun e => by rcases HO.out with h | h <;> omega)
    have HRD := Lib.hid (readI_out wr B1 C1 g (wordsF b) (ints (lensF 104)) gr p cap xs t low hbo (by rcases HO.out with h | h <;> omega) HRr.out (by rw [ints_length, lensF_length, wordsF_length]))
    have HQ := Lib.hid (lenZ_eq b L most t n ht)
    clear hbo hB1 hC1
    go_wp2_with fail
    refine HRD.out.mono ?_
    rintro e w2 ⟨hres, ho2, hz2⟩
    have HO2 := Lib.hid (HON.out.trans ho2)
    have HZ2 := Lib.hid (hz2.trans HZ.out)
    rw [← HL.out] at hres
    clear ho2 hz2
    rcases hres with ⟨i, k, v, hlk, hv, rfl, hr2⟩ | ⟨ce, k, hlk, rfl, hr2⟩
    · have hi : i < 104 := by have := look_ok _ _ hlk; rwa [wordsF_length] at this
      rw [lensF_get hi] at hv
      injection hv with hv
      subst hv
      have hle := lookP_le (wordsF b) (L.drop t) []
      rw [hlk, List.length_nil, List.length_drop] at hle
      have hk1 : 1 ≤ k := by
        rcases Nat.eq_zero_or_pos k with h0 | h0
        · exfalso
          by_cases hd : L.drop t = []
          · rw [hd] at hlk; cases hlk
          · have := hle.2.2 hd; simp only at this; omega
        · exact h0
      have hk2 : t + k ≤ L.length := by have := hle.2.1; simp only at this; omega
      have hq := HQ.out
      rw [hlk, HE.out] at hq
      simp only at hq
      have hp := lenF_le hi
      have hp2 := lenF_lt i
      generalize lenF i = pt at *
      have HR2 := Lib.hid hr2
      have HSUB : IntKind.i64.wrap (most - (n : Int)) = most - (n : Int) := by rw [IntKind.wrap_i64]; omega
      by_cases hbig : most < ((n + pt : Nat) : Int)
      · rw [if_pos hbig] at hq
        have HQ2 := Lib.hid hq
        have hd : decide (most - (n : Int) < (pt : Int)) = true := by simp; omega
        clear hlk hq hr2 hle hp2 hi hk1 hk2 hbig
        go_wp2_with fail
        go_ret2
        exact ⟨by rw [HQ2.out]; rfl, by rw [HQ2.out]; exact HR2.out, HO2.out, HZ2.out⟩
      · rw [if_neg hbig] at hq
        have hd : decide (most - (n : Int) < (pt : Int)) = false := by simp; omega
        by_cases hlt : i < 64
        · rw [if_pos hlt] at hq
          have HQ2 := Lib.hid hq
          have hd2 : decide ((pt : Int) < 64) = true := by simp; omega
          have HS2 : Hid ((n : Int) + (pt : Int) = ((n + pt : Nat) : Int)) := Lib.hid (by omega)
          clear hlk hq hr2 hle hp2 hi hk1 hk2 hbig hlt
          go_wp2_with fail
          go_ret2
          exact ⟨by rw [HQ2.out]; simp only [valR, errR]; rw [Int.sub_zero, ← HS2.out]; rfl, by rw [HQ2.out]; exact HR2.out, HO2.out, HZ2.out⟩
        · rw [if_neg hlt] at hq
          have HQ2 := Lib.hid hq
          have hd2 : decide ((pt : Int) < 64) = false := by simp; omega
          have HS2 : Hid ((n : Int) + (pt : Int) = ((n + pt : Nat) : Int)) := Lib.hid (by omega)
          have HBD : Hid (n + pt ≤ 2560 * (t + k) ∧ ((n + pt : Nat) : Int) ≤ most ∧ t + k ≤ L.length ∧ 1 ≤ k) := Lib.hid ⟨by omega, by omega, hk2, hk1⟩
          clear hlk hq hr2 hle hp2 hi hk1 hk2 hbig hlt
          go_wp2_with fail
          go_roundw
          case rel => exact ⟨n + pt, t + k, by rw [← HS2.out], HBD.out.2.2.1, HBD.out.1,   .inr HBD.out.2.1, Lib.hid HQ2.out.symm, HR2, HO2, HZ2⟩
          case measure => rw [HRT.out, rdAt_of HR2.out]; have := HBD.out.2.2; omega
    · have hce := look_err _ _ hlk
      have hq := HQ.out
      rw [hlk, HE.out] at hq
      have HQ2 := Lib.hid hq
      have HR2 := Lib.hid hr2
      have hcz : ((ce : Int) != 0) = true := by rcases hce with rfl | rfl <;> rfl
      clear hlk hce hq hr2
      go_wp2_with fail
      go_ret2
      exact ⟨by rw [HQ2.out]; rfl, by rw [HQ2.out]; exact HR2.out, HO2.out, HZ2.out⟩
theorem cread_nil (w : World) (r : Value) (n : Int) (b : Bool) : Calls Tryz.prog 71 #[.pointer none, r, .int .i64 n, .bool b] w fun e w' => e = .returned (.tuple #[.int .i64 0, .int .i64 1]) ∧ w = w' := by
  go_enter Tryz.func71, Tryz.ntmps71
  go_wp2_with fail
  go_ret2
  exact ⟨rfl, rfl⟩
theorem Cd.modesR {w : World} {B C c : Nat} (h : Cd w B C c) : ∃ g, w.cell? ⟨c, 2, none⟩ = some (.pointer (some ⟨g, 0, none⟩)) ∧ BoI w B C g modesF (ints (modesN 10)) := by
  obtain ⟨h1, h2, h3, g1, g2, g3, h4, h5, h6, h7⟩ := h
  exact ⟨g3, by simp [World.cell?, h4], h7⟩
theorem creadm_any (w : World) (B C c : Nat) (gr : Nat) (p : Option Addr) (cap : Nat) (xs : List UInt8) (a : Nat) (low : Bool) (hC : Cd w B C c) (hO : Out B C gr) (hR : Rd w gr p cap xs a low) :
    Calls Tryz.prog 94 #[.pointer (some ⟨c, 0, none⟩), .pointer (some ⟨gr, 0, none⟩)] w (CReadP w gr p cap xs low 3 (modeZ (bitsOf low xs) a)) := by
  obtain ⟨g, hc, B1, C1, hB1, hC1, hbo⟩ := hC.modesR
  have HRD := Lib.hid (mreadI_out w B1 C1 g modesF (ints (modesN 10)) gr p cap xs a low hbo (by rcases hO with h | h <;> omega) hR (by rw [ints_length, modesN_length, modesF_length]))
  obtain ⟨L, hL⟩ : ∃ L, L = bitsOf low xs := ⟨_, rfl⟩
  have HL := Lib.hid hL
  obtain ⟨r, hr⟩ : ∃ r, r = modeZ L a := ⟨_, rfl⟩
  rw [← hL, ← hr]
  have HRES := Lib.hid hr
  clear hC hO hR hL hr hbo hB1 hC1
  go_enter Tryz.func94, Tryz.ntmps94
  go_wp2_with fail
  refine HRD.out.mono ?_
  rintro e w2 ⟨hres, ho2, hz2⟩
  have HO2 := Lib.hid ho2
  have HZ2 := Lib.hid hz2
  rw [← HL.out] at hres
  clear ho2 hz2
  have hrq := HRES.out
  unfold modeZ at hrq
  rcases hres with ⟨i, k, v, hlk, hv, rfl, hr2⟩ | ⟨ce, k, hlk, rfl, hr2⟩
  · have hi : i < 10 := by have := look_ok _ _ hlk; rwa [modesF_length] at this
    rw [modesN_get hi] at hv
    injection hv with hv
    subst hv
    rw [hlk] at hrq
    simp only at hrq
    have HR2 := Lib.hid hr2
    obtain ⟨z, hz⟩ : ∃ z : Int, z = (i : Int) - 3 := ⟨_, rfl⟩
    rw [← hz]
    by_cases h9 : i = 9
    · rw [if_pos h9] at hrq
      have HQ := Lib.hid hrq
      have hd : (z == 6) = true := by simp; omega
      clear hlk hrq hr2 hz h9 hi
      go_wp2_with fail
      go_ret2
      exact ⟨by rw [HQ.out]; rfl, by rw [HQ.out]; exact HR2.out, HO2.out, HZ2.out⟩
    · rw [if_neg h9] at hrq
      have HQ := Lib.hid hrq
      have HZE := Lib.hid hz
      have hd : (z == 6) = false := by simp; omega
      clear hlk hrq hr2 hz h9 hi
      go_wp2_with fail
      go_ret2
      exact ⟨by rw [HQ.out, HZE.out]; rfl, by rw [HQ.out]; exact HR2.out, HO2.out, HZ2.out⟩
  · have hce := look_err _ _ hlk
    rw [hlk] at hrq
    have HQ := Lib.hid hrq
    have HR2 := Lib.hid hr2
    have hcz : ((ce : Int) != 0) = true := by rcases hce with rfl | rfl <;> rfl
    clear hlk hce hrq hr2
    go_wp2_with fail
    go_ret2
    exact ⟨by rw [HQ.out]; rfl, by rw [HQ.out]; exact HR2.out, HO2.out, HZ2.out⟩
theorem creadm_nil (w : World) (r : Value) : Calls Tryz.prog 94 #[.pointer none, r] w fun e w' => e = .returned (.tuple #[.int .i64 0, .int .i64 1]) ∧ w = w' := by
  go_enter Tryz.func94, Tryz.ntmps94
  go_wp2_with fail
  go_ret2
  exact ⟨rfl, rfl⟩
end Go.Proofs.YtmbfgejephgojaaGreatDoor.Fx
/- The document's Split, Words, Modes and Length. -/
namespace Go.Proofs.YtmbfgejephgojaaGreatDoor.Fx
open Go.RowKit Go.Proofs.YtmbfgejephgojaaGreatDoor.Oct Go.Proofs.YtmbfgejephgojaaGreatDoor.Bit Go.Proofs.YtmbfgejephgojaaGreatDoor.Hf Go.Proofs.YtmbfgejephgojaaGreatDoor.Inf
set_option linter.unusedVariables false
set_option linter.unusedSimpArgs false
set_option maxRecDepth 100000

/-- what stands between blanks -/
def splitB : List UInt8 → List UInt8 → List (List UInt8)
  | cur, [] => [cur]
  | cur, x :: r => if x = 32 then cur :: splitB [] r else splitB (cur ++ [x]) r
end Go.Proofs.YtmbfgejephgojaaGreatDoor.Fx
/- The document's Tell, Read and ReadMode. -/
namespace Go.Proofs.YtmbfgejephgojaaGreatDoor.Fx
open Go.RowKit Go.Proofs.YtmbfgejephgojaaGreatDoor.Oct Go.Proofs.YtmbfgejephgojaaGreatDoor.Bit Go.Proofs.YtmbfgejephgojaaGreatDoor.Hf Go.Proofs.YtmbfgejephgojaaGreatDoor.Inf
set_option linter.unusedVariables false
set_option linter.unusedSimpArgs false
set_option maxRecDepth 100000

def RReadP (k : Int) (r : Nat × Except Nat Nat) (e : Ending) : Prop := e = .returned (.tuple #[.int .i64 (valR k r.2), .int .i64 ((r.1 : Nat) : Int), .int .i64 (errR r.2)])
end Go.Proofs.YtmbfgejephgojaaGreatDoor.Fx

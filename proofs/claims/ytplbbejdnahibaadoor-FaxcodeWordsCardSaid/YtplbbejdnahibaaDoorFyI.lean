
/- The document's Tell, Read and ReadMode. -/
import Derived.Test.YtplbbejdnahibaaDoorFyF
import Derived.Test.YtplbbejdnahibaaDoorFyG
import Derived.Test.YtplbbejdnahibaaDoorFyH
import Derived.Test.YtplbbejdnahibaaDoorFxQ
namespace Go.Proofs.YtplbbejdnahibaaDoor.Fx
open Go.RowKit Go.Proofs.YtplbbejdnahibaaDoor.Oct Go.Proofs.YtplbbejdnahibaaDoor.Bit Go.Proofs.YtplbbejdnahibaaDoor.Hf Go.Proofs.YtplbbejdnahibaaDoor.Inf
set_option linter.unusedVariables false
set_option linter.unusedSimpArgs false
set_option maxRecDepth 100000

set_option maxHeartbeats 2000000 in
theorem rtell_any (n : Nat) (b : Bool) (w : World) (hn : n ≤ 32768) : Calls Tryd.prog 18 #[.int .i64 (n : Int), .bool b] w fun e w' => e = .returned (.string (ds (tellF b n))) ∧ Below w.heap.size w w' := by
  have HTL := Lib.hid (tell_len b hn)
  go_enter Tryd.func18, Tryd.ntmps18
  go_wp2_with fail
  refine (rwords_any b w).mono ?_
  rintro e w1 ⟨hb1, q, c, rfl, hv⟩
  obtain ⟨bb, off, rfl, _⟩ := hv.1.addr (by rw [strs_length, wordsU_length, wordsF_length]; omega)
  have HCE : Hid (∀ i, i < 104 → w1.cell? ⟨bb, off + i, none⟩ = some (.string (ds ((wordsF b).getD i [])))) := Lib.hid fun i hi => strs_word hv.1 (by rw [wordsF_length]; exact hi)
  have HB1 := Lib.hid hb1
  rw [strs_length, wordsU_length, wordsF_length]
  clear hb1 hv
  go_wp2_with fail
  go_loop [0, 6] (fun i s => ∃ (m : Nat) (d : List Bool), m ≤ n ∧ i = .int .i64 (m : Int) ∧ s = .string (ds d) ∧ Hid (d ++ tellF b m = tellF b n)) (fun i _ => (intOf i).toNat)
  case atStart => exact ⟨n, [], by omega, rfl, rfl, Lib.hid rfl⟩
  case round =>
    obtain ⟨m, d, hm, rfl, rfl, HT⟩ := hrel
    have hdl : d.length ≤ 200 := by
      have := congrArg List.length HT.out
      rw [List.length_append] at this
      have := HTL.out
      omega
    have hds := ds_size d
    by_cases hbig : 2560 ≤ m
    · have hd : decide ((2560 : Int) ≤ (m : Int)) = true := by simp; omega
      have hc := HCE.out 103 (by decide)
      have hx := ds_size ((wordsF b).getD 103 [])
      have hxl := (word_len b (i := 103) (by decide)).2
      have HAP := Lib.hid (ds_append d ((wordsF b).getD 103 []))
      have HT2 : Hid ((d ++ (wordsF b).getD 103 []) ++ tellF b (m - 2560) = tellF b n) := Lib.hid (by rw [List.append_assoc, ← tell_big b hbig]; exact HT.out)
      generalize hX : ds ((wordsF b).getD 103 []) = X at *
      generalize hD : ds d = T at *
      clear hX hD
      go_wp2_with fail
      go_round
      case rel => exact ⟨m - 2560, _, by omega, by congr 1; omega, by rw [HAP.out], HT2⟩
      case measure => simp [intOf]; omega
    · have hd : decide ((2560 : Int) ≤ (m : Int)) = false := by simp; omega
      by_cases h64 : 64 ≤ m
      · have hd2 : decide ((64 : Int) ≤ (m : Int)) = true := by simp; omega
        have e1 : (m : Int) / 64 = ((m / 64 : Nat) : Int) := by omega
        have e2 : (m : Int) % 64 = ((m % 64 : Nat) : Int) := by omega
        have hc := HCE.out (63 + m / 64) (by omega)
        have hc2 := HCE.out (m % 64) (by omega)
        have hx := ds_size ((wordsF b).getD (63 + m / 64) [])
        have hxl := (word_len b (i := 63 + m / 64) (by omega)).2
        have hy := ds_size ((wordsF b).getD (m % 64) [])
        have hyl := (word_len b (i := m % 64) (by omega)).2
        have HRS : Hid (ds d ++ ds ((wordsF b).getD (63 + m / 64) []) ++ ds ((wordsF b).getD (m % 64) []) = ds (tellF b n)) := Lib.hid (by
          rw [ds_append, ds_append, List.append_assoc, ← tell_last b (Nat.mod_lt _ (by decide)), ← tell_mid b h64 (by omega), HT.out])
        have e3 : m / 64 < 40 := by omega
        have e4 : m % 64 < 64 := by omega
        have e5 : (63 : Int) + ((m / 64 : Nat) : Int) = ((63 + m / 64 : Nat) : Int) := by omega
        have e6 : 63 + m / 64 < 104 := by omega
        generalize hk : 63 + m / 64 = k at *
        generalize m / 64 = u at *
        generalize m % 64 = r at *
        generalize hX : ds ((wordsF b).getD k []) = X at *
        generalize hY : ds ((wordsF b).getD r []) = Y at *
        generalize hD : ds d = T at *
        have hTX : (T ++ X).size = T.size + X.size := ByteArray.size_append
        have hT2 : (T ++ X).size ≤ 213 := by omega
        have hY2 : Y.size ≤ 13 := by omega
        have hX2 : X.size ≤ 13 := by omega
        have hT3 : T.size ≤ 200 := by omega
        clear hTX hx hy hds hxl hyl
        have i1 : (0 : Int) ≤ (k : Int) := by omega
        have i2 : (k : Int) < 104 := by omega
        have i3 : (0 : Int) ≤ (r : Int) := by omega
        have i4 : (r : Int) < 104 := by omega
        clear hX hY hD HCE hk
        go_wp2_with fail
        go_ret
        exact ⟨by rw [← HRS.out]; rfl, HB1.out⟩
      · have hd2 : decide ((64 : Int) ≤ (m : Int)) = false := by simp; omega
        have hc2 := HCE.out m (by omega)
        have hy := ds_size ((wordsF b).getD m [])
        have hyl := (word_len b (i := m) (by omega)).2
        have HRS : Hid (ds d ++ ds ((wordsF b).getD m []) = ds (tellF b n)) := Lib.hid (by
          rw [ds_append, ← tell_last b (by omega), HT.out])
        generalize hY : ds ((wordsF b).getD m []) = Y at *
        generalize hD : ds d = T at *
        have i3 : (0 : Int) ≤ (m : Int) := by omega
        have i4 : (m : Int) < 104 := by omega
        clear hY hD HCE
        go_wp2_with fail
        go_ret
        exact ⟨by rw [← HRS.out]; rfl, HB1.out⟩
def RReadP (k : Int) (r : Nat × Except Nat Nat) (e : Ending) : Prop := e = .returned (.tuple #[.int .i64 (valR k r.2), .int .i64 ((r.1 : Nat) : Int), .int .i64 (errR r.2)])
set_option maxHeartbeats 2000000 in
theorem rread_all (q : Option Addr) (cap : Nat) (b : Bool) (l : List Bool) (a : Nat) (most : Int) (w : World) (hv : VRow w w.heap.size q (strs (wordsU (wordsF b)))) (ha : a ≤ l.length) (hl : l.length ≤ 100000) :
    Calls Tryd.prog 25 #[.string (ds l), .int .i64 (a : Int), .int .i64 most, .slice q 104 cap] w fun e w' => RReadP 0 (lenZ b l most a 0) e ∧ w = w' := by
  have HV := Lib.hid hv
  obtain ⟨r, hr⟩ : ∃ r, r = lenZ b l most a 0 := ⟨_, rfl⟩
  rw [← hr]
  have HRES := Lib.hid hr.symm
  clear hr hv
  go_enter Tryd.func25, Tryd.ntmps25
  go_wp2_with fail
  go_loop [1, 11, 12, 13, 14] (fun s u _ _ _ => ∃ (n t : Nat), s = .int .i64 (t : Int) ∧ u = .int .i64 (n : Int) ∧ t ≤ l.length ∧ n ≤ 2560 * t ∧ Hid (lenZ b l most t n = r)) (fun s _ _ _ _ => l.length - (intOf s).toNat)
  case atStart => exact ⟨0, a, rfl, rfl, ha, by omega, HRES⟩
  case round =>
    obtain ⟨n, t, rfl, rfl, ht, hn, HE⟩ := hrel
    have HRD := Lib.hid (rread6_pos q 104 cap (wordsF b) l t w HV.out (wordsF_length b) (by omega) (by omega) (fun m hm => by have := (words_len b m hm).2; omega) ht hl)
    have HQ := Lib.hid (lenZ_eq b l most t n ht)
    go_wp2_with fail
    refine HRD.out.mono ?_
    rintro e w2 ⟨hres, rfl⟩
    rcases hres with ⟨i, k, bp, hlk, rfl, rfl⟩ | ⟨ce, k, bp, hlk, hce, rfl, rfl⟩
    · have hi : i < 104 := by have := look_ok _ _ hlk; rwa [wordsF_length] at this
      have hle := lookP_le (wordsF b) (l.drop t) []
      rw [hlk, List.length_nil, List.length_drop] at hle
      have hk1 : 1 ≤ k := by
        rcases Nat.eq_zero_or_pos k with h0 | h0
        · exfalso
          by_cases hd : l.drop t = []
          · rw [hd] at hlk; cases hlk
          · have := hle.2.2 hd; simp only at this; omega
        · exact h0
      have hk2 : t + k ≤ l.length := by have := hle.2.1; simp only at this; omega
      have hq := HQ.out
      rw [hlk, HE.out] at hq
      simp only at hq
      have HLN := Lib.hid (rlength_any i hi w)
      have hp := lenF_le hi
      generalize lenF i = pt at *
      generalize htk : t + k = tk at *
      have hS : (n : Int) + (pt : Int) = ((n + pt : Nat) : Int) := by omega
      by_cases hbig : most < ((n + pt : Nat) : Int)
      · rw [if_pos hbig] at hq
        have HQ2 := Lib.hid hq
        have hd : decide (most < (n : Int) + (pt : Int)) = true := by simp; omega
        clear hlk hq hle hk1 hbig hS
        go_wp2_with fail
        refine HLN.out.mono ?_
        rintro e w3 ⟨rfl, rfl⟩
        go_wp2_with fail
        go_ret3
        exact ⟨by unfold RReadP; rw [HQ2.out]; rfl, rfl⟩
      · rw [if_neg hbig] at hq
        have hd : decide (most < (n : Int) + (pt : Int)) = false := by simp; omega
        by_cases hlt : i < 64
        · rw [if_pos hlt] at hq
          have HQ2 := Lib.hid hq
          have hd2 : decide ((i : Int) < 64) = true := by simp; omega
          have HS := Lib.hid hS
          clear hlk hq hle hk1 hbig hS hlt hi
          go_wp2_with fail
          refine HLN.out.mono ?_
          rintro e w3 ⟨rfl, rfl⟩
          go_wp2_with fail
          go_ret3
          exact ⟨by unfold RReadP; rw [HQ2.out]; simp only [valR, errR]; rw [Int.sub_zero, ← HS.out]; rfl, rfl⟩
        · rw [if_neg hlt] at hq
          have HQ2 := Lib.hid hq.symm
          have hd2 : decide ((i : Int) < 64) = false := by simp; omega
          have HS := Lib.hid hS
          have HBD : Hid (n + pt ≤ 2560 * tk ∧ tk ≤ l.length ∧ t < tk) := Lib.hid ⟨by omega, by omega, by omega⟩
          clear hlk hq hle hk1 hbig hS hlt hi htk
          go_wp2_with fail
          refine HLN.out.mono ?_
          rintro e w3 ⟨rfl, rfl⟩
          go_wp2_with fail
          go_round
          case rel => exact ⟨n + pt, tk, rfl, by rw [← HS.out], HBD.out.2.1, HBD.out.1, HQ2⟩
          case measure => simp [intOf]; have := HBD.out; omega
    · have hq := HQ.out
      rw [hlk, HE.out] at hq
      have HQ2 := Lib.hid hq
      have hcz : ((ce : Int) != 0) = true := by rcases hce with rfl | rfl <;> rfl
      generalize t + k = tk at *
      clear hlk hce hq
      go_wp2_with fail
      go_ret3
      exact ⟨by unfold RReadP; rw [HQ2.out]; rfl, rfl⟩
set_option maxHeartbeats 2000000 in
theorem rreadm_all (l : List Bool) (a : Nat) (w : World) (ha : a ≤ l.length) (hl : l.length ≤ 100000) :
    Calls Tryd.prog 27 #[.string (ds l), .int .i64 (a : Int)] w fun e w' => RReadP 3 (modeZ l a) e ∧ Below w.heap.size w w' := by
  obtain ⟨r, hr⟩ : ∃ r, r = modeZ l a := ⟨_, rfl⟩
  rw [← hr]
  have HRES := Lib.hid hr
  clear hr
  go_enter Tryd.func27, Tryd.ntmps27
  go_wp2_with fail
  refine (rmodes_any w).mono ?_
  rintro e w1 ⟨hb1, q, c, rfl, hv⟩
  rw [strs_length, wordsU_length, modesF_length]
  have HB1 := Lib.hid hb1
  have HRD := Lib.hid (rread6_pos q 10 c modesF l a w1 hv.1 modesF_length (by omega) (by omega) (fun m hm => by have := (modes_len m hm).2; omega) ha hl)
  clear hb1 hv
  go_wp2_with fail
  refine HRD.out.mono ?_
  rintro e w2 ⟨hres, rfl⟩
  have hrq := HRES.out
  unfold modeZ at hrq
  rcases hres with ⟨i, k, bp, hlk, rfl, rfl⟩ | ⟨ce, k, bp, hlk, hce, rfl, rfl⟩
  · have hi : i < 10 := by have := look_ok _ _ hlk; rwa [modesF_length] at this
    rw [hlk] at hrq
    simp only at hrq
    generalize a + k = tk at *
    by_cases h9 : i = 9
    · rw [if_pos h9] at hrq
      have HQ := Lib.hid hrq
      have hd : ((i : Int) == 9) = true := by simp; omega
      clear hlk hrq h9 hi
      go_wp2_with fail
      go_ret3
      exact ⟨by unfold RReadP; rw [HQ.out]; rfl, HB1.out⟩
    · rw [if_neg h9] at hrq
      have HQ := Lib.hid hrq
      have hd : ((i : Int) == 9) = false := by simp; omega
      clear hlk hrq h9
      go_wp2_with fail
      go_ret3
      exact ⟨by unfold RReadP; rw [HQ.out]; rfl, HB1.out⟩
  · rw [hlk] at hrq
    have HQ := Lib.hid hrq
    have hcz : ((ce : Int) != 0) = true := by rcases hce with rfl | rfl <;> rfl
    generalize a + k = tk at *
    clear hlk hce hrq
    go_wp2_with fail
    go_ret3
    exact ⟨by unfold RReadP; rw [HQ.out]; rfl, HB1.out⟩
end Go.Proofs.YtplbbejdnahibaaDoor.Fx

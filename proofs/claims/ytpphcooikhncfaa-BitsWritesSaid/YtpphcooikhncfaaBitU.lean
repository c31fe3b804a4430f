/- The walk of BitsWrites: it returns true for either end and any ops, and nothing that was there is written. -/
import Derived.Test.YtpphcooikhncfaaBitV
import Derived.Deep.RegionHeld3
namespace Go.Proofs.Ytpphcooikhncfaa.Bit
open Go.RowKit Go.Proofs.Ytpphcooikhncfaa.Oct
set_option linter.unusedVariables false
set_option linter.unusedSimpArgs false

theorem kind4' (k : Int) : (IntKind.u64.wrap k).tmod 4 = 0 ∨ (IntKind.u64.wrap k).tmod 4 = 1 ∨ (IntKind.u64.wrap k).tmod 4 = 2 ∨ (IntKind.u64.wrap k).tmod 4 = 3 := by
  have h : 0 ≤ IntKind.u64.wrap k := by rw [IntKind.wrap_u64]; omega
  rw [Int.tmod_eq_emod_of_nonneg h]
  omega
theorem Only.cell' {S : Nat → Prop} {w w' : World} (h : Only S w w') {p : Addr} (hp : p.block < w.heap.size) (hs : ¬ S p.block) : w'.cell? p = w.cell? p :=
  World.cell?_of_block (w := w) (h.2.2.2.2 p.block hp hs)
def WtR (W : World) (g : Nat) (low : Bool) (L : List Bool) (wr : World) : Prop := Below W.heap.size W wr ∧ ∃ v, Ws wr g v L low ∧ ∀ k, v.ownBlock = some k → W.heap.size ≤ k
theorem wrL_len (low : Bool) (l : List Bool) (m : Nat) (n : Int) : (wrL low l m n).length ≤ l.length + 32 := by
  unfold wrL
  by_cases h : okW m n = true
  · rw [if_pos h, List.length_append, wordE_length]
    unfold okW cntB at h
    simp at h
    omega
  · rw [if_neg h]; omega
/-- behind a call on the writer -/
theorem WsT.after {W w1 w2 : World} {g : Nat} {v : Value} {l : List Bool} {low : Bool} (h : WsT w1 g v l low w2) (hB : Below W.heap.size W w1) (hg : W.heap.size ≤ g) (hv : ∀ k, v.ownBlock = some k → W.heap.size ≤ k) :
    ∃ v2, Ws w2 g v2 l low ∧ Below W.heap.size W w2 ∧ (∀ k, v2.ownBlock = some k → W.heap.size ≤ k) ∧ Only (Mine g v) w1 w2 := by
  obtain ⟨v2, hW, ho, hd⟩ := h
  have hz := hB.size
  refine ⟨v2, hW, hB.trans (ho.below hz (fun k hk hm => ?_)), fun k hk => ?_, ho⟩
  · rcases hm with h | h
    · omega
    · have := hv k h; omega
  · rcases hd k hk with h | h
    · exact hv k h
    · omega
set_option maxHeartbeats 4000000 in
set_option maxRecDepth 100000 in
theorem writes_walk (low : Bool) (p2 : Option Addr) (len2 cap2 : Nat) (w : World) (hops : IsOps w p2 len2 cap2) :
    Calls Try.prog 4 #[.bool low, .slice p2 len2 cap2] w fun e w' => e = .returned (.bool true) ∧ Below w.heap.size w w' := by
  go_enter Try.func4, Try.ntmps4
  go_wp2_with fail
  refine (lives_any _).mono ?_
  rintro e w1 ⟨rfl, hb1⟩
  have hz1 := hb1.size
  have hops1 : IsOps w1 p2 len2 cap2 := ⟨hops.1, hops.2.1, fun h0 => by
    obtain ⟨b, off, e, hlt, hall⟩ := hops.2.2 h0
    exact ⟨b, off, e, by omega, fun i hi => by
      obtain ⟨k, n, v, s, hat, hok⟩ := hall i hi
      exact ⟨k, n, v, s, hat.below hb1 hlt, hok⟩⟩⟩
  go_wp2_with fail
  refine (fits_any _ _ _ _ hops1).mono ?_
  rintro e w2 ⟨hb2, fb, rfl, hfb⟩
  have hz2 := hb2.size
  have hbw2 : Below w.heap.size w w2 := hb1.trans (hb2.mono hz1)
  cases fb
  · clear hfb
    go_wp2_with fail
    refine (lives_any _).mono ?_
    rintro e w3 ⟨rfl, hb3⟩
    go_wp2_with fail
    go_ret
    exact ⟨rfl, hbw2.trans (hb3.mono (by omega))⟩
  · obtain ⟨hl100, hs60⟩ := hfb rfl
    have HS60 := Lib.hid hs60
    clear hfb hs60
    go_wp2_with fail
    refine (newWriter_any _ _).mono ?_
    rintro e w3 ⟨hb3, rfl, hW3⟩
    obtain ⟨g, hg⟩ : ∃ g, g = w2.heap.size := ⟨_, rfl⟩
    rw [← hg] at hW3 ⊢
    have hg0 : w.heap.size ≤ g := by omega
    have hbw3 : Below w.heap.size w w3 := hbw2.trans (hb3.mono (by omega))
    have HB1 := Lib.hid hb1
    clear hg hb2 hb3 hb1 hops1
    go_wp2_with fail
    go_loopw [6, 24] (fun s c wr => ∃ (j : Nat) (L : List Bool), j ≤ len2 ∧ L.length ≤ 60 * j ∧ s = .string (ds L) ∧ c = .int .i64 (j : Int) ∧ WtR w g low L wr) (fun _ c _ => len2 - (intOf c).toNat)
    case atStart => exact ⟨0, [], by omega, by simp, rfl, rfl, hbw3, _, hW3, fun k h => by cases h⟩
    case round =>
      obtain ⟨j2, L, hj2, hLl, rfl, rfl, hP⟩ := hrel
      obtain ⟨hB, v0, hW, hv0⟩ := hP
      by_cases hlt2 : j2 < len2
      · obtain ⟨b, off, hpe, hbl, hall⟩ := hops.2.2 (by omega)
        subst hpe
        obtain ⟨k, n, v, s, hat, hok⟩ := hall j2 hlt2
        obtain ⟨c0, c1, c2, c3⟩ := hat.below hB hbl
        have hsl60 : s.size ≤ 60 := HS60.out b off j2 k n v s rfl hlt2 (hat.below HB1.out (by exact hbl))
        obtain ⟨k1, k2, n1, n2, hv1, hv2', _⟩ := hok
        clear hall
        obtain ⟨m, rfl⟩ : ∃ m : Nat, v = (m : Int) := ⟨v.toNat, by omega⟩
        have hm32 : m < 4294967296 := by omega
        obtain ⟨xs, hxs⟩ : ∃ xs, s = bs xs := ⟨_, bs_of s⟩
        subst hxs
        rw [bs_size] at hsl60
        have hlt0 := Wr.lt hW
        have hBa : Below w.heap.size w (wr.alloc (.cells #[.int .i64 k, .int .i64 n, .int .u32 (m : Int), .string (bs xs)] 31)) := hB.alloc hB.size _
        have hAl : Only (fun _ => False) wr (wr.alloc (.cells #[.int .i64 k, .int .i64 n, .int .u32 (m : Int), .string (bs xs)] 31)) := Only.of_below ((Below.refl wr.heap.size wr).alloc (Nat.le_refl _) _)
        have hWa : Ws (wr.alloc (.cells #[.int .i64 k, .int .i64 n, .int .u32 (m : Int), .string (bs xs)] 31)) g v0 L low := Wr.only hW hAl (fun h => h) (fun _ _ h => h)
        have hvl : ∀ k, v0.ownBlock = some k → k < wr.heap.size := fun k hk => (World.ownsRow.lt hW.2.1 k hk).2
        have cb1 : (wr.alloc (.cells #[.int .i64 k, .int .i64 n, .int .u32 (m : Int), .string (bs xs)] 31)).cell? ⟨wr.heap.size, 1, none⟩ = some (.int .i64 n) := by simp
        have cb2 : (wr.alloc (.cells #[.int .i64 k, .int .i64 n, .int .u32 (m : Int), .string (bs xs)] 31)).cell? ⟨wr.heap.size, 2, none⟩ = some (.int .u32 (m : Int)) := by simp
        have cb3 : (wr.alloc (.cells #[.int .i64 k, .int .i64 n, .int .u32 (m : Int), .string (bs xs)] 31)).cell? ⟨wr.heap.size, 3, none⟩ = some (.string (bs xs)) := by simp
        have HWA := Lib.hid hWa
        have HCB1 := Lib.hid cb1
        have HCB2 := Lib.hid cb2
        have HCB3 := Lib.hid cb3
        have HBA := Lib.hid hBa
        have HVL := Lib.hid hvl
        have HV0 := Lib.hid hv0
        clear hWa cb1 cb2 cb3 hBa hAl hW hvl hv0
        rcases kind4' k with hk4 | hk4 | hk4 | hk4
        · go_wp2_with fail
          refine (rwrite_any _ _ _ _ _ hm32 (by omega)).mono ?_
          rintro e w5 ⟨rfl, hb5⟩
          have hz5 : wr.heap.size + 1 ≤ w5.heap.size := by have := hb5.size; simpa using this
          have cd1 := (hb5.cell (p := ⟨wr.heap.size, 1, none⟩) (by simp)).trans HCB1.out
          have cd2 := (hb5.cell (p := ⟨wr.heap.size, 2, none⟩) (by simp)).trans HCB2.out
          have hW5 : Ws w5 g v0 L low := Wr.only HWA.out (Only.of_below (S := fun _ => False) hb5) (fun h => h) (fun _ _ h => h)
          have hB5 : Below w.heap.size w w5 := HBA.out.trans (hb5.mono HBA.out.size)
          have hwr := write_any w5 g v0 L low m n hm32 (by omega) hW5
          have hwl := wrL_len low L m n
          obtain ⟨L2, hLE⟩ : ∃ L2, L2 = wrL low L m n := ⟨_, rfl⟩
          rw [← hLE] at hwl ⊢
          have HLE := Lib.hid hLE
          clear hLE
          have HWR := Lib.hid hwr
          clear hwr hb5
          go_wp2_with fail
          refine HWR.out.mono ?_
          rintro e w2 ⟨rfl, hT2⟩
          obtain ⟨v2, hW2, hB2, hv2, _⟩ := WsT.after hT2 hB5 hg0 HV0.out
          rw [← HLE.out] at hW2
          have hL2 : L2.length ≤ 60 * (j2 + 1) := by omega
          clear hT2 hW5 hB5 cd1 cd2
          have hL6 : L2.length ≤ 6060 := by omega
          have hsz2 := ds_size L2
          have hlenc := len_any w2.drew g v2 L2 low (by exact hW2)
          have HLEN := Lib.hid hlenc
          have hbyc := bytes_any w2.drew g v2 L2 low (by exact hW2) (by omega)
          have HBY := Lib.hid hbyc
          clear hlenc hbyc
          go_wp2_with fail
          refine wp_region_held_drew (S := fun _ => True) (by kernel_rfl) trivial (fun hHeld => ?_)
          refine wpAnyH_take (i := 0) (v := ?v1) rfl (by kernel_rfl) (by kernel_rfl) (by kernel_rfl) (fun _ _ _ h => h) (Or.inl ⟨by rfl, fun w hSw => ?y1⟩) trivial ?r1
          case y1 => (try dsimp only at hSw); first | (go_simp; done) | (go_simp; with_reducible rfl)
          try simp only [Act.put, List.setIfInBounds_toArray, List.set_cons_zero, List.set_cons_succ, List.getElem_toArray, List.getElem_cons_zero, List.getElem_cons_succ]
          refine wpAnyH_take (i := 2) (v := ?v2) rfl (by kernel_rfl) (by kernel_rfl) (by kernel_rfl) (fun _ _ _ h => h) (Or.inl ⟨by rfl, fun w hSw => ?y2⟩) trivial ?r2
          case y2 => (try dsimp only at hSw); first | (go_simp; done) | (go_simp; with_reducible rfl)
          try simp only [Act.put, List.setIfInBounds_toArray, List.set_cons_zero, List.set_cons_succ, List.getElem_toArray, List.getElem_cons_zero, List.getElem_cons_succ]
          refine wpAnyH_take (i := 3) (v := ?v3) rfl (by kernel_rfl) (by kernel_rfl) (by kernel_rfl) (fun _ _ _ h => h) (Or.inl ⟨by rfl, fun w hSw => ?y3⟩) trivial ?r3
          case y3 => (try dsimp only at hSw); first | (go_simp; done) | (go_simp; with_reducible rfl)
          try simp only [Act.put, List.setIfInBounds_toArray, List.set_cons_zero, List.set_cons_succ, List.getElem_toArray, List.getElem_cons_zero, List.getElem_cons_succ]
          refine wpAnyH_ready (rs := [1]) (by kernel_rfl) (by simp) ?_
          refine AllReadyH.cons rfl (fun K hK => ?_) AllReadyH.nil
          go_simp
          refine HLEN.out.mono ?_
          rintro e w' ⟨rfl, rfl⟩
          go_wp2_with fail
          refine hK.out _ _ trivial (fun hH1 => ?_)
          clear hK K
          try simp only [Act.put, List.setIfInBounds_toArray, List.set_cons_zero, List.set_cons_succ, List.getElem_toArray, List.getElem_cons_zero, List.getElem_cons_succ]
          refine wpAnyH_take (i := 4) (v := ?v4) rfl (by kernel_rfl) (by kernel_rfl) (by kernel_rfl) (fun _ _ _ h => h) (Or.inl ⟨by rfl, fun w hSw => ?y4⟩) trivial ?r4
          case y4 => (try dsimp only at hSw); first | (go_simp; done) | (go_simp; with_reducible rfl)
          try simp only [Act.put, List.setIfInBounds_toArray, List.set_cons_zero, List.set_cons_succ, List.getElem_toArray, List.getElem_cons_zero, List.getElem_cons_succ]
          refine wpAnyH_take (i := 5) (v := ?v5) rfl (by kernel_rfl) (by kernel_rfl) (by kernel_rfl) (fun _ _ _ h => h) (Or.inl ⟨by rfl, fun w hSw => ?y5⟩) trivial ?r5
          case y5 => (try dsimp only at hSw); first | (go_simp; done) | (go_simp; with_reducible rfl)
          try simp only [Act.put, List.setIfInBounds_toArray, List.set_cons_zero, List.set_cons_succ, List.getElem_toArray, List.getElem_cons_zero, List.getElem_cons_succ]
          refine wpAnyH_take (i := 6) (v := ?v6) rfl (by kernel_rfl) (by kernel_rfl) (by kernel_rfl) (fun _ _ _ h => h) (Or.inl ⟨by rfl, fun w hSw => ?y6⟩) trivial ?r6
          case y6 => (try dsimp only at hSw); first | (go_simp; done) | (go_simp; with_reducible rfl)
          try simp only [Act.put, List.setIfInBounds_toArray, List.set_cons_zero, List.set_cons_succ, List.getElem_toArray, List.getElem_cons_zero, List.getElem_cons_succ]
          refine wpAnyH_take (i := 9) (v := ?v7) rfl (by kernel_rfl) (by kernel_rfl) (by kernel_rfl) (fun _ _ _ h => h) (Or.inl ⟨by rfl, fun w hSw => ?y7⟩) trivial ?r7
          case y7 => (try dsimp only at hSw); first | (go_simp; done) | (go_simp; with_reducible rfl)
          try simp only [Act.put, List.setIfInBounds_toArray, List.set_cons_zero, List.set_cons_succ, List.getElem_toArray, List.getElem_cons_zero, List.getElem_cons_succ]
          refine wpAnyH_take (i := 10) (v := ?v8) rfl (by kernel_rfl) (by kernel_rfl) (by kernel_rfl) (fun _ _ _ h => h) (Or.inl ⟨by rfl, fun w hSw => ?y8⟩) trivial ?r8
          case y8 => (try dsimp only at hSw); first | (go_simp; done) | (go_simp; with_reducible rfl)
          try simp only [Act.put, List.setIfInBounds_toArray, List.set_cons_zero, List.set_cons_succ, List.getElem_toArray, List.getElem_cons_zero, List.getElem_cons_succ]
          refine wpAnyH_ready (rs := [7]) (by kernel_rfl) (by simp) ?_
          refine AllReadyH.cons rfl (fun K hK => ?_) AllReadyH.nil
          go_simp
          refine HBY.out.mono ?_
          rintro e w3 ⟨hb3, q3, cap3, rfl, hr3, _⟩
          have cv3 := conv_row (packB low L2).length cap3 hr3 rfl
          go_wp2_with fail
          refine hK.out _ _ trivial (fun hH2 => ?_)
          clear hK K
          try simp only [Act.put, List.setIfInBounds_toArray, List.set_cons_zero, List.set_cons_succ, List.getElem_toArray, List.getElem_cons_zero, List.getElem_cons_succ]
          refine wpAnyH_ready (rs := [8, 11]) (by kernel_rfl) (by simp) ?_
          refine AllReadyH.cons rfl (fun K hK => ?_) (AllReadyH.cons rfl (fun K hK => ?_) AllReadyH.nil)
          · go_simp
            refine hK.out _ _ trivial (fun _ => ?_)
            clear hK K
            try simp only [Act.put, List.setIfInBounds_toArray, List.set_cons_zero, List.set_cons_succ, List.getElem_toArray, List.getElem_cons_zero, List.getElem_cons_succ]
            refine wpAnyH_ready (rs := [11]) (by kernel_rfl) (by simp) ?_
            refine AllReadyH.cons rfl (fun K hK => ?_) AllReadyH.nil
            go_simp
            refine (rbytes_any _ _ _ (by omega)).mono ?_
            rintro e w4 ⟨rfl, hb4⟩
            go_wp2_with fail
            refine hK.out _ _ trivial (fun hH3 => ?_)
            clear hK K
            try simp only [Act.put, List.setIfInBounds_toArray, List.set_cons_zero, List.set_cons_succ, List.getElem_toArray, List.getElem_cons_zero, List.getElem_cons_succ]
            refine wpAnyH_take (i := 12) (v := ?v9) rfl (by kernel_rfl) (by kernel_rfl) (by kernel_rfl) (fun _ _ _ h => h) (Or.inl ⟨by rfl, fun w hSw => ?y9⟩) trivial ?r9
            case y9 => (try dsimp only at hSw); first | (go_simp; done) | (go_simp; with_reducible rfl)
            try simp only [Act.put, List.setIfInBounds_toArray, List.set_cons_zero, List.set_cons_succ, List.getElem_toArray, List.getElem_cons_zero, List.getElem_cons_succ]
            refine wpAnyH_take (i := 13) (v := ?v10) rfl (by kernel_rfl) (by kernel_rfl) (by kernel_rfl) (fun _ _ _ h => h) (Or.inl ⟨by rfl, fun w hSw => ?y10⟩) trivial ?r10
            case y10 => (try dsimp only at hSw); first | (go_simp; done) | (go_simp; with_reducible rfl)
            try simp only [Act.put, List.setIfInBounds_toArray, List.set_cons_zero, List.set_cons_succ, List.getElem_toArray, List.getElem_cons_zero, List.getElem_cons_succ]
            refine wpAnyH_done (by kernel_rfl) ?_ _
            have hd2 : Below w2.heap.size w2 w2.drew := (Only.drawn (fun _ => False) ⟨1, rfl⟩ : Only (fun _ => False) w2 w2.drew).below (Nat.le_refl _) (fun _ _ h => h)
            have hz3 : w2.heap.size ≤ w3.heap.size := hb3.size
            have h24 : Below w2.heap.size w2 w4 := (hd2.trans hb3).trans (hb4.mono hz3)
            have hW4 : Ws w4 g v2 L2 low := Wr.only hW2 (Only.of_below (S := fun _ => False) h24) (fun h => h) (fun _ _ h => h)
            have hB4 : Below w.heap.size w w4 := hB2.trans (h24.mono hB2.size)
            clear hb3 hb4 hr3 HBY HLEN
            go_wp2_with fail
            go_roundw
            case rel => exact ⟨j2 + 1, L2, by omega, hL2, rfl, by go_num, hB4, v2, hW4, hv2⟩
            case measure => simp [intOf]; omega
          · go_simp
            refine (rbytes_any _ _ _ (by omega)).mono ?_
            rintro e w4 ⟨rfl, hb4⟩
            have cv4 := conv_row (packB low L2).length cap3 (hr3.below hb4) rfl
            go_wp2_with fail
            refine hK.out _ _ trivial (fun _ => ?_)
            clear hK K
            try simp only [Act.put, List.setIfInBounds_toArray, List.set_cons_zero, List.set_cons_succ, List.getElem_toArray, List.getElem_cons_zero, List.getElem_cons_succ]
            refine wpAnyH_ready (rs := [8]) (by kernel_rfl) (by simp) ?_
            refine AllReadyH.cons rfl (fun K hK => ?_) AllReadyH.nil
            go_simp
            refine hK.out _ _ trivial (fun hH4 => ?_)
            clear hK K
            try simp only [Act.put, List.setIfInBounds_toArray, List.set_cons_zero, List.set_cons_succ, List.getElem_toArray, List.getElem_cons_zero, List.getElem_cons_succ]
            refine wpAnyH_take (i := 12) (v := ?v11) rfl (by kernel_rfl) (by kernel_rfl) (by kernel_rfl) (fun _ _ _ h => h) (Or.inl ⟨by rfl, fun w hSw => ?y11⟩) trivial ?r11
            case y11 => (try dsimp only at hSw); first | (go_simp; done) | (go_simp; with_reducible rfl)
            try simp only [Act.put, List.setIfInBounds_toArray, List.set_cons_zero, List.set_cons_succ, List.getElem_toArray, List.getElem_cons_zero, List.getElem_cons_succ]
            refine wpAnyH_take (i := 13) (v := ?v12) rfl (by kernel_rfl) (by kernel_rfl) (by kernel_rfl) (fun _ _ _ h => h) (Or.inl ⟨by rfl, fun w hSw => ?y12⟩) trivial ?r12
            case y12 => (try dsimp only at hSw); first | (go_simp; done) | (go_simp; with_reducible rfl)
            try simp only [Act.put, List.setIfInBounds_toArray, List.set_cons_zero, List.set_cons_succ, List.getElem_toArray, List.getElem_cons_zero, List.getElem_cons_succ]
            refine wpAnyH_done (by kernel_rfl) ?_ _
            have hd2 : Below w2.heap.size w2 w2.drew := (Only.drawn (fun _ => False) ⟨1, rfl⟩ : Only (fun _ => False) w2 w2.drew).below (Nat.le_refl _) (fun _ _ h => h)
            have hz3 : w2.heap.size ≤ w3.heap.size := hb3.size
            have h24 : Below w2.heap.size w2 w4 := (hd2.trans hb3).trans (hb4.mono hz3)
            have hW4 : Ws w4 g v2 L2 low := Wr.only hW2 (Only.of_below (S := fun _ => False) h24) (fun h => h) (fun _ _ h => h)
            have hB4 : Below w.heap.size w w4 := hB2.trans (h24.mono hB2.size)
            clear hb3 hb4 hr3 HBY HLEN
            go_wp2_with fail
            go_roundw
            case rel => exact ⟨j2 + 1, L2, by omega, hL2, rfl, by go_num, hB4, v2, hW4, hv2⟩
            case measure => simp [intOf]; omega
        · go_wp2_with fail
          refine (rwrite_any _ _ _ _ _ hm32 (by omega)).mono ?_
          rintro e w5 ⟨rfl, hb5⟩
          have hz5 : wr.heap.size + 1 ≤ w5.heap.size := by have := hb5.size; simpa using this
          have cd1 := (hb5.cell (p := ⟨wr.heap.size, 1, none⟩) (by simp)).trans HCB1.out
          have cd2 := (hb5.cell (p := ⟨wr.heap.size, 2, none⟩) (by simp)).trans HCB2.out
          have hW5 : Ws w5 g v0 L low := Wr.only HWA.out (Only.of_below (S := fun _ => False) hb5) (fun h => h) (fun _ _ h => h)
          have hB5 : Below w.heap.size w w5 := HBA.out.trans (hb5.mono HBA.out.size)
          have hwr := write_any w5 g v0 L low m n hm32 (by omega) hW5
          have hwl := wrL_len low L m n
          obtain ⟨L2, hLE⟩ : ∃ L2, L2 = wrL low L m n := ⟨_, rfl⟩
          rw [← hLE] at hwl ⊢
          have HLE := Lib.hid hLE
          clear hLE
          have HWR := Lib.hid hwr
          clear hwr hb5
          go_wp2_with fail
          refine HWR.out.mono ?_
          rintro e w2 ⟨rfl, hT2⟩
          obtain ⟨v2, hW2, hB2, hv2, _⟩ := WsT.after hT2 hB5 hg0 HV0.out
          rw [← HLE.out] at hW2
          have hL2 : L2.length ≤ 60 * (j2 + 1) := by omega
          clear hT2 hW5 hB5 cd1 cd2
          have hL6 : L2.length ≤ 6060 := by omega
          have hsz2 := ds_size L2
          have hlenc := len_any w2.drew g v2 L2 low (by exact hW2)
          have HLEN := Lib.hid hlenc
          have hbyc := bytes_any w2.drew g v2 L2 low (by exact hW2) (by omega)
          have HBY := Lib.hid hbyc
          clear hlenc hbyc
          go_wp2_with fail
          refine wp_region_held_drew (S := fun _ => True) (by kernel_rfl) trivial (fun hHeld => ?_)
          refine wpAnyH_take (i := 0) (v := ?v13) rfl (by kernel_rfl) (by kernel_rfl) (by kernel_rfl) (fun _ _ _ h => h) (Or.inl ⟨by rfl, fun w hSw => ?y13⟩) trivial ?r13
          case y13 => (try dsimp only at hSw); first | (go_simp; done) | (go_simp; with_reducible rfl)
          try simp only [Act.put, List.setIfInBounds_toArray, List.set_cons_zero, List.set_cons_succ, List.getElem_toArray, List.getElem_cons_zero, List.getElem_cons_succ]
          refine wpAnyH_take (i := 2) (v := ?v14) rfl (by kernel_rfl) (by kernel_rfl) (by kernel_rfl) (fun _ _ _ h => h) (Or.inl ⟨by rfl, fun w hSw => ?y14⟩) trivial ?r14
          case y14 => (try dsimp only at hSw); first | (go_simp; done) | (go_simp; with_reducible rfl)
          try simp only [Act.put, List.setIfInBounds_toArray, List.set_cons_zero, List.set_cons_succ, List.getElem_toArray, List.getElem_cons_zero, List.getElem_cons_succ]
          refine wpAnyH_take (i := 3) (v := ?v15) rfl (by kernel_rfl) (by kernel_rfl) (by kernel_rfl) (fun _ _ _ h => h) (Or.inl ⟨by rfl, fun w hSw => ?y15⟩) trivial ?r15
          case y15 => (try dsimp only at hSw); first | (go_simp; done) | (go_simp; with_reducible rfl)
          try simp only [Act.put, List.setIfInBounds_toArray, List.set_cons_zero, List.set_cons_succ, List.getElem_toArray, List.getElem_cons_zero, List.getElem_cons_succ]
          refine wpAnyH_ready (rs := [1]) (by kernel_rfl) (by simp) ?_
          refine AllReadyH.cons rfl (fun K hK => ?_) AllReadyH.nil
          go_simp
          refine HLEN.out.mono ?_
          rintro e w' ⟨rfl, rfl⟩
          go_wp2_with fail
          refine hK.out _ _ trivial (fun hH1 => ?_)
          clear hK K
          try simp only [Act.put, List.setIfInBounds_toArray, List.set_cons_zero, List.set_cons_succ, List.getElem_toArray, List.getElem_cons_zero, List.getElem_cons_succ]
          refine wpAnyH_take (i := 4) (v := ?v16) rfl (by kernel_rfl) (by kernel_rfl) (by kernel_rfl) (fun _ _ _ h => h) (Or.inl ⟨by rfl, fun w hSw => ?y16⟩) trivial ?r16
          case y16 => (try dsimp only at hSw); first | (go_simp; done) | (go_simp; with_reducible rfl)
          try simp only [Act.put, List.setIfInBounds_toArray, List.set_cons_zero, List.set_cons_succ, List.getElem_toArray, List.getElem_cons_zero, List.getElem_cons_succ]
          refine wpAnyH_take (i := 5) (v := ?v17) rfl (by kernel_rfl) (by kernel_rfl) (by kernel_rfl) (fun _ _ _ h => h) (Or.inl ⟨by rfl, fun w hSw => ?y17⟩) trivial ?r17
          case y17 => (try dsimp only at hSw); first | (go_simp; done) | (go_simp; with_reducible rfl)
          try simp only [Act.put, List.setIfInBounds_toArray, List.set_cons_zero, List.set_cons_succ, List.getElem_toArray, List.getElem_cons_zero, List.getElem_cons_succ]
          refine wpAnyH_take (i := 6) (v := ?v18) rfl (by kernel_rfl) (by kernel_rfl) (by kernel_rfl) (fun _ _ _ h => h) (Or.inl ⟨by rfl, fun w hSw => ?y18⟩) trivial ?r18
          case y18 => (try dsimp only at hSw); first | (go_simp; done) | (go_simp; with_reducible rfl)
          try simp only [Act.put, List.setIfInBounds_toArray, List.set_cons_zero, List.set_cons_succ, List.getElem_toArray, List.getElem_cons_zero, List.getElem_cons_succ]
          refine wpAnyH_take (i := 9) (v := ?v19) rfl (by kernel_rfl) (by kernel_rfl) (by kernel_rfl) (fun _ _ _ h => h) (Or.inl ⟨by rfl, fun w hSw => ?y19⟩) trivial ?r19
          case y19 => (try dsimp only at hSw); first | (go_simp; done) | (go_simp; with_reducible rfl)
          try simp only [Act.put, List.setIfInBounds_toArray, List.set_cons_zero, List.set_cons_succ, List.getElem_toArray, List.getElem_cons_zero, List.getElem_cons_succ]
          refine wpAnyH_take (i := 10) (v := ?v20) rfl (by kernel_rfl) (by kernel_rfl) (by kernel_rfl) (fun _ _ _ h => h) (Or.inl ⟨by rfl, fun w hSw => ?y20⟩) trivial ?r20
          case y20 => (try dsimp only at hSw); first | (go_simp; done) | (go_simp; with_reducible rfl)
          try simp only [Act.put, List.setIfInBounds_toArray, List.set_cons_zero, List.set_cons_succ, List.getElem_toArray, List.getElem_cons_zero, List.getElem_cons_succ]
          refine wpAnyH_ready (rs := [7]) (by kernel_rfl) (by simp) ?_
          refine AllReadyH.cons rfl (fun K hK => ?_) AllReadyH.nil
          go_simp
          refine HBY.out.mono ?_
          rintro e w3 ⟨hb3, q3, cap3, rfl, hr3, _⟩
          have cv3 := conv_row (packB low L2).length cap3 hr3 rfl
          go_wp2_with fail
          refine hK.out _ _ trivial (fun hH2 => ?_)
          clear hK K
          try simp only [Act.put, List.setIfInBounds_toArray, List.set_cons_zero, List.set_cons_succ, List.getElem_toArray, List.getElem_cons_zero, List.getElem_cons_succ]
          refine wpAnyH_ready (rs := [8, 11]) (by kernel_rfl) (by simp) ?_
          refine AllReadyH.cons rfl (fun K hK => ?_) (AllReadyH.cons rfl (fun K hK => ?_) AllReadyH.nil)
          · go_simp
            refine hK.out _ _ trivial (fun _ => ?_)
            clear hK K
            try simp only [Act.put, List.setIfInBounds_toArray, List.set_cons_zero, List.set_cons_succ, List.getElem_toArray, List.getElem_cons_zero, List.getElem_cons_succ]
            refine wpAnyH_ready (rs := [11]) (by kernel_rfl) (by simp) ?_
            refine AllReadyH.cons rfl (fun K hK => ?_) AllReadyH.nil
            go_simp
            refine (rbytes_any _ _ _ (by omega)).mono ?_
            rintro e w4 ⟨rfl, hb4⟩
            go_wp2_with fail
            refine hK.out _ _ trivial (fun hH3 => ?_)
            clear hK K
            try simp only [Act.put, List.setIfInBounds_toArray, List.set_cons_zero, List.set_cons_succ, List.getElem_toArray, List.getElem_cons_zero, List.getElem_cons_succ]
            refine wpAnyH_take (i := 12) (v := ?v21) rfl (by kernel_rfl) (by kernel_rfl) (by kernel_rfl) (fun _ _ _ h => h) (Or.inl ⟨by rfl, fun w hSw => ?y21⟩) trivial ?r21
            case y21 => (try dsimp only at hSw); first | (go_simp; done) | (go_simp; with_reducible rfl)
            try simp only [Act.put, List.setIfInBounds_toArray, List.set_cons_zero, List.set_cons_succ, List.getElem_toArray, List.getElem_cons_zero, List.getElem_cons_succ]
            refine wpAnyH_take (i := 13) (v := ?v22) rfl (by kernel_rfl) (by kernel_rfl) (by kernel_rfl) (fun _ _ _ h => h) (Or.inl ⟨by rfl, fun w hSw => ?y22⟩) trivial ?r22
            case y22 => (try dsimp only at hSw); first | (go_simp; done) | (go_simp; with_reducible rfl)
            try simp only [Act.put, List.setIfInBounds_toArray, List.set_cons_zero, List.set_cons_succ, List.getElem_toArray, List.getElem_cons_zero, List.getElem_cons_succ]
            refine wpAnyH_done (by kernel_rfl) ?_ _
            have hd2 : Below w2.heap.size w2 w2.drew := (Only.drawn (fun _ => False) ⟨1, rfl⟩ : Only (fun _ => False) w2 w2.drew).below (Nat.le_refl _) (fun _ _ h => h)
            have hz3 : w2.heap.size ≤ w3.heap.size := hb3.size
            have h24 : Below w2.heap.size w2 w4 := (hd2.trans hb3).trans (hb4.mono hz3)
            have hW4 : Ws w4 g v2 L2 low := Wr.only hW2 (Only.of_below (S := fun _ => False) h24) (fun h => h) (fun _ _ h => h)
            have hB4 : Below w.heap.size w w4 := hB2.trans (h24.mono hB2.size)
            clear hb3 hb4 hr3 HBY HLEN
            go_wp2_with fail
            go_roundw
            case rel => exact ⟨j2 + 1, L2, by omega, hL2, rfl, by go_num, hB4, v2, hW4, hv2⟩
            case measure => simp [intOf]; omega
          · go_simp
            refine (rbytes_any _ _ _ (by omega)).mono ?_
            rintro e w4 ⟨rfl, hb4⟩
            have cv4 := conv_row (packB low L2).length cap3 (hr3.below hb4) rfl
            go_wp2_with fail
            refine hK.out _ _ trivial (fun _ => ?_)
            clear hK K
            try simp only [Act.put, List.setIfInBounds_toArray, List.set_cons_zero, List.set_cons_succ, List.getElem_toArray, List.getElem_cons_zero, List.getElem_cons_succ]
            refine wpAnyH_ready (rs := [8]) (by kernel_rfl) (by simp) ?_
            refine AllReadyH.cons rfl (fun K hK => ?_) AllReadyH.nil
            go_simp
            refine hK.out _ _ trivial (fun hH4 => ?_)
            clear hK K
            try simp only [Act.put, List.setIfInBounds_toArray, List.set_cons_zero, List.set_cons_succ, List.getElem_toArray, List.getElem_cons_zero, List.getElem_cons_succ]
            refine wpAnyH_take (i := 12) (v := ?v23) rfl (by kernel_rfl) (by kernel_rfl) (by kernel_rfl) (fun _ _ _ h => h) (Or.inl ⟨by rfl, fun w hSw => ?y23⟩) trivial ?r23
            case y23 => (try dsimp only at hSw); first | (go_simp; done) | (go_simp; with_reducible rfl)
            try simp only [Act.put, List.setIfInBounds_toArray, List.set_cons_zero, List.set_cons_succ, List.getElem_toArray, List.getElem_cons_zero, List.getElem_cons_succ]
            refine wpAnyH_take (i := 13) (v := ?v24) rfl (by kernel_rfl) (by kernel_rfl) (by kernel_rfl) (fun _ _ _ h => h) (Or.inl ⟨by rfl, fun w hSw => ?y24⟩) trivial ?r24
            case y24 => (try dsimp only at hSw); first | (go_simp; done) | (go_simp; with_reducible rfl)
            try simp only [Act.put, List.setIfInBounds_toArray, List.set_cons_zero, List.set_cons_succ, List.getElem_toArray, List.getElem_cons_zero, List.getElem_cons_succ]
            refine wpAnyH_done (by kernel_rfl) ?_ _
            have hd2 : Below w2.heap.size w2 w2.drew := (Only.drawn (fun _ => False) ⟨1, rfl⟩ : Only (fun _ => False) w2 w2.drew).below (Nat.le_refl _) (fun _ _ h => h)
            have hz3 : w2.heap.size ≤ w3.heap.size := hb3.size
            have h24 : Below w2.heap.size w2 w4 := (hd2.trans hb3).trans (hb4.mono hz3)
            have hW4 : Ws w4 g v2 L2 low := Wr.only hW2 (Only.of_below (S := fun _ => False) h24) (fun h => h) (fun _ _ h => h)
            have hB4 : Below w.heap.size w w4 := hB2.trans (h24.mono hB2.size)
            clear hb3 hb4 hr3 HBY HLEN
            go_wp2_with fail
            go_roundw
            case rel => exact ⟨j2 + 1, L2, by omega, hL2, rfl, by go_num, hB4, v2, hW4, hv2⟩
            case measure => simp [intOf]; omega
        · cases hwb : wordB xs
          · have HWB := Lib.hid hwb
            clear hwb
            go_wp2_with fail
            refine (word_bad _ _ _ (by omega) HWB.out).mono ?_
            rintro e w' ⟨rfl, rfl⟩
            have cd3 := HCB3.out
            go_wp2_with fail
            refine (rdigits_any _ _ (by omega)).mono ?_
            rintro e w' ⟨rfl, rfl⟩
            rw [HWB.out]
            go_wp2_with fail
            go_roundw
            case rel => exact ⟨j2 + 1, L, by omega, by omega, rfl, by go_num, HBA.out, v0, HWA.out, HV0.out⟩
            case measure => simp [intOf]; omega
          · obtain ⟨M, hM⟩ := wordB_digits hwb
            subst hM
            have hML : M.length ≤ 60 := by simpa using hsl60
            have HWB := Lib.hid hwb
            clear hwb
            have hwd := word_any _ g v0 L M low (by omega) HWA.out
            have HWD := Lib.hid hwd
            clear hwd
            go_wp2_with fail
            refine HWD.out.mono ?_
            rintro e w2 ⟨rfl, hT2⟩
            obtain ⟨v2, hW2, hB2, hv2, ho2⟩ := WsT.after hT2 HBA.out hg0 HV0.out
            have cd3 := (ho2.cell' (p := ⟨wr.heap.size, 3, none⟩) (by simp) (by
              rintro (h | h)
              · have h' : wr.heap.size = g := h
                omega
              · have := HVL.out _ h; have h2 : wr.heap.size < wr.heap.size := this; omega)).trans HCB3.out
            go_wp2_with fail
            refine (rdigits_any _ _ (by simp; omega)).mono ?_
            rintro e w' ⟨rfl, rfl⟩
            rw [HWB.out]
            have happ : ds L ++ ds M = ds (L ++ M) := ds_append L M
            have hzL : (ds L).size ≤ 6000 := by rw [ds_size]; omega
            have hzM : (ds M).size ≤ 60 := by rw [ds_size]; exact hML
            have happ' : ds L ++ bs (M.map dig) = ds (L ++ M) := happ
            have hzM' : (bs (M.map dig)).size ≤ 60 := hzM
            have hL2 : (L ++ M).length ≤ 60 * (j2 + 1) := by rw [List.length_append]; omega
            generalize L ++ M = L2 at happ happ' hW2 hL2
            clear hT2 ho2 happ
            have hL6 : L2.length ≤ 6060 := by omega
            have hsz2 := ds_size L2
            have hlenc := len_any w2.drew g v2 L2 low (by exact hW2)
            have HLEN := Lib.hid hlenc
            have hbyc := bytes_any w2.drew g v2 L2 low (by exact hW2) (by omega)
            have HBY := Lib.hid hbyc
            clear hlenc hbyc
            go_wp2_with fail
            refine wp_region_held_drew (S := fun _ => True) (by kernel_rfl) trivial (fun hHeld => ?_)
            refine wpAnyH_take (i := 0) (v := ?v25) rfl (by kernel_rfl) (by kernel_rfl) (by kernel_rfl) (fun _ _ _ h => h) (Or.inl ⟨by rfl, fun w hSw => ?y25⟩) trivial ?r25
            case y25 => (try dsimp only at hSw); first | (go_simp; done) | (go_simp; with_reducible rfl)
            try simp only [Act.put, List.setIfInBounds_toArray, List.set_cons_zero, List.set_cons_succ, List.getElem_toArray, List.getElem_cons_zero, List.getElem_cons_succ]
            refine wpAnyH_take (i := 2) (v := ?v26) rfl (by kernel_rfl) (by kernel_rfl) (by kernel_rfl) (fun _ _ _ h => h) (Or.inl ⟨by rfl, fun w hSw => ?y26⟩) trivial ?r26
            case y26 => (try dsimp only at hSw); first | (go_simp; done) | (go_simp; with_reducible rfl)
            try simp only [Act.put, List.setIfInBounds_toArray, List.set_cons_zero, List.set_cons_succ, List.getElem_toArray, List.getElem_cons_zero, List.getElem_cons_succ]
            refine wpAnyH_take (i := 3) (v := ?v27) rfl (by kernel_rfl) (by kernel_rfl) (by kernel_rfl) (fun _ _ _ h => h) (Or.inl ⟨by rfl, fun w hSw => ?y27⟩) trivial ?r27
            case y27 => (try dsimp only at hSw); first | (go_simp; done) | (go_simp; with_reducible rfl)
            try simp only [Act.put, List.setIfInBounds_toArray, List.set_cons_zero, List.set_cons_succ, List.getElem_toArray, List.getElem_cons_zero, List.getElem_cons_succ]
            refine wpAnyH_ready (rs := [1]) (by kernel_rfl) (by simp) ?_
            refine AllReadyH.cons rfl (fun K hK => ?_) AllReadyH.nil
            go_simp
            refine HLEN.out.mono ?_
            rintro e w' ⟨rfl, rfl⟩
            go_wp2_with fail
            refine hK.out _ _ trivial (fun hH1 => ?_)
            clear hK K
            try simp only [Act.put, List.setIfInBounds_toArray, List.set_cons_zero, List.set_cons_succ, List.getElem_toArray, List.getElem_cons_zero, List.getElem_cons_succ]
            refine wpAnyH_take (i := 4) (v := ?v28) rfl (by kernel_rfl) (by kernel_rfl) (by kernel_rfl) (fun _ _ _ h => h) (Or.inl ⟨by rfl, fun w hSw => ?y28⟩) trivial ?r28
            case y28 => (try dsimp only at hSw); first | (go_simp; done) | (go_simp; with_reducible rfl)
            try simp only [Act.put, List.setIfInBounds_toArray, List.set_cons_zero, List.set_cons_succ, List.getElem_toArray, List.getElem_cons_zero, List.getElem_cons_succ]
            refine wpAnyH_take (i := 5) (v := ?v29) rfl (by kernel_rfl) (by kernel_rfl) (by kernel_rfl) (fun _ _ _ h => h) (Or.inl ⟨by rfl, fun w hSw => ?y29⟩) trivial ?r29
            case y29 => (try dsimp only at hSw); first | (go_simp; done) | (go_simp; with_reducible rfl)
            try simp only [Act.put, List.setIfInBounds_toArray, List.set_cons_zero, List.set_cons_succ, List.getElem_toArray, List.getElem_cons_zero, List.getElem_cons_succ]
            refine wpAnyH_take (i := 6) (v := ?v30) rfl (by kernel_rfl) (by kernel_rfl) (by kernel_rfl) (fun _ _ _ h => h) (Or.inl ⟨by rfl, fun w hSw => ?y30⟩) trivial ?r30
            case y30 => (try dsimp only at hSw); first | (go_simp; done) | (go_simp; with_reducible rfl)
            try simp only [Act.put, List.setIfInBounds_toArray, List.set_cons_zero, List.set_cons_succ, List.getElem_toArray, List.getElem_cons_zero, List.getElem_cons_succ]
            refine wpAnyH_take (i := 9) (v := ?v31) rfl (by kernel_rfl) (by kernel_rfl) (by kernel_rfl) (fun _ _ _ h => h) (Or.inl ⟨by rfl, fun w hSw => ?y31⟩) trivial ?r31
            case y31 => (try dsimp only at hSw); first | (go_simp; done) | (go_simp; with_reducible rfl)
            try simp only [Act.put, List.setIfInBounds_toArray, List.set_cons_zero, List.set_cons_succ, List.getElem_toArray, List.getElem_cons_zero, List.getElem_cons_succ]
            refine wpAnyH_take (i := 10) (v := ?v32) rfl (by kernel_rfl) (by kernel_rfl) (by kernel_rfl) (fun _ _ _ h => h) (Or.inl ⟨by rfl, fun w hSw => ?y32⟩) trivial ?r32
            case y32 => (try dsimp only at hSw); first | (go_simp; done) | (go_simp; with_reducible rfl)
            try simp only [Act.put, List.setIfInBounds_toArray, List.set_cons_zero, List.set_cons_succ, List.getElem_toArray, List.getElem_cons_zero, List.getElem_cons_succ]
            refine wpAnyH_ready (rs := [7]) (by kernel_rfl) (by simp) ?_
            refine AllReadyH.cons rfl (fun K hK => ?_) AllReadyH.nil
            go_simp
            refine HBY.out.mono ?_
            rintro e w3 ⟨hb3, q3, cap3, rfl, hr3, _⟩
            have cv3 := conv_row (packB low L2).length cap3 hr3 rfl
            go_wp2_with fail
            refine hK.out _ _ trivial (fun hH2 => ?_)
            clear hK K
            try simp only [Act.put, List.setIfInBounds_toArray, List.set_cons_zero, List.set_cons_succ, List.getElem_toArray, List.getElem_cons_zero, List.getElem_cons_succ]
            refine wpAnyH_ready (rs := [8, 11]) (by kernel_rfl) (by simp) ?_
            refine AllReadyH.cons rfl (fun K hK => ?_) (AllReadyH.cons rfl (fun K hK => ?_) AllReadyH.nil)
            · go_simp
              refine hK.out _ _ trivial (fun _ => ?_)
              clear hK K
              try simp only [Act.put, List.setIfInBounds_toArray, List.set_cons_zero, List.set_cons_succ, List.getElem_toArray, List.getElem_cons_zero, List.getElem_cons_succ]
              refine wpAnyH_ready (rs := [11]) (by kernel_rfl) (by simp) ?_
              refine AllReadyH.cons rfl (fun K hK => ?_) AllReadyH.nil
              go_simp
              refine (rbytes_any _ _ _ (by omega)).mono ?_
              rintro e w4 ⟨rfl, hb4⟩
              go_wp2_with fail
              refine hK.out _ _ trivial (fun hH3 => ?_)
              clear hK K
              try simp only [Act.put, List.setIfInBounds_toArray, List.set_cons_zero, List.set_cons_succ, List.getElem_toArray, List.getElem_cons_zero, List.getElem_cons_succ]
              refine wpAnyH_take (i := 12) (v := ?v33) rfl (by kernel_rfl) (by kernel_rfl) (by kernel_rfl) (fun _ _ _ h => h) (Or.inl ⟨by rfl, fun w hSw => ?y33⟩) trivial ?r33
              case y33 => (try dsimp only at hSw); first | (go_simp; done) | (go_simp; with_reducible rfl)
              try simp only [Act.put, List.setIfInBounds_toArray, List.set_cons_zero, List.set_cons_succ, List.getElem_toArray, List.getElem_cons_zero, List.getElem_cons_succ]
              refine wpAnyH_take (i := 13) (v := ?v34) rfl (by kernel_rfl) (by kernel_rfl) (by kernel_rfl) (fun _ _ _ h => h) (Or.inl ⟨by rfl, fun w hSw => ?y34⟩) trivial ?r34
              case y34 => (try dsimp only at hSw); first | (go_simp; done) | (go_simp; with_reducible rfl)
              try simp only [Act.put, List.setIfInBounds_toArray, List.set_cons_zero, List.set_cons_succ, List.getElem_toArray, List.getElem_cons_zero, List.getElem_cons_succ]
              refine wpAnyH_done (by kernel_rfl) ?_ _
              have hd2 : Below w2.heap.size w2 w2.drew := (Only.drawn (fun _ => False) ⟨1, rfl⟩ : Only (fun _ => False) w2 w2.drew).below (Nat.le_refl _) (fun _ _ h => h)
              have hz3 : w2.heap.size ≤ w3.heap.size := hb3.size
              have h24 : Below w2.heap.size w2 w4 := (hd2.trans hb3).trans (hb4.mono hz3)
              have hW4 : Ws w4 g v2 L2 low := Wr.only hW2 (Only.of_below (S := fun _ => False) h24) (fun h => h) (fun _ _ h => h)
              have hB4 : Below w.heap.size w w4 := hB2.trans (h24.mono hB2.size)
              clear hb3 hb4 hr3 HBY HLEN
              go_wp2_with fail
              go_roundw
              case rel => exact ⟨j2 + 1, L2, by omega, hL2, rfl, by go_num, hB4, v2, hW4, hv2⟩
              case measure => simp [intOf]; omega
            · go_simp
              refine (rbytes_any _ _ _ (by omega)).mono ?_
              rintro e w4 ⟨rfl, hb4⟩
              have cv4 := conv_row (packB low L2).length cap3 (hr3.below hb4) rfl
              go_wp2_with fail
              refine hK.out _ _ trivial (fun _ => ?_)
              clear hK K
              try simp only [Act.put, List.setIfInBounds_toArray, List.set_cons_zero, List.set_cons_succ, List.getElem_toArray, List.getElem_cons_zero, List.getElem_cons_succ]
              refine wpAnyH_ready (rs := [8]) (by kernel_rfl) (by simp) ?_
              refine AllReadyH.cons rfl (fun K hK => ?_) AllReadyH.nil
              go_simp
              refine hK.out _ _ trivial (fun hH4 => ?_)
              clear hK K
              try simp only [Act.put, List.setIfInBounds_toArray, List.set_cons_zero, List.set_cons_succ, List.getElem_toArray, List.getElem_cons_zero, List.getElem_cons_succ]
              refine wpAnyH_take (i := 12) (v := ?v35) rfl (by kernel_rfl) (by kernel_rfl) (by kernel_rfl) (fun _ _ _ h => h) (Or.inl ⟨by rfl, fun w hSw => ?y35⟩) trivial ?r35
              case y35 => (try dsimp only at hSw); first | (go_simp; done) | (go_simp; with_reducible rfl)
              try simp only [Act.put, List.setIfInBounds_toArray, List.set_cons_zero, List.set_cons_succ, List.getElem_toArray, List.getElem_cons_zero, List.getElem_cons_succ]
              refine wpAnyH_take (i := 13) (v := ?v36) rfl (by kernel_rfl) (by kernel_rfl) (by kernel_rfl) (fun _ _ _ h => h) (Or.inl ⟨by rfl, fun w hSw => ?y36⟩) trivial ?r36
              case y36 => (try dsimp only at hSw); first | (go_simp; done) | (go_simp; with_reducible rfl)
              try simp only [Act.put, List.setIfInBounds_toArray, List.set_cons_zero, List.set_cons_succ, List.getElem_toArray, List.getElem_cons_zero, List.getElem_cons_succ]
              refine wpAnyH_done (by kernel_rfl) ?_ _
              have hd2 : Below w2.heap.size w2 w2.drew := (Only.drawn (fun _ => False) ⟨1, rfl⟩ : Only (fun _ => False) w2 w2.drew).below (Nat.le_refl _) (fun _ _ h => h)
              have hz3 : w2.heap.size ≤ w3.heap.size := hb3.size
              have h24 : Below w2.heap.size w2 w4 := (hd2.trans hb3).trans (hb4.mono hz3)
              have hW4 : Ws w4 g v2 L2 low := Wr.only hW2 (Only.of_below (S := fun _ => False) h24) (fun h => h) (fun _ _ h => h)
              have hB4 : Below w.heap.size w w4 := hB2.trans (h24.mono hB2.size)
              clear hb3 hb4 hr3 HBY HLEN
              go_wp2_with fail
              go_roundw
              case rel => exact ⟨j2 + 1, L2, by omega, hL2, rfl, by go_num, hB4, v2, hW4, hv2⟩
              case measure => simp [intOf]; omega
        · go_wp2_with fail
          refine (walign_any _ g v0 L low HWA.out (by omega)).mono ?_
          rintro e w2 ⟨rfl, hT2⟩
          obtain ⟨v2, hW2, hB2, hv2, _⟩ := WsT.after hT2 HBA.out hg0 HV0.out
          have hpl := Lib.hid (padL_length L)
          go_wp2_with fail
          refine (ralign_any _ _ (by omega)).mono ?_
          rintro e w' ⟨rfl, rfl⟩
          have hL2 : (padL L).length ≤ 60 * (j2 + 1) := by rw [hpl.out]; omega
          generalize padL L = L2 at hW2 hL2 ⊢
          clear hT2 hpl
          have hL6 : L2.length ≤ 6060 := by omega
          have hsz2 := ds_size L2
          have hlenc := len_any w2.drew g v2 L2 low (by exact hW2)
          have HLEN := Lib.hid hlenc
          have hbyc := bytes_any w2.drew g v2 L2 low (by exact hW2) (by omega)
          have HBY := Lib.hid hbyc
          clear hlenc hbyc
          go_wp2_with fail
          refine wp_region_held_drew (S := fun _ => True) (by kernel_rfl) trivial (fun hHeld => ?_)
          refine wpAnyH_take (i := 0) (v := ?v37) rfl (by kernel_rfl) (by kernel_rfl) (by kernel_rfl) (fun _ _ _ h => h) (Or.inl ⟨by rfl, fun w hSw => ?y37⟩) trivial ?r37
          case y37 => (try dsimp only at hSw); first | (go_simp; done) | (go_simp; with_reducible rfl)
          try simp only [Act.put, List.setIfInBounds_toArray, List.set_cons_zero, List.set_cons_succ, List.getElem_toArray, List.getElem_cons_zero, List.getElem_cons_succ]
          refine wpAnyH_take (i := 2) (v := ?v38) rfl (by kernel_rfl) (by kernel_rfl) (by kernel_rfl) (fun _ _ _ h => h) (Or.inl ⟨by rfl, fun w hSw => ?y38⟩) trivial ?r38
          case y38 => (try dsimp only at hSw); first | (go_simp; done) | (go_simp; with_reducible rfl)
          try simp only [Act.put, List.setIfInBounds_toArray, List.set_cons_zero, List.set_cons_succ, List.getElem_toArray, List.getElem_cons_zero, List.getElem_cons_succ]
          refine wpAnyH_take (i := 3) (v := ?v39) rfl (by kernel_rfl) (by kernel_rfl) (by kernel_rfl) (fun _ _ _ h => h) (Or.inl ⟨by rfl, fun w hSw => ?y39⟩) trivial ?r39
          case y39 => (try dsimp only at hSw); first | (go_simp; done) | (go_simp; with_reducible rfl)
          try simp only [Act.put, List.setIfInBounds_toArray, List.set_cons_zero, List.set_cons_succ, List.getElem_toArray, List.getElem_cons_zero, List.getElem_cons_succ]
          refine wpAnyH_ready (rs := [1]) (by kernel_rfl) (by simp) ?_
          refine AllReadyH.cons rfl (fun K hK => ?_) AllReadyH.nil
          go_simp
          refine HLEN.out.mono ?_
          rintro e w' ⟨rfl, rfl⟩
          go_wp2_with fail
          refine hK.out _ _ trivial (fun hH1 => ?_)
          clear hK K
          try simp only [Act.put, List.setIfInBounds_toArray, List.set_cons_zero, List.set_cons_succ, List.getElem_toArray, List.getElem_cons_zero, List.getElem_cons_succ]
          refine wpAnyH_take (i := 4) (v := ?v40) rfl (by kernel_rfl) (by kernel_rfl) (by kernel_rfl) (fun _ _ _ h => h) (Or.inl ⟨by rfl, fun w hSw => ?y40⟩) trivial ?r40
          case y40 => (try dsimp only at hSw); first | (go_simp; done) | (go_simp; with_reducible rfl)
          try simp only [Act.put, List.setIfInBounds_toArray, List.set_cons_zero, List.set_cons_succ, List.getElem_toArray, List.getElem_cons_zero, List.getElem_cons_succ]
          refine wpAnyH_take (i := 5) (v := ?v41) rfl (by kernel_rfl) (by kernel_rfl) (by kernel_rfl) (fun _ _ _ h => h) (Or.inl ⟨by rfl, fun w hSw => ?y41⟩) trivial ?r41
          case y41 => (try dsimp only at hSw); first | (go_simp; done) | (go_simp; with_reducible rfl)
          try simp only [Act.put, List.setIfInBounds_toArray, List.set_cons_zero, List.set_cons_succ, List.getElem_toArray, List.getElem_cons_zero, List.getElem_cons_succ]
          refine wpAnyH_take (i := 6) (v := ?v42) rfl (by kernel_rfl) (by kernel_rfl) (by kernel_rfl) (fun _ _ _ h => h) (Or.inl ⟨by rfl, fun w hSw => ?y42⟩) trivial ?r42
          case y42 => (try dsimp only at hSw); first | (go_simp; done) | (go_simp; with_reducible rfl)
          try simp only [Act.put, List.setIfInBounds_toArray, List.set_cons_zero, List.set_cons_succ, List.getElem_toArray, List.getElem_cons_zero, List.getElem_cons_succ]
          refine wpAnyH_take (i := 9) (v := ?v43) rfl (by kernel_rfl) (by kernel_rfl) (by kernel_rfl) (fun _ _ _ h => h) (Or.inl ⟨by rfl, fun w hSw => ?y43⟩) trivial ?r43
          case y43 => (try dsimp only at hSw); first | (go_simp; done) | (go_simp; with_reducible rfl)
          try simp only [Act.put, List.setIfInBounds_toArray, List.set_cons_zero, List.set_cons_succ, List.getElem_toArray, List.getElem_cons_zero, List.getElem_cons_succ]
          refine wpAnyH_take (i := 10) (v := ?v44) rfl (by kernel_rfl) (by kernel_rfl) (by kernel_rfl) (fun _ _ _ h => h) (Or.inl ⟨by rfl, fun w hSw => ?y44⟩) trivial ?r44
          case y44 => (try dsimp only at hSw); first | (go_simp; done) | (go_simp; with_reducible rfl)
          try simp only [Act.put, List.setIfInBounds_toArray, List.set_cons_zero, List.set_cons_succ, List.getElem_toArray, List.getElem_cons_zero, List.getElem_cons_succ]
          refine wpAnyH_ready (rs := [7]) (by kernel_rfl) (by simp) ?_
          refine AllReadyH.cons rfl (fun K hK => ?_) AllReadyH.nil
          go_simp
          refine HBY.out.mono ?_
          rintro e w3 ⟨hb3, q3, cap3, rfl, hr3, _⟩
          have cv3 := conv_row (packB low L2).length cap3 hr3 rfl
          go_wp2_with fail
          refine hK.out _ _ trivial (fun hH2 => ?_)
          clear hK K
          try simp only [Act.put, List.setIfInBounds_toArray, List.set_cons_zero, List.set_cons_succ, List.getElem_toArray, List.getElem_cons_zero, List.getElem_cons_succ]
          refine wpAnyH_ready (rs := [8, 11]) (by kernel_rfl) (by simp) ?_
          refine AllReadyH.cons rfl (fun K hK => ?_) (AllReadyH.cons rfl (fun K hK => ?_) AllReadyH.nil)
          · go_simp
            refine hK.out _ _ trivial (fun _ => ?_)
            clear hK K
            try simp only [Act.put, List.setIfInBounds_toArray, List.set_cons_zero, List.set_cons_succ, List.getElem_toArray, List.getElem_cons_zero, List.getElem_cons_succ]
            refine wpAnyH_ready (rs := [11]) (by kernel_rfl) (by simp) ?_
            refine AllReadyH.cons rfl (fun K hK => ?_) AllReadyH.nil
            go_simp
            refine (rbytes_any _ _ _ (by omega)).mono ?_
            rintro e w4 ⟨rfl, hb4⟩
            go_wp2_with fail
            refine hK.out _ _ trivial (fun hH3 => ?_)
            clear hK K
            try simp only [Act.put, List.setIfInBounds_toArray, List.set_cons_zero, List.set_cons_succ, List.getElem_toArray, List.getElem_cons_zero, List.getElem_cons_succ]
            refine wpAnyH_take (i := 12) (v := ?v45) rfl (by kernel_rfl) (by kernel_rfl) (by kernel_rfl) (fun _ _ _ h => h) (Or.inl ⟨by rfl, fun w hSw => ?y45⟩) trivial ?r45
            case y45 => (try dsimp only at hSw); first | (go_simp; done) | (go_simp; with_reducible rfl)
            try simp only [Act.put, List.setIfInBounds_toArray, List.set_cons_zero, List.set_cons_succ, List.getElem_toArray, List.getElem_cons_zero, List.getElem_cons_succ]
            refine wpAnyH_take (i := 13) (v := ?v46) rfl (by kernel_rfl) (by kernel_rfl) (by kernel_rfl) (fun _ _ _ h => h) (Or.inl ⟨by rfl, fun w hSw => ?y46⟩) trivial ?r46
            case y46 => (try dsimp only at hSw); first | (go_simp; done) | (go_simp; with_reducible rfl)
            try simp only [Act.put, List.setIfInBounds_toArray, List.set_cons_zero, List.set_cons_succ, List.getElem_toArray, List.getElem_cons_zero, List.getElem_cons_succ]
            refine wpAnyH_done (by kernel_rfl) ?_ _
            have hd2 : Below w2.heap.size w2 w2.drew := (Only.drawn (fun _ => False) ⟨1, rfl⟩ : Only (fun _ => False) w2 w2.drew).below (Nat.le_refl _) (fun _ _ h => h)
            have hz3 : w2.heap.size ≤ w3.heap.size := hb3.size
            have h24 : Below w2.heap.size w2 w4 := (hd2.trans hb3).trans (hb4.mono hz3)
            have hW4 : Ws w4 g v2 L2 low := Wr.only hW2 (Only.of_below (S := fun _ => False) h24) (fun h => h) (fun _ _ h => h)
            have hB4 : Below w.heap.size w w4 := hB2.trans (h24.mono hB2.size)
            clear hb3 hb4 hr3 HBY HLEN
            go_wp2_with fail
            go_roundw
            case rel => exact ⟨j2 + 1, L2, by omega, hL2, rfl, by go_num, hB4, v2, hW4, hv2⟩
            case measure => simp [intOf]; omega
          · go_simp
            refine (rbytes_any _ _ _ (by omega)).mono ?_
            rintro e w4 ⟨rfl, hb4⟩
            have cv4 := conv_row (packB low L2).length cap3 (hr3.below hb4) rfl
            go_wp2_with fail
            refine hK.out _ _ trivial (fun _ => ?_)
            clear hK K
            try simp only [Act.put, List.setIfInBounds_toArray, List.set_cons_zero, List.set_cons_succ, List.getElem_toArray, List.getElem_cons_zero, List.getElem_cons_succ]
            refine wpAnyH_ready (rs := [8]) (by kernel_rfl) (by simp) ?_
            refine AllReadyH.cons rfl (fun K hK => ?_) AllReadyH.nil
            go_simp
            refine hK.out _ _ trivial (fun hH4 => ?_)
            clear hK K
            try simp only [Act.put, List.setIfInBounds_toArray, List.set_cons_zero, List.set_cons_succ, List.getElem_toArray, List.getElem_cons_zero, List.getElem_cons_succ]
            refine wpAnyH_take (i := 12) (v := ?v47) rfl (by kernel_rfl) (by kernel_rfl) (by kernel_rfl) (fun _ _ _ h => h) (Or.inl ⟨by rfl, fun w hSw => ?y47⟩) trivial ?r47
            case y47 => (try dsimp only at hSw); first | (go_simp; done) | (go_simp; with_reducible rfl)
            try simp only [Act.put, List.setIfInBounds_toArray, List.set_cons_zero, List.set_cons_succ, List.getElem_toArray, List.getElem_cons_zero, List.getElem_cons_succ]
            refine wpAnyH_take (i := 13) (v := ?v48) rfl (by kernel_rfl) (by kernel_rfl) (by kernel_rfl) (fun _ _ _ h => h) (Or.inl ⟨by rfl, fun w hSw => ?y48⟩) trivial ?r48
            case y48 => (try dsimp only at hSw); first | (go_simp; done) | (go_simp; with_reducible rfl)
            try simp only [Act.put, List.setIfInBounds_toArray, List.set_cons_zero, List.set_cons_succ, List.getElem_toArray, List.getElem_cons_zero, List.getElem_cons_succ]
            refine wpAnyH_done (by kernel_rfl) ?_ _
            have hd2 : Below w2.heap.size w2 w2.drew := (Only.drawn (fun _ => False) ⟨1, rfl⟩ : Only (fun _ => False) w2 w2.drew).below (Nat.le_refl _) (fun _ _ h => h)
            have hz3 : w2.heap.size ≤ w3.heap.size := hb3.size
            have h24 : Below w2.heap.size w2 w4 := (hd2.trans hb3).trans (hb4.mono hz3)
            have hW4 : Ws w4 g v2 L2 low := Wr.only hW2 (Only.of_below (S := fun _ => False) h24) (fun h => h) (fun _ _ h => h)
            have hB4 : Below w.heap.size w w4 := hB2.trans (h24.mono hB2.size)
            clear hb3 hb4 hr3 HBY HLEN
            go_wp2_with fail
            go_roundw
            case rel => exact ⟨j2 + 1, L2, by omega, hL2, rfl, by go_num, hB4, v2, hW4, hv2⟩
            case measure => simp [intOf]; omega
      · go_wp2_with fail
        go_ret
        exact ⟨rfl, hB⟩
end Go.Proofs.Ytpphcooikhncfaa.Bit

/- The walk of BitsReads: it returns true for any bytes, either end and any ops, and nothing that was there is written. -/
import Derived.Test.YtpphcooikhncfaaBitO
namespace Go.Proofs.Ytpphcooikhncfaa.Bit
open Go.RowKit Go.Proofs.Ytpphcooikhncfaa.Oct
set_option linter.unusedVariables false

theorem Rd.only {S : Nat → Prop} {w w' : World} {g : Nat} {p : Option Addr} {cap : Nat} {xs : List UInt8} {at_ : Nat} {low : Bool} (h : Rd w g p cap xs at_ low) (ho : Only S w w') (hg : ¬ S g) (hp : ∀ a, p = some a → ¬ S a.block) : Rd w' g p cap xs at_ low := by
  have hlt := h.lt
  refine ⟨(ho.2.2.2.2 g hlt hg).trans h.1, fun h0 => ?_, h.2.2⟩
  obtain ⟨b, off, e, hb, hc⟩ := h.2.1 h0
  refine ⟨b, off, e, hb, fun i hi => ?_⟩
  rw [← hc i hi]
  exact World.cell?_of_block (w := w) (ho.2.2.2.2 b (by omega) (hp _ e))
/-- a row of the call's own whose bytes may be any -/
def OwnR (w : World) (g n : Nat) : Prop := ∃ cur : Array Value, w.heap[g]? = some (.cells cur 5 (0, 0)) ∧ n ≤ cur.size ∧ ∀ i, i < n → ∃ z : Int, 0 ≤ z ∧ z < 256 ∧ cur[i]? = some (.int .u8 z)
theorem OwnR.of {w : World} {base g n cap : Nat} {xs : List UInt8} (h : w.ownsRow base 5 1 (.slice (some ⟨g, 0, none⟩) n cap) n (cellsOf xs)) : OwnR w g n := by
  obtain ⟨hlen, hv⟩ := h
  rcases hv with ⟨hv, _⟩ | ⟨g', cap', cur, hv, _, hh, h1, _, hs, ht⟩
  · cases hv
  · injection hv with e1 _ e3
    injection e1 with e1
    injection e1 with e1
    subst e1
    subst e3
    refine ⟨cur, hh, by omega, fun i hi => ?_⟩
    simp at ht hlen
    rw [cellsOf_length] at hlen
    have hget : cur.toList[i]? = (cellsOf xs)[i]? := by rw [← ht, List.getElem?_take_of_lt hi]
    have hix : i < xs.length := by omega
    refine ⟨(xs[i].toNat : Int), by omega, by have := xs[i].toNat_lt; omega, ?_⟩
    rw [← Array.getElem?_toList, hget]
    simp [cellsOf, hix]
theorem OwnR.cell {w : World} {g n : Nat} (h : OwnR w g n) (i : Nat) (hi : i < n) : ∃ z : Int, 0 ≤ z ∧ z < 256 ∧ w.cell? ⟨g, i, none⟩ = some (.int .u8 z) ∧ w.frozen? ⟨g, i, none⟩ = false := by
  obtain ⟨cur, hh, hs, hc⟩ := h
  obtain ⟨z, h0, h1, hz⟩ := hc i hi
  exact ⟨z, h0, h1, by simp [World.cell?, hh, hz], by simp [World.frozen?, hh]⟩
theorem OwnR.set {w : World} {g n : Nat} (h : OwnR w g n) (k : Nat) (z : Int) (hz : 0 ≤ z) (hz' : z < 256) : OwnR (w.setCell ⟨g, k, none⟩ (.int .u8 z)) g n := by
  obtain ⟨cur, hh, hs, hc⟩ := h
  refine ⟨cur.setIfInBounds k (.int .u8 z), ?_, by simpa using hs, fun i hi => ?_⟩
  · simp [World.setCell, Array.getElem?_modify, hh]
  · rw [Array.getElem?_setIfInBounds]
    by_cases hk : k = i
    · subst hk
      rw [if_pos rfl, if_pos (by omega)]
      exact ⟨z, hz, hz', rfl⟩
    · rw [if_neg hk]
      exact hc i hi
theorem Only.cell {S : Nat → Prop} {w w' : World} (h : Only S w w') {p : Addr} (hp : p.block < w.heap.size) (hs : ¬ S p.block) : w'.cell? p = w.cell? p :=
  World.cell?_of_block (w := w) (h.2.2.2.2 p.block hp hs)
theorem kind4 (k : Int) : (IntKind.u64.wrap k).tmod 4 = 0 ∨ (IntKind.u64.wrap k).tmod 4 = 1 ∨ (IntKind.u64.wrap k).tmod 4 = 2 ∨ (IntKind.u64.wrap k).tmod 4 = 3 := by
  have h : 0 ≤ IntKind.u64.wrap k := by rw [IntKind.wrap_u64]; omega
  rw [Int.tmod_eq_emod_of_nonneg h]
  omega
def Lp1 (go n : Nat) (w3 wr : World) : Prop := Only (· = go) w3 wr ∧ OwnR wr go n
def RdsR (W : World) (g : Nat) (q : Option Addr) (cap : Nat) (xs : List UInt8) (low : Bool) (at_ : Nat) (wr : World) : Prop := Rd wr g q cap xs at_ low ∧ Below W.heap.size W wr
theorem rrV_eq (n : Int) (low : Bool) (xs : List UInt8) (at_ : Nat) : rrV n low (bitsOf low xs) at_ = readV n low xs at_ := by
  unfold rrV readV nextV
  rw [bitsOf_length]
theorem rpV_eq (n : Int) (low : Bool) (xs : List UInt8) (at_ : Nat) : rpV n low (bitsOf low xs) at_ = peekA n low xs at_ := rfl
theorem readA_le (n : Int) (len at_ : Nat) (h : at_ ≤ len) : readA n len at_ ≤ len := by
  unfold readA
  by_cases ho : okR n len at_ = true
  · rw [if_pos ho]
    unfold okR cntB at ho
    simp at ho
    omega
  · rw [if_neg ho]; exact h
set_option maxHeartbeats 2000000 in
set_option maxRecDepth 100000 in
theorem reads_walk (p : Option Addr) (len cap : Nat) (zs0 : List Int) (low : Bool) (p2 : Option Addr) (len2 cap2 : Nat) (w : World) (hr0 : IsRow .u8 w p len cap zs0) (hops : IsOps w p2 len2 cap2) :
    Calls Try.prog 3 #[.slice p len cap, .bool low, .slice p2 len2 cap2] w fun e w' => e = .returned (.bool true) ∧ Below w.heap.size w w' := by
  obtain ⟨xs, hx, hr, hlc, hcm, hnil⟩ := hr0.row
  clear hr0
  unfold maxLen at hcm
  by_cases hbig : 200 < len
  · have hd : decide (200 < (len : Int)) = true := by simp; omega
    go_enter Try.func3, Try.ntmps3
    go_wp2_with fail
    refine (lives_any _).mono ?_
    rintro e w1 ⟨rfl, hb1⟩
    go_wp2_with fail
    refine (lives_any _).mono ?_
    rintro e w2 ⟨rfl, hb2⟩
    go_wp2_with fail
    go_ret
    exact ⟨rfl, hb1.trans (hb2.mono hb1.size)⟩
  · have hd : decide (200 < (len : Int)) = false := by simp; omega
    have HX := Lib.hid hx
    clear hx
    go_enter Try.func3, Try.ntmps3
    go_wp2_with fail
    refine (lives_any _).mono ?_
    rintro e w1 ⟨rfl, hb1⟩
    have hz1 := hb1.size
    have hops1 : IsOps w1 p2 len2 cap2 := ⟨hops.1, hops.2.1, fun h0 => by
      obtain ⟨b, off, e, hlt, hall⟩ := hops.2.2 h0
      exact ⟨b, off, e, by omega, fun i hi => by
        obtain ⟨k, n, v, s, hat, hok⟩ := hall i hi
        exact ⟨k, n, v, s, hat.below hb1 hlt, hok⟩⟩⟩
    go_wp2_with fail
    refine (fits_any _ _ _ _ hops1).mono ?_
    rintro e w2 ⟨hb2, fb, rfl, hfb⟩
    have hz2 := hb2.size
    have hbw2 : Below w.heap.size w w2 := hb1.trans (hb2.mono hz1)
    clear hops1 hb1 hb2
    cases fb
    · clear hfb
      go_wp2_with fail
      refine (lives_any _).mono ?_
      rintro e w3 ⟨rfl, hb3⟩
      go_wp2_with fail
      go_ret
      exact ⟨rfl, hbw2.trans (hb3.mono (by omega))⟩
    · have hl100 : len2 ≤ 100 := (hfb rfl).1
      clear hfb
      have hown := World.ownsRow_made (base := w2.heap.size) (e := 5) (size := 1) w2 #[] 0 (Nat.le_refl _) (by simp [maxLen]) rfl
      have hr2 := (hr.below hbw2).below ((Below.refl _ w2).alloc (Nat.le_refl _) (.cells #[] 5))
      go_wp2_with (at_builtin; refine wpList_append_bytes rfl _ _ rfl w2.heap.size _ 0 [] rfl hown p len cap xs rfl hr2 HX.out hnil (by omega) (by simp) ?_)
      intro v' w3 hown' hgrow hv
      obtain ⟨go, cap3, hv', hgc, hgm, hgb, hgl, hrow3⟩ := own_form hown' hv
      rw [hv'] at hown' ⊢
      have hO3 := OwnR.of hown'
      have hb23 : Below w2.heap.size w2 w3 := ((Below.refl _ w2).alloc (Nat.le_refl _) _).grown hgrow (by simp) (fun k hk => by
        simp [Value.ownBlock] at hk; omega)
      have hz3 := hb23.size
      have hbw3 : Below w.heap.size w w3 := hbw2.trans (hb23.mono (by omega))
      clear hown hr2 hown' hgrow hv hv' hb23
      go_wp2_with fail
      refine (newReader_any _ _ _ xs _ _ hrow3 HX.out (fun h => by cases h) (by omega)).mono ?_
      rintro e w4 ⟨hb4, g, q, cap4, rfl, hg, hR4, hq4⟩
      have hz4 := hb4.size
      have hbw4 : Below w.heap.size w w4 := hbw3.trans (hb4.mono (by omega))
      have hO4 : OwnR w4 go len := by
        obtain ⟨cur, hh, r⟩ := hO3
        exact ⟨cur, (hb4.block go hgl).trans hh, r⟩
      have HR4 := Lib.hid hR4
      have HQ4 := Lib.hid hq4
      clear hR4 hq4 hO3 hb4 hrow3
      go_wp2_with fail
      go_loopw [9, 44] (fun i c wr => ∃ j : Nat, j ≤ len ∧ c = .int .i64 (j : Int) ∧ Lp1 go len w4 wr) (fun _ c _ => len - (intOf c).toNat)
      case atStart => exact ⟨0, by omega, rfl, Only.refl _ _, hO4⟩
      case round =>
        obtain ⟨j, hj, rfl, hL⟩ := hrel
        by_cases hlt : j < len
        · obtain ⟨z, hz0, hz256, hc, hf⟩ := hL.2.cell j hlt
          go_wp2_with fail
          go_roundw
          case rel =>
            have hwb := wrap_u8_bd (z + 1)
            refine ⟨j + 1, by omega, by go_num, hL.1.trans (Only.setCell (S := (· = go)) (p := ⟨go, j, none⟩) (by rfl) _), ?_⟩
            refine hL.2.set j _ ?_ ?_
            · first | omega | (rw [IntKind.wrap_u8] at hwb; omega)
            · first | omega | (rw [IntKind.wrap_u8] at hwb; omega)
          case measure => simp [intOf]; omega
        · have hRr : Rd wr g q cap4 xs 0 low := HR4.out.only hL.1 (by omega) (fun a ha => by have := HQ4.out a ha; omega)
          have hbr : Below w.heap.size w wr := hbw4.trans (hL.1.below (by omega) (fun k hk e => by omega))
          have cv := conv_row len cap (hr.below hbr) HX.out
          have hxl : xs.length ≤ 200 := by rw [HX.out]; omega
          go_wp2_with fail
          refine (rof_any _ _ _ (by omega)).mono ?_
          rintro e w5 ⟨rfl, hb5⟩
          have hR5 : Rd w5 g q cap4 xs 0 low := hRr.below hb5 hRr.lt
          have hb5' : Below w.heap.size w w5 := hbr.trans (hb5.mono hbr.size)
          clear cv hRr hbr hb5 hL
          have HR5 := Lib.hid hR5
          clear hR5
          have hsl := ds_size (bitsOf low xs)
          rw [bitsOf_length] at hsl
          obtain ⟨T, hT⟩ : ∃ T, T = 8 * xs.length := ⟨_, rfl⟩
          rw [← hT] at hsl
          have hT2 : T ≤ 1600 := by omega
          have HT := Lib.hid hT
          clear hT
          go_wp2_with fail
          go_loopw [11, 60] (fun a c wr => ∃ j at_ : Nat, j ≤ len2 ∧ a = .int .i64 (at_ : Int) ∧ c = .int .i64 (j : Int) ∧ RdsR w g q cap4 xs low at_ wr) (fun _ c _ => len2 - (intOf c).toNat)
          case atStart => exact ⟨0, 0, by omega, rfl, rfl, HR5.out, hb5'⟩
          case round =>
            obtain ⟨j2, at_, hj2, rfl, rfl, hP⟩ := hrel
            obtain ⟨hR, hB⟩ := hP
            by_cases hlt2 : j2 < len2
            · obtain ⟨b, off, hpe, hbl, hall⟩ := hops.2.2 (by omega)
              subst hpe
              obtain ⟨k, n, v, s, hat, hok⟩ := hall j2 hlt2
              obtain ⟨c0, c1, c2, c3⟩ := hat.below hB hbl
              obtain ⟨k1, k2, n1, n2, _⟩ := hok
              clear hall
              have hlt0 := hR.lt
              have hBa : Below w.heap.size w (wr.alloc (.cells #[.int .i64 k, .int .i64 n, .int .u32 v, .string s] 31)) := hB.alloc hB.size _
              have hRa : Rd (wr.alloc (.cells #[.int .i64 k, .int .i64 n, .int .u32 v, .string s] 31)) g q cap4 xs at_ low := hR.below ((Below.refl wr.heap.size wr).alloc (Nat.le_refl _) _) hlt0
              have cb1 : (wr.alloc (.cells #[.int .i64 k, .int .i64 n, .int .u32 v, .string s] 31)).cell? ⟨wr.heap.size, 1, none⟩ = some (.int .i64 n) := by simp
              have ha : at_ ≤ T := by have := hR.2.2.1; rw [HT.out]; exact this
              have hg0 : w.heap.size ≤ g := by omega
              have HRa := Lib.hid hRa
              have HCB := Lib.hid cb1
              clear hRa cb1 hR
              rcases kind4 k with hk4 | hk4 | hk4 | hk4
              · go_wp2_with fail
                have hRa := HRa.out
                have cb1 := HCB.out
                refine (read_any _ _ _ _ _ _ _ _ hRa).mono ?_
                rintro e w6 ⟨rfl, hR6, ho6, hz6⟩
                have hB6 : Below w.heap.size w w6 := hBa.trans (ho6.below (by have := hBa.size; omega) (fun k hk e => by omega))
                have cb := (ho6.cell (p := ⟨wr.heap.size, 1, none⟩) (by simp) (by show ¬ wr.heap.size = g; omega)).trans cb1
                clear ho6 hz6
                rw [← HT.out] at hR6
                go_wp2_with fail
                refine (rread_any _ _ _ _ _ (by rw [bitsOf_length, ← HT.out]; exact ha) (by rw [bitsOf_length, ← HT.out]; omega)).mono ?_
                rintro e w' ⟨rfl, rfl⟩
                rw [rrV_eq, bitsOf_length, ← HT.out]
                have HA0 := readA_le n T at_ ha
                generalize readA n T at_ = A at HA0 hR6 ⊢
                have HA := Lib.hid HA0
                clear HA0
                have hAle : A ≤ T := HA.out
                obtain ⟨lf, hlf⟩ : ∃ lf, lf = T - A := ⟨_, rfl⟩
                have hLeft : ((lf : Int) != (T : Int) - (A : Int)) = false := by simp; omega
                have HLF := Lib.hid hlf
                clear hlf
                go_wp2_with fail
                refine (at_any _ _ _ _ _ _ _ hR6).mono ?_
                rintro e w' ⟨rfl, rfl⟩
                go_wp2_with fail
                refine (left_any _ _ _ _ _ _ _ hR6).mono ?_
                rintro e w7 ⟨rfl, hd7⟩
                rw [← HT.out, ← HLF.out]
                go_wp2_with fail
                go_roundw
                case rel => exact ⟨j2 + 1, A, by omega, rfl, by go_num, hR6.drawn hd7, hB6.trans (hd7.below _)⟩
                case measure => simp [intOf]; omega
              · go_wp2_with fail
                have hRa := HRa.out
                have cb1 := HCB.out
                refine (read_any _ _ _ _ _ _ _ _ hRa).mono ?_
                rintro e w6 ⟨rfl, hR6, ho6, hz6⟩
                have hB6 : Below w.heap.size w w6 := hBa.trans (ho6.below (by have := hBa.size; omega) (fun k hk e => by omega))
                have cb := (ho6.cell (p := ⟨wr.heap.size, 1, none⟩) (by simp) (by show ¬ wr.heap.size = g; omega)).trans cb1
                clear ho6 hz6
                rw [← HT.out] at hR6
                go_wp2_with fail
                refine (rread_any _ _ _ _ _ (by rw [bitsOf_length, ← HT.out]; exact ha) (by rw [bitsOf_length, ← HT.out]; omega)).mono ?_
                rintro e w' ⟨rfl, rfl⟩
                rw [rrV_eq, bitsOf_length, ← HT.out]
                have HA0 := readA_le n T at_ ha
                generalize readA n T at_ = A at HA0 hR6 ⊢
                have HA := Lib.hid HA0
                clear HA0
                have hAle : A ≤ T := HA.out
                obtain ⟨lf, hlf⟩ : ∃ lf, lf = T - A := ⟨_, rfl⟩
                have hLeft : ((lf : Int) != (T : Int) - (A : Int)) = false := by simp; omega
                have HLF := Lib.hid hlf
                clear hlf
                go_wp2_with fail
                refine (at_any _ _ _ _ _ _ _ hR6).mono ?_
                rintro e w' ⟨rfl, rfl⟩
                go_wp2_with fail
                refine (left_any _ _ _ _ _ _ _ hR6).mono ?_
                rintro e w7 ⟨rfl, hd7⟩
                rw [← HT.out, ← HLF.out]
                go_wp2_with fail
                go_roundw
                case rel => exact ⟨j2 + 1, A, by omega, rfl, by go_num, hR6.drawn hd7, hB6.trans (hd7.below _)⟩
                case measure => simp [intOf]; omega
              · go_wp2_with fail
                have hRa := HRa.out
                have cb1 := HCB.out
                refine (peek_any _ _ _ _ _ _ _ _ hRa).mono ?_
                rintro e w6 ⟨rfl, hd6⟩
                have hB6 : Below w.heap.size w w6 := hBa.trans (hd6.below _)
                have hR6 := hRa.drawn hd6
                have ho6 := Only.drawn (fun _ => False) hd6
                have cb := (ho6.cell (p := ⟨wr.heap.size, 1, none⟩) (by simp) (fun h => h)).trans cb1
                clear ho6 hd6
                go_wp2_with fail
                refine (rpeek_any _ _ _ _ _ (by rw [bitsOf_length, ← HT.out]; exact ha) (by rw [bitsOf_length, ← HT.out]; omega)).mono ?_
                rintro e w' ⟨rfl, rfl⟩
                rw [rpV_eq]
                obtain ⟨A, hA⟩ : ∃ A, A = at_ := ⟨_, rfl⟩
                subst hA
                have HA := Lib.hid ha
                have hAle : A ≤ T := HA.out
                obtain ⟨lf, hlf⟩ : ∃ lf, lf = T - A := ⟨_, rfl⟩
                have hLeft : ((lf : Int) != (T : Int) - (A : Int)) = false := by simp; omega
                have HLF := Lib.hid hlf
                clear hlf
                go_wp2_with fail
                refine (at_any _ _ _ _ _ _ _ hR6).mono ?_
                rintro e w' ⟨rfl, rfl⟩
                go_wp2_with fail
                refine (left_any _ _ _ _ _ _ _ hR6).mono ?_
                rintro e w7 ⟨rfl, hd7⟩
                rw [← HT.out, ← HLF.out]
                go_wp2_with fail
                go_roundw
                case rel => exact ⟨j2 + 1, A, by omega, rfl, by go_num, hR6.drawn hd7, hB6.trans (hd7.below _)⟩
                case measure => simp [intOf]; omega
              · go_wp2_with fail
                have hRa := HRa.out
                have cb1 := HCB.out
                refine (align_any _ _ _ _ _ _ _ hRa).mono ?_
                rintro e w6 ⟨rfl, hR6, ho6, hz6⟩
                have hB6 : Below w.heap.size w w6 := hBa.trans (ho6.below (by have := hBa.size; omega) (fun k hk e => by omega))
                clear ho6 hz6
                have hA1 : 8 * ((at_ + 7) / 8) ≤ T := by have := HT.out; omega
                have hA2 : ((at_ : Int) + 7) / 8 * 8 = ((8 * ((at_ + 7) / 8) : Nat) : Int) := by omega
                generalize 8 * ((at_ + 7) / 8) = A at hA1 hA2 hR6
                have HA := Lib.hid hA1
                have HA2 := Lib.hid hA2
                clear hA1 hA2
                go_wp2_with fail
                rw [HA2.out]
                have hAle : A ≤ T := HA.out
                obtain ⟨lf, hlf⟩ : ∃ lf, lf = T - A := ⟨_, rfl⟩
                have hLeft : ((lf : Int) != (T : Int) - (A : Int)) = false := by simp; omega
                have HLF := Lib.hid hlf
                clear hlf
                go_wp2_with fail
                refine (at_any _ _ _ _ _ _ _ hR6).mono ?_
                rintro e w' ⟨rfl, rfl⟩
                go_wp2_with fail
                refine (left_any _ _ _ _ _ _ _ hR6).mono ?_
                rintro e w7 ⟨rfl, hd7⟩
                rw [← HT.out, ← HLF.out]
                go_wp2_with fail
                go_roundw
                case rel => exact ⟨j2 + 1, A, by omega, rfl, by go_num, hR6.drawn hd7, hB6.trans (hd7.below _)⟩
                case measure => simp [intOf]; omega
            · go_wp2_with fail
              go_ret
              exact ⟨rfl, hB⟩
end Go.Proofs.Ytpphcooikhncfaa.Bit

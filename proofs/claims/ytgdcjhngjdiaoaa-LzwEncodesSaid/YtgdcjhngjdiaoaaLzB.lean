
/- The contract of Encode: a Clear, codes that produce the bytes, and End. -/
import Derived.Test.YtgdcjhngjdiaoaaLzL
namespace Go.Proofs.Ytgdcjhngjdiaoaa.Lz
open Go.RowKit Go.Proofs.Ytgdcjhngjdiaoaa.Oct Go.Proofs.Ytgdcjhngjdiaoaa.Bit
set_option linter.unusedVariables false
set_option linter.unusedSimpArgs false
set_option maxRecDepth 100000

/-- what Encode answers, and where -/
def EncP (w : World) (xs : List UInt8) (e : Ending) (w' : World) : Prop :=
  ∃ bits q cap, e = .returned (.slice q (packB false bits).length cap) ∧ Row w' q (packB false bits) ∧ (packB false bits).length ≤ cap ∧ cap ≤ maxLen ∧ (q = none → cap = 0) ∧ Below w.heap.size w w' ∧ Coded bits xs ∧ bits.length ≤ 24 * xs.length + 24
/-- an encoder at work: i bytes have been told -/
def EncSt (w : World) (xs : List UInt8) (d g m i : Nat) (wr : World) : Prop :=
  ∃ (v : Value) (L : List Bool) (s : St) (f : Nat → Option Nat) (nf k : Nat) (pr : Bool), Ec wr d g m v L f nf k pr ∧ EInv f k pr s (xs.drop i) ∧ Tells L s (xs.take i) ∧ (∃ L', L = wordE false 256 9 ++ L') ∧ L.length ≤ 24 * i + 12 ∧ nf ≤ i ∧
    Below w.heap.size w wr ∧ ∀ j, v.ownBlock = some j → w.heap.size ≤ j
theorem widN_258 : widN 258 false = 9 := by decide
theorem Ec.low {w w' W : World} {d g m : Nat} {v : Value} (ho : Only (MineE d g m v) w w') (hB : Below W.heap.size W w) (hd : W.heap.size ≤ d) (hg : W.heap.size ≤ g) (hm : W.heap.size ≤ m) (hv : ∀ j, v.ownBlock = some j → W.heap.size ≤ j) :
    Below W.heap.size W w' :=
  hB.trans (ho.below hB.size (fun k hk e => by
    rcases e with e | e | e | e
    · omega
    · omega
    · omega
    · have := hv k e; omega))
def sliceN : Value → Nat
  | .slice _ n _ => n
  | _ => 0
theorem take_more (xs : List UInt8) (a n : Nat) : xs.take (a + n) = xs.take a ++ (xs.drop a).take n := List.take_add

set_option maxHeartbeats 4000000 in
theorem encode_any (p : Option Addr) (len cap : Nat) (xs : List UInt8) (w : World) (hr : Row w p xs) (hx : xs.length = len) (hlc : len ≤ cap) (hcm : cap ≤ maxLen) (hnil : p = none → cap = 0) (hl : len ≤ 20000) :
    Calls Try.prog 13 #[.slice p len cap] w (EncP w xs) := by
  have HCM := Lib.hid hcm
  unfold maxLen at hcm
  have HX := Lib.hid hx
  have HR := Lib.hid hr
  have HN := Lib.hid hnil
  have hmk := @run_makeMap Try.prog
  clear hx hr hnil
  go_enter Try.func13, Try.ntmps13
  go_wp2_with fail
  refine (newWriter_any false _).mono ?_
  rintro e w1 ⟨hb1, rfl, hW1⟩
  have hgl := Wr.lt hW1
  have hz1 := hb1.size
  obtain ⟨wd, hwd⟩ : ∃ wd, wd = (w1.alloc (.map #[] 0)).alloc (.cells #[.pointer (some ⟨w.heap.size, 0, none⟩), .map (some w1.heap.size), .int .i64 258, .bool false] 57) := ⟨_, rfl⟩
  have hbd : Below w1.heap.size w1 wd := by rw [hwd]; exact ((Below.refl _ w1).alloc (Nat.le_refl _) _).alloc (by simp) _
  have hE0 : Ec wd (w1.heap.size + 1) w.heap.size w1.heap.size (.slice none 0 0) [] (fun _ => none) 0 258 false := by
    refine ⟨?_, Wr.only hW1 (S := fun _ => False) (Only.of_below hbd) (fun e => e) (fun _ _ e => e), ?_, by omega, by omega, by omega, (fun e => by cases e), (fun e => by cases e)⟩
    · rw [hwd]
      show ((w1.heap.push _).push _)[w1.heap.size + 1]? = _
      have e : w1.heap.size + 1 = (w1.heap.push (Obj.map #[] 0)).size := by simp
      rw [e, Array.getElem?_push_size]
      rfl
    · rw [hwd]
      exact (MapC.made w1).only (S := fun _ => False) (Only.of_below ((Below.refl _ _).alloc (Nat.le_refl _) _)) (fun e => e)
  have hrs := ereset_any _ _ _ _ _ _ _ _ _ _ hE0 (by omega) (by simp)
  have HRS := Lib.hid hrs
  have HWD := Lib.hid hwd
  have HBD := Lib.hid (hb1.trans (hbd.mono hz1))
  obtain ⟨m, hm⟩ : ∃ m, m = w1.heap.size := ⟨_, rfl⟩
  obtain ⟨g, hg⟩ : ∃ g, g = w.heap.size := ⟨_, rfl⟩
  rw [← hm, ← hg] at hwd HRS HWD
  have hgw : w.heap.size ≤ g := by omega
  have hmw : w.heap.size ≤ m := by omega
  have HM := Lib.hid hm
  have HG := Lib.hid hg
  clear hrs hwd hE0 hbd hb1 hW1 hm hg
  go_wp2_with fail
  rw [← HM.out, ← HG.out, ← HWD.out]
  refine HRS.out.mono ?_
  rintro e w2 ⟨rfl, v2, hE2, ho2, hv2⟩
  rw [widN_258, List.nil_append] at hE2
  have hB2 : Below w.heap.size w w2 := Ec.low ho2 HBD.out (by omega) hgw hmw (fun j hj => by cases hj)
  have hst : EncSt w xs (m + 1) g m 0 w2 := by
    have hT : Tells (wordE false 256 9) s0 [] := by
      have h := Tells.snoc (c := 256) (t := []) Tells.nil (by decide) (by decide) (step_clear s0) (fun h => absurd rfl h)
      simpa [s0, widN_258] using h
    refine ⟨v2, _, s0, _, 0, 258, false, hE2, EInv.start _, by simpa using hT, ⟨[], by simp⟩, by rw [wordE_length]; omega, by omega, hB2, fun j hj => ?_⟩
    rcases hv2 j hj with h | h
    · cases h
    · have := HBD.out.size; omega
  have HST := Lib.hid hst
  clear hst hE2 ho2 hv2 hB2
  go_wp2_with fail
  go_loopw [0] (fun u wr => ∃ (i : Nat) (q : Option Addr), i ≤ len ∧ u = .slice q (len - i) (cap - i) ∧ Hid (Row w q (xs.drop i)) ∧ EncSt w xs (m + 1) g m i wr) (fun u _ => sliceN u)
  case atStart => exact ⟨0, p, Nat.zero_le _, rfl, HR, HST.out⟩
  case round =>
    obtain ⟨i, q, hil, rfl, HQ, v, L, s, f, nf, k, pr, hE, hI, hT, hcl, hLl, hnf, hB, hv⟩ := hrel
    have HLD : Hid ((xs.drop i).length = len - i) := Lib.hid (by rw [List.length_drop, HX.out])
    by_cases hlt : i < len
    · have hpos : decide (((len - i : Nat) : Int) > 0) = true := by simp; omega
      have c2 := hE.c2
      by_cases hk4 : k = 4094
      · have q4 : ((k : Int) == 4094) = true := by simp; omega
        have hrs := ereset_any _ _ _ _ _ _ _ _ _ _ hE (by omega) (by omega)
        have hcod := hI.cod
        have hT' : Tells (L ++ wordE false 256 (widN k false)) s0 (xs.take i) := by
          have h := Tells.snoc (c := 256) (t := []) hT (by decide) (by have := widN_less (258 + s.tab.length); omega) (step_clear s) (fun h => absurd rfl h)
          rw [← hcod] at h
          simpa using h
        have hL2 : (L ++ wordE false 256 (widN k false)).length ≤ 24 * i + 24 := by rw [List.length_append, wordE_length]; have := (widN_bd k false).2; omega
        have HRS2 := Lib.hid hrs
        have HT2 := Lib.hid hT'
        have HCL2 : Hid (∃ L', L ++ wordE false 256 (widN k false) = wordE false 256 9 ++ L') := Lib.hid (by obtain ⟨L', e⟩ := hcl; exact ⟨L' ++ wordE false 256 (widN k false), by rw [e, List.append_assoc]⟩)
        generalize L ++ wordE false 256 (widN k false) = L2 at *
        have HB := Lib.hid hB
        have HV := Lib.hid hv
        clear hrs hT' hE hI hT hcl hcod hB hv hk4 hLl
        go_wp2_with fail
        refine HRS2.out.mono ?_
        rintro e wr2 ⟨rfl, v2, hE2, ho2, hv2⟩
        obtain ⟨s2, hs2⟩ : ∃ s2, s2 = s0 := ⟨_, rfl⟩
        have hI2 : EInv (fun _ => none) 258 false s2 (xs.drop i) := by rw [hs2]; exact EInv.start _
        rw [← hs2] at HT2
        have HE2 := Lib.hid hE2
        have HI2 := Lib.hid hI2
        have HB2 := Lib.hid (Ec.low ho2 HB.out (by omega) hgw hmw HV.out)
        have HV2 : Hid (∀ j, v2.ownBlock = some j → w.heap.size ≤ j) := Lib.hid (fun j hj => by
          rcases hv2 j hj with h | h
          · exact HV.out j h
          · have := HB.out.size; omega)
        obtain ⟨k2, hk2e⟩ : ∃ k2, k2 = 258 := ⟨_, rfl⟩
        rw [← hk2e] at HE2 HI2
        have hk2 : k2 ≤ 4093 := by omega
        have hnf2 : 0 ≤ i := by omega
        obtain ⟨pr2, hpr2⟩ : ∃ pr2, pr2 = false := ⟨_, rfl⟩
        obtain ⟨f2, hf2⟩ : ∃ f2 : Nat → Option Nat, f2 = (fun _ => none) := ⟨_, rfl⟩
        rw [← hpr2, ← hf2] at HE2 HI2
        obtain ⟨nf2, hnf0⟩ : ∃ nf2, nf2 = 0 := ⟨_, rfl⟩
        rw [← hnf0] at HE2 hnf2
        clear hE2 ho2 hv2 hI2 hs2 hk2e hpr2 hf2 HB HV HRS2 hnf0 c2 hnf q4
        have HRw := Lib.hid (HQ.out.below HB2.out)
        have hcod := HI2.out.cod
        have htb := HI2.out.top
        go_wp2_with fail
        refine (longest_any _ _ _ _ _ _ _ _ _ _ _ _ _ _ _ HE2.out HI2.out (by exact HRw.out) HLD.out (by omega) (by omega) (by omega)).mono ?_
        rintro e w3 ⟨c, n, rfl, hn1, hn2, hlk, hd3⟩
        rw [HLD.out] at hn2
        have hcb := HI2.out.bound hlk
        have hfit := widN_fits k2 (by omega) c hcb.1
        have hE3 := HE2.out.drawn hd3
        have hB3 := HB2.out.trans (hd3.below _)
        have hpr := eproduce_any _ _ _ _ _ _ _ _ _ _ c hE3 (by omega) hfit (by omega)
        have hstp := HI2.out.step_ (by omega) hlk hn1 (by rw [HLD.out]; exact hn2)
        have HPR := Lib.hid hpr
        have HLK := Lib.hid hlk
        have HSTP := Lib.hid hstp
        have HB3 := Lib.hid hB3
        have HCB := Lib.hid hcb.2
        have hck := hcb.1
        have HRw3 := Lib.hid (HRw.out.below (hd3.below _))
        clear hpr hlk hstp hE3 hB3 hcb hd3 HE2 HB2
        go_wp2_with fail
        refine HPR.out.mono ?_
        rintro e w4 ⟨rfl, v4, hE4, ho4, hv4⟩
        have HB4 := Lib.hid (Ec.low ho4 HB3.out (by omega) hgw hmw HV2.out)
        have HV4 : Hid (∀ j, v4.ownBlock = some j → w.heap.size ≤ j) := Lib.hid (fun j hj => by
          rcases hv4 j hj with h | h
          · exact HV2.out j h
          · have := HB3.out.size; omega)
        have HRw4 := Lib.hid (HQ.out.below HB4.out)
        have HCOD := Lib.hid hcod
        have hL3 : (L2 ++ wordE false c (widN k2 false)).length ≤ 24 * (i + n) + 12 := by rw [List.length_append, wordE_length]; have := (widN_bd k2 false).2; omega
        have hcl3 : ∃ L', L2 ++ wordE false c (widN k2 false) = wordE false 256 9 ++ L' := by obtain ⟨L', e⟩ := HCL2.out; exact ⟨L' ++ wordE false c (widN k2 false), by rw [e, List.append_assoc]⟩
        have hT3 : ∀ (h : 258 + (nxt s2 ((xs.drop i).take n)).tab.length ≤ 4094), Tells (L2 ++ wordE false c (widN k2 false)) (nxt s2 ((xs.drop i).take n)) (xs.take (i + n)) := by
          intro h
          have h2 := Tells.snoc HT2.out HCB.out.2 (by rw [← HCOD.out]; exact hfit) HSTP.out (fun _ => h)
          rw [← HCOD.out, ← take_more] at h2
          exact h2
        have HT3 := Lib.hid hT3
        have HL3 := Lib.hid hL3
        have HCL3 := Lib.hid hcl3
        generalize L2 ++ wordE false c (widN k2 false) = L3 at *
        have hsl := fun W => tail_run W q (len - i) (cap - i) n hn2
        have HTR := Lib.hid (tail_row (cap - i) n HQ.out (by rw [HLD.out]; omega))
        rw [List.drop_drop] at HTR
        clear ho4 hv4 hT3 hL3 hcl3 hcod HT2 HCL2 HSTP HCB
        by_cases hnl : n < len - i
        · have hd : decide ((n : Int) < ((len - i : Nat) : Int)) = true := by simp; omega
          have hn3 : n < (xs.drop i).length := by rw [HLD.out]; exact hnl
          have hI5 := HI2.out.more (by omega) HLK.out hn1 hn3
          obtain ⟨b0, off0, hq0, hbl0, _⟩ := HQ.out (by omega)
          obtain ⟨b, off, hq, hbl, hcs⟩ := HRw4.out (by omega)
          subst hq
          have hbm : b ≠ m := by
            injection hq0 with e
            injection e with e1
            omega
          clear hq0 hbl0
          have hcell := hcs n hn3
          generalize (xs.drop i)[n] = x at hcell hI5
          have hxb := x.toNat_lt
          have hxl : c * 256 + x.toNat < 4294967296 := by omega
          obtain ⟨w5, hstore, hms, ho5, hz5⟩ := MapC.store (hE4.drawn (w' := w4.drew) ⟨1, rfl⟩).tbl (by omega) (c * 256 + x.toNat) hxl (k2 + pr2.toNat)
          have hE5 := (hE4.drawn (w' := w4.drew) ⟨1, rfl⟩).table ho5 hms
          have hpl : pr2.toNat ≤ 1 := by cases pr2 <;> simp
          obtain ⟨k5, hk5⟩ : ∃ k5, k5 = k2 + pr2.toNat := ⟨_, rfl⟩
          rw [← hk5] at hstore hE5 hE4 hI5
          obtain ⟨ky, hky⟩ : ∃ ky : Int, ky = ((c * 256 + x.toNat : Nat) : Int) := ⟨_, rfl⟩
          rw [← hky] at hstore
          have hst := step_any c x w4.drew (by omega)
          rw [← hky] at hst
          have HSTO := Lib.hid hstore
          have HSTE := Lib.hid hst
          have HE5 := Lib.hid hE5
          have HI5 := Lib.hid hI5
          have HO5 := Lib.hid ho5
          have kd1 : w4.drew.cell? ⟨m + 1, 1, none⟩ = some (.map (some m)) := hE4.c1
          have kd2 : w4.drew.cell? ⟨m + 1, 2, none⟩ = some (.int .i64 (k5 : Int)) := hE4.c2
          have kd3 : w4.drew.cell? ⟨b, off + n, none⟩ = some (.int .u8 (x.toNat : Int)) := hcell
          have i0 : (0 : Int) ≤ (n : Int) := by omega
          have i1 : (n : Int) < ((len - i : Nat) : Int) := by omega
          have hk5l : k5 ≤ 5000 := by omega
          have HK5 := Lib.hid hk5
          have W1 := Lib.hid (show IntKind.u32.wrap (k5 : Int) = (k5 : Int) from by rw [IntKind.wrap_u32]; omega)
          clear hstore hst hE5 hI5 hE4 hcs hk5 hky hms ho5 hz5 hcell
          go_wp2_with fail
          refine wp_region_held_drew (S := (fun w' => w'.cell? ⟨m + 1, 1, none⟩ = some (.map (some m)) ∧ w'.cell? ⟨m + 1, 2, none⟩ = some (.int .i64 (k5 : Int)) ∧ w'.cell? ⟨b, off + n, none⟩ = some (.int .u8 (x.toNat : Int)))) (by kernel_rfl) ⟨kd1, kd2, kd3⟩ (fun hHeld => ?_)
          refine wpAnyH_take (i := 0) (v := ?v1) rfl (by kernel_rfl) (by kernel_rfl) (by kernel_rfl) (fun _ _ _ h => h) (Or.inl ⟨by rfl, fun w hSw => ?y1⟩) hHeld ?r1
          case y1 => (try dsimp only at hSw); first | (go_simp; done) | (go_simp; with_reducible rfl)
          try simp only [Act.put, List.setIfInBounds_toArray, List.set_cons_zero, List.set_cons_succ, List.getElem_toArray, List.getElem_cons_zero, List.getElem_cons_succ]
          refine wpAnyH_take (i := 1) (v := ?v2) rfl (by kernel_rfl) (by kernel_rfl) (by kernel_rfl) (fun _ _ _ h => h) (Or.inl ⟨by rfl, fun w hSw => ?y2⟩) hHeld ?r2
          case y2 => (try dsimp only at hSw); first | (go_simp; done) | (go_simp; with_reducible rfl)
          try simp only [Act.put, List.setIfInBounds_toArray, List.set_cons_zero, List.set_cons_succ, List.getElem_toArray, List.getElem_cons_zero, List.getElem_cons_succ]
          refine wpAnyH_take (i := 2) (v := ?v3) rfl (by kernel_rfl) (by kernel_rfl) (by kernel_rfl) (fun _ _ _ h => h) (Or.inl ⟨by rfl, fun w hSw => ?y3⟩) hHeld ?r3
          case y3 => (try dsimp only at hSw); first | (go_simp; done) | (go_simp; with_reducible rfl)
          try simp only [Act.put, List.setIfInBounds_toArray, List.set_cons_zero, List.set_cons_succ, List.getElem_toArray, List.getElem_cons_zero, List.getElem_cons_succ]
          refine wpAnyH_take (i := 3) (v := ?v4) rfl (by kernel_rfl) (by kernel_rfl) (by kernel_rfl) (fun _ _ _ h => h) (Or.inl ⟨by rfl, fun w hSw => ?y4⟩) hHeld ?r4
          case y4 => (try dsimp only at hSw); first | (go_simp; done) | (go_simp; with_reducible rfl)
          try simp only [Act.put, List.setIfInBounds_toArray, List.set_cons_zero, List.set_cons_succ, List.getElem_toArray, List.getElem_cons_zero, List.getElem_cons_succ]
          refine wpAnyH_take (i := 4) (v := ?v5) rfl (by kernel_rfl) (by kernel_rfl) (by kernel_rfl) (fun _ _ _ h => h) (Or.inl ⟨by rfl, fun w hSw => ?y5⟩) hHeld ?r5
          case y5 => (try dsimp only at hSw); first | (go_simp; done) | (go_simp; with_reducible rfl)
          try simp only [Act.put, List.setIfInBounds_toArray, List.set_cons_zero, List.set_cons_succ, List.getElem_toArray, List.getElem_cons_zero, List.getElem_cons_succ]
          refine wpAnyH_take (i := 5) (v := ?v6) rfl (by kernel_rfl) (by kernel_rfl) (by kernel_rfl) (fun _ _ _ h => h) (Or.inl ⟨by rfl, fun w hSw => ?y6⟩) hHeld ?r6
          case y6 => (try dsimp only at hSw); first | (go_simp; done) | (go_simp; with_reducible rfl)
          try simp only [Act.put, List.setIfInBounds_toArray, List.set_cons_zero, List.set_cons_succ, List.getElem_toArray, List.getElem_cons_zero, List.getElem_cons_succ]
          refine wpAnyH_take (i := 6) (v := ?v7) rfl (by kernel_rfl) (by kernel_rfl) (by kernel_rfl) (fun _ _ _ h => h) (Or.inl ⟨by rfl, fun w hSw => ?y7⟩) hHeld ?r7
          case y7 => (try dsimp only at hSw); first | (go_simp; done) | (go_simp; with_reducible rfl)
          try simp only [Act.put, List.setIfInBounds_toArray, List.set_cons_zero, List.set_cons_succ, List.getElem_toArray, List.getElem_cons_zero, List.getElem_cons_succ]
          refine wpAnyH_take (i := 8) (v := ?v8) rfl (by kernel_rfl) (by kernel_rfl) (by kernel_rfl) (fun _ _ _ h => h) (Or.inl ⟨by rfl, fun w hSw => ?y8⟩) hHeld ?r8
          case y8 => (try dsimp only at hSw); first | (go_simp; done) | (go_simp; with_reducible rfl)
          try simp only [Act.put, List.setIfInBounds_toArray, List.set_cons_zero, List.set_cons_succ, List.getElem_toArray, List.getElem_cons_zero, List.getElem_cons_succ]
          refine wpAnyH_take (i := 9) (v := ?v9) rfl (by kernel_rfl) (by kernel_rfl) (by kernel_rfl) (fun _ _ _ h => h) (Or.inl ⟨by rfl, fun w hSw => ?y9⟩) hHeld ?r9
          case y9 => (try dsimp only at hSw); first | (go_simp; done) | (go_simp; with_reducible rfl)
          try simp only [Act.put, List.setIfInBounds_toArray, List.set_cons_zero, List.set_cons_succ, List.getElem_toArray, List.getElem_cons_zero, List.getElem_cons_succ]
          refine wpAnyH_take (i := 10) (v := ?v10) rfl (by kernel_rfl) (by kernel_rfl) (by kernel_rfl) (fun _ _ _ h => h) (Or.inl ⟨by rfl, fun w hSw => ?y10⟩) hHeld ?r10
          case y10 => (try dsimp only at hSw); first | (go_simp; done) | (go_simp; with_reducible rfl)
          try simp only [Act.put, List.setIfInBounds_toArray, List.set_cons_zero, List.set_cons_succ, List.getElem_toArray, List.getElem_cons_zero, List.getElem_cons_succ]
          refine wpAnyH_ready (rs := [7]) (by kernel_rfl) (by simp) ?_
          refine AllReadyH.cons rfl (fun K hK => ?_) AllReadyH.nil
          go_simp
          refine HSTE.out.mono ?_
          rintro e w' ⟨rfl, rfl⟩
          go_wp2_with fail
          refine hK.out _ _ hHeld (fun hHeld1 => ?_)
          clear hK K
          try simp only [Act.put, List.setIfInBounds_toArray, List.set_cons_zero, List.set_cons_succ, List.getElem_toArray, List.getElem_cons_zero, List.getElem_cons_succ]
          refine wpAnyH_ready (rs := [11]) (by kernel_rfl) (by simp) ?_
          refine AllReadyH.cons rfl (fun K hK => ?_) AllReadyH.nil
          go_simp
          rw [W1.out, HSTO.out]
          go_simp
          have hS2 : w5.cell? ⟨m + 1, 1, none⟩ = some (.map (some m)) ∧ w5.cell? ⟨m + 1, 2, none⟩ = some (.int .i64 (k5 : Int)) ∧ w5.cell? ⟨b, off + n, none⟩ = some (.int .u8 (x.toNat : Int)) := by
            refine ⟨HE5.out.c1, HE5.out.c2, ?_⟩
            rw [← kd3]
            exact World.cell?_of_block (w := w4.drew) (HO5.out.2.2.2.2 b hbl hbm)
          refine hK.out _ _ hS2 (fun hHeld2 => ?_)
          clear hK K
          try simp only [Act.put, List.setIfInBounds_toArray, List.set_cons_zero, List.set_cons_succ, List.getElem_toArray, List.getElem_cons_zero, List.getElem_cons_succ]
          refine wpAnyH_done (by kernel_rfl) ?_ _
          go_wp2_with fail
          go_roundw
          case rel =>
            refine ⟨i + n, _, by omega, by rw [Nat.sub_sub, Nat.sub_sub], HTR, v4, L3, _, _, nf2 + 1, k5, true, HE5.out, ?_, HT3.out ?_, HCL3.out, HL3.out, by omega, ?_, HV4.out⟩
            · have := HI5.out
              rw [List.drop_drop] at this
              exact this
            · have h1 := HI5.out.cod
              have h2 := HI5.out.top
              omega
            · exact HB4.out.trans (((Only.drawn (fun j => j = m) (w := w4) (w' := w4.drew) ⟨1, rfl⟩).trans HO5.out).below HB4.out.size (fun j hj e => by omega))
          case measure => simp [sliceN]; omega
        · have hd : decide ((n : Int) < ((len - i : Nat) : Int)) = false := by simp; omega
          have hne : n = (xs.drop i).length := by rw [HLD.out]; omega
          have hI5 := HI2.out.last (by omega) (by rw [HLD.out]; omega)
          rw [← hne, List.drop_drop] at hI5
          have HI5 := Lib.hid hI5
          have HE4 := Lib.hid hE4
          clear hI5 hE4 hne
          go_wp2_with fail
          go_roundw
          case rel =>
            refine ⟨i + n, _, by omega, by rw [Nat.sub_sub, Nat.sub_sub], HTR, v4, L3, _, _, nf2, _, true, HE4.out, HI5.out, HT3.out ?_, HCL3.out, HL3.out, by omega, HB4.out, HV4.out⟩
            have h1 := HI5.out.cod
            have h2 := HI5.out.top
            omega
          case measure => simp [sliceN]; omega
      · have q4 : ((k : Int) == 4094) = false := by simp; omega
        have hk2 : k ≤ 4093 := by have := hI.top; omega
        have hL2 : L.length ≤ 24 * i + 24 := by omega
        have HE2 := Lib.hid hE
        have HI2 := Lib.hid hI
        have HT2 := Lib.hid hT
        have HCL2 := Lib.hid hcl
        have HB2 := Lib.hid hB
        have HV2 := Lib.hid hv
        clear hE hI hT hcl hB hv hLl hk4
        have HRw := Lib.hid (HQ.out.below HB2.out)
        have hcod := HI2.out.cod
        have htb := HI2.out.top
        go_wp2_with fail
        refine (longest_any _ _ _ _ _ _ _ _ _ _ _ _ _ _ _ HE2.out HI2.out (by exact HRw.out) HLD.out (by omega) (by omega) (by omega)).mono ?_
        rintro e w3 ⟨c, n, rfl, hn1, hn2, hlk, hd3⟩
        rw [HLD.out] at hn2
        have hcb := HI2.out.bound hlk
        have hfit := widN_fits k (by omega) c hcb.1
        have hE3 := HE2.out.drawn hd3
        have hB3 := HB2.out.trans (hd3.below _)
        have hpr := eproduce_any _ _ _ _ _ _ _ _ _ _ c hE3 (by omega) hfit (by omega)
        have hstp := HI2.out.step_ (by omega) hlk hn1 (by rw [HLD.out]; exact hn2)
        have HPR := Lib.hid hpr
        have HLK := Lib.hid hlk
        have HSTP := Lib.hid hstp
        have HB3 := Lib.hid hB3
        have HCB := Lib.hid hcb.2
        have hck := hcb.1
        have HRw3 := Lib.hid (HRw.out.below (hd3.below _))
        clear hpr hlk hstp hE3 hB3 hcb hd3 HE2 HB2
        go_wp2_with fail
        refine HPR.out.mono ?_
        rintro e w4 ⟨rfl, v4, hE4, ho4, hv4⟩
        have HB4 := Lib.hid (Ec.low ho4 HB3.out (by omega) hgw hmw HV2.out)
        have HV4 : Hid (∀ j, v4.ownBlock = some j → w.heap.size ≤ j) := Lib.hid (fun j hj => by
          rcases hv4 j hj with h | h
          · exact HV2.out j h
          · have := HB3.out.size; omega)
        have HRw4 := Lib.hid (HQ.out.below HB4.out)
        have HCOD := Lib.hid hcod
        have hL3 : (L ++ wordE false c (widN k false)).length ≤ 24 * (i + n) + 12 := by rw [List.length_append, wordE_length]; have := (widN_bd k false).2; omega
        have hcl3 : ∃ L', L ++ wordE false c (widN k false) = wordE false 256 9 ++ L' := by obtain ⟨L', e⟩ := HCL2.out; exact ⟨L' ++ wordE false c (widN k false), by rw [e, List.append_assoc]⟩
        have hT3 : ∀ (h : 258 + (nxt s ((xs.drop i).take n)).tab.length ≤ 4094), Tells (L ++ wordE false c (widN k false)) (nxt s ((xs.drop i).take n)) (xs.take (i + n)) := by
          intro h
          have h2 := Tells.snoc HT2.out HCB.out.2 (by rw [← HCOD.out]; exact hfit) HSTP.out (fun _ => h)
          rw [← HCOD.out, ← take_more] at h2
          exact h2
        have HT3 := Lib.hid hT3
        have HL3 := Lib.hid hL3
        have HCL3 := Lib.hid hcl3
        generalize L ++ wordE false c (widN k false) = L3 at *
        have hsl := fun W => tail_run W q (len - i) (cap - i) n hn2
        have HTR := Lib.hid (tail_row (cap - i) n HQ.out (by rw [HLD.out]; omega))
        rw [List.drop_drop] at HTR
        clear ho4 hv4 hT3 hL3 hcl3 hcod HT2 HCL2 HSTP HCB
        by_cases hnl : n < len - i
        · have hd : decide ((n : Int) < ((len - i : Nat) : Int)) = true := by simp; omega
          have hn3 : n < (xs.drop i).length := by rw [HLD.out]; exact hnl
          have hI5 := HI2.out.more (by omega) HLK.out hn1 hn3
          obtain ⟨b0, off0, hq0, hbl0, _⟩ := HQ.out (by omega)
          obtain ⟨b, off, hq, hbl, hcs⟩ := HRw4.out (by omega)
          subst hq
          have hbm : b ≠ m := by
            injection hq0 with e
            injection e with e1
            omega
          clear hq0 hbl0
          have hcell := hcs n hn3
          generalize (xs.drop i)[n] = x at hcell hI5
          have hxb := x.toNat_lt
          have hxl : c * 256 + x.toNat < 4294967296 := by omega
          obtain ⟨w5, hstore, hms, ho5, hz5⟩ := MapC.store (hE4.drawn (w' := w4.drew) ⟨1, rfl⟩).tbl (by omega) (c * 256 + x.toNat) hxl (k + pr.toNat)
          have hE5 := (hE4.drawn (w' := w4.drew) ⟨1, rfl⟩).table ho5 hms
          have hpl : pr.toNat ≤ 1 := by cases pr <;> simp
          obtain ⟨k5, hk5⟩ : ∃ k5, k5 = k + pr.toNat := ⟨_, rfl⟩
          rw [← hk5] at hstore hE5 hE4 hI5
          obtain ⟨ky, hky⟩ : ∃ ky : Int, ky = ((c * 256 + x.toNat : Nat) : Int) := ⟨_, rfl⟩
          rw [← hky] at hstore
          have hst := step_any c x w4.drew (by omega)
          rw [← hky] at hst
          have HSTO := Lib.hid hstore
          have HSTE := Lib.hid hst
          have HE5 := Lib.hid hE5
          have HI5 := Lib.hid hI5
          have HO5 := Lib.hid ho5
          have kd1 : w4.drew.cell? ⟨m + 1, 1, none⟩ = some (.map (some m)) := hE4.c1
          have kd2 : w4.drew.cell? ⟨m + 1, 2, none⟩ = some (.int .i64 (k5 : Int)) := hE4.c2
          have kd3 : w4.drew.cell? ⟨b, off + n, none⟩ = some (.int .u8 (x.toNat : Int)) := hcell
          have i0 : (0 : Int) ≤ (n : Int) := by omega
          have i1 : (n : Int) < ((len - i : Nat) : Int) := by omega
          have hk5l : k5 ≤ 5000 := by omega
          have HK5 := Lib.hid hk5
          have W1 := Lib.hid (show IntKind.u32.wrap (k5 : Int) = (k5 : Int) from by rw [IntKind.wrap_u32]; omega)
          clear hstore hst hE5 hI5 hE4 hcs hk5 hky hms ho5 hz5 hcell
          go_wp2_with fail
          refine wp_region_held_drew (S := (fun w' => w'.cell? ⟨m + 1, 1, none⟩ = some (.map (some m)) ∧ w'.cell? ⟨m + 1, 2, none⟩ = some (.int .i64 (k5 : Int)) ∧ w'.cell? ⟨b, off + n, none⟩ = some (.int .u8 (x.toNat : Int)))) (by kernel_rfl) ⟨kd1, kd2, kd3⟩ (fun hHeld => ?_)
          refine wpAnyH_take (i := 0) (v := ?v11) rfl (by kernel_rfl) (by kernel_rfl) (by kernel_rfl) (fun _ _ _ h => h) (Or.inl ⟨by rfl, fun w hSw => ?y11⟩) hHeld ?r11
          case y11 => (try dsimp only at hSw); first | (go_simp; done) | (go_simp; with_reducible rfl)
          try simp only [Act.put, List.setIfInBounds_toArray, List.set_cons_zero, List.set_cons_succ, List.getElem_toArray, List.getElem_cons_zero, List.getElem_cons_succ]
          refine wpAnyH_take (i := 1) (v := ?v12) rfl (by kernel_rfl) (by kernel_rfl) (by kernel_rfl) (fun _ _ _ h => h) (Or.inl ⟨by rfl, fun w hSw => ?y12⟩) hHeld ?r12
          case y12 => (try dsimp only at hSw); first | (go_simp; done) | (go_simp; with_reducible rfl)
          try simp only [Act.put, List.setIfInBounds_toArray, List.set_cons_zero, List.set_cons_succ, List.getElem_toArray, List.getElem_cons_zero, List.getElem_cons_succ]
          refine wpAnyH_take (i := 2) (v := ?v13) rfl (by kernel_rfl) (by kernel_rfl) (by kernel_rfl) (fun _ _ _ h => h) (Or.inl ⟨by rfl, fun w hSw => ?y13⟩) hHeld ?r13
          case y13 => (try dsimp only at hSw); first | (go_simp; done) | (go_simp; with_reducible rfl)
          try simp only [Act.put, List.setIfInBounds_toArray, List.set_cons_zero, List.set_cons_succ, List.getElem_toArray, List.getElem_cons_zero, List.getElem_cons_succ]
          refine wpAnyH_take (i := 3) (v := ?v14) rfl (by kernel_rfl) (by kernel_rfl) (by kernel_rfl) (fun _ _ _ h => h) (Or.inl ⟨by rfl, fun w hSw => ?y14⟩) hHeld ?r14
          case y14 => (try dsimp only at hSw); first | (go_simp; done) | (go_simp; with_reducible rfl)
          try simp only [Act.put, List.setIfInBounds_toArray, List.set_cons_zero, List.set_cons_succ, List.getElem_toArray, List.getElem_cons_zero, List.getElem_cons_succ]
          refine wpAnyH_take (i := 4) (v := ?v15) rfl (by kernel_rfl) (by kernel_rfl) (by kernel_rfl) (fun _ _ _ h => h) (Or.inl ⟨by rfl, fun w hSw => ?y15⟩) hHeld ?r15
          case y15 => (try dsimp only at hSw); first | (go_simp; done) | (go_simp; with_reducible rfl)
          try simp only [Act.put, List.setIfInBounds_toArray, List.set_cons_zero, List.set_cons_succ, List.getElem_toArray, List.getElem_cons_zero, List.getElem_cons_succ]
          refine wpAnyH_take (i := 5) (v := ?v16) rfl (by kernel_rfl) (by kernel_rfl) (by kernel_rfl) (fun _ _ _ h => h) (Or.inl ⟨by rfl, fun w hSw => ?y16⟩) hHeld ?r16
          case y16 => (try dsimp only at hSw); first | (go_simp; done) | (go_simp; with_reducible rfl)
          try simp only [Act.put, List.setIfInBounds_toArray, List.set_cons_zero, List.set_cons_succ, List.getElem_toArray, List.getElem_cons_zero, List.getElem_cons_succ]
          refine wpAnyH_take (i := 6) (v := ?v17) rfl (by kernel_rfl) (by kernel_rfl) (by kernel_rfl) (fun _ _ _ h => h) (Or.inl ⟨by rfl, fun w hSw => ?y17⟩) hHeld ?r17
          case y17 => (try dsimp only at hSw); first | (go_simp; done) | (go_simp; with_reducible rfl)
          try simp only [Act.put, List.setIfInBounds_toArray, List.set_cons_zero, List.set_cons_succ, List.getElem_toArray, List.getElem_cons_zero, List.getElem_cons_succ]
          refine wpAnyH_take (i := 8) (v := ?v18) rfl (by kernel_rfl) (by kernel_rfl) (by kernel_rfl) (fun _ _ _ h => h) (Or.inl ⟨by rfl, fun w hSw => ?y18⟩) hHeld ?r18
          case y18 => (try dsimp only at hSw); first | (go_simp; done) | (go_simp; with_reducible rfl)
          try simp only [Act.put, List.setIfInBounds_toArray, List.set_cons_zero, List.set_cons_succ, List.getElem_toArray, List.getElem_cons_zero, List.getElem_cons_succ]
          refine wpAnyH_take (i := 9) (v := ?v19) rfl (by kernel_rfl) (by kernel_rfl) (by kernel_rfl) (fun _ _ _ h => h) (Or.inl ⟨by rfl, fun w hSw => ?y19⟩) hHeld ?r19
          case y19 => (try dsimp only at hSw); first | (go_simp; done) | (go_simp; with_reducible rfl)
          try simp only [Act.put, List.setIfInBounds_toArray, List.set_cons_zero, List.set_cons_succ, List.getElem_toArray, List.getElem_cons_zero, List.getElem_cons_succ]
          refine wpAnyH_take (i := 10) (v := ?v20) rfl (by kernel_rfl) (by kernel_rfl) (by kernel_rfl) (fun _ _ _ h => h) (Or.inl ⟨by rfl, fun w hSw => ?y20⟩) hHeld ?r20
          case y20 => (try dsimp only at hSw); first | (go_simp; done) | (go_simp; with_reducible rfl)
          try simp only [Act.put, List.setIfInBounds_toArray, List.set_cons_zero, List.set_cons_succ, List.getElem_toArray, List.getElem_cons_zero, List.getElem_cons_succ]
          refine wpAnyH_ready (rs := [7]) (by kernel_rfl) (by simp) ?_
          refine AllReadyH.cons rfl (fun K hK => ?_) AllReadyH.nil
          go_simp
          refine HSTE.out.mono ?_
          rintro e w' ⟨rfl, rfl⟩
          go_wp2_with fail
          refine hK.out _ _ hHeld (fun hHeld1 => ?_)
          clear hK K
          try simp only [Act.put, List.setIfInBounds_toArray, List.set_cons_zero, List.set_cons_succ, List.getElem_toArray, List.getElem_cons_zero, List.getElem_cons_succ]
          refine wpAnyH_ready (rs := [11]) (by kernel_rfl) (by simp) ?_
          refine AllReadyH.cons rfl (fun K hK => ?_) AllReadyH.nil
          go_simp
          rw [W1.out, HSTO.out]
          go_simp
          have hS2 : w5.cell? ⟨m + 1, 1, none⟩ = some (.map (some m)) ∧ w5.cell? ⟨m + 1, 2, none⟩ = some (.int .i64 (k5 : Int)) ∧ w5.cell? ⟨b, off + n, none⟩ = some (.int .u8 (x.toNat : Int)) := by
            refine ⟨HE5.out.c1, HE5.out.c2, ?_⟩
            rw [← kd3]
            exact World.cell?_of_block (w := w4.drew) (HO5.out.2.2.2.2 b hbl hbm)
          refine hK.out _ _ hS2 (fun hHeld2 => ?_)
          clear hK K
          try simp only [Act.put, List.setIfInBounds_toArray, List.set_cons_zero, List.set_cons_succ, List.getElem_toArray, List.getElem_cons_zero, List.getElem_cons_succ]
          refine wpAnyH_done (by kernel_rfl) ?_ _
          go_wp2_with fail
          go_roundw
          case rel =>
            refine ⟨i + n, _, by omega, by rw [Nat.sub_sub, Nat.sub_sub], HTR, v4, L3, _, _, nf + 1, k5, true, HE5.out, ?_, HT3.out ?_, HCL3.out, HL3.out, by omega, ?_, HV4.out⟩
            · have := HI5.out
              rw [List.drop_drop] at this
              exact this
            · have h1 := HI5.out.cod
              have h2 := HI5.out.top
              omega
            · exact HB4.out.trans (((Only.drawn (fun j => j = m) (w := w4) (w' := w4.drew) ⟨1, rfl⟩).trans HO5.out).below HB4.out.size (fun j hj e => by omega))
          case measure => simp [sliceN]; omega
        · have hd : decide ((n : Int) < ((len - i : Nat) : Int)) = false := by simp; omega
          have hne : n = (xs.drop i).length := by rw [HLD.out]; omega
          have hI5 := HI2.out.last (by omega) (by rw [HLD.out]; omega)
          rw [← hne, List.drop_drop] at hI5
          have HI5 := Lib.hid hI5
          have HE4 := Lib.hid hE4
          clear hI5 hE4 hne
          go_wp2_with fail
          go_roundw
          case rel =>
            refine ⟨i + n, _, by omega, by rw [Nat.sub_sub, Nat.sub_sub], HTR, v4, L3, _, _, nf, _, true, HE4.out, HI5.out, HT3.out ?_, HCL3.out, HL3.out, by omega, HB4.out, HV4.out⟩
            have h1 := HI5.out.cod
            have h2 := HI5.out.top
            omega
          case measure => simp [sliceN]; omega
    · have hie : i = len := by omega
      subst hie
      have hpos : decide (((i - i : Nat) : Int) > 0) = false := by simp
      have hcod := hI.cod
      have htop := hI.top
      have hw := ewrite_any _ _ _ _ _ _ _ _ _ _ 257 hE (by omega) (by have := widN_less k; omega) (by omega)
      have HW := Lib.hid hw
      have hco : Coded (L ++ wordE false 257 (widN k false)) xs := by
        refine ⟨L, s, ?_, by rw [hcod], hcl⟩
        rw [← HX.out, List.take_length] at hT
        exact hT
      have hbl : (L ++ wordE false 257 (widN k false)).length ≤ 24 * xs.length + 24 := by rw [List.length_append, wordE_length, HX.out]; have := (widN_bd k false).2; omega
      have HCO := Lib.hid hco
      have HBL := Lib.hid hbl
      generalize L ++ wordE false 257 (widN k false) = bits at *
      have HB := Lib.hid hB
      have HV := Lib.hid hv
      clear hw hco hbl hE hI hT hcl hcod hB hv
      go_wp2_with fail
      refine HW.out.mono ?_
      rintro e w3 ⟨rfl, v3, hE3, ho3, hv3⟩
      have c0 := hE3.c0
      have hby := bytes_any _ _ _ _ _ hE3.wrt (by have := HBL.out; rw [HX.out] at this; omega)
      have HBY := Lib.hid hby
      have HB3 := Lib.hid (Ec.low ho3 HB.out (by omega) hgw hmw HV.out)
      clear hby hE3 ho3 hv3
      go_wp2_with fail
      refine HBY.out.mono ?_
      rintro e w4 ⟨hb4, q4, cap4, rfl, hrow, h1, h2, h3, _⟩
      have HB4 := Lib.hid hb4
      have HROW := Lib.hid hrow
      have H3 := Lib.hid h3
      have H2 := Lib.hid h2
      have H1 := Lib.hid h1
      clear hb4 hrow h3 h2 h1
      go_wp2_with fail
      go_ret
      exact ⟨bits, q4, cap4, rfl, HROW.out, H1.out, H2.out, H3.out, HB3.out.trans (HB4.out.mono HB3.out.size), HCO.out, HBL.out⟩
end Go.Proofs.Ytgdcjhngjdiaoaa.Lz

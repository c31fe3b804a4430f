/- IgF, IgO, IgQ, IgS, IhA, IhB, IhD, IhF: merged. -/
import Derived.Test.YtkkfkmoikcmhoaaGreatPah
import Derived.Test.YtkkfkmoikcmhoaaGreatPam
import Derived.Test.YtkkfkmoikcmhoaaGreatPap
import Derived.Test.YtkkfkmoikcmhoaaGreatPbd
set_option linter.unusedVariables false
set_option linter.unusedSimpArgs false
namespace Go.Proofs.YtkkfkmoikcmhoaaGreat.Inf
open Go.RowKit Oct Bit Hf
set_option maxRecDepth 100000
theorem X15 {L : List Bool} {p : Nat} (h : p + 32 ≤ L.length) : Y2o true ((L.drop p).take 32) % 65536 = Y2o true ((L.drop p).take 16) ∧ Y2o true ((L.drop p).take 32) / 65536 % 65536 = Y2o true ((L.drop (p + 16)).take 16) := by
 have hl : ((L.drop p).take 32).length = 32 := by rw [List.length_take, List.length_drop]; omega
 have h1 := Y9l true ((L.drop p).take 32) 0 16 (by omega)
 have h2 := Y9l true ((L.drop p).take 32) 16 16 (by omega)
 simp only [gsh, if_true, Nat.pow_zero, Nat.div_one, List.drop_zero] at h1 h2
 refine ⟨?_, ?_⟩
 ·have e : ((L.drop p).take 32).take 16 = (L.drop p).take 16 := by rw [List.take_take]; rfl
  rw [e] at h1
  exact h1
 ·have e : (((L.drop p).take 32).drop 16).take 16 = (L.drop (p + 16)).take 16 := by rw [List.drop_take, List.drop_drop, List.take_take]; rfl
  rw [e] at h2
  exact h2
theorem Ywa (n : Nat) (h : n < 65536) : bits .xor .u16 (if IntKind.u16.signed = true then -1 else IntKind.u16.max) (n : Int) = ((65535 - n : Nat) : Int) := by
 show IntKind.u16.wrap ((BitVec.ofInt 16 65535 ^^^ BitVec.ofInt 16 (n : Int)).toNat : Int) = _
 have e : (BitVec.ofInt 16 65535 ^^^ BitVec.ofInt 16 (n : Int)).toNat = 65535 - n := by
  have h1 : BitVec.ofInt 16 65535 = BitVec.allOnes 16 := by decide
  have h2 : BitVec.ofInt 16 (n : Int) = BitVec.ofNat 16 n := BitVec.ofInt_natCast 16 n
  rw [h1, h2, BitVec.allOnes_xor, BitVec.toNat_not, BitVec.toNat_ofNat]
  omega
 rw [e, IntWalk.u16_in _ (by omega)]
theorem Ybz (L : List Bool) (most n at_ : Nat) (out : List UInt8) : Y2q L most (n + 1) at_ out = (Y1k L at_ 8).then fun c a => if most ≤ out.length then .error 8 else Y2q L most n a (out ++ [UInt8.ofNat c]) := rfl
theorem Yqg {L : List Bool} {a n m b : Nat} (h : Y1k L a n = .ok (m, b)) : a + n ≤ L.length := by
 unfold Y1k at h
 split at h
 ·assumption
 ·cases h
def Yx2 (wb : World) (K : Kon) (v : Value) (F : Option Fix) (n : Nat) (X : R (List UInt8)) (wr : World) : Prop :=
 ∃ a v2 out, De wr K a v2 out F ∧ Only (Y5n K v) wb wr ∧ (∀ k, v2.ownBlock = some k → v.ownBlock = some k ∨ wb.heap.size ≤ k) ∧ Y2q (Y02 true K.xs) K.most n a out = X
set_option maxHeartbeats 4000000 in
theorem Y8w (w : World) (K : Kon) (a : Nat) (v : Value) (out : List UInt8) (F : Option Fix) (h : De w K a v out F) :
  Calls Tryz.prog 56 #[.pointer (some ⟨K.d, 0, none⟩)] w (Res w K v F (Y25 (Y02 true K.xs) K.most a out)) := by
 obtain ⟨X, hX⟩ : ∃ X, X = Y25 (Y02 true K.xs) K.most a out := ⟨_, rfl⟩
 rw [← hX]
 have hlo := h.lo
 have hlt := h.lt
 have k0 := h.c0
 have HAL := Lib.hid (Ynx _ _ _ _ _ _ _ h.rd)
 have H := Lib.hid h
 have HX := Lib.hid hX
 have hbl := Y03 true K.xs
 have HBL := Lib.hid hbl
 clear h hX hbl
 go_enter Tryz.func56, Tryz.ntmps56
 go_wp2_with fail
 refine HAL.out.mono ?_
 rintro e w1 ⟨rfl, hr1, ho1, hz1⟩
 have hD1 := H.out.moved ho1 hr1
 obtain ⟨p, hp⟩ : ∃ p, p = 8 * ((a + 7) / 8) := ⟨_, rfl⟩
 have hp2 : (a + 7) / 8 * 8 = p := by omega
 rw [← hp] at hD1
 have HO1 := Lib.hid (Y73 (v := v) ho1)
 have d0 := hD1.c0
 have HD1 := Lib.hid hD1
 clear hr1 ho1 hz1 hD1 k0
 rcases hx : Y1k (Y02 true K.xs) p 32 with c | ⟨m, b⟩
 ·have HRD := Lib.hid (Yk9 K.gr K.p K.cap K.xs p 32 c (by omega) w1 HD1.out.rd hx)
  have hn : ¬ p + 32 ≤ (Y02 true K.xs).length := by
   intro hh; unfold Y1k at hx; rw [if_pos hh] at hx; cases hx
  have HRES : Hid (∀ w2, Only (· = K.gr) w1 w2 → Res w K v F X (.returned (.int .i64 2)) w2) := Lib.hid fun w2 ho2 =>
   .inr ⟨2, by rw [HX.out]; unfold Y25 Yt4; rw [hp2, if_neg hn]; rfl, by decide, rfl, HO1.out.trans (Y73 ho2)⟩
  clear hx hn
  go_wp2_with fail
  refine HRD.out.mono ?_
  rintro e w2 ⟨rfl, ho2⟩
  have HRES2 := Lib.hid (HRES.out w2 ho2)
  clear ho2
  go_wp2_with fail
  go_ret
  exact HRES2.out
 ·have HRD := Lib.hid (Yij K.gr K.p K.cap K.xs p 32 m b (by omega) w1 HD1.out.rd hx)
  have hend := Yqg hx
  obtain ⟨hm, hb⟩ := Y2r hx (by omega)
  have hm2 : m < 4294967296 := hm
  obtain ⟨t1, t2⟩ := X15 hend
  have hme : m = Y2o true (((Y02 true K.xs).drop p).take 32) := by unfold Y1k at hx; rw [if_pos hend] at hx; cases hx; rfl
  rw [← hme] at t1 t2
  have HEQ : Hid (X = if m % 65536 + m / 65536 % 65536 = 65535 then Y2q (Y02 true K.xs) K.most (m % 65536) b out else .error 3) := Lib.hid (by
   rw [HX.out]; unfold Y25 Yt4; rw [hp2, if_pos hend, R.then_ok, t1, t2, hb])
  obtain ⟨n, hn⟩ : ∃ n, n = m % 65536 := ⟨_, rfl⟩
  obtain ⟨q, hq⟩ : ∃ q, q = m / 65536 := ⟨_, rfl⟩
  have hq2 : m / 65536 % 65536 = q := by omega
  rw [hq2, ← hn] at HEQ
  have qw : IntKind.u16.wrap (m : Int) = (n : Int) := by
   have : IntKind.u16.wrap (m : Int) = (m : Int) % 65536 := rfl
   omega
  have qq : (m : Int) / 65536 = (q : Int) := by omega
  have hn6 : n < 65536 := by omega
  have hq6 : q < 65536 := by omega
  have qx := Ywa n hn6
  clear hx hm t1 t2 hme hend hb hn hq hq2
  by_cases hnm : n + q = 65535
  ·have qd : ((q : Int) != ((65535 - n : Nat) : Int)) = false := by simp; omega
   have HS : Hid (∀ w2, De w2 K b v out F → Only (Y5n K v) w w2 → Yx2 w K v F n X w2) := Lib.hid fun w2 hd ho => ⟨b, v, out, hd, ho, fun k hk => .inl hk, by rw [HEQ.out, if_pos hnm]⟩
   clear hnm
   go_wp2_with fail
   refine HRD.out.mono ?_
   rintro e w2 ⟨rfl, hr2, ho2⟩
   have HST := Lib.hid (HS.out w2 (HD1.out.moved ho2 hr2) (HO1.out.trans (Y73 ho2)))
   clear hr2 ho2
   go_wp2_with fail
   go_loopw [7, 8, 9, 36] (fun _ _ _ i wr => ∃ j : Nat, j ≤ n ∧ i = .int .u16 (j : Int) ∧ Hid (Yx2 w K v F (n - j) X wr)) (fun _ _ _ i _ => n - (intOf i).toNat)
   case atStart => exact ⟨0, by omega, rfl, HST⟩
   case round =>
    obtain ⟨j, hj, rfl, HB⟩ := hrel
    obtain ⟨a2, v2, out2, hD, ho, hv2, hrun⟩ := HB.out
    by_cases hjn : j < n
    ·have ql : decide ((j : Int) < (n : Int)) = true := by simpa using hjn
     rw [show n - j = (n - (j + 1)) + 1 from by omega, Ybz] at hrun
     have c0 := hD.c0
     have HD := Lib.hid hD
     have HO := Lib.hid ho
     have HV2 := Lib.hid hv2
     rcases hx : Y1k (Y02 true K.xs) a2 8 with c | ⟨c, b2⟩
     ·have HRD8 := Lib.hid (Yk9 K.gr K.p K.cap K.xs a2 8 c (by omega) wr hD.rd hx)
      have hc2 := Yyl hx
      have HRES : Hid (∀ w3, Only (· = K.gr) wr w3 → Res w K v F X (.returned (.int .i64 2)) w3) := Lib.hid fun w3 ho3 =>
       .inr ⟨2, by rw [← hrun, hx, hc2]; rfl, by decide, rfl, ho.trans (Y73 ho3)⟩
      clear hx hrun hD ho hv2
      go_wp2_with fail
      refine HRD8.out.mono ?_
      rintro e w3 ⟨rfl, ho3⟩
      have HRES2 := Lib.hid (HRES.out w3 ho3)
      clear ho3
      go_wp2_with fail
      go_ret
      exact HRES2.out
     ·have HRD8 := Lib.hid (Yij K.gr K.p K.cap K.xs a2 8 c b2 (by omega) wr hD.rd hx)
      obtain ⟨hc8, hb2⟩ := Y2r hx (by omega)
      have hc256 : c < 256 := hc8
      rw [hx, R.then_ok] at hrun
      have hby : (((UInt8.ofNat c).toNat : Nat) : Int) = (c : Int) := by rw [UInt8.toNat_ofNat']; omega
      have hw8 : IntKind.u8.wrap (c : Int) = (c : Int) := by rw [IntKind.wrap_u8]; omega
      have HBY := Lib.hid hby
      have HRUN := Lib.hid hrun
      clear hx hrun hD ho hv2 hby hc8 hb2
      go_wp2_with fail
      refine HRD8.out.mono ?_
      rintro e w3 ⟨rfl, hr3, ho3⟩
      have hD3 := HD.out.moved ho3 hr3
      have HO3 := Lib.hid (HO.out.trans (Y73 ho3))
      have HL := Yi0 w3 K b2 v2 out2 F (UInt8.ofNat c) hD3
      rw [HBY.out] at HL
      have HLIT := Lib.hid HL
      clear HL hr3 ho3 hD3
      by_cases hfull : K.most < out2.length + 1
      ·have HRES : Hid (∀ w4, Only (Y5n K v2) w3 w4 → Res w K v F X (.returned (.int .i64 8)) w4) := Lib.hid (by
        intro w4 h4
        have := HRUN.out
        rw [if_pos (by omega)] at this
        exact .inr ⟨8, this.symm, by decide, rfl, Yax HO3.out HV2.out h4⟩)
       go_wp2_with fail
       refine HLIT.out.mono ?_
       intro e w4 hL
       unfold Yzu at hL
       rw [if_pos (by simpa using hfull)] at hL
       obtain ⟨rfl, ho4⟩ := hL
       have HRES2 := Lib.hid (HRES.out w4 ho4)
       clear ho4
       go_wp2_with fail
       go_ret
       exact HRES2.out
      ·have HNX : Hid (Y2q (Y02 true K.xs) K.most (n - (j + 1)) b2 (out2 ++ [UInt8.ofNat c]) = X) := Lib.hid (by
        have := HRUN.out
        rwa [if_neg (by omega)] at this)
       go_wp2_with fail
       refine HLIT.out.mono ?_
       intro e w4 hL
       unfold Yzu at hL
       rw [if_neg (by simpa using hfull)] at hL
       obtain ⟨rfl, v4, hD4, ho4, hv4⟩ := hL
       have HN : Hid (Yx2 w K v F (n - (j + 1)) X w4) := Lib.hid ⟨b2, v4, _, hD4, Yax HO3.out HV2.out ho4, fun k hk => by
        rcases hv4 k hk with e | e
        ·exact HV2.out k e
        ·exact .inr (Nat.le_trans HO3.out.2.2.2.1 e), HNX.out⟩
       clear hD4 ho4 hv4
       go_wp2_with fail
       go_roundw
       case rel => exact ⟨j + 1, by omega, by first | rfl | (push_cast; rfl), HN⟩
       case measure => simp [intOf]; omega
    ·have hje : j = n := by omega
     subst hje
     have ql : decide ((j : Int) < (j : Int)) = false := by simp
     rw [Nat.sub_self] at hrun
     have HRES : Hid (Res w K v F X (.returned (.int .i64 0)) wr) := Lib.hid (.inl ⟨out2, a2, hrun.symm, rfl, v2, hD, ho, hv2⟩)
     clear hrun hD ho hv2 hjn
     go_wp2_with fail
     go_ret
     exact HRES.out
  ·have qd : ((q : Int) != ((65535 - n : Nat) : Int)) = true := by simp; omega
   have HRES : Hid (∀ w2, Only (· = K.gr) w1 w2 → Res w K v F X (.returned (.int .i64 3)) w2) := Lib.hid fun w2 ho2 =>
    .inr ⟨3, by rw [HEQ.out, if_neg hnm], by decide, rfl, HO1.out.trans (Y73 ho2)⟩
   clear hnm
   go_wp2_with fail
   refine HRD.out.mono ?_
   rintro e w2 ⟨rfl, hr2, ho2⟩
   have HRES2 := Lib.hid (HRES.out w2 ho2)
   clear hr2 ho2
   go_wp2_with fail
   go_ret
   exact HRES2.out
end Go.Proofs.YtkkfkmoikcmhoaaGreat.Inf
namespace Go.Proofs.YtkkfkmoikcmhoaaGreat.Inf
open Go.RowKit Oct Bit Hf
set_option maxRecDepth 100000
theorem Yxl (W : World) (b o len cap a : Nat) (h1 : a ≤ cap) (h2 : 0 < cap) :
  (Instr.slice 74 (.slice (some ⟨b, o, none⟩) len cap) none (some (.int .i64 (a : Int))) none).run Tryz.prog W = .ok (.slice (some ⟨b, o, none⟩) a cap) W := by
 have ht' : Tryz.prog.underlying 74 = some (.slice (Tryz.prog.elem 74)) := by kernel_rfl
 have he : Tryz.prog.elem 74 = 3 := by kernel_rfl
 have hz : (Go.sizeOf 3).run Tryz.prog W = .ok 1 W := by
  obtain ⟨i, hi, hs⟩ := Option.map_eq_some_iff.1 Y83
  simp [Go.sizeOf, typeInfo, hi, hs]
 rw [run_slice_h W 74 (some ⟨b, o, none⟩) len cap ht' .i64 _ (by omega) (by omega), he, hz]
 have h0 : ¬ cap = 0 := by omega
 simp [Result.andThen, sliced, h0, Y08]
theorem Yvd (W : World) (b o len cap a : Nat) (h1 : a ≤ len) (h2 : a < cap) :
  (Instr.slice 74 (.slice (some ⟨b, o, none⟩) len cap) (some (.int .i64 (a : Int))) none none).run Tryz.prog W = .ok (.slice (some ⟨b, o + a, none⟩) (len - a) (cap - a)) W := by
 have ht' : Tryz.prog.underlying 74 = some (.slice (Tryz.prog.elem 74)) := by kernel_rfl
 have he : Tryz.prog.elem 74 = 3 := by kernel_rfl
 have hz : (Go.sizeOf 3).run Tryz.prog W = .ok 1 W := by
  obtain ⟨i, hi, hs⟩ := Option.map_eq_some_iff.1 Y83
  simp [Go.sizeOf, typeInfo, hi, hs]
 rw [run_slice_l W 74 (some ⟨b, o, none⟩) len cap ht' .i64 _ (by omega) (by omega), he, hz]
 have h0 : ¬ cap = a := by omega
 simp [Result.andThen, sliced, h0, Y08]
theorem Ysm {w : World} {C b o : Nat} {vs : List Value} (h : VRow w C (some ⟨b, o, none⟩) vs) (a : Nat) : VRow w C (some ⟨b, o, none⟩) (vs.take a) := by
 intro hp
 rw [List.length_take] at hp
 obtain ⟨b', o', e, hlt, hc⟩ := h (by omega)
 exact ⟨b', o', e, hlt, fun i hi => by
  rw [List.length_take] at hi
  rw [hc i (by omega)]
  simp⟩
theorem Ysk {w : World} {C b o : Nat} {vs : List Value} (h : VRow w C (some ⟨b, o, none⟩) vs) (a : Nat) : VRow w C (some ⟨b, o + a, none⟩) (vs.drop a) := by
 intro hp
 rw [List.length_drop] at hp
 obtain ⟨b', o', e, hlt, hc⟩ := h (by omega)
 cases e
 exact ⟨_, _, rfl, hlt, fun i hi => by
  rw [List.length_drop] at hi
  rw [Nat.add_assoc, hc (a + i) (by omega)]
  simp⟩
theorem Ypq (L : List Nat) (a : Nat) : (ints (Y05 L)).take a = ints (Y05 (L.take a)) := by simp [ints, Y05, List.map_take]
theorem Ypp (L : List Nat) (a : Nat) : (ints (Y05 L)).drop a = ints (Y05 (L.drop a)) := by simp [ints, Y05, List.map_drop]
def Yix (L : List Bool) (most n1 : Nat) (all : List Nat) (a : Nat) (out : List UInt8) : R (List UInt8) :=
 if all.getD 256 0 = 0 then .error 3
 else withW (Y1z (all.take n1) false) fun A => withW (Y1z (all.drop n1) true) fun B => Y1d A B L most a out
theorem Yn9 (L : List Bool) (most at_ : Nat) (out : List UInt8) : Ygr L most at_ out = (Y6e L at_).then fun n a =>
  if n.1 > 286 ∨ n.2.1 > 30 then .error 3
  else (Y8q L n.2.2 0 a (List.replicate 19 0)).then fun l a => withW (Y1z l false) fun W => (Y66 W (n.1 + n.2.1) L a []).then fun all a => Yix L most n.1 all a out := rfl
end Go.Proofs.YtkkfkmoikcmhoaaGreat.Inf
namespace Go.Proofs.YtkkfkmoikcmhoaaGreat.Inf
open Go.RowKit Oct Bit Hf
set_option maxRecDepth 100000
def fin8 : R (List UInt8) → Except Nat (List UInt8 × Nat)
 | .ok (o, a) => .ok (o, (a + 7) / 8)
 | .error e => .error e
theorem Y71 (xs : List UInt8) (most : Nat) : inflate xs most = fin8 (Y2v (Y02 true xs) most 0 []) := by
 rw [Y3k]
 unfold fin8
 rcases Y2v (Y02 true xs) most 0 [] with e | ⟨o, a⟩ <;> rfl
def Y9b (xs : List UInt8) (most : Int) : Except Nat (List UInt8 × Nat) := if most < 0 then .error 1 else inflate xs most.toNat
end Go.Proofs.YtkkfkmoikcmhoaaGreat.Inf
namespace Go.Proofs.YtkkfkmoikcmhoaaGreat.InfS
open Go.RowKit Oct Bit Hf Inf
set_option maxRecDepth 100000
def Yzv (w : World) (K : Kon) (v : Value) (x : R (List UInt8)) (e : Ending) (w' : World) : Prop :=
 (∃ o a F, x = .ok (o, a) ∧ e = .returned (.int .i64 0) ∧ DeT w K v a o F w') ∨ ∃ c, x = .error c ∧ c ≠ 0 ∧ e = .returned (.int .i64 (c : Int)) ∧ Only (Y5n K v) w w'
theorem Res.f {w w' : World} {K : Kon} {v : Value} {F : Option Fix} {x : R (List UInt8)} {e : Ending} (h : Res w K v F x e w') : Yzv w K v x e w' := by
 rcases h with ⟨o, a, h1, h2, h3⟩ | h
 ·exact .inl ⟨o, a, F, h1, h2, h3⟩
 ·exact .inr h
theorem Yzv.end_ {w w' : World} {K : Kon} {v : Value} {x : R (List UInt8)} {e : Ending} (h : Yzv w K v x e w') : ∃ r, e = .returned (.int .i64 r) := by
 rcases h with ⟨_, _, _, _, h2, _⟩ | ⟨c, _, _, h3, _⟩
 ·exact ⟨_, h2⟩
 ·exact ⟨_, h3⟩
def BlP (w : World) (K : Kon) (a : Nat) (v : Value) (out : List UInt8) (e : Ending) (w' : World) : Prop :=
 (∃ h b o a' F, Y1k (Y02 true K.xs) a 3 = .ok (h, b) ∧ Yce (Y02 true K.xs) K.most h b out = .ok (o, a') ∧ e = .returned (.tuple #[.bool (decide (h % 2 = 1)), .int .i64 0]) ∧ DeT w K v a' o F w') ∨
  ∃ c t, ((Y1k (Y02 true K.xs) a 3).then fun h b => Yce (Y02 true K.xs) K.most h b out) = .error c ∧ c ≠ 0 ∧ e = .returned (.tuple #[.bool t, .int .i64 (c : Int)]) ∧ Only (Y5n K v) w w'
theorem and1 (m : Nat) (h : m < 4294967296) : bits .and .u32 (m : Int) 1 = ((m % 2 : Nat) : Int) := by
 rw [show (1 : Int) = ((1 : Nat) : Int) from rfl, u32_and_nat m 1 h (by omega)]
 congr 1
 rw [show (1 : Nat) = 2 ^ 1 - 1 from rfl, Nat.and_two_pow_sub_one_eq_mod]
theorem Yzv.bl {w w1 w' : World} {K : Kon} {a : Nat} {v : Value} {out : List UInt8} {h b : Nat} {r : Int} (hx : Y1k (Y02 true K.xs) a 3 = .ok (h, b)) (ho : Only (Y5n K v) w w1)
  (hr : Yzv w1 K v (Yce (Y02 true K.xs) K.most h b out) (.returned (.int .i64 r)) w') : BlP w K a v out (.returned (.tuple #[.bool (decide (h % 2 = 1)), .int .i64 r])) w' := by
 rcases hr with ⟨o, a', F, h1, h2, h3⟩ | ⟨c, h1, h2, h3, h4⟩
 ·cases h2
  exact .inl ⟨h, b, o, a', F, hx, h1, rfl, h3.more ho (fun k hk => .inl hk)⟩
 ·injection h3 with h3
  injection h3 with _ h3
  subst h3
  exact .inr ⟨c, _, by rw [hx, R.then_ok, h1], h2, rfl, ho.trans h4⟩
set_option maxHeartbeats 2000000 in
theorem Yo9 (w : World) (K : Kon) (v : Value) (out : List UInt8) (F : Option Fix) (h : De w K 0 v out F) (hx : Y1k (Y02 true K.xs) 0 3 = .ok (1, 3)) :
  Calls Tryz.prog 28 #[.pointer (some ⟨K.d, 0, none⟩)] w (BlP w K 0 v out) := by
 have c0 := h.c0
 have H := Lib.hid h
 have HRD := Lib.hid (Yij K.gr K.p K.cap K.xs 0 3 1 3 (by omega) w h.rd hx)
 have g1 : bits .and .u32 1 1 = 1 := and1 1 (by omega)
 have FIN : Hid (∀ w1 r w', Only (Y5n K v) w w1 → Yzv w1 K v (Yce (Y02 true K.xs) K.most 1 3 out) (.returned (.int .i64 r)) w' → BlP w K 0 v out (.returned (.tuple #[.bool true, .int .i64 r])) w') := Lib.hid fun w1 r w' ho hr => hr.bl hx ho
 have HPRE : Hid (∀ w2, Rd w2 K.gr K.p K.cap K.xs 3 true → Only (· = K.gr) w w2 → De w2 K 3 v out F ∧ Only (Y5n K v) w w2) := Lib.hid fun w2 hr ho => ⟨H.out.moved ho hr, Y73 ho⟩
 have HONE : Hid (Yce (Y02 true K.xs) K.most 1 3 out = Y25 (Y02 true K.xs) K.most 3 out) := Lib.hid (by unfold Yce; rw [if_pos (by decide)])
 clear hx h
 go_enter Tryz.func28, Tryz.ntmps28
 go_wp2_with fail
 refine HRD.out.mono ?_
 rintro e w2 ⟨rfl, hr2, ho2⟩
 obtain ⟨hD2, hO2⟩ := HPRE.out w2 hr2 ho2
 have HC := Lib.hid (Y8w w2 K 3 v out F hD2)
 have HO2 := Lib.hid hO2
 clear hr2 ho2 hD2 hO2
 go_wp2_with fail
 refine HC.out.mono ?_
 rintro e w3 hres
 have hres2 := Res.f hres
 rw [← HONE.out] at hres2
 obtain ⟨r, rfl⟩ := hres2.end_
 have HRES := Lib.hid (FIN.out w2 r w3 HO2.out hres2)
 clear hres hres2
 go_wp2_with fail
 go_ret2
 exact HRES.out
theorem Ys0 {w : World} {base : Nat} {far : Bool} {v : Value} (h : w.ownsRow base 102 2 v (froms far).length (bcells (Ycg far))) :
  ∃ b c, v = .slice (some ⟨b, 0, none⟩) (froms far).length c ∧ base ≤ b ∧ b < w.heap.size ∧ (froms far).length ≤ c ∧ ∀ w' : World, w'.heap[b]? = w.heap[b]? → Yni w' b far := by
 have hl := fun k hk => h.lt k hk
 have hc := fun g hg => h.cells (g := g) hg
 have hpos : 0 < (froms far).length := by cases far <;> decide
 rcases h.2 with ⟨_, h0⟩ | ⟨g, cap, cur, rfl, hb, hh, h1, _⟩
 ·omega
 ·refine ⟨g, cap, rfl, hb, (hl g rfl).2, h1, fun w' hw i hi => ?_⟩
  obtain ⟨k1, k2⟩ := Y8e _ _ _ (Yfy far i hi)
  have e1 := hc g rfl _ _ k1
  have e2 := hc g rfl _ _ k2
  rw [Y08, Nat.zero_add] at e1 e2
  exact ⟨(World.cell?_of_block hw).trans e1, (World.cell?_of_block hw).trans e2⟩
def fin8 : R (List UInt8) → Except Nat (List UInt8 × Nat)
 | .ok (o, a) => .ok (o, (a + 7) / 8)
 | .error e => .error e
theorem Y71 (xs : List UInt8) (most : Nat) : inflate xs most = fin8 (Y2v (Y02 true xs) most 0 []) := by
 rw [Y3k]
 unfold fin8
 rcases Y2v (Y02 true xs) most 0 [] with e | ⟨o, a⟩ <;> rfl
def Y9b (xs : List UInt8) (most : Int) : Except Nat (List UInt8 × Nat) := if most < 0 then .error 1 else inflate xs most.toNat
def Ywq (w : World) (xs : List UInt8) (most : Int) (e : Ending) (w' : World) : Prop :=
 Below w.heap.size w w' ∧ ((∃ o k q c, Y9b xs most = .ok (o, k) ∧ e = .returned (.tuple #[.slice q o.length c, .int .i64 (k : Int), .int .i64 0]) ∧ Row w' q o ∧ (q = none → c = 0) ∧ o.length ≤ c ∧ c ≤ maxLen ∧ k ≤ xs.length) ∨
  ∃ c, Y9b xs most = .error c ∧ c ≠ 0 ∧ e = .returned (.tuple #[.slice none 0 0, .int .i64 0, .int .i64 (c : Int)]))
def Yx5 (w0 w : World) (K : Kon) (X : R (List UInt8)) (last : Bool) (wr : World) : Prop :=
 ∃ a v out F, De wr K a v out F ∧ (last = false → a = 0) ∧ Below w0.heap.size w0 wr ∧ (last = true → X = .ok (out, a)) ∧ (last = false → Y2v (Y02 true K.xs) K.most a out = X)
theorem Ycb {w0 w w' : World} {K : Kon} {a : Nat} {v : Value} {out : List UInt8} {F : Option Fix} (h : De w K a v out F) (hg : w0.heap.size ≤ K.gr) (hb : Below w0.heap.size w0 w) (ho : Only (Y5n K v) w w') : Below w0.heap.size w0 w' :=
 hb.trans (ho.below hb.size fun k hk e => by
  have h1 := h.lo
  rcases e with e | e | e
  ·omega
  ·omega
  ·have := h.hv k e; omega)
set_option maxHeartbeats 4000000 in
theorem Yhv (p : Option Addr) (len cap : Nat) (xs : List UInt8) (most : Int) (w : World) (hr : Row w p xs) (hx : xs.length = len) (hnil : p = none → cap = 0) (hl : len ≤ 100000) (hm : most ≤ 200000) (h3 : Y1k (Y02 true xs) 0 3 = .ok (1, 3)) :
  Calls Tryz.prog 14 #[.slice p len cap, .int .i64 most] w (Ywq w xs most) := by
 by_cases hneg : most < 0
 ·have HRES : Hid (Ywq w xs most (.returned (.tuple #[.slice none 0 0, .int .i64 0, .int .i64 1])) w) := Lib.hid ⟨Below.refl _ _, .inr ⟨1, by unfold Y9b; rw [if_pos hneg], by decide, rfl⟩⟩
  clear hr hx hnil h3
  go_enter Tryz.func14, Tryz.ntmps14
  go_wp2_with fail
  go_ret3
  exact HRES.out
 ·obtain ⟨M, rfl⟩ : ∃ M : Nat, most = (M : Int) := ⟨most.toNat, by omega⟩
  have hM : M ≤ 200000 := by omega
  have hd0 : decide ((M : Int) < 0) = false := by simp
  have HNR := Lib.hid (Ydk p len cap xs true w hr hx hnil (by omega))
  have HX := Lib.hid hx
  have H3 := Lib.hid h3
  clear hr hx hnil hneg hm h3
  go_enter Tryz.func14, Tryz.ntmps14
  go_wp2_with fail
  refine HNR.out.mono ?_
  rintro e w1 ⟨hb1, gr, q1, cap1, rfl, hg, hR, hq1⟩
  have HB1 := Lib.hid hb1
  have HR := Lib.hid hR
  have hgr := hR.lt
  clear hb1 hR hq1
  go_wp2_with fail
  refine (Y6i w1).mono ?_
  rintro e w2 ⟨vl, rfl, hb2, ho2⟩
  obtain ⟨bl, cl, rfl, hbl1, hbl2, hcl, htl⟩ := Ys0 ho2
  have HB2 := Lib.hid hb2
  have HTL := Lib.hid htl
  have HCL := Lib.hid hcl
  clear hb2 ho2 htl hcl
  go_wp2_with fail
  refine (Yf2 w2).mono ?_
  rintro e w3 ⟨vd, rfl, hb3, ho3⟩
  obtain ⟨bd, cd, rfl, hbd1, hbd2, hcd, htd⟩ := Ys0 ho3
  have HB3 := Lib.hid hb3
  have HTD := Lib.hid htd
  have HCD := Lib.hid hcd
  have hz1 := HB1.out.size
  have hz2 := HB2.out.size
  have hz3 := hb3.size
  obtain ⟨K, hK⟩ : ∃ K : Kon, K = ⟨w3.heap.size, gr, q1, cap1, xs, M, bl, cl, bd, cd⟩ := ⟨_, rfl⟩
  obtain ⟨wd, hwd⟩ : ∃ wd, wd = w3.alloc (.cells #[.pointer (some ⟨K.gr, 0, none⟩), .slice none 0 0, .int .i64 (M : Int), .slice (some ⟨bl, 0, none⟩) (froms false).length cl, .slice (some ⟨bd, 0, none⟩) (froms true).length cd, .pointer none, .pointer none] 59) := ⟨_, rfl⟩
  have hbd : Below w3.heap.size w3 wd := by rw [hwd]; exact (Below.refl _ w3).alloc (Nat.le_refl _) _
  have hbw : Below w.heap.size w wd := ((HB1.out.trans (HB2.out.mono hz1)).trans (hb3.mono (by omega))).trans (hbd.mono (by omega))
  have hDe : De wd K 0 (.slice none 0 0) [] none := by
   subst hK
   refine ⟨?_, ((HR.out.below HB2.out hgr).below hb3 (by omega)).below hbd (by omega), World.ownsRow_nil wd 0 5 1, ⟨by show w3.heap.size ≤ _; exact hbd.size, fun w' hz hs => ⟨HTL.out w' ?_, HTD.out w' ?_⟩⟩, by show gr < w3.heap.size; omega, (fun k hk => by cases hk), by simp, hM, trivial, ⟨HCL.out, HCD.out⟩⟩
   ·rw [hwd]; exact Array.getElem?_push_size
   ·rw [hs bl (by show gr + 1 ≤ bl; omega) (by show bl < w3.heap.size; omega), hbd.block bl (by omega), hb3.block bl (by omega)]
   ·rw [hs bd (by show gr + 1 ≤ bd; omega) (by show bd < w3.heap.size; omega), hbd.block bd (by omega)]
  have hKd : w3.heap.size = K.d := by rw [hK]
  have hKg : gr = K.gr := by rw [hK]
  have hKx : K.xs = xs := by rw [hK]
  have hKm : K.most = M := by rw [hK]
  obtain ⟨X, hX⟩ : ∃ X, X = Y2v (Y02 true xs) M 0 [] := ⟨_, rfl⟩
  have HST : Hid (Yx5 w wd K X false wd) := Lib.hid ⟨0, _, _, _, hDe, fun _ => rfl, hbw, (fun h => by cases h), (fun _ => by rw [hKx, hKm]; exact hX.symm)⟩
  have HEQ : Hid (Y9b xs (M : Int) = fin8 X) := Lib.hid (by
   unfold Y9b
   rw [if_neg (by omega), Int.toNat_natCast, Y71, hX])
  have HKX := Lib.hid hKx
  have HKM := Lib.hid hKm
  have HWD := Lib.hid hwd
  have hgK : w.heap.size ≤ K.gr := by omega
  have HBL := Lib.hid (Y03 true K.xs)
  have HIE := Lib.hid (fun (a : Nat) (out : List UInt8) (h : a ≤ (Y02 true K.xs).length) => Y9k (Y02 true K.xs) K.most a out h)
  clear hb3 ho3 htd hcd hwd hbd hbw hDe hX hKx hKm hK HNR HB1 HB2 HB3
  go_wp2_with fail
  rw [← HWD.out]
  go_loopw [8, 9] (fun l _ wr => ∃ last : Bool, l = .bool last ∧ Hid (Yx5 w wd K X last wr)) (fun _ _ wr => 8 * K.xs.length - X0y wr K.gr)
  case atStart => exact ⟨false, rfl, HST⟩
  case round =>
   obtain ⟨last, rfl, HB⟩ := hrel
   obtain ⟨a, v, out, F, hD, ha0, hbw, hl1, hl2⟩ := HB.out
   have hpos : X0y wr K.gr = a := Yr1 hD.rd
   have hab := hD.rd.2.2.1
   have HD := Lib.hid hD
   have HBW := Lib.hid hbw
   have HPOS := Lib.hid hpos
   cases last
   ·have hrun := hl2 rfl
    rw [HIE.out a out (by rw [HBL.out]; exact hab)] at hrun
    have HRUN := Lib.hid hrun
    have ha := ha0 rfl
    subst ha
    have HBLK := Lib.hid (Yo9 wr K v out F hD (by rw [HKX.out]; exact H3.out))
    clear hD hbw hpos hl1 hl2 hrun HB HST ha0
    go_wp2_with fail
    refine HBLK.out.mono ?_
    rintro e w4 hres
    rcases hres with ⟨h, b, o, a4, F4, hx, ho, rfl, v4, hD4, ho4, hv4⟩ | ⟨c, t, hx, hcne, rfl, ho4⟩
    ·have hrun := HRUN.out
     rw [hx, R.then_ok, ho, R.then_ok] at hrun
     have hb3 := Yqg hx
     obtain ⟨_, hb⟩ := Y2r hx (by omega)
     have hle := ((Yai K.most (8 * K.xs.length + 1) h b out).le (v := o) (a := a4) (by rw [hb]; exact hb3) (by rw [Yia _ _ _ _ _ _ (by rw [hb]; exact hb3) (by rw [HBL.out]; omega)]; exact ho))
     rw [HBL.out] at hle
     have HNX : Hid (Yx5 w wd K X (decide (h % 2 = 1)) w4 ∧ X0y w4 K.gr = a4) := Lib.hid ⟨⟨a4, v4, o, F4, hD4, (fun hd => by rw [HKX.out, H3.out] at hx; cases hx; exact absurd hd (by decide)), Ycb HD.out hgK HBW.out ho4, fun hd => by
      rw [if_pos (of_decide_eq_true hd)] at hrun; exact hrun.symm, fun hd => by
      rw [if_neg (of_decide_eq_false hd)] at hrun; exact hrun⟩, Yr1 hD4.rd⟩
     have hmv : 0 + 3 ≤ a4 ∧ a4 ≤ 8 * K.xs.length := ⟨by omega, hle.2⟩
     generalize decide (h % 2 = 1) = bb at HNX
     clear hx ho hD4 ho4 hv4 hrun hle hb3 hb
     go_wp2_with fail
     go_roundw
     case rel => exact ⟨bb, rfl, Lib.hid HNX.out.1⟩
     case measure =>
      rw [HNX.out.2, HPOS.out]
      omega
    ·have hc0 : ((c : Int) != 0) = true := by simp; omega
     have HRES : Hid (Ywq w xs (M : Int) (.returned (.tuple #[.slice none 0 0, .int .i64 0, .int .i64 (c : Int)])) w4) := Lib.hid ⟨Ycb HD.out hgK HBW.out ho4, .inr ⟨c, by
      have hXe : X = .error c := by
       rw [← HRUN.out]
       rcases hn : Y1k (Y02 true K.xs) 0 3 with e | ⟨h, b⟩
       ·rw [hn] at hx; exact hx
       ·rw [hn, R.then_ok] at hx
        rw [R.then_ok, hx]
        rfl
      rw [HEQ.out, hXe]; rfl, hcne, rfl⟩⟩
     clear hx ho4 hcne
     go_wp2_with fail
     go_ret3
     exact HRES.out
   ·have hX2 := hl1 rfl
    obtain ⟨pp, cc, hv, hc1, hc2, hn0, hrow⟩ := hD.form
    have HAT := Lib.hid (fun n => Ywr K.gr K.p K.cap K.xs a true (wr.drewN n) (hD.drawn (w' := wr.drewN n) ⟨n, rfl⟩).rd)
    have k1 := hD.c1
    have k0 := hD.c0
    rw [hv] at k1
    have hkx := HKX.out
    have hre := hD.rd.2.2.2
    have HRES : Hid (∀ n, Ywq w xs (M : Int) (.returned (.tuple #[.slice pp out.length cc, .int .i64 (((a + 7) / 8 : Nat) : Int), .int .i64 0])) (wr.drewN n)) := Lib.hid fun n =>
     ⟨HBW.out.trans ((show Drawn wr (wr.drewN n) from ⟨n, rfl⟩).below _), .inl ⟨out, (a + 7) / 8, pp, cc, by rw [HEQ.out, hX2]; rfl, rfl, hrow, hn0, hc1, hc2, by rw [← HKX.out]; omega⟩⟩
    have HAT0 := Lib.hid (Ywr K.gr K.p K.cap K.xs a true wr.drew (hD.drawn (w' := wr.drew) ⟨1, rfl⟩).rd)
    clear hD hbw hpos hl1 hl2 HB HST hX2 hrow hn0 hkx ha0
    go_wp2_with fail
    go_quiet (first | (go_at_call 29; exact quietly HAT0.out) | (go_at_call 29; exact quietly (HAT.out _)))
    go_wp2_with fail
    go_ret3
    exact HRES.out _
end Go.Proofs.YtkkfkmoikcmhoaaGreat.InfS
namespace Go.Proofs.YtkkfkmoikcmhoaaGreat.Inf
open Go.RowKit Oct Bit Hf
set_option maxRecDepth 100000
def X04 (w : World) (far : Bool) (e : Ending) (w' : World) : Prop :=
 e = .returned (.tuple #[.slice (some ⟨w.heap.size, 0, none⟩) (froms far).length (froms far).length, .slice (some ⟨w.heap.size + 1, 0, none⟩) (froms far).length (froms far).length]) ∧ Below w.heap.size w w' ∧
  VRow w' w'.heap.size (some ⟨w.heap.size, 0, none⟩) (ints (Y05 (froms far))) ∧ VRow w' w'.heap.size (some ⟨w.heap.size + 1, 0, none⟩) (ints (Y05 (extras far)))
theorem Ykt (w : World) (us vs : List Value) (T : TypeId) : Below w.heap.size w ((w.alloc (.cells us.toArray T)).alloc (.cells vs.toArray T)) ∧
  VRow ((w.alloc (.cells us.toArray T)).alloc (.cells vs.toArray T)) ((w.alloc (.cells us.toArray T)).alloc (.cells vs.toArray T)).heap.size (some ⟨w.heap.size, 0, none⟩) us ∧
  VRow ((w.alloc (.cells us.toArray T)).alloc (.cells vs.toArray T)) ((w.alloc (.cells us.toArray T)).alloc (.cells vs.toArray T)).heap.size (some ⟨w.heap.size + 1, 0, none⟩) vs := by
 have h1 : Below w.heap.size w (w.alloc (.cells us.toArray T)) := (Below.refl _ w).alloc (Nat.le_refl _) _
 have h2 : Below (w.alloc (.cells us.toArray T)).heap.size (w.alloc (.cells us.toArray T)) ((w.alloc (.cells us.toArray T)).alloc (.cells vs.toArray T)) := (Below.refl _ _).alloc (Nat.le_refl _) _
 have hz : (w.alloc (.cells us.toArray T)).heap.size = w.heap.size + 1 := Array.size_push _
 refine ⟨h1.trans (h2.mono h1.size), ?_, ?_⟩
 ·exact ((Y17 (g := w.heap.size) (T := T) (fr := (0, 0)) (vs := us) (C := (w.alloc (.cells us.toArray T)).heap.size) Array.getElem?_push_size (by omega)).below h2 (Nat.le_refl _)).mono h2.size
 ·rw [← hz]
  exact Y17 (T := T) (fr := (0, 0)) (vs := vs) Array.getElem?_push_size (by simp)
set_option maxHeartbeats 4000000 in
theorem Yfb (far : Bool) (w : World) : Calls Tryz.prog 98 #[.bool far] w (X04 w far) := by
 cases far
 ·go_enter Tryz.func98, Tryz.ntmps98
  go_wp2_with fail
  go_ret2
  exact ⟨rfl, Ykt w (ints (Y05 (froms false))) (ints (Y05 (extras false))) 3⟩
 ·go_enter Tryz.func98, Tryz.ntmps98
  go_wp2_with fail
  go_ret2
  exact ⟨rfl, Ykt w (ints (Y05 (froms true))) (ints (Y05 (extras true))) 3⟩
end Go.Proofs.YtkkfkmoikcmhoaaGreat.Inf
namespace Go.Proofs.YtkkfkmoikcmhoaaGreat.Inf
open Go.RowKit Oct Bit Hf
set_option maxRecDepth 100000
def valA (k : Nat) : Nat := if k < 144 then 8 else if k < 256 then 9 else if k < 280 then 7 else 8
theorem Yho : ∀ k, k < 288 → Y0l.take (k + 1) = Y0l.take k ++ [valA k] := by decide +kernel
theorem Yhq : ∀ k, k < 30 → Y0m.take (k + 1) = Y0m.take k ++ [5] := by decide +kernel
theorem Yay {w : World} {base : Nat} {v : Value} {L : List Nat} (h : IOwn w base v (Y05 L)) (x : Nat) :
  (w.alloc (.cells #[.int .i64 (x : Int)] 3)).ownsRow base 3 1 v L.length (ints (Y05 L)) ∧
  VRow (w.alloc (.cells #[.int .i64 (x : Int)] 3)) (w.alloc (.cells #[.int .i64 (x : Int)] 3)).heap.size (some ⟨w.heap.size, 0, none⟩) (ints [(x : Int)]) := by
 have hba : Below w.heap.size w (w.alloc (.cells #[.int .i64 (x : Int)] 3)) := (Below.refl _ w).alloc (Nat.le_refl _) _
 refine ⟨?_, Y17 (vs := ints [(x : Int)]) (T := 3) (fr := (0, 0)) Array.getElem?_push_size (by simp)⟩
 have h1 := Y1s h hba
 rwa [Y01] at h1
theorem Yqu {w : World} {base : Nat} {v : Value} {L : List Nat} {x : Nat} (h : w.ownsRow base 3 1 v (L.length + 1) (ints (Y05 L) ++ ints [(x : Int)])) : IOwn w base v (Y05 (L ++ [x])) := by
 unfold IOwn
 rw [Y01, List.length_append, Y36, Y2w]
 exact h
set_option maxHeartbeats 4000000 in
theorem Ymq (w : World) : Calls Tryz.prog 37 #[] w (Yx4 w) := by
 obtain ⟨i0, hi, hz0, hz1, hz2⟩ := info_parts Tryz.infoInt
 go_enter Tryz.func37, Tryz.ntmps37
 go_wp2_with fail
 go_loopw [2, 4, 5] (fun v i _ wr => ∃ k : Nat, k ≤ 288 ∧ i = .int .i64 (k : Int) ∧ Hid (IOwn wr w.heap.size v (Y05 (Y0l.take k)) ∧ Below w.heap.size w wr)) (fun _ i _ _ => 288 - (intOf i).toNat)
 case atStart => exact ⟨0, by omega, rfl, Lib.hid ⟨World.ownsRow_nil w _ 3 1, Below.refl _ _⟩⟩
 case round =>
  obtain ⟨k, hk, rfl, HB⟩ := hrel
  rename_i v2
  by_cases hlt : k < 288
  ·have ql : decide ((k : Int) < 288) = true := by simp; omega
   have hfl : (Y0l.take k).length = k := by rw [List.length_take]; have : Y0l.length = 288 := by decide
                                            omega
   have HST := Lib.hid (Yho k hlt)
   obtain ⟨x, hx⟩ : ∃ x, x = valA k := ⟨_, rfl⟩
   obtain ⟨ho, hv⟩ := Yay HB.out.1 x
   rw [hfl] at ho
   rw [← hx] at HST
   have HO := Lib.hid ho
   have HV := Lib.hid hv
   have HX := Lib.hid hx
   have HFL := Lib.hid hfl
   have hba : Below wr.heap.size wr (wr.alloc (.cells #[.int .i64 (x : Int)] 3)) := (Below.refl _ wr).alloc (Nat.le_refl _) _
   have HBA := Lib.hid (HB.out.2.trans (hba.mono HB.out.2.size))
   have HBZ := Lib.hid HBA.out.size
   clear ho hv hba hfl
   have hcase : (x = 8 ∧ decide (144 ≤ (k : Int)) = false ∧ decide (256 ≤ (k : Int)) = false) ∨ (x = 9 ∧ decide (144 ≤ (k : Int)) = true ∧ decide ((k : Int) < 256) = true ∧ decide (256 ≤ (k : Int)) = false) ∨
     (x = 7 ∧ decide (144 ≤ (k : Int)) = true ∧ decide ((k : Int) < 256) = false ∧ decide (256 ≤ (k : Int)) = true ∧ decide ((k : Int) < 280) = true) ∨
     (x = 8 ∧ decide (144 ≤ (k : Int)) = true ∧ decide ((k : Int) < 256) = false ∧ decide (256 ≤ (k : Int)) = true ∧ decide ((k : Int) < 280) = false) := by
    rw [hx]
    unfold valA
    by_cases h1 : k < 144
    ·left; rw [if_pos h1]; simp; omega
    ·right
     by_cases h2 : k < 256
     ·left; rw [if_neg h1, if_pos h2]; simp; omega
     ·right
      by_cases h3 : k < 280
      ·left; rw [if_neg h1, if_neg h2, if_pos h3]; simp; omega
      ·right; rw [if_neg h1, if_neg h2, if_neg h3]; simp; omega
   clear hx
   rcases hcase with ⟨hxx, q1, q2⟩ | ⟨hxx, q1, q2, q3⟩ | ⟨hxx, q1, q2, q3, q4⟩ | ⟨hxx, q1, q2, q3, q4⟩
   all_goals
    subst hxx
    go_wp2_with (at_builtin; refine Y0i Tryz.underlying74 hi hz0 hz1 hz2 rfl (by decide) rfl _ _ rfl w.heap.size _ k (ints (Y05 (Y0l.take k))) rfl HO.out (some ⟨wr.heap.size, 0, none⟩) 1 1 (ints [_]) rfl HV.out rfl (fun h => by cases h) Y46 (by omega) HBZ.out ?_)
    intro v9 w9 hown9 hgrow9 hb9
    have HN : Hid (IOwn w9 w.heap.size v9 (Y05 (Y0l.take (k + 1))) ∧ Below w.heap.size w w9) := Lib.hid ⟨by
     rw [HST.out]
     exact Yqu (by rw [HFL.out]; exact hown9), HBA.out.trans hb9⟩
    clear hown9 hgrow9 hb9
    go_wp2_with fail
    go_roundw
    case rel => exact ⟨k + 1, by omega, by first | rfl | (push_cast; rfl), HN⟩
    case measure => simp [intOf]; omega
  ·have hkn : k = 288 := by omega
   have ql : decide ((k : Int) < 288) = false := by simp; omega
   have hall : Y0l.take 288 = Y0l := by decide +kernel
   have HA := HB.out
   rw [hkn, hall] at HA
   obtain ⟨wA, rfl⟩ : ∃ wA, wA = wr := ⟨_, rfl⟩
   obtain ⟨q, c, hv, hq0, hqc, hqm, hqr, _⟩ := Y18 HA.1 (Y06 _)
   rw [Y01] at hv
   have hfa : Y0l.length = 288 := by decide
   rw [hfa] at hv
   subst hv
   have HB2 := Lib.hid HA.2
   have HQR := Lib.hid hqr
   have HQ0 := Lib.hid hq0
   have hwz := HA.2.size
   clear HB hall HA hqr hq0 hqc hqm hfa hkn
   go_wp2_with fail
   go_loopw [3, 6] (fun v i wq => ∃ k : Nat, k ≤ 30 ∧ i = .int .i64 (k : Int) ∧ Hid (IOwn wq wA.heap.size v (Y05 (Y0m.take k)) ∧ Below wA.heap.size wA wq)) (fun _ i _ => 30 - (intOf i).toNat)
   case atStart => exact ⟨0, by omega, rfl, Lib.hid ⟨World.ownsRow_nil wA _ 3 1, Below.refl _ _⟩⟩
   case round =>
    clear hlt hk ql
    obtain ⟨k, hk, rfl, HB⟩ := hrel
    by_cases hlt2 : k < 30
    ·have ql : decide ((k : Int) < 30) = true := by simp; omega
     have hfl : (Y0m.take k).length = k := by rw [List.length_take]; have : Y0m.length = 30 := by decide
                                              omega
     have HST := Lib.hid (Yhq k hlt2)
     obtain ⟨ho, hv⟩ := Yay HB.out.1 5
     rw [hfl] at ho
     have HO := Lib.hid ho
     have HV := Lib.hid hv
     have HFL := Lib.hid hfl
     have hba : Below wr.heap.size wr (wr.alloc (.cells #[.int .i64 ((5 : Nat) : Int)] 3)) := (Below.refl _ wr).alloc (Nat.le_refl _) _
     have HBA := Lib.hid (HB.out.2.trans (hba.mono HB.out.2.size))
     have HBZ := Lib.hid HBA.out.size
     clear ho hv hba hfl
     go_wp2_with (at_builtin; refine Y0i Tryz.underlying74 hi hz0 hz1 hz2 rfl (by decide) rfl _ _ rfl wA.heap.size _ k (ints (Y05 (Y0m.take k))) rfl HO.out (some ⟨wr.heap.size, 0, none⟩) 1 1 (ints [_]) rfl HV.out rfl (fun h => by cases h) Y46 (by omega) HBZ.out ?_)
     intro v9 w9 hown9 hgrow9 hb9
     have HN : Hid (IOwn w9 wA.heap.size v9 (Y05 (Y0m.take (k + 1))) ∧ Below wA.heap.size wA w9) := Lib.hid ⟨by
      rw [HST.out]
      exact Yqu (by rw [HFL.out]; exact hown9), HBA.out.trans hb9⟩
     clear hown9 hgrow9 hb9
     go_wp2_with fail
     go_roundw
     case rel => exact ⟨k + 1, by omega, by first | rfl | (push_cast; rfl), HN⟩
     case measure => simp [intOf]; omega
    ·have hkn : k = 30 := by omega
     subst hkn
     have hall : Y0m.take 30 = Y0m := by decide +kernel
     have HA := HB.out
     rw [hall] at HA
     obtain ⟨r, d, hv, hr0, hrc, hrm, hrr, _⟩ := Y18 HA.1 (Y06 _)
     rw [Y01] at hv
     have hfb : Y0m.length = 30 := by decide
     rw [hfb] at hv
     subst hv
     have HRES : Hid (Yx4 w (.returned (.tuple #[.slice q 288 c, .slice r 30 d])) wr) := Lib.hid ⟨HB2.out.trans (HA.2.mono hwz), q, c, r, d, rfl, (HQR.out.below HA.2 (Nat.le_refl _)).mono HA.2.size, HQ0.out, hrr, hr0⟩
     clear HB HA hall hr0 hrc hrm hrr hfb
     go_wp2_with fail
     go_ret2
     exact HRES.out
end Go.Proofs.YtkkfkmoikcmhoaaGreat.Inf
namespace Go.Proofs.YtkkfkmoikcmhoaaGreat.Inf
open Go.RowKit Oct Bit Hf
set_option maxRecDepth 100000
def Y6t (L : List Nat) (full one : Bool) : Except Nat (List (List Bool)) :=
 if startN L 31 ≤ 1073741824 then (if full = true ∧ startN L 31 ≠ 1073741824 ∧ ¬ (one = true ∧ lone L = true) then .error 3 else .ok (Y04 L)) else .error 3
theorem Y7a (L : List Nat) (one : Bool) : Y6t L true one = Y1z L one := by
 unfold Y6t Y1z
 by_cases h1 : startN L 31 ≤ 1073741824
 ·rw [if_pos h1]
  by_cases h2 : startN L 31 = 1073741824
  ·rw [if_neg (fun h => h.2.1 h2), if_pos (.inl h2)]
  ·by_cases h3 : one = true ∧ lone L = true
   ·rw [if_neg (fun h => h.2.2 h3), if_pos (.inr ⟨by omega, h3⟩)]
   ·rw [if_pos ⟨rfl, h2, h3⟩, if_neg (fun h => by
     rcases h with h | h
     ·exact h2 h
     ·exact h3 h.2)]
 ·rw [if_neg h1, if_neg (fun h => by
   rcases h with h | h
   ·omega
   ·omega)]
theorem Yhg (L : List Nat) (k : Nat) (h : k < L.length) : (L.take (k + 1)).countP (fun n => decide (0 < n)) = (L.take k).countP (fun n => decide (0 < n)) + (if 0 < L[k] then 1 else 0) := by
 rw [List.take_succ_eq_append_getElem h, List.countP_append]
 simp [List.countP_cons]
end Go.Proofs.YtkkfkmoikcmhoaaGreat.Inf
namespace Go.Proofs.YtkkfkmoikcmhoaaGreat.Inf
open Go.RowKit Oct Bit Hf
set_option maxRecDepth 100000
theorem vget9 {w : World} {C b i : Nat} {L : List Nat} (h : VRow w C (some ⟨b, 0, none⟩) (ints (Y05 L))) (hi : i < L.length) : w.cell? ⟨b, i, none⟩ = some (.int .i64 ((L.getD i 0 : Nat) : Int)) := by
 have h1 := h.int i (by rw [Y01]; exact hi)
 rw [Nat.zero_add] at h1
 rw [h1]
 simp [Y05, List.getD_eq_getElem?_getD, List.getElem?_eq_getElem hi]
theorem Yov : ∀ far : Bool, (extras far).length = (froms far).length ∧ 29 ≤ (froms far).length ∧ (froms far).length ≤ 30 ∧ (froms far).getD 0 0 = least1 far := by decide
theorem Yrr {w : World} {C b off i : Nat} {W : List (List Bool)} (h : VRow w C (some ⟨b, off, none⟩) (strs (Y3f W))) (hi : i < W.length) : w.cell? ⟨b, off + i, none⟩ = some (.string (ds (W.getD i []))) := by
 have h1 := h.str i (by rw [Y8b]; exact hi)
 rw [h1]
 simp [Y3f, List.getD_eq_getElem?_getD, List.getElem?_eq_getElem hi, ds]
theorem Yu6 {W : List (List Bool)} (h : ∀ m ∈ W, m.length ≤ 30) (i : Nat) : (W.getD i []).length ≤ 30 := by
 rw [List.getD_eq_getElem?_getD]
 rcases hx : W[i]? with _ | m
 ·simp
 ·exact h m (List.mem_of_getElem? hx)
end Go.Proofs.YtkkfkmoikcmhoaaGreat.Inf

/- IgN, IgF: merged. -/
import Derived.Test.YtkkfkmoikcmhoaaGreatAap
import Derived.Test.YtkkfkmoikcmhoaaGreatAbe
set_option linter.unusedVariables false
set_option linter.unusedSimpArgs false
namespace Go.Proofs.YtkkfkmoikcmhoaaGreat.Inf
open Go.RowKit Oct Bit Hf
set_option maxRecDepth 100000
theorem Ypy {S : Nat → Prop} {w w' : World} {base e n : Nat} {v : Value} {cs : List Value} (h : w.ownsRow base e 1 v n cs) (ho : Only S w w') (hv : ∀ k, v.ownBlock = some k → ¬ S k) : w'.ownsRow base e 1 v n cs := by
 refine ⟨h.1, ?_⟩
 rcases h.2 with hn | ⟨g, cap, cur, rfl, hb, hh, r⟩
 ·exact .inl hn
 ·refine .inr ⟨g, cap, cur, rfl, hb, ?_, r⟩
  have hlt : g < w.heap.size := by
   rcases Nat.lt_or_ge g w.heap.size with hlt | hge
   ·exact hlt
   ·rw [Array.getElem?_eq_none hge] at hh; cases hh
  rw [ho.2.2.2.2 g hlt (hv g rfl)]
  exact hh
def Yz9 (v : Value) : Nat := match v with | .slice _ n _ => n | _ => 0
def ClP (w : World) (K : Kon) (v : Value) (out : List UInt8) (F : Option Fix) (n : Nat) (x : R (List Nat)) (e : Ending) (w' : World) : Prop :=
 Only (Y0x K v) w w' ∧ ((∃ c, x = .error c ∧ c ≠ 0 ∧ e = .returned (.tuple #[.slice none 0 0, .int .i64 (c : Int)])) ∨
  (∃ all a q c, x = .ok (all, a) ∧ all.length = n ∧ (∀ m ∈ all, m ≤ 30) ∧ e = .returned (.tuple #[.slice q n c, .int .i64 0]) ∧ De w' K a v out F ∧ VRow w' w'.heap.size q (ints (Y05 all)) ∧ (q = none → c = 0) ∧ n ≤ c))
def Yyr (w : World) (K : Kon) (v : Value) (out : List UInt8) (F : Option Fix) (W : List (List Bool)) (n : Nat) (X : R (List Nat)) (v8 : Value) (wr : World) : Prop :=
 ∃ a all, De wr K a v out F ∧ Only (Y0x K v) w wr ∧ IOwn wr w.heap.size v8 (Y05 all) ∧ (∀ m ∈ all, m ≤ 30) ∧ ((all.length ≤ n ∧ Y6l W n (Y01 true K.xs) a all = X) ∨ (n < all.length ∧ X = .error 3)) ∧ all.length ≤ n + 200 ∧ Yz9 v8 = all.length
def ApSt (w : World) (K : Kon) (a : Nat) (v : Value) (out : List UInt8) (F : Option Fix) (all : List Nat) (x j : Nat) (v8 : Value) (wr : World) : Prop :=
 De wr K a v out F ∧ Only (Y0x K v) w wr ∧ IOwn wr w.heap.size v8 (Y05 (all ++ List.replicate j x))
theorem Yen (a b : List Nat) : Y05 (a ++ b) = Y05 a ++ Y05 b := by simp [Y05]
theorem Yuw {s : Nat} {all : List Nat} (hs : s ≤ 30) (h : ∀ m ∈ all, m ≤ 30) : valueV s all ≤ 30 := by
 unfold valueV
 split
 ·rw [List.getLastD_eq_getLast?]
  rcases hl : all.getLast? with _ | m
  ·simp
  ·have := h m (List.mem_of_getLast? hl)
   simpa using this
 ·split
  ·omega
  ·split
   ·omega
   ·exact hs
theorem Ywz (s m : Nat) (h : m < 2 ^ wideV s) : timesV s + m ≤ 140 := by
 unfold wideV at h
 unfold timesV
 split at h
 ·rename_i e; rw [if_pos e]; omega
 ·rename_i e
  rw [if_neg e]
  split at h
  ·rename_i e2; rw [if_pos e2]; omega
  ·rename_i e2
   rw [if_neg e2]
   split at h
   ·rename_i e3; rw [if_pos e3]; omega
   ·rename_i e3; rw [if_neg e3]; omega
theorem Yyd (s : Nat) : wideV s ≤ 13 := by unfold wideV; split <;> (try split) <;> (try split) <;> omega
theorem Yur (s : Nat) : timesV s ≤ 100000 := by unfold timesV; split <;> (try split) <;> (try split) <;> omega
set_option maxHeartbeats 8000000 in
theorem Y9t (w : World) (K : Kon) (a : Nat) (v : Value) (out : List UInt8) (F : Option Fix) (B C g n : Nat) (W : List (List Bool)) (h : De w K a v out F) (hb : Bo w B C g W) (hc : Clr K v B C) (hW : W.length ≤ 19) (hn : n ≤ 1000) :
  Calls Tryz.prog 94 #[.pointer (some ⟨K.d, 0, none⟩), .pointer (some ⟨g, 0, none⟩), .int .i64 (n : Int)] w (ClP w K v out F n (Y6l W n (Y01 true K.xs) a [])) := by
 obtain ⟨i0, hi, hz0, hz1, hz2⟩ := info_parts Tryz.infoInt
 obtain ⟨X, hX⟩ : ∃ X, X = Y6l W n (Y01 true K.xs) a [] := ⟨_, rfl⟩
 rw [← hX]
 have HLOW := Lib.hid h.low
 have HLO := Lib.hid h.lo
 have HBO := Lib.hid hb
 have HC := Lib.hid hc
 have HST : Hid (Yyr w K v out F W n X (.slice none 0 0) w) := Lib.hid ⟨a, [], h, Only.refl _ _, World.ownsRow_nil w _ 3 1, by simp, .inl ⟨by simp, hX.symm⟩, by simp, rfl⟩
 have hgrB : K.gr < B := by have := hc.1; have := h.lo; omega
 have hgrz : K.gr < w.heap.size := by have := h.lo; have := h.lt; omega
 have HZ0 : Hid (w.heap.size = w.heap.size) := Lib.hid rfl
 have HBL := Lib.hid (Y04 true K.xs)
 clear h hb hc hX
 go_enter Tryz.func94, Tryz.ntmps94
 go_wp2_with fail
 go_loopw [8, 9, 10, 11, 12, 50] (fun v8 _ _ _ _ _ wr => Hid (Yyr w K v out F W n X v8 wr)) (fun v8 _ _ _ _ _ _ => n - Yz9 v8)
 case atStart => exact HST
 case round =>
  obtain ⟨a2, all, hD, ho, hown, hm, hrun, hal, hlv⟩ := hrel.out
  obtain ⟨q, c8, rfl, hq0, hqc, hqm, hqr, hqb⟩ := Y2v hown (Y06 _)
  rw [Y02] at hqc hown
  rw [Y02] at hlv
  rw [Y02]
  have HN := Lib.hid hown
  have HD := Lib.hid hD
  have HO := Lib.hid ho
  have HM := Lib.hid hm
  have HRUN := Lib.hid hrun
  have HQ0 := Lib.hid hq0
  have HQR := Lib.hid hqr
  have HQB := Lib.hid hqb
  have hab := hD.rd.2.2.1
  have c0 := hD.c0
  have hzz := ho.2.2.2.1
  have HBOr := Lib.hid (HBO.out.only HC.out HLO.out ho)
  have HOWLT := Lib.hid (fun k hk => hown.lt k hk)
  clear hown hD ho hm hrun hq0 hqr hqb hrel HST
  by_cases hln : all.length < n
  ·have ql : decide ((all.length : Int) < (n : Int)) = true := by simpa using hln
   have HEQ : Hid (Y6l W n (Y01 true K.xs) a2 all = X) := Lib.hid (by
    rcases HRUN.out with h | h
    ·exact h.2
    ·omega)
   have heq := HEQ.out
   rw [Yj7 W n _ a2 all hln] at heq
   rcases hx : Y1r W (Y01 true K.xs) a2 with c | ⟨s, b⟩
   ·have HW := Lib.hid (Ye8 wr K a2 v out F B C g c W HD.out HBOr.out hgrB hx)
    have hc0 : ((c : Int) != 0) = true := by have := Y62 hx; simp; omega
    have HRES : Hid (∀ w2, Only (· = K.gr) wr w2 → ClP w K v out F n X (.returned (.tuple #[.slice none 0 0, .int .i64 (c : Int)])) w2) := Lib.hid fun w2 ho2 =>
     ⟨HO.out.trans (Y0w ho2), .inl ⟨c, by rw [← heq, hx]; rfl, by have := Y62 hx; omega, rfl⟩⟩
    clear hx heq
    go_wp2_with fail
    refine HW.out.mono ?_
    rintro e w2 ⟨rfl, ho2⟩
    have HRES2 := Lib.hid (HRES.out w2 ho2)
    clear ho2
    go_wp2_with fail
    go_ret2
    exact HRES2.out
   ·have HW := Lib.hid (Yih wr K a2 v out F B C g s b W HD.out HBOr.out hgrB hx)
    have hs19 : s < 19 := by have := Ydc hx; omega
    rw [hx, R.then_ok] at heq
    by_cases h16 : s = 16 ∧ all = []
    ·have q16 : ((s : Int) == 16) = true := by rw [h16.1]; rfl
     have q0 : ((all.length : Int) == 0) = true := by rw [h16.2]; rfl
     have HRES : Hid (∀ w2, Only (· = K.gr) wr w2 → ClP w K v out F n X (.returned (.tuple #[.slice none 0 0, .int .i64 3])) w2) := Lib.hid fun w2 ho2 =>
      ⟨HO.out.trans (Y0w ho2), .inl ⟨3, by rw [← heq, if_pos h16], by decide, rfl⟩⟩
     clear hx heq h16
     go_wp2_with fail
     refine HW.out.mono ?_
     rintro e w2 ⟨rfl, _, ho2⟩
     have HRES2 := Lib.hid (HRES.out w2 ho2)
     clear ho2
     go_wp2_with fail
     go_ret2
     exact HRES2.out
    ·rw [if_neg h16] at heq
     have HEQ2 := Lib.hid heq
     have H16 := Lib.hid h16
     have hpost : Hid (s = 16 → all ≠ []) := Lib.hid fun e1 e2 => h16 ⟨e1, e2⟩
     -- the rest of the round, whatever the test's form
     have REST : Hid True := Lib.hid trivial
     clear hx heq h16
     have hguard : ((s : Int) == 16) = false ∨ (((s : Int) == 16) = true ∧ ((all.length : Int) == 0) = false) := by
      by_cases h1 : s = 16
      ·right
       have h2 := hpost.out h1
       have h3 : 0 < all.length := List.length_pos_iff.2 h2
       exact ⟨by rw [h1]; rfl, by simp; omega⟩
      ·left; simp; omega
     have HREP := Lib.hid (fun w2 => Yi5 s w2 (by omega))
     have hwl := Yyd s
     have htl := Yur s
     rcases hguard with q16 | ⟨q16, q0⟩
     all_goals
      go_wp2_with fail
      refine HW.out.mono ?_
      rintro e w2 ⟨rfl, hD2, ho2⟩
      have HD2 := Lib.hid hD2
      have HO2 := Lib.hid ho2
      clear hD2 ho2
      go_wp2_with fail
      refine (HREP.out w2).mono ?_
      rintro e w3 ⟨rfl, hb3⟩
      have HD3 := Lib.hid (HD2.out.keep (Only.of_below hb3))
      have HO3 := Lib.hid ((HO.out.trans (Y0w HO2.out)).trans (Only.of_below (S := Y0x K v) hb3))
      have HNUM := Lib.hid (Y0r w3 K b v out F (timesV s) (wideV s) HD3.out htl hwl)
      have HB3 := Lib.hid hb3
      clear hb3
      go_wp2_with fail
      refine HNUM.out.mono ?_
      rintro e w4 ⟨hres, ho4⟩
      have HO4 := Lib.hid (HO3.out.trans ho4)
      have HO24 := Lib.hid ho4
      clear ho4
      rcases hres with ⟨m, hx4, hm4, rfl, hD4⟩ | ⟨hx4, rfl⟩
      case inr =>
       have HRES : Hid (ClP w K v out F n X (.returned (.tuple #[.slice none 0 0, .int .i64 2])) w4) := Lib.hid ⟨HO4.out, .inl ⟨2, by rw [← HEQ2.out, hx4]; rfl, by decide, rfl⟩⟩
       clear hx4
       go_wp2_with fail
       go_ret2
       exact HRES.out
      case inl =>
       have hown4 : IOwn w4 w.heap.size (.slice q all.length c8) (Y05 all) := by
        refine Ypy (by have := HN.out; unfold IOwn at *; rwa [Y02] at *) (((Y0w (v := v) HO2.out).trans (Only.of_below HB3.out)).trans HO24.out) (fun k hk e => ?_)
        have h1 := (HOWLT.out k hk).1
        have h2 := HLOW.out
        rcases e with e | e | e
        ·have := h2.d; omega
        ·omega
        ·have := h2.v k e; omega
       have hq4 : VRow w4 w4.heap.size q (ints (Y05 all)) := by
        obtain ⟨q', c', e, _, _, _, hr, _⟩ := Y2v hown4 (Y06 _)
        injection e with e1 _ _
        subst e1
        exact hr
       have hT140 := Ywz s m hm4
       have HLEN := Lib.hid (Yfd q c8 s all w4 _ hq4 (by omega) (by omega) hpost.out)
       obtain ⟨T, hT⟩ : ∃ T, T = timesV s + m := ⟨_, rfl⟩
       rw [← hT]
       have HTT := Lib.hid hT
       have hT2 : T ≤ 140 := by omega
       have hT3 : 1 ≤ T := by have := Y3f s; omega
       have HX4 := Lib.hid hx4
       have HD4 := Lib.hid hD4
       obtain ⟨x, hxv⟩ : ∃ x, x = valueV s all := ⟨_, rfl⟩
       have hx30 : x ≤ 30 := by rw [hxv]; exact Yuw (by omega) HM.out
       rw [← hxv] at HLEN
       have HXV := Lib.hid hxv
       have HAP : Hid (ApSt w K (b + wideV s) v out F all x 0 (.slice q all.length c8) w4) := Lib.hid ⟨hD4, HO4.out, by simpa using hown4⟩
       have HNX : Hid (Yyr w K v out F W n X = Yyr w K v out F W n X) := Lib.hid rfl
       have hlenQ : Yz9 (.slice q all.length c8) = all.length + 0 := rfl
       have hzz4 := HO4.out.2.2.2.1
       clear hx4 hm4 hT140 hT hD4 hq4 hown4 hxv
       go_wp2_with fail
       refine HLEN.out.mono ?_
       rintro e w5 ⟨rfl, rfl⟩
       go_wp2_with fail
       go_loopw [8, 50] (fun v8 i wq => ∃ (j : Nat) (q9 : Option Addr) (c9 : Nat), j ≤ T ∧ i = .int .i64 (j : Int) ∧ v8 = .slice q9 (all.length + j) c9 ∧ Hid (ApSt w K (b + wideV s) v out F all x j (.slice q9 (all.length + j) c9) wq)) (fun _ i _ => T - (intOf i).toNat)
       case atStart => exact ⟨0, q, c8, by omega, rfl, rfl, HAP⟩
       case round =>
        obtain ⟨j, q9, c9, hj, rfl, rfl, HJ⟩ := hrel
        have hlcat : (Y05 (all ++ List.replicate j x)).length = all.length + j := by rw [Y02]; simp
        have hblk : (wr.alloc (.cells #[.int .i64 (x : Int)] 3)).heap[wr.heap.size]? = some (.cells #[.int .i64 (x : Int)] 3 (0, 0)) := Array.getElem?_push_size
        by_cases hjT : j < T
        ·have qj : decide ((j : Int) < (T : Int)) = true := by simpa using hjT
         have hba : Below wr.heap.size wr (wr.alloc (.cells #[.int .i64 (x : Int)] 3)) := (Below.refl _ wr).alloc (Nat.le_refl _) _
         have hvx : VRow (wr.alloc (.cells #[.int .i64 (x : Int)] 3)) (wr.alloc (.cells #[.int .i64 (x : Int)] 3)).heap.size (some ⟨wr.heap.size, 0, none⟩) (ints [(x : Int)]) := Y3a (vs := ints [(x : Int)]) hblk (by simp)
         have hownj : (wr.alloc (.cells #[.int .i64 (x : Int)] 3)).ownsRow w.heap.size 3 1 (.slice q9 (all.length + j) c9) (all.length + j) (ints (Y05 (all ++ List.replicate j x))) := by
          have h1 := Y3k HJ.out.2.2 hba
          rw [hlcat] at h1
          exact h1
         have hbz : w.heap.size ≤ (wr.alloc (.cells #[.int .i64 (x : Int)] 3)).heap.size := by have := HJ.out.2.1.2.2.2.1; simp; omega
         have HVX := Lib.hid hvx
         have HOJ := Lib.hid hownj
         have HBZ := Lib.hid hbz
         have HDA := Lib.hid (HJ.out.1.keep (Only.of_below hba))
         have HOA := Lib.hid (HJ.out.2.1.trans (Only.of_below (S := Y0x K v) hba))
         clear hba hvx hownj hbz hblk hlcat HJ
         go_wp2_with (at_builtin; refine Y10 Tryz.underlying74 hi hz0 hz1 hz2 rfl (by decide) rfl _ _ rfl w.heap.size _ (all.length + j) (ints (Y05 (all ++ List.replicate j x))) rfl HOJ.out (some ⟨wr.heap.size, 0, none⟩) 1 1 (ints [(x : Int)]) rfl HVX.out rfl (fun h => by cases h) Y96 (by omega) HBZ.out ?_)
         intro v9 w9 hown9 hgrow9 hb9
         have hle := fun k hk => (HOJ.out.lt k hk).1
         have hD9 := HDA.out.later (Y4j hgrow9) HLOW.out (fun k hk => hle k hk)
         have hO9 := Yam HOA.out (Y4j hgrow9) (fun k hk => hle k hk)
         have hcat : ints (Y05 (all ++ List.replicate j x)) ++ ints [(x : Int)] = ints (Y05 (all ++ List.replicate (j + 1) x)) := by
          rw [List.replicate_succ', ← List.append_assoc, Yen (all ++ List.replicate j x), Ya9]
          rfl
         rw [hcat] at hown9
         obtain ⟨q10, c10, rfl, _, _, _, _, _⟩ := Y2v hown9 (by rw [Y06, Y02]; simp; omega)
         have HNJ : Hid (ApSt w K (b + wideV s) v out F all x (j + 1) (.slice q10 (all.length + (j + 1)) c10) w9) := Lib.hid ⟨hD9, hO9, by
          unfold IOwn
          rw [Y02, List.length_append, List.length_replicate]
          exact hown9⟩
         clear hown9 hgrow9 hb9 hle hD9 hO9 hcat
         go_wp2_with fail
         go_roundw
         case rel => exact ⟨j + 1, q10, c10, by omega, by first | rfl | (push_cast; rfl), rfl, HNJ⟩
         case measure => simp [intOf]; omega
        ·have hjT2 : j = T := by omega
         subst hjT2
         have qj : decide ((j : Int) < (j : Int)) = false := by simp
         have HNS : Hid (Yyr w K v out F W n X (.slice q9 (all.length + j) c9) wr) := Lib.hid (by
          obtain ⟨h1, h2, h3⟩ := HJ.out
          refine ⟨b + wideV s, all ++ List.replicate j x, h1, h2, h3, fun m hm => ?_, ?_, by simp; omega, by simp [Yz9]⟩
          ·rcases List.mem_append.1 hm with h | h
           ·exact HM.out m h
           ·rw [List.eq_of_mem_replicate h]; exact hx30
          ·have heq := HEQ2.out
           rw [HX4.out, R.then_ok] at heq
           rw [← HTT.out, ← HXV.out] at heq
           by_cases hov : n < all.length + j
           ·rw [if_pos hov] at heq
            exact .inr ⟨by simp; omega, heq.symm⟩
           ·rw [if_neg hov] at heq
            exact .inl ⟨by simp; omega, heq⟩)
         clear HJ hblk hlcat hjT hj
         go_wp2_with fail
         go_roundw
         case rel => exact HNS
         case measure => simp only [Yz9]; omega
  ·have ql : decide ((all.length : Int) < (n : Int)) = false := by simp; omega
   by_cases hgt : n < all.length
   ·have qg : decide ((all.length : Int) > (n : Int)) = true := by simp; omega
    have HRES : Hid (ClP w K v out F n X (.returned (.tuple #[.slice none 0 0, .int .i64 3])) wr) := Lib.hid ⟨HO.out, .inl ⟨3, by
     rcases HRUN.out with h | h
     ·omega
     ·exact h.2, by decide, rfl⟩⟩
    go_wp2_with fail
    go_ret2
    exact HRES.out
   ·have hle : all.length = n := by omega
    have qg : decide ((all.length : Int) > (n : Int)) = false := by simp; omega
    have HRES : Hid (ClP w K v out F n X (.returned (.tuple #[.slice q n c8, .int .i64 0])) wr) := Lib.hid ⟨HO.out, .inr ⟨all, a2, q, c8, by
     rcases HRUN.out with h | h
     ·rw [← h.2]; exact Yfe W n _ a2 all hle
     ·omega, hle, HM.out, rfl, HD.out, HQR.out, HQ0.out, by omega⟩⟩
    rw [← hle] at HRES
    go_wp2_with fail
    go_ret2
    rw [← hle]
    exact HRES.out
end Go.Proofs.YtkkfkmoikcmhoaaGreat.Inf
namespace Go.Proofs.YtkkfkmoikcmhoaaGreat.Inf
open Go.RowKit Oct Bit Hf
set_option maxRecDepth 100000
theorem Yzl {L : List Bool} {p : Nat} (h : p + 32 ≤ L.length) : Y38 true ((L.drop p).take 32) % 65536 = Y38 true ((L.drop p).take 16) ∧ Y38 true ((L.drop p).take 32) / 65536 % 65536 = Y38 true ((L.drop (p + 16)).take 16) := by
 have hl : ((L.drop p).take 32).length = 32 := by rw [List.length_take, List.length_drop]; omega
 have h1 := Y4x true ((L.drop p).take 32) 0 16 (by omega)
 have h2 := Y4x true ((L.drop p).take 32) 16 16 (by omega)
 simp only [gsh, if_true, Nat.pow_zero, Nat.div_one, List.drop_zero] at h1 h2
 refine ⟨?_, ?_⟩
 ·have e : ((L.drop p).take 32).take 16 = (L.drop p).take 16 := by rw [List.take_take]; rfl
  rw [e] at h1
  exact h1
 ·have e : (((L.drop p).take 32).drop 16).take 16 = (L.drop (p + 16)).take 16 := by rw [List.drop_take, List.drop_drop, List.take_take]; rfl
  rw [e] at h2
  exact h2
theorem Yuu (n : Nat) (h : n < 65536) : bits .xor .u16 (if IntKind.u16.signed = true then -1 else IntKind.u16.max) (n : Int) = ((65535 - n : Nat) : Int) := by
 show IntKind.u16.wrap ((BitVec.ofInt 16 65535 ^^^ BitVec.ofInt 16 (n : Int)).toNat : Int) = _
 have e : (BitVec.ofInt 16 65535 ^^^ BitVec.ofInt 16 (n : Int)).toNat = 65535 - n := by
  have h1 : BitVec.ofInt 16 65535 = BitVec.allOnes 16 := by decide
  have h2 : BitVec.ofInt 16 (n : Int) = BitVec.ofNat 16 n := BitVec.ofInt_natCast 16 n
  rw [h1, h2, BitVec.allOnes_xor, BitVec.toNat_not, BitVec.toNat_ofNat]
  omega
 rw [e, IntWalk.u16_in _ (by omega)]
theorem Ykv (L : List Bool) (most n at_ : Nat) (out : List UInt8) : Y4a L most (n + 1) at_ out = (Y36 L at_ 8).then fun c a => if most ≤ out.length then .error 8 else Y4a L most n a (out ++ [UInt8.ofNat c]) := rfl
theorem Yhu {L : List Bool} {a n m b : Nat} (h : Y36 L a n = .ok (m, b)) : a + n ≤ L.length := by
 unfold Y36 at h
 split at h
 ·assumption
 ·cases h
def Yvn (wb : World) (K : Kon) (v : Value) (F : Option Fix) (n : Nat) (X : R (List UInt8)) (wr : World) : Prop :=
 ∃ a v2 out, De wr K a v2 out F ∧ Only (Y0x K v) wb wr ∧ (∀ k, v2.ownBlock = some k → v.ownBlock = some k ∨ wb.heap.size ≤ k) ∧ Y4a (Y01 true K.xs) K.most n a out = X
set_option maxHeartbeats 4000000 in
theorem Y8j (w : World) (K : Kon) (a : Nat) (v : Value) (out : List UInt8) (F : Option Fix) (h : De w K a v out F) :
  Calls Tryz.prog 56 #[.pointer (some ⟨K.d, 0, none⟩)] w (Res w K v F (Y3n (Y01 true K.xs) K.most a out)) := by
 obtain ⟨X, hX⟩ : ∃ X, X = Y3n (Y01 true K.xs) K.most a out := ⟨_, rfl⟩
 rw [← hX]
 have hlo := h.lo
 have hlt := h.lt
 have k0 := h.c0
 have HAL := Lib.hid (Ync _ _ _ _ _ _ _ h.rd)
 have H := Lib.hid h
 have HX := Lib.hid hX
 have hbl := Y04 true K.xs
 have HBL := Lib.hid hbl
 clear h hX hbl
 go_enter Tryz.func56, Tryz.ntmps56
 go_wp2_with fail
 refine HAL.out.mono ?_
 rintro e w1 ⟨rfl, hr1, ho1, hz1⟩
 have hD1 := H.out.moved ho1 hr1
 obtain ⟨p, hp⟩ : ∃ p, p = 8 * ((a + 7) / 8) := ⟨_, rfl⟩
 have hp2 : (a + 7) / 8 * 8 = p := by omega
 rw [← hp] at hD1
 have HO1 := Lib.hid (Y0w (v := v) ho1)
 have d0 := hD1.c0
 have HD1 := Lib.hid hD1
 clear hr1 ho1 hz1 hD1 k0
 rcases hx : Y36 (Y01 true K.xs) p 32 with c | ⟨m, b⟩
 ·have HRD := Lib.hid (Y64 K.gr K.p K.cap K.xs p 32 c (by omega) w1 HD1.out.rd hx)
  have hn : ¬ p + 32 ≤ (Y01 true K.xs).length := by
   intro hh; unfold Y36 at hx; rw [if_pos hh] at hx; cases hx
  have HRES : Hid (∀ w2, Only (· = K.gr) w1 w2 → Res w K v F X (.returned (.int .i64 2)) w2) := Lib.hid fun w2 ho2 =>
   .inr ⟨2, by rw [HX.out]; unfold Y3n Yvi; rw [hp2, if_neg hn]; rfl, by decide, rfl, HO1.out.trans (Y0w ho2)⟩
  clear hx hn
  go_wp2_with fail
  refine HRD.out.mono ?_
  rintro e w2 ⟨rfl, ho2⟩
  have HRES2 := Lib.hid (HRES.out w2 ho2)
  clear ho2
  go_wp2_with fail
  go_ret
  exact HRES2.out
 ·have HRD := Lib.hid (Y8f K.gr K.p K.cap K.xs p 32 m b (by omega) w1 HD1.out.rd hx)
  have hend := Yhu hx
  obtain ⟨hm, hb⟩ := Y2b hx (by omega)
  have hm2 : m < 4294967296 := hm
  obtain ⟨t1, t2⟩ := Yzl hend
  have hme : m = Y38 true (((Y01 true K.xs).drop p).take 32) := by unfold Y36 at hx; rw [if_pos hend] at hx; cases hx; rfl
  rw [← hme] at t1 t2
  have HEQ : Hid (X = if m % 65536 + m / 65536 % 65536 = 65535 then Y4a (Y01 true K.xs) K.most (m % 65536) b out else .error 3) := Lib.hid (by
   rw [HX.out]; unfold Y3n Yvi; rw [hp2, if_pos hend, R.then_ok, t1, t2, hb])
  obtain ⟨n, hn⟩ : ∃ n, n = m % 65536 := ⟨_, rfl⟩
  obtain ⟨q, hq⟩ : ∃ q, q = m / 65536 := ⟨_, rfl⟩
  have hq2 : m / 65536 % 65536 = q := by omega
  rw [hq2, ← hn] at HEQ
  have qw : IntKind.u16.wrap (m : Int) = (n : Int) := by
   have : IntKind.u16.wrap (m : Int) = (m : Int) % 65536 := rfl
   omega
  have qq : (m : Int) / 65536 = (q : Int) := by omega
  have hn6 : n < 65536 := by omega
  have hq6 : q < 65536 := by omega
  have qx := Yuu n hn6
  clear hx hm t1 t2 hme hend hb hn hq hq2
  by_cases hnm : n + q = 65535
  ·have qd : ((q : Int) != ((65535 - n : Nat) : Int)) = false := by simp; omega
   have HS : Hid (∀ w2, De w2 K b v out F → Only (Y0x K v) w w2 → Yvn w K v F n X w2) := Lib.hid fun w2 hd ho => ⟨b, v, out, hd, ho, fun k hk => .inl hk, by rw [HEQ.out, if_pos hnm]⟩
   clear hnm
   go_wp2_with fail
   refine HRD.out.mono ?_
   rintro e w2 ⟨rfl, hr2, ho2⟩
   have HST := Lib.hid (HS.out w2 (HD1.out.moved ho2 hr2) (HO1.out.trans (Y0w ho2)))
   clear hr2 ho2
   go_wp2_with fail
   go_loopw [7, 8, 9, 36] (fun _ _ _ i wr => ∃ j : Nat, j ≤ n ∧ i = .int .u16 (j : Int) ∧ Hid (Yvn w K v F (n - j) X wr)) (fun _ _ _ i _ => n - (intOf i).toNat)
   case atStart => exact ⟨0, by omega, rfl, HST⟩
   case round =>
    obtain ⟨j, hj, rfl, HB⟩ := hrel
    obtain ⟨a2, v2, out2, hD, ho, hv2, hrun⟩ := HB.out
    by_cases hjn : j < n
    ·have ql : decide ((j : Int) < (n : Int)) = true := by simpa using hjn
     rw [show n - j = (n - (j + 1)) + 1 from by omega, Ykv] at hrun
     have c0 := hD.c0
     have HD := Lib.hid hD
     have HO := Lib.hid ho
     have HV2 := Lib.hid hv2
     rcases hx : Y36 (Y01 true K.xs) a2 8 with c | ⟨c, b2⟩
     ·have HRD8 := Lib.hid (Y64 K.gr K.p K.cap K.xs a2 8 c (by omega) wr hD.rd hx)
      have hc2 := Ydf hx
      have HRES : Hid (∀ w3, Only (· = K.gr) wr w3 → Res w K v F X (.returned (.int .i64 2)) w3) := Lib.hid fun w3 ho3 =>
       .inr ⟨2, by rw [← hrun, hx, hc2]; rfl, by decide, rfl, ho.trans (Y0w ho3)⟩
      clear hx hrun hD ho hv2
      go_wp2_with fail
      refine HRD8.out.mono ?_
      rintro e w3 ⟨rfl, ho3⟩
      have HRES2 := Lib.hid (HRES.out w3 ho3)
      clear ho3
      go_wp2_with fail
      go_ret
      exact HRES2.out
     ·have HRD8 := Lib.hid (Y8f K.gr K.p K.cap K.xs a2 8 c b2 (by omega) wr hD.rd hx)
      obtain ⟨hc8, hb2⟩ := Y2b hx (by omega)
      have hc256 : c < 256 := hc8
      rw [hx, R.then_ok] at hrun
      have hby : (((UInt8.ofNat c).toNat : Nat) : Int) = (c : Int) := by rw [UInt8.toNat_ofNat']; omega
      have hw8 : IntKind.u8.wrap (c : Int) = (c : Int) := by rw [IntKind.wrap_u8]; omega
      have HBY := Lib.hid hby
      have HRUN := Lib.hid hrun
      clear hx hrun hD ho hv2 hby hc8 hb2
      go_wp2_with fail
      refine HRD8.out.mono ?_
      rintro e w3 ⟨rfl, hr3, ho3⟩
      have hD3 := HD.out.moved ho3 hr3
      have HO3 := Lib.hid (HO.out.trans (Y0w ho3))
      have HL := Yac w3 K b2 v2 out2 F (UInt8.ofNat c) hD3
      rw [HBY.out] at HL
      have HLIT := Lib.hid HL
      clear HL hr3 ho3 hD3
      by_cases hfull : K.most < out2.length + 1
      ·have HRES : Hid (∀ w4, Only (Y0x K v2) w3 w4 → Res w K v F X (.returned (.int .i64 8)) w4) := Lib.hid (by
        intro w4 h4
        have := HRUN.out
        rw [if_pos (by omega)] at this
        exact .inr ⟨8, this.symm, by decide, rfl, Y3i HO3.out HV2.out h4⟩)
       go_wp2_with fail
       refine HLIT.out.mono ?_
       intro e w4 hL
       unfold Yv8 at hL
       rw [if_pos (by simpa using hfull)] at hL
       obtain ⟨rfl, ho4⟩ := hL
       have HRES2 := Lib.hid (HRES.out w4 ho4)
       clear ho4
       go_wp2_with fail
       go_ret
       exact HRES2.out
      ·have HNX : Hid (Y4a (Y01 true K.xs) K.most (n - (j + 1)) b2 (out2 ++ [UInt8.ofNat c]) = X) := Lib.hid (by
        have := HRUN.out
        rwa [if_neg (by omega)] at this)
       go_wp2_with fail
       refine HLIT.out.mono ?_
       intro e w4 hL
       unfold Yv8 at hL
       rw [if_neg (by simpa using hfull)] at hL
       obtain ⟨rfl, v4, hD4, ho4, hv4⟩ := hL
       have HN : Hid (Yvn w K v F (n - (j + 1)) X w4) := Lib.hid ⟨b2, v4, _, hD4, Y3i HO3.out HV2.out ho4, fun k hk => by
        rcases hv4 k hk with e | e
        ·exact HV2.out k e
        ·exact .inr (Nat.le_trans HO3.out.2.2.2.1 e), HNX.out⟩
       clear hD4 ho4 hv4
       go_wp2_with fail
       go_roundw
       case rel => exact ⟨j + 1, by omega, by first | rfl | (push_cast; rfl), HN⟩
       case measure => simp [intOf]; omega
    ·have hje : j = n := by omega
     subst hje
     have ql : decide ((j : Int) < (j : Int)) = false := by simp
     rw [Nat.sub_self] at hrun
     have HRES : Hid (Res w K v F X (.returned (.int .i64 0)) wr) := Lib.hid (.inl ⟨out2, a2, hrun.symm, rfl, v2, hD, ho, hv2⟩)
     clear hrun hD ho hv2 hjn
     go_wp2_with fail
     go_ret
     exact HRES.out
  ·have qd : ((q : Int) != ((65535 - n : Nat) : Int)) = true := by simp; omega
   have HRES : Hid (∀ w2, Only (· = K.gr) w1 w2 → Res w K v F X (.returned (.int .i64 3)) w2) := Lib.hid fun w2 ho2 =>
    .inr ⟨3, by rw [HEQ.out, if_neg hnm], by decide, rfl, HO1.out.trans (Y0w ho2)⟩
   clear hnm
   go_wp2_with fail
   refine HRD.out.mono ?_
   rintro e w2 ⟨rfl, hr2, ho2⟩
   have HRES2 := Lib.hid (HRES.out w2 ho2)
   clear hr2 ho2
   go_wp2_with fail
   go_ret
   exact HRES2.out
end Go.Proofs.YtkkfkmoikcmhoaaGreat.Inf

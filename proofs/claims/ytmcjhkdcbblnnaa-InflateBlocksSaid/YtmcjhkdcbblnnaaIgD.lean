
/- The contract of a decoder's copied. -/
import Derived.Test.YtmcjhkdcbblnnaaIgC
namespace Go.Proofs.Ytmcjhkdcbblnnaa.Inf
open Go.RowKit Go.Proofs.Ytmcjhkdcbblnnaa.Oct Go.Proofs.Ytmcjhkdcbblnnaa.Bit Go.Proofs.Ytmcjhkdcbblnnaa.Hf
set_option linter.unusedVariables false
set_option linter.unusedSimpArgs false
set_option maxRecDepth 100000

theorem look_len (W : List (List Bool)) : ∀ (l p : List Bool) (i k : Nat), lookW W p l = .ok (i, k) → i < W.length
  | [], p, i, k, h => by cases h
  | b :: t, p, i, k, h => by
    rw [lookW] at h
    split at h
    · rename_i hm
      cases h
      exact List.idxOf_lt_length_of_mem hm
    · split at h
      · exact look_len W t _ i k h
      · cases h
theorem look_err (W : List (List Bool)) : ∀ (l p : List Bool) (c : Nat), lookW W p l = .error c → c = 2 ∨ c = 6
  | [], p, c, h => by cases h; exact .inl rfl
  | b :: t, p, c, h => by
    rw [lookW] at h
    split at h
    · cases h
    · split at h
      · exact look_err W t _ c h
      · cases h; exact .inr rfl
theorem next_len {W : List (List Bool)} {L : List Bool} {a k b : Nat} (h : nextR W L a = .ok (k, b)) : k < W.length := by
  unfold nextR at h
  rcases hx : lookW W [] (L.drop a) with e | ⟨i, j⟩
  · rw [hx] at h; cases h
  · rw [hx] at h; cases h; exact look_len W _ _ _ _ hx
theorem next_err {W : List (List Bool)} {L : List Bool} {a c : Nat} (h : nextR W L a = .error c) : c = 2 ∨ c = 6 := by
  unfold nextR at h
  rcases hx : lookW W [] (L.drop a) with e | ⟨i, j⟩
  · rw [hx] at h; cases h; exact look_err W _ _ _ hx
  · rw [hx] at h; cases h
theorem places_length (n : Nat) : (places n).length = n := by simp [places, ints]
theorem places_get {n i : Nat} {v : Value} (h : (places n)[i]? = some v) : v = .int .i64 (i : Int) := by
  unfold places ints at h
  rw [List.map_map, List.getElem?_map] at h
  rcases hr : (List.range n)[i]? with _ | j
  · rw [hr] at h; cases h
  · rw [hr] at h
    obtain ⟨hj, rfl⟩ := List.getElem?_eq_some_iff.1 hr
    cases h
    simp
theorem word_ok (w : World) (K : Kon) (a : Nat) (v : Value) (out : List UInt8) (F : Option Fix) (B C g k b : Nat) (W : List (List Bool)) (h : De w K a v out F) (hb : Bo w B C g W) (hB : K.gr < B) (hx : nextR W (bitsOf true K.xs) a = .ok (k, b)) :
    Calls Try.prog 69 #[.pointer (some ⟨g, 0, none⟩), .pointer (some ⟨K.gr, 0, none⟩)] w fun e w' => e = .returned (.tuple #[.int .i64 (k : Int), .int .i64 0]) ∧ De w' K b v out F ∧ Only (· = K.gr) w w' := by
  refine (readI_look w B C g W (places W.length) K.gr K.p K.cap K.xs a true hb hB h.rd (places_length _)).mono ?_
  rintro e w' ⟨hres, ho, hz⟩
  unfold nextR at hx
  rcases hres with ⟨i, j, u, h1, h2, rfl, h4⟩ | ⟨c, j, h1, _⟩
  · rw [h1] at hx
    cases hx
    rw [places_get h2]
    exact ⟨rfl, h.moved ho h4, ho⟩
  · rw [h1] at hx; cases hx
theorem word_bad (w : World) (K : Kon) (a : Nat) (v : Value) (out : List UInt8) (F : Option Fix) (B C g c : Nat) (W : List (List Bool)) (h : De w K a v out F) (hb : Bo w B C g W) (hB : K.gr < B) (hx : nextR W (bitsOf true K.xs) a = .error c) :
    Calls Try.prog 69 #[.pointer (some ⟨g, 0, none⟩), .pointer (some ⟨K.gr, 0, none⟩)] w fun e w' => e = .returned (.tuple #[.int .i64 0, .int .i64 (c : Int)]) ∧ Only (· = K.gr) w w' := by
  refine (readI_look w B C g W (places W.length) K.gr K.p K.cap K.xs a true hb hB h.rd (places_length _)).mono ?_
  rintro e w' ⟨hres, ho, hz⟩
  unfold nextR at hx
  rcases hres with ⟨i, j, u, h1, _⟩ | ⟨c', j, h1, rfl, _⟩
  · rw [h1] at hx; cases hx
  · rw [h1] at hx
    cases hx
    exact ⟨rfl, ho⟩
/-- a call on a decoder did as it should, or told the error -/
def Res (w : World) (K : Kon) (v : Value) (F : Option Fix) (x : R (List UInt8)) (e : Ending) (w' : World) : Prop :=
  (∃ o a, x = .ok (o, a) ∧ e = .returned (.int .i64 0) ∧ DeT w K v a o F w') ∨ ∃ c, x = .error c ∧ c ≠ 0 ∧ e = .returned (.int .i64 (c : Int)) ∧ Only (MineE K v) w w'
def copyR (B : List (List Bool)) (L : List Bool) (most i a : Nat) (out : List UInt8) : R (List UInt8) :=
  (numberR false L i a).then fun n a => (nextR B L a).then fun k a => (numberR true L k a).then fun d a =>
    if out.length < d then .error 3 else if most < out.length + n then .error 8 else .ok (copyN out d n, a)
theorem froms_big : ∀ far : Bool, ∀ i, i < (froms far).length → 1 ≤ (froms far).getD i 0 ∧ (froms far).getD i 0 ≤ 30000 ∧ (extras far).getD i 0 ≤ 13 := by decide +kernel
set_option maxHeartbeats 4000000 in
theorem copied_any (w : World) (K : Kon) (a : Nat) (v : Value) (out : List UInt8) (F : Option Fix) (B C g i : Nat) (W : List (List Bool)) (h : De w K a v out F) (hb : Bo w B C g W) (hc : Clr K v B C) (hW : W.length ≤ 30) (hi : i ≤ 100000) :
    Calls Try.prog 70 #[.pointer (some ⟨K.d, 0, none⟩), .int .i64 (i : Int), .pointer (some ⟨g, 0, none⟩)] w (Res w K v F (copyR W (bitsOf true K.xs) K.most i a out)) := by
  obtain ⟨L, hL⟩ : ∃ L, L = bitsOf true K.xs := ⟨_, rfl⟩
  rw [← hL]
  have c3 := h.c3
  have hlo := h.lo
  have hcB := hc.1
  have hcl := h.cl
  by_cases hi2 : i < (froms false).length
  · have hi3 : i < 29 := hi2
    have hd0 : decide ((i : Int) ≥ 29) = false := by simp; omega
    obtain ⟨f1, f2⟩ := h.tbl.now.1 i hi2
    obtain ⟨fb0, fb1, fb2⟩ := froms_big false i hi2
    obtain ⟨from_, hfrom⟩ : ∃ x, (froms false).getD i 0 = x := ⟨_, rfl⟩
    obtain ⟨ext, hext⟩ : ∃ x, (extras false).getD i 0 = x := ⟨_, rfl⟩
    rw [hfrom] at f1 fb0 fb1
    rw [hext] at f2 fb2
    have HNM := Lib.hid (number_any w K a v out F from_ ext h (by omega) fb2)
    have i0 : (0 : Int) ≤ (i : Int) := by omega
    have i1 : (i : Int) < 29 := by omega
    have H := Lib.hid h
    have HL := Lib.hid hL
    clear h
    go_enter Try.func70, Try.ntmps70
    go_wp2_with fail
    refine HNM.out.mono ?_
    rintro e w1 ⟨hres, ho1⟩
    rcases hres with ⟨m, hx1, hm1, rfl, hD1⟩ | ⟨hx1, rfl⟩
    case inr =>
      have HRES : Hid (Res w K v F (copyR W L K.most i a out) (.returned (.int .i64 2)) w1) := Lib.hid (.inr ⟨2, by unfold copyR numberR; rw [if_pos hi2, hext, HL.out, hx1]; rfl, by decide, rfl, ho1⟩)
      clear hx1 ho1
      go_wp2_with fail
      go_ret
      exact HRES.out
    case inl =>
      have hnum : numberR false L i a = .ok (from_ + m, a + ext) := by unfold numberR; rw [if_pos hi2, hext, hfrom, HL.out, hx1]; rfl
      have hm2 : m < 8192 := Nat.lt_of_lt_of_le hm1 (Nat.pow_le_pow_right (by decide) fb2)
      rcases hx2 : nextR W (bitsOf true K.xs) (a + ext) with c | ⟨k, b⟩
      · have HW := Lib.hid (word_bad w1 K (a + ext) v out F B C g c W hD1 (hb.only hc hlo ho1) (by omega) hx2)
        have HRES : Hid (∀ w2, Only (· = K.gr) w1 w2 → Res w K v F (copyR W L K.most i a out) (.returned (.int .i64 (c : Int))) w2) := Lib.hid fun w2 ho2 =>
          .inr ⟨c, by unfold copyR; rw [hnum, R.then_ok, HL.out, hx2]; rfl, by have := next_err hx2; omega, rfl, ho1.trans (only_gr ho2)⟩
        have hc0 : ((c : Int) != 0) = true := by have := next_err hx2; simp; omega
        have d0 := hD1.c0
        clear hx2 hx1 ho1 hD1 c3 f1 f2 hnum
        go_wp2_with fail
        refine HW.out.mono ?_
        rintro e w2 ⟨rfl, ho2⟩
        have HRES2 := Lib.hid (HRES.out w2 ho2)
        clear ho2
        go_wp2_with fail
        go_ret
        exact HRES2.out
      · have hkl : k < 30 := by have := next_len hx2; omega
        have HW := Lib.hid (word_ok w1 K (a + ext) v out F B C g k b W hD1 (hb.only hc hlo ho1) (by omega) hx2)
        have HX1 := Lib.hid hnum
        have HX2 := Lib.hid hx2
        have HO1 := Lib.hid ho1
        have d0 := hD1.c0
        clear hx2 hx1 ho1 hD1 c3 f1 f2 hnum
        go_wp2_with fail
        refine HW.out.mono ?_
        rintro e w2 ⟨rfl, hD2, ho2⟩
        have c4 := hD2.c4
        obtain ⟨f1, f2⟩ := hD2.tbl.now.2 k hkl
        obtain ⟨gb0, gb1, gb2⟩ := froms_big true k hkl
        obtain ⟨from2, hfrom2⟩ : ∃ x, (froms true).getD k 0 = x := ⟨_, rfl⟩
        obtain ⟨ext2, hext2⟩ : ∃ x, (extras true).getD k 0 = x := ⟨_, rfl⟩
        rw [hfrom2] at f1 gb0 gb1
        rw [hext2] at f2 gb2
        have HNM2 := Lib.hid (number_any w2 K b v out F from2 ext2 hD2 (by omega) gb2)
        have k0 : (0 : Int) ≤ (k : Int) := by omega
        have k1 : (k : Int) < 30 := by omega
        have HO2 := Lib.hid ho2
        clear ho2 hD2 d0
        go_wp2_with fail
        refine HNM2.out.mono ?_
        rintro e w3 ⟨hres3, ho3⟩
        have HO3 := Lib.hid ((HO1.out.trans (only_gr HO2.out)).trans ho3)
        clear ho3 f1 f2 c4
        rcases hres3 with ⟨m2, hx3, hm3, rfl, hD3⟩ | ⟨hx3, rfl⟩
        case inr =>
          have HRES : Hid (Res w K v F (copyR W L K.most i a out) (.returned (.int .i64 2)) w3) := Lib.hid (.inr ⟨2, by
            unfold copyR; rw [HX1.out, R.then_ok, HL.out, HX2.out, R.then_ok]; unfold numberR; rw [if_pos (show k < (froms true).length from hkl), hext2, hx3]; rfl, by decide, rfl, HO3.out⟩)
          clear hx3
          go_wp2_with fail
          go_ret
          exact HRES.out
        case inl =>
          have hm4 : m2 < 8192 := Nat.lt_of_lt_of_le hm3 (Nat.pow_le_pow_right (by decide) gb2)
          have HEQ : Hid (copyR W L K.most i a out = if out.length < from2 + m2 then .error 3 else if K.most < out.length + (from_ + m) then .error 8 else .ok (copyN out (from2 + m2) (from_ + m), b + ext2)) := Lib.hid (by
            unfold copyR; rw [HX1.out, R.then_ok, HL.out, HX2.out, R.then_ok]; unfold numberR; rw [if_pos (show k < (froms true).length from hkl), hext2, hfrom2, hx3]; rfl)
          have HREP := Lib.hid (repeat_any w3 K (b + ext2) v out F (from_ + m) (from2 + m2) hD3 (by omega) (by omega) (by omega))
          clear hx3 hD3
          go_wp2_with fail
          refine HREP.out.mono ?_
          intro e w4 hR
          unfold RepP at hR
          have HRES : Hid (Res w K v F (copyR W L K.most i a out) e w4) := Lib.hid (by
            rw [HEQ.out]
            by_cases h1 : out.length < from2 + m2
            · rw [if_pos h1] at hR; rw [if_pos h1]
              exact .inr ⟨3, rfl, by decide, hR.1, HO3.out.trans hR.2⟩
            · rw [if_neg h1] at hR; rw [if_neg h1]
              by_cases h2 : K.most < out.length + (from_ + m)
              · rw [if_pos h2] at hR; rw [if_pos h2]
                exact .inr ⟨8, rfl, by decide, hR.1, HO3.out.trans hR.2⟩
              · rw [if_neg h2] at hR; rw [if_neg h2]
                exact .inl ⟨_, _, rfl, hR.1, hR.2.more HO3.out (fun _ hk => .inl hk)⟩)
          have hE : ∃ r, e = .returned (.int .i64 r) := by
            split at hR
            · exact ⟨_, hR.1⟩
            · split at hR
              · exact ⟨_, hR.1⟩
              · exact ⟨_, hR.1⟩
          obtain ⟨r, rfl⟩ := hE
          clear hR
          go_wp2_with fail
          go_ret
          exact HRES.out
  · have hi3 : 29 ≤ i := Nat.le_of_not_lt hi2
    have HRES : Hid (Res w K v F (copyR W L K.most i a out) (.returned (.int .i64 6)) w) := Lib.hid (.inr ⟨6, by unfold copyR numberR; rw [if_neg hi2]; rfl, by decide, rfl, Only.refl _ _⟩)
    have hd0 : decide ((i : Int) ≥ 29) = true := by simp; omega
    clear h
    go_enter Try.func70, Try.ntmps70
    go_wp2_with fail
    go_ret
    exact HRES.out
end Go.Proofs.Ytmcjhkdcbblnnaa.Inf


/- The walk of the law LzJoins. -/
import Derived.Test.YtboknaakcbjkiaaLtL
namespace Go.Proofs.Ytboknaakcbjkiaa.Lzt
open Go.RowKit Go.Proofs.Ytboknaakcbjkiaa.Oct
set_option linter.unusedVariables false
set_option linter.unusedSimpArgs false
set_option maxRecDepth 100000

theorem ExpP.ok {w : World} {m : Int} {l : List Tok} {e : Ending} {w' : World} {o : List UInt8} (h : ExpP w m l e w') (ho : expX m l [] = .ok o) :
    Below w.heap.size w w' ∧ ∃ q c, e = .returned (.tuple #[.slice q o.length c, .int .i64 0]) ∧ Row w' q o := by
  refine ⟨h.1, ?_⟩
  rcases h.2 with ⟨o2, v, h1, h2, h3, rfl⟩ | ⟨c, h1, _⟩
  · rw [ho] at h1
    cases h1
    obtain ⟨q, c, rfl, q1, q2, q3, q4⟩ := own_shape h3 rfl
    exact ⟨q, c, rfl, q4⟩
  · rw [ho] at h1; cases h1
theorem ExpP.err {w : World} {m : Int} {l : List Tok} {e : Ending} {w' : World} {c : Nat} (h : ExpP w m l e w') (ho : expX m l [] = .error c) :
    Below w.heap.size w w' ∧ e = .returned (.tuple #[.slice none 0 0, .int .i64 (c : Int)]) := by
  refine ⟨h.1, ?_⟩
  rcases h.2 with ⟨o2, v, h1, h2, h3, rfl⟩ | ⟨c2, h1, h2⟩
  · rw [ho] at h1; cases h1
  · rw [ho] at h1
    cases h1
    exact h2
theorem town_made (w : World) (base : Nat) (hb : base ≤ w.heap.size) : TOwn (w.alloc (.cells #[] 31)) base (.slice (some ⟨w.heap.size, 0, none⟩) 0 0) [] :=
  World.ownsRow_made (base := base) (e := 31) (size := 3) w #[] 0 hb (by simp [maxLen]) rfl
set_option maxHeartbeats 4000000 in
theorem joins_walk (p1 : Option Addr) (len1 cap1 : Nat) (zs1 : List Int) (p2 : Option Addr) (len2 cap2 : Nat) (zs2 : List Int) (w : World) (h1 : IsRow .u8 w p1 len1 cap1 zs1) (hm1 : cap1 ≤ 140737488351232) (h2 : IsRow .u8 w p2 len2 cap2 zs2) (hm2 : cap2 ≤ 140737488351232) :
    Calls Try.prog 5 #[.slice p1 len1 cap1, .slice p2 len2 cap2] w fun e w' => e = .returned (.bool true) ∧ Below w.heap.size w w' := by
  obtain ⟨xs, hx, hr1, hlc1, hcm1, hnil1⟩ := h1.row
  obtain ⟨ys, hy, hr2, hlc2, hcm2, hnil2⟩ := h2.row
  clear h1 h2
  by_cases hbig : 2000 < len1 + len2
  · have hd : decide (2000 < (len1 : Int) + (len2 : Int)) = true := by simp; omega
    clear hx hr1 hy hr2 hnil1 hnil2 hbig
    go_enter Try.func5, Try.ntmps5
    go_wp2_with fail
    refine (lives_any _).mono ?_
    rintro e w1 ⟨rfl, hb1⟩
    go_wp2_with fail
    refine (lives_any _).mono ?_
    rintro e w2 ⟨rfl, hb2⟩
    go_wp2_with fail
    go_ret
    exact ⟨rfl, hb1.trans (hb2.mono hb1.size)⟩
  · have hd : decide (2000 < (len1 : Int) + (len2 : Int)) = false := by simp; omega
    have hsum : len1 + len2 ≤ 2000 := by omega
    have HX := Lib.hid hx
    have HY := Lib.hid hy
    have HR1 := Lib.hid hr1
    have HR2 := Lib.hid hr2
    clear hx hy hr1 hr2 hbig
    go_enter Try.func5, Try.ntmps5
    go_wp2_with fail
    refine (lives_any _).mono ?_
    rintro e w1 ⟨rfl, hb1⟩
    have HB1 := Lib.hid (hb1.trans ((alloc_below w1 (.cells #[] 31)).mono hb1.size))
    have HBZ := Lib.hid (alloc_below w1 (.cells #[] 31))
    have HSZ := Lib.hid (alloc_size w1 (.cells #[] 31))
    have HS1 := Lib.hid hb1.size
    have HOZ := Lib.hid (town_made w1 w1.heap.size (Nat.le_refl _))
    have HTA := Lib.hid (tokens_any p1 len1 cap1 xs (w1.alloc (.cells #[] 31)) ((HR1.out.below hb1).below (alloc_below w1 _)) HX.out (by omega) hlc1 hcm1)
    clear hb1
    go_wp2_with fail
    refine HTA.out.mono ?_
    rintro e w2 ⟨q1, c1, l1, rfl, hl1, hl2, hl3, htk, hl4, hex1, hpl1, hb2⟩
    have hcnt1 := exp_count _ _ _ hex1
    have hcn1 : l1.length ≤ len1 := by rw [HX.out] at hcnt1; simpa using hcnt1
    have HO2 := Lib.hid (HOZ.out.below hb2)
    have HT2 := Lib.hid htk
    have HEX1 := Lib.hid hex1
    have HB2 := Lib.hid (HB1.out.trans (hb2.mono HB1.out.size))
    have hz2 : w1.heap.size ≤ w2.heap.size := by have := hb2.size; rw [HSZ.out] at this; omega
    have HZ2 := Lib.hid hz2
    clear htk hl4 hex1 hpl1 hb2 hcnt1 HTA hz2
    go_wp2_with (at_builtin; refine wpList_append_toks rfl _ _ rfl w1.heap.size (.slice (some ⟨w1.heap.size, 0, none⟩) 0 0) [] rfl HO2.out q1 l1.length c1 l1 rfl HT2.out rfl hl1 (by simp; omega) HZ2.out ?_; intro v3 w3 ho3 hg3 hb3; have HO3 := Lib.hid ho3; have HB3 := Lib.hid (HB2.out.trans (hb3.mono HS1.out)); have HZ3 := Lib.hid (Nat.le_trans HZ2.out hb3.size); have HTB := Lib.hid (tokens_any p2 len2 cap2 ys w3 (HR2.out.below (HB2.out.trans (hb3.mono HS1.out))) HY.out (by omega) hlc2 hcm2); clear ho3 hg3 hb3)
    refine HTB.out.mono ?_
    rintro e w4 ⟨q2, c2, l2, rfl, hk1, hk2, hk3, htk, hk4, hex2, hpl2, hb4⟩
    have hcnt2 := exp_count _ _ _ hex2
    have hcn2 : l2.length ≤ len2 := by rw [HY.out] at hcnt2; simpa using hcnt2
    have HO4 := Lib.hid (HO3.out.below hb4)
    have HT4 := Lib.hid htk
    have HEX2 := Lib.hid hex2
    have HPL := Lib.hid hb4.size
    have HB4 := Lib.hid (HB3.out.trans (hb4.mono HB3.out.size))
    have HZ4 := Lib.hid (Nat.le_trans HZ3.out hb4.size)
    clear htk hk4 hex2 hpl2 hb4 hcnt2 HTB
    go_wp2_with (at_builtin; refine wpList_append_toks rfl _ _ rfl w1.heap.size v3 ([] ++ l1) rfl HO4.out q2 l2.length c2 l2 rfl HT4.out rfl hk1 (by simp; omega) HZ4.out ?_; intro v5 w5 ho5 hg5 hb5; have HO5 := Lib.hid ho5; have HB5 := Lib.hid (HB4.out.trans (hb5.mono HS1.out)); clear ho5 hg5 hb5)
    obtain ⟨L, hL⟩ : ∃ L, L = l1 ++ l2 := ⟨_, rfl⟩
    have hLl : L.length ≤ len1 + len2 := by rw [hL, List.length_append]; omega
    have hexL : expX ((len1 : Int) + (len2 : Int)) L [] = .ok (xs ++ ys) := by
      rw [hL]
      exact exp_join HEX1.out HEX2.out (by rw [HX.out, HY.out]; exact Int.le_refl _)
    obtain ⟨q5, c5, rfl, hs1, hs2, hs3, hs4, hs5⟩ : ∃ q5 c5, v5 = .slice q5 L.length c5 ∧ (q5 = none → c5 = 0) ∧ L.length ≤ c5 ∧ c5 ≤ maxLen ∧ Toks w5 w5.heap.size q5 L ∧ True := by
      obtain ⟨q, c, e, a1, a2, a3, a4, a5⟩ := HO5.out.shape (by
        rw [List.nil_append]
        intro t ht
        rcases List.mem_append.1 ht with h | h
        · exact HT2.out.1 t h
        · exact HT4.out.1 t h)
      rw [List.nil_append, ← hL] at e a2 a4
      exact ⟨q, c, e, a1, a2, a3, a4, trivial⟩
    have HTL := Lib.hid hs4
    have HEX := Lib.hid hexL
    have HE1 := Lib.hid (expand_any q5 L.length c5 ((len1 : Int) + (len2 : Int)) L w5 rfl (by omega) (by omega) hs4)
    have HLL := Lib.hid hLl
    have HNE : Hid (L = [] → len1 + len2 = 0) := Lib.hid fun h => by
      rw [h] at hexL
      injection hexL with h2
      have := congrArg List.length h2
      rw [List.length_append, HX.out, HY.out] at this
      simpa using this.symm
    clear hL hLl hexL hs4 hs5 HO5 HO4 HT2 HT4 HO3 HO2
    refine HE1.out.mono ?_
    intro e w6 hp6
    obtain ⟨hb6, q6, c6, rfl, hrow6⟩ := hp6.ok HEX.out
    have HB6 := Lib.hid (HB5.out.trans (hb6.mono HB5.out.size))
    have HTL6 := Lib.hid ((HTL.out.below hb6 (Nat.le_refl _)).mono hb6.size)
    have hcv := conv_row (w := w6) (xs.length + ys.length) c6 hrow6 (by simp)
    have hcA := conv_row (w := w6) len1 cap1 (HR1.out.below HB6.out) HX.out
    have hcB := conv_row (w := w6) len2 cap2 (HR2.out.below HB6.out) HY.out
    have hza : (bs xs).size = len1 := by rw [bs_size]; exact HX.out
    have hzb : (bs ys).size = len2 := by rw [bs_size]; exact HY.out
    have heq : bs (xs ++ ys) = bs xs ++ bs ys := (bs_append xs ys).symm
    have HE2 := Lib.hid (expand_any q5 L.length c5 ((len1 : Int) + (len2 : Int) - 1) L w6 rfl (by have := HLL.out; omega) (by omega) HTL6.out)
    clear hb6 hrow6 hp6 HE1 HTL
    go_wp2_with fail
    refine HE2.out.mono ?_
    intro e w7 hp7
    by_cases hz0 : len1 + len2 = 0
    · have hLn : L = [] := List.eq_nil_of_length_eq_zero (by have := HLL.out; omega)
      obtain ⟨hb7, q7, c7, rfl, _⟩ := hp7.ok (o := []) (by rw [hLn]; rfl)
      have HFIN := Lib.hid (HB6.out.trans (hb7.mono HB6.out.size))
      have q9 : ((len1 : Int) + (len2 : Int) == 0) = true := by simp; omega
      have q9' : (len1 : Int) + (len2 : Int) = 0 := by omega
      clear hLn hp7 hb7
      go_wp2_with fail
      go_ret
      exact ⟨by first | rfl | simp, HFIN.out⟩
    · have hLn : L ≠ [] := fun h => hz0 (HNE.out h)
      obtain ⟨hb7, rfl⟩ := hp7.err (exp_less L [] (xs ++ ys) hLn HEX.out (by rw [List.length_append, HX.out, HY.out]; omega))
      have HFIN := Lib.hid (HB6.out.trans (hb7.mono HB6.out.size))
      have q9 : ((len1 : Int) + (len2 : Int) == 0) = false := by simp; omega
      clear hLn hp7 hb7
      go_wp2_with fail
      go_ret
      exact ⟨by first | rfl | simp, HFIN.out⟩
end Go.Proofs.Ytboknaakcbjkiaa.Lzt

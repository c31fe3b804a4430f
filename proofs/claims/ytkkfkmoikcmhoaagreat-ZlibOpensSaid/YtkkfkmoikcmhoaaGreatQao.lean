/- HfF, IgK, SmM, LmM, LmT, LmO, LmS, LpA: merged. -/
import Derived.Sort.LotA
import Derived.Shelf.SlSortCmp.PdqK
import Derived.Test.YtkkfkmoikcmhoaaGreatQaa
import Derived.Test.YtkkfkmoikcmhoaaGreatQad
import Derived.Test.YtkkfkmoikcmhoaaGreatQak
import Derived.Test.YtkkfkmoikcmhoaaGreatQan
set_option linter.unusedVariables false
set_option linter.unusedSimpArgs false
namespace Go.Proofs.YtkkfkmoikcmhoaaGreat.Hf
open Go.RowKit Oct Bit
set_option maxRecDepth 100000
def wcell (L : List Nat) (n i j : Nat) : Value :=
 if L.getD j 0 < n ∨ (L.getD j 0 = n ∧ j < i) then .string (ds (Y0g (pos L (L.getD j 0) j) (L.getD j 0))) else .string ByteArray.empty
def wfill (L : List Nat) (n i : Nat) : List Value := (List.range L.length).map (wcell L n i)
theorem Y5e (L : List Nat) (n i : Nat) : (wfill L n i).length = L.length := by simp [wfill]
theorem Ybq (L : List Nat) : wfill L 1 0 = List.replicate L.length (.string ByteArray.empty) := by
 unfold wfill
 apply List.ext_getElem
 ·simp
 ·intro j h1 h2
  simp only [List.getElem_map, List.getElem_range, List.getElem_replicate]
  unfold wcell
  split
  ·rename_i h
   have h0 : L.getD j 0 = 0 := by omega
   rw [h0]
   rfl
  ·rfl
theorem Yec (L : List Nat) (n : Nat) : wfill L n L.length = wfill L (n + 1) 0 := by
 unfold wfill
 refine List.map_congr_left fun j hj => ?_
 have hj : j < L.length := by simpa using hj
 unfold wcell
 by_cases h : L.getD j 0 < n ∨ (L.getD j 0 = n ∧ j < L.length)
 ·rw [if_pos h, if_pos (by omega)]
 ·rw [if_neg h, if_neg (by omega)]
theorem Yeb (L : List Nat) (n i : Nat) (hi : i < L.length) (hn : L[i] ≠ n) : wfill L n i = wfill L n (i + 1) := by
 unfold wfill
 refine List.map_congr_left fun j hj => ?_
 unfold wcell
 have hg : L.getD i 0 = L[i] := by simp [List.getD, List.getElem?_eq_getElem hi]
 by_cases hji : j = i
 ·subst hji
  rw [hg]
  by_cases h : L[j] < n ∨ (L[j] = n ∧ j < j)
  ·rw [if_pos h, if_pos (by omega)]
  ·rw [if_neg h, if_neg (by omega)]
 ·by_cases h : L.getD j 0 < n ∨ (L.getD j 0 = n ∧ j < i)
  ·rw [if_pos h, if_pos (by omega)]
  ·rw [if_neg h, if_neg (by omega)]
theorem Yha (L : List Nat) (n i : Nat) (hi : i < L.length) (hn : L[i] = n) : (wfill L n i).set i (.string (ds (Y0g (pos L n i) n))) = wfill L n (i + 1) := by
 have hg : L.getD i 0 = n := by simp [List.getD, List.getElem?_eq_getElem hi, hn]
 apply List.ext_getElem
 ·simp [wfill]
 ·intro j h1 h2
  rw [List.getElem_set]
  simp only [wfill, List.getElem_map, List.getElem_range]
  unfold wcell
  by_cases hji : i = j
  ·subst hji
   rw [if_pos rfl, hg, if_pos (by omega)]
  ·rw [if_neg hji]
   by_cases h : L.getD j 0 < n ∨ (L.getD j 0 = n ∧ j < i)
   ·rw [if_pos h, if_pos (by omega)]
   ·rw [if_neg h, if_neg (by omega)]
theorem Yh9 (L : List Nat) (hL : ∀ i (h : i < L.length), L[i] ≤ 30) : wfill L 31 0 = strs (Y2h L) := by
 apply List.ext_getElem
 ·simp [wfill, Y19, Y2b]
 ·intro j h1 h2
  have hj : j < L.length := by simpa [wfill] using h1
  have hg : L.getD j 0 = L[j] := by simp [List.getD, List.getElem?_eq_getElem hj]
  simp only [wfill, List.getElem_map, List.getElem_range, strs]
  rw [Y4y L j _ hj]
  unfold wcell
  have := hL j hj
  rw [hg, if_pos (by omega)]
  rfl
def Ycx (P n : Nat) (was : List Bool) (first : Bool) : Prop :=
 (first = true ∧ P = 0 ∧ was = []) ∨ (first = false ∧ ∃ m, 1 ≤ m ∧ m ≤ n ∧ m ≤ 30 ∧ share m ∣ P ∧ share m ≤ P ∧ P ≤ 1073741824 ∧ was = Y0g (P - share m) m)
theorem Ycx.more {P n : Nat} {was : List Bool} {first : Bool} (h : Ycx P n was first) : Ycx P (n + 1) was first := by
 rcases h with h | ⟨h1, m, h2, h3, h4⟩
 ·exact .inl h
 ·exact .inr ⟨h1, m, h2, by omega, h4⟩
theorem Ycx.len {P n : Nat} {was : List Bool} {first : Bool} (h : Ycx P n was first) : was.length ≤ 30 := by
 rcases h with ⟨_, _, rfl⟩ | ⟨_, m, _, _, h4, _, _, _, rfl⟩
 ·simp
 ·rw [Y08]; exact h4
theorem Y9b (P m : Nat) (h30 : m ≤ 30) (hd : share m ∣ P) (h1 : share m ≤ P) (h2 : P ≤ 1073741824) :
  (∀ a k, Y0g (P - share m) m = a ++ false :: List.replicate k true → a ++ true :: zs k = Y0g P m ∧ P < 1073741824) ∧ (Y0g (P - share m) m = List.replicate m true → P = 1073741824) := by
 have hs := Y1f m
 have ht := Y3u m h30
 obtain ⟨q, rfl⟩ := hd
 have hq0 : 1 ≤ q := by
  rcases Nat.eq_zero_or_pos q with h | h
  ·subst h; rw [Nat.mul_zero] at h1; omega
  ·exact h
 have e1 : share m * q / share m = q := Nat.mul_div_cancel_left q hs
 have e2 : (share m * q - share m) / share m = q - 1 := by
  rw [show share m * q - share m = share m * (q - 1) from by rw [Nat.mul_sub, Nat.mul_one]]
  exact Nat.mul_div_cancel_left (q - 1) hs
 have hq : q ≤ 2 ^ m := by
  rw [← ht, Nat.mul_comm] at h2
  exact Nat.le_of_mul_le_mul_right h2 hs
 have hv : q - 1 < 2 ^ m := by omega
 unfold Y0g
 rw [e1, e2]
 constructor
 ·intro a k h
  obtain ⟨x, y⟩ := Yhh (q - 1) m k a hv h
  rw [show q - 1 + 1 = q by omega] at x y
  refine ⟨x, ?_⟩
  rw [← ht, Nat.mul_comm]
  exact Nat.mul_lt_mul_of_pos_right y hs
 ·intro h
  have := Yhg (q - 1) m hv h
  rw [← ht, Nat.mul_comm, show q = 2 ^ m by omega]
theorem Ycx.step (L : List Nat) (n i : Nat) (hi : i < L.length) (hn : L[i] = n) (h0 : 1 ≤ n) (h30 : n ≤ 30) (hP : pos L n i < 1073741824) : Ycx (pos L n (i + 1)) n (Y0g (pos L n i) n) false := by
 have e := Y3c L n i hi
 rw [if_pos hn] at e
 have hs := Y1f n
 have hd := Ybf L n i h30
 refine .inr ⟨rfl, n, h0, Nat.le_refl _, h30, Ybf L n (i + 1) h30, by omega, ?_, by rw [e, Nat.add_sub_cancel]⟩
 rw [e]
 obtain ⟨q, hq⟩ := hd
 have ht := Y3u n h30
 rw [hq, ← ht, Nat.mul_comm] at hP
 have hql := Nat.lt_of_mul_lt_mul_right hP
 rw [hq, ← ht, Nat.mul_comm, ← Nat.succ_mul]
 exact Nat.mul_le_mul_right _ hql
theorem Ym0 {W : World} {d : Nat} {o : Obj} (h : W.heap[d]? = some o) : d < W.heap.size := by
 rcases Nat.lt_or_ge d W.heap.size with hlt | hge
 ·exact hlt
 ·rw [Array.getElem?_eq_none hge] at h; cases h
def Yak (w : World) (nw : Nat) (L : List Nat) (n i : Nat) (W : World) : Prop := W.heap[nw]? = some (.cells (wfill L n i).toArray 9 (0, 0)) ∧ Below w.heap.size w W
theorem Yak.put {w W : World} {nw n i : Nat} {L : List Nat} (h : Yak w nw L n i W) (hi : i < L.length) (hn : L[i] = n) (hw : w.heap.size ≤ nw) : Yak w nw L n (i + 1) (W.setCell ⟨nw, i, none⟩ (.string (ds (Y0g (pos L n i) n)))) := by
 refine ⟨?_, h.2.setCell (p := ⟨nw, i, none⟩) hw _⟩
 rw [Y5q h.1, List.setIfInBounds_toArray, Yha L n i hi hn]
theorem Yak.skip {w W : World} {nw n i : Nat} {L : List Nat} (h : Yak w nw L n i W) (hi : i < L.length) (hn : L[i] ≠ n) : Yak w nw L n (i + 1) W := by
 unfold Yak
 rw [← Yeb L n i hi hn]
 exact h
theorem Yak.turn {w W : World} {nw n : Nat} {L : List Nat} (h : Yak w nw L n L.length W) : Yak w nw L (n + 1) 0 W := by
 unfold Yak
 rw [← Yec]
 exact h
theorem Yfn (zs : List Int) (h : okZ zs = true) (i : Nat) (hi : i < (Y1a zs).length) : (Y1a zs)[i] ≤ 30 := by
 have hi' : i < zs.length := by rwa [Y1o] at hi
 have := Yba zs h i hi'
 rw [Y62 zs i hi hi']
 omega
set_option maxHeartbeats 4000000 in
theorem Ydx (p : Option Addr) (len cap : Nat) (zs : List Int) (w : World) (hr : VRow w w.heap.size p (ints zs)) (hx : zs.length = len) (hl : len ≤ 100000) :
  Calls Tryz.prog 64 #[.slice p len cap] w (Yjx w zs) := by
 obtain ⟨i0, hi, hz0, hz1, hz2⟩ := info_parts Tryz.infoStr
 have HX := Lib.hid hx
 have HR := Lib.hid hr
 clear hx hr
 go_enter Tryz.func64, Tryz.ntmps64
 go_wp2_with (at_make; refine wpList_make_full _ rfl _ _ 77 rfl w.heap.size 9 i0 (.string ByteArray.empty) 1 Tryz.underlying77 hi hz0 hz1 .i64 .i64 (len : Int) (len : Int) len rfl rfl rfl rfl ?c2 ?c3 ?c4 ?_)
 case c2 => rw [hz2]; omega
 case c3 => unfold maxLen; omega
 case c4 => omega
 intro w1 hown hgrow
 have hb1 : Below w.heap.size w w1 := (Below.refl _ _).grown hgrow (Nat.le_refl _) (fun k hk => by cases hk)
 have hnw := Y1k hown
 rw [Y3q] at hnw
 have HB1 := Lib.hid hb1
 have HNW := Lib.hid hnw
 have hn2' : w.heap.size ≤ w.heap.size := Nat.le_refl _
 have hnlt : w.heap.size < w1.heap.size := by
  rcases Nat.lt_or_ge w.heap.size w1.heap.size with h | h
  ·exact h
  ·rw [Array.getElem?_eq_none h] at hnw; cases hnw
 clear hown hgrow hb1 hnw
 generalize hnwe : w.heap.size = nw at HNW hnlt ⊢
 have hn2' : w.heap.size ≤ nw := by omega
 clear hnwe
 go_wp2_with fail
 go_loop [6] (fun i => ∃ k : Nat, k ≤ len ∧ i = .int .i64 (k : Int) ∧ Hid (okZ (zs.take k) = true)) (fun i => len - (intOf i).toNat)
 case atStart => exact ⟨0, by omega, rfl, rfl⟩
 case round =>
  obtain ⟨k, hk, rfl, HO⟩ := hrel
  by_cases hlt : k < len
  ·have hkz : k < zs.length := by rw [HX.out]; exact hlt
   obtain ⟨b, off, hp, hbl⟩ := HR.out.addr (by rw [Y04]; omega)
   subst hp
   have hc := (HB1.out.cell (p := ⟨b, off + k, none⟩) hbl).trans (HR.out.int k hkz)
   have HT := Lib.hid (Yc3 zs k hkz HO.out)
   have HBAD := Lib.hid (Yfy zs k hkz)
   generalize zs[k] = z at hc HT HBAD
   have hd : decide ((k : Int) < (len : Int)) = true := by simp; omega
   have i1 : (0 : Int) ≤ (k : Int) := by omega
   have i2 : (k : Int) < (len : Int) := by omega
   by_cases h0 : z < 0
   ·have hd0 : decide (z < 0) = true := by simpa using h0
    have HE := Lib.hid (HBAD.out (.inl h0))
    go_wp2_with fail
    go_ret3
    exact ⟨HB1.out, .inl ⟨by rw [HE.out]; decide, by rw [HE.out]; rfl⟩⟩
   ·have hd0 : decide (z < 0) = false := by simpa using h0
    by_cases h30 : 30 < z
    ·have hd1 : decide (30 < z) = true := by simpa using h30
     have HE := Lib.hid (HBAD.out (.inr h30))
     go_wp2_with fail
     go_ret3
     exact ⟨HB1.out, .inl ⟨by rw [HE.out]; decide, by rw [HE.out]; rfl⟩⟩
    ·have hd1 : decide (30 < z) = false := by simpa using h30
     have HT2 := Lib.hid (HT.out (by omega) (by omega))
     clear HT HBAD
     go_wp2_with fail
     go_round
     case rel => exact ⟨k + 1, by omega, by go_num, HT2⟩
     case measure => simp [intOf]; omega
  ·have hkl : k = len := by omega
   subst hkl
   have hd : decide ((k : Int) < (k : Int)) = false := by simp
   have hOk := HO.out
   rw [← HX.out, List.take_length] at hOk
   have hLl := Y1o zs
   obtain ⟨L, hL⟩ : ∃ L, L = Y1a zs := ⟨_, rfl⟩
   have hcE : Y8r zs = if startN L 31 ≤ 1073741824 then 0 else 3 := by unfold Y8r; rw [if_pos hOk, hL]
   rw [← hL] at hLl
   rw [HX.out] at hLl
   have HLL := Lib.hid hLl
   have HLE := Lib.hid hL
   have HCE := Lib.hid hcE
   have HOK := Lib.hid hOk
   have HLM := Lib.hid (show ∀ i (h : i < L.length), L[i] ≤ 30 by rw [hL]; exact Yfn zs hOk)
   have HM0 := Lib.hid (show Yak w nw L 1 0 w1 from ⟨by rw [Ybq, hLl]; exact HNW.out, HB1.out⟩)
   have HS0 := Lib.hid (show Ycx (pos L 1 0) 1 [] true from .inl ⟨rfl, by rw [Y3d, Y7p], rfl⟩)
   clear hLl hL hcE hOk HO HNW HB1
   go_wp2_with fail
   go_loopw [7, 8, 9, 10, 11, 12] (fun was ok first n i s wr => ∃ (n' : Nat) (ws : List Bool) (f : Bool), n' ≤ 31 ∧ 1 ≤ n' ∧ n = .int .i64 (n' : Int) ∧ was = .string (ds ws) ∧ first = .bool f ∧ Hid (Yak w nw L n' 0 wr) ∧ Hid (Ycx (pos L n' 0) n' ws f)) (fun _ _ _ n _ _ _ => 31 - (intOf n).toNat)
   case atStart => exact ⟨1, [], true, by omega, by omega, rfl, rfl, rfl, HM0, HS0⟩
   case round =>
    obtain ⟨n, ws0, f0, hn31, hn1, rfl, rfl, rfl, HMo, HSo⟩ := hrel
    by_cases hn30 : n ≤ 30
    ·have hdn : decide ((n : Int) ≤ 30) = true := by simp; omega
     go_wp2_with fail
     go_loopw [7, 8, 9, 11, 12] (fun was ok first i s wr => ∃ (j : Nat) (ws : List Bool) (f : Bool), j ≤ k ∧ i = .int .i64 (j : Int) ∧ was = .string (ds ws) ∧ first = .bool f ∧ Hid (Yak w nw L n j wr) ∧ Hid (Ycx (pos L n j) n ws f)) (fun _ _ _ i _ _ => k - (intOf i).toNat)
     case atStart => exact ⟨0, ws0, f0, by omega, rfl, rfl, rfl, HMo, HSo⟩
     case round =>
      obtain ⟨j, ws, f, hj, rfl, rfl, rfl, HM, HS⟩ := hrel
      by_cases hlt : j < k
      ·have hjz : j < zs.length := by rw [HX.out]; exact hlt
       have hjL : j < L.length := by rw [HLL.out]; exact hlt
       obtain ⟨b, off, hp, hbl⟩ := HR.out.addr (by rw [Y04]; omega)
       subst hp
       have hc := (HM.out.2.cell (p := ⟨b, off + j, none⟩) hbl).trans (HR.out.int j hjz)
       obtain ⟨hz1', hz2'⟩ := Yba zs HOK.out j hjz
       have hLg : ∀ h : j < L.length, L[j] = zs[j].toNat := by
        intro h
        have := Y62 zs j (by rw [Y1o]; exact hjz) hjz
        rw [← this]
        congr 1
       have hLj := hLg hjL
       generalize zs[j] = z at hc hz1' hz2' hLj
       obtain ⟨n2, rfl⟩ : ∃ n : Nat, z = (n : Int) := ⟨z.toNat, by omega⟩
       have hLj : L[j] = n2 := hLj
       have hd : decide ((j : Int) < (k : Int)) = true := by simp; omega
       have i1 : (0 : Int) ≤ (j : Int) := by omega
       have i2 : (j : Int) < (k : Int) := by omega
       clear hLg
       by_cases hnn : n2 = n
       ·subst hnn
        have hbn : ((n2 : Int) != (n2 : Int)) = false := by simp
        have HLJ := Lib.hid hLj
        clear hLj
        rcases HS.out with ⟨rfl, hP, rfl⟩ | ⟨rfl, m, hm1, hmn, hm30, hsd, hsP, hP30, hws⟩
        ·obtain ⟨U, hU⟩ : ∃ U : List Bool, U = [] := ⟨_, rfl⟩
         have HU0 := Lib.hid (show Value.string { data := #[] } = Value.string (ds U) by rw [hU]; rfl)
         have HPAD := Lib.hid (show U ++ Bit.zs (n2 - U.length) = Y0g (pos L n2 j) n2 by
          rw [hU, hP]
          show Bit.zs n2 = word (0 / share n2) n2
          rw [Nat.zero_div, Yag])
         have HSTEP := Lib.hid (Ycx.step L n2 j hjL HLJ.out hn1 hn30 (by omega))
         have hUl : U.length ≤ n2 := by rw [hU]; exact Nat.zero_le _
         clear hU hP
         go_wp2_with fail
         go_loop [12] (fun s => ∃ q : Nat, q ≤ n2 - U.length ∧ s = .string (ds (U ++ Bit.zs q))) (fun s => n2 - Ylq s)
         case atStart => exact ⟨0, by omega, by rw [show Bit.zs 0 = [] from rfl, List.append_nil]; first | done | rfl | exact HU0.out⟩
         case round =>
          obtain ⟨q, hq, rfl⟩ := hrel
          have hzz : (ds (U ++ Bit.zs q)).size = U.length + q := by rw [Y0p]; simp [Y07]
          by_cases hqn : q < n2 - U.length
          ·have hap : ds (U ++ Bit.zs q) ++ { data := #[48] } = ds (U ++ Bit.zs (q + 1)) := by
            refine (Y27 (U ++ Bit.zs q) [false]).trans ?_
            rw [List.append_assoc, show Bit.zs q ++ [false] = Bit.zs (q + 1) from by simp [Bit.zs, List.replicate_succ']]
           have hz0 : ({ data := #[48] } : ByteArray).size = 1 := rfl
           have HZ2 := Lib.hid (show (ds (U ++ Bit.zs (q + 1))).size = (ds (U ++ Bit.zs q)).size + 1 by rw [← hap, ByteArray.size_append]; rfl)
           have hb1 : (ds (U ++ Bit.zs q)).size ≤ 100000 := by omega
           have hd4 : (ds (U ++ Bit.zs q)).size < n2 := by omega
           clear hzz
           go_wp2_with fail
           go_round
           case rel => exact ⟨q + 1, by omega, rfl⟩
           case measure => simp only [Ylq, HZ2.out]; omega
          ·have hqe : q = n2 - U.length := by omega
           have hd4 : ¬ (ds (U ++ Bit.zs q)).size < n2 := by omega
           have hwe : U ++ Bit.zs q = Y0g (pos L n2 j) n2 := by rw [hqe]; exact HPAD.out
           rw [hwe] at hd4 ⊢
           have hb2 := HM.out.1
           have hlen : j < (wfill L n2 j).length := by rw [Y5e]; exact hjL
           have hw1 : wr.cell? ⟨nw, j, none⟩ = some ((wfill L n2 j)[j]'hlen) := by simp [World.cell?, hb2, hlen]
           have hw2 := Y1y hb2 j
           have HM2 := Lib.hid (show Yak w nw L n2 (j + 1) (wr.setCell ⟨nw, j, none⟩ (.string (ds (Y0g (pos L n2 j) n2)))) from HM.out.put hjL HLJ.out hn2')
           generalize (wfill L n2 j)[j]'hlen = old at hw1
           clear hzz hwe hqe hb2 hlen HU0 HPAD
           have HSN := Lib.hid (HSTEP.out)
           generalize Y0g (pos L n2 j) n2 = W0 at *
           go_wp2_with fail
           go_roundw
           case rel => exact ⟨j + 1, W0, false, by omega, by go_num, rfl, rfl, HM2, Lib.hid HSN.out⟩
           case measure => simp [intOf]; omega
        ·have hlw := Y9b (pos L n2 j) m hm30 hsd hsP hP30
         rw [← hws] at hlw
         have hwl : ws.length ≤ 30 := by rw [hws, Y08]; exact hm30
         have hwm : ws.length = m := by rw [hws, Y08]
         have hpt := Y8f L n2 j hjL HLJ.out (by omega) hn30
         have hsp := Y1f n2
         have HLW := Lib.hid hlw
         have HWM := Lib.hid hwm
         clear hlw hws hwm hsP hP30
         go_wp2_with fail
         refine (Y88 ws _ (by omega)).mono ?_
         rintro e w' ⟨rfl, hne⟩
         rcases hne with ⟨a, q, hl', rfl⟩ | ⟨hl', rfl⟩
         ·obtain ⟨hU, hPl⟩ := HLW.out.1 a q hl'
          generalize a ++ true :: Bit.zs q = U at hU ⊢
          have hUm : U.length = m := by rw [hU, Y08]
          have HU0 := Lib.hid (show Value.string (ds U) = Value.string (ds U) from rfl)
          have HPAD := Lib.hid (show U ++ Bit.zs (n2 - U.length) = Y0g (pos L n2 j) n2 by
           rw [hUm, hU]
           exact Yee _ m n2 hmn hn30 hsd hPl)
          have HSTEP := Lib.hid (Ycx.step L n2 j hjL HLJ.out hn1 hn30 hPl)
          have hUl : U.length ≤ n2 := by omega
          clear hU hUm hl' hPl hpt hsp hsd
          go_wp2_with fail
          go_loop [12] (fun s => ∃ q : Nat, q ≤ n2 - U.length ∧ s = .string (ds (U ++ Bit.zs q))) (fun s => n2 - Ylq s)
          case atStart => exact ⟨0, by omega, by rw [show Bit.zs 0 = [] from rfl, List.append_nil]; first | done | rfl | exact HU0.out⟩
          case round =>
           obtain ⟨q, hq, rfl⟩ := hrel
           have hzz : (ds (U ++ Bit.zs q)).size = U.length + q := by rw [Y0p]; simp [Y07]
           by_cases hqn : q < n2 - U.length
           ·have hap : ds (U ++ Bit.zs q) ++ { data := #[48] } = ds (U ++ Bit.zs (q + 1)) := by
             refine (Y27 (U ++ Bit.zs q) [false]).trans ?_
             rw [List.append_assoc, show Bit.zs q ++ [false] = Bit.zs (q + 1) from by simp [Bit.zs, List.replicate_succ']]
            have hz0 : ({ data := #[48] } : ByteArray).size = 1 := rfl
            have HZ2 := Lib.hid (show (ds (U ++ Bit.zs (q + 1))).size = (ds (U ++ Bit.zs q)).size + 1 by rw [← hap, ByteArray.size_append]; rfl)
            have hb1 : (ds (U ++ Bit.zs q)).size ≤ 100000 := by omega
            have hd4 : (ds (U ++ Bit.zs q)).size < n2 := by omega
            clear hzz
            go_wp2_with fail
            go_round
            case rel => exact ⟨q + 1, by omega, rfl⟩
            case measure => simp only [Ylq, HZ2.out]; omega
           ·have hqe : q = n2 - U.length := by omega
            have hd4 : ¬ (ds (U ++ Bit.zs q)).size < n2 := by omega
            have hwe : U ++ Bit.zs q = Y0g (pos L n2 j) n2 := by rw [hqe]; exact HPAD.out
            rw [hwe] at hd4 ⊢
            have hb2 := HM.out.1
            have hlen : j < (wfill L n2 j).length := by rw [Y5e]; exact hjL
            have hw1 : wr.cell? ⟨nw, j, none⟩ = some ((wfill L n2 j)[j]'hlen) := by simp [World.cell?, hb2, hlen]
            have hw2 := Y1y hb2 j
            have HM2 := Lib.hid (show Yak w nw L n2 (j + 1) (wr.setCell ⟨nw, j, none⟩ (.string (ds (Y0g (pos L n2 j) n2)))) from HM.out.put hjL HLJ.out hn2')
            generalize (wfill L n2 j)[j]'hlen = old at hw1
            clear hzz hwe hqe hb2 hlen HU0 HPAD
            have HSN := Lib.hid (HSTEP.out)
            generalize Y0g (pos L n2 j) n2 = W0 at *
            go_wp2_with fail
            go_roundw
            case rel => exact ⟨j + 1, W0, false, by omega, by go_num, rfl, rfl, HM2, Lib.hid HSN.out⟩
            case measure => simp [intOf]; omega
         ·have hPe := HLW.out.2 (by rw [← HWM.out]; exact hl')
          have hgt : ¬ startN L 31 ≤ 1073741824 := by omega
          have HE := Lib.hid (show Y8r zs = 3 by rw [HCE.out, if_neg hgt])
          clear hl' hPe hpt hgt hsp
          go_wp2_with fail
          go_ret3
          exact ⟨HM.out.2, .inl ⟨by rw [HE.out]; decide, by rw [HE.out]; rfl⟩⟩
       ·have hbn : ((n2 : Int) != (n : Int)) = true := by simp; omega
        have HM2 := Lib.hid (HM.out.skip hjL (by rw [hLj]; exact hnn))
        have hps := Y3c L n j hjL
        rw [if_neg (by rw [hLj]; exact hnn), Nat.add_zero] at hps
        have HS2 := Lib.hid (show Ycx (pos L n (j + 1)) n ws f by rw [hps]; exact HS.out)
        clear hps hLj
        go_wp2_with fail
        go_roundw
        case rel => exact ⟨j + 1, ws, f, by omega, by go_num, rfl, rfl, HM2, HS2⟩
        case measure => simp [intOf]; omega
      ·have hje : j = k := by omega
       subst hje
       have hd : decide ((j : Int) < (j : Int)) = false := by simp
       have hM := HM.out
       have hS := HS.out.more
       rw [show j = L.length from HLL.out.symm] at hM hS
       rw [Ybg L n (by omega), ← Y3d] at hS
       have HM2 := Lib.hid hM.turn
       have HS2 := Lib.hid hS
       clear hM hS
       go_wp2_with fail
       go_roundw
       case rel => exact ⟨n + 1, ws, f, by omega, by omega, by go_num, rfl, rfl, HM2, HS2⟩
       case measure => simp [intOf]; omega
    ·have hne : n = 31 := by omega
     subst hne
     have hdn : decide ((31 : Int) ≤ 30) = false := by simp
     have hwl := HSo.out.len
     have hrow := HMo.out.1
     rw [Yh9 L HLM.out, HLE.out] at hrow
     have hlt2 : nw < wr.heap.size := Ym0 hrow
     have HROW := Lib.hid (Y0y hrow hlt2)
     have HX2 := Lib.hid (show zs.length = k from HX.out)
     clear hrow
     have hTe : pos L 31 0 = startN L 31 := Y3d L 31
     rcases HSo.out with ⟨rfl, hP, rfl⟩ | ⟨rfl, m, hm1, hmn, hm30, hsd, hsP, hP30, hws⟩
     ·rw [hTe] at hP
      have HE := Lib.hid (show Y8r zs = 0 by rw [HCE.out, if_pos (by omega)])
      have HF := Lib.hid (show decide (startN (Y1a zs) 31 = 1073741824) = false by rw [← HLE.out, hP]; rfl)
      clear hP hTe
      go_wp2_with fail
      refine (Y88 [] _ (by simp)).mono ?_
      rintro e w' ⟨rfl, hne⟩
      rcases hne with ⟨a, q, hl', _⟩ | ⟨hl', rfl⟩
      ·exfalso
       cases a with
       | nil => cases hl'
       | cons => cases hl'
      ·clear hl'
       go_wp2_with fail
       go_ret3
       exact ⟨HMo.out.2, .inr ⟨HE.out, some ⟨nw, 0, none⟩, k, by rw [HX2.out, HF.out]; first | done | rfl, HROW.out, (fun h => by cases h), by rw [HX2.out]; exact Nat.le_refl _, by unfold maxLen; omega, fun a h => by injection h with h; subst h; exact hn2'⟩⟩
     ·have hlw := Y9b (pos L 31 0) m hm30 hsd hsP hP30
      rw [← hws] at hlw
      have hwm : ws0.length = m := by rw [hws, Y08]
      rw [hTe] at hlw hP30
      have HE := Lib.hid (show Y8r zs = 0 by rw [HCE.out, if_pos hP30])
      have HLW := Lib.hid hlw
      have HWM := Lib.hid hwm
      clear hlw hws hwm hsP hP30 hsd hTe
      go_wp2_with fail
      refine (Y88 ws0 _ (by omega)).mono ?_
      rintro e w' ⟨rfl, hne⟩
      rcases hne with ⟨a, q, hl', rfl⟩ | ⟨hl', rfl⟩
      ·have hlt3 := (HLW.out.1 a q hl').2
       have HF := Lib.hid (show decide (startN (Y1a zs) 31 = 1073741824) = false by rw [← HLE.out]; simp; omega)
       clear hlt3 hl'
       go_wp2_with fail
       go_ret3
       exact ⟨HMo.out.2, .inr ⟨HE.out, some ⟨nw, 0, none⟩, k, by rw [HX2.out, HF.out]; first | done | rfl, HROW.out, (fun h => by cases h), by rw [HX2.out]; exact Nat.le_refl _, by unfold maxLen; omega, fun a h => by injection h with h; subst h; exact hn2'⟩⟩
      ·have heq3 := HLW.out.2 (by rw [← HWM.out]; exact hl')
       have HF := Lib.hid (show decide (startN (Y1a zs) 31 = 1073741824) = true by rw [← HLE.out, heq3]; rfl)
       clear heq3 hl'
       go_wp2_with fail
       go_ret3
       exact ⟨HMo.out.2, .inr ⟨HE.out, some ⟨nw, 0, none⟩, k, by rw [HX2.out, HF.out]; first | done | rfl, HROW.out, (fun h => by cases h), by rw [HX2.out]; exact Nat.le_refl _, by unfold maxLen; omega, fun a h => by injection h with h; subst h; exact hn2'⟩⟩
end Go.Proofs.YtkkfkmoikcmhoaaGreat.Hf
namespace Go.Proofs.YtkkfkmoikcmhoaaGreat.Inf
open Go.RowKit Oct Bit Hf
set_option maxRecDepth 100000
theorem Yav {a b : List Bool} (h : a.map dig <+: b.map dig) : a <+: b := by
 rw [List.prefix_iff_eq_take] at h ⊢
 rw [List.length_map, ← List.map_take] at h
 exact Hf.Yau h
theorem Y2o (L : List Nat) (i : Nat) (s : List UInt8) (h : (Y2h L)[i]? = some s) : ∃ hi : i < L.length, s = (Y0g (pos L L[i] i) L[i]).map dig := by
 obtain ⟨hi, he⟩ := List.getElem?_eq_some_iff.1 h
 have hi' : i < L.length := by rwa [Y2b] at hi
 exact ⟨hi', by rw [← he, Y4y L i hi hi']⟩
theorem Yap (L : List Nat) (hL : ∀ n ∈ L, n ≤ 30) (hT : startN L 31 ≤ 1073741824) : Hf.Good (Y2h L) := by
 constructor
 ·intro s hs
  obtain ⟨i, hi⟩ := List.mem_iff_getElem?.1 hs
  obtain ⟨_, rfl⟩ := Y2o L i s hi
  exact Yhe _
 ·intro i j s t hi hj hij hs ht hp
  obtain ⟨hi', rfl⟩ := Y2o L i s hi
  obtain ⟨hj', rfl⟩ := Y2o L j t hj
  have h0 : L[i] ≠ 0 := by
   intro e
   apply hs
   rw [List.map_eq_nil_iff]
   exact List.eq_nil_of_length_eq_zero (by rw [Y08, e])
  exact Yd5 L (fun k hk => hL _ (List.getElem_mem hk)) hT i j hi' hj' hij h0 (Yav hp)
theorem Yaq (L : List Nat) (hL : ∀ n ∈ L, n ≤ 30) : ∀ s ∈ Y2h L, s.length ≤ 1000000 := by
 intro s hs
 obtain ⟨i, hi⟩ := List.mem_iff_getElem?.1 hs
 obtain ⟨hi', rfl⟩ := Y2o L i s hi
 rw [List.length_map, Y08]
 have := hL _ (List.getElem_mem hi')
 omega
theorem Y2f (L : List Nat) : Y1a (Y03 L) = L := by
 unfold Y1a Y03
 rw [List.map_map]
 have e : (Int.toNat ∘ fun n : Nat => (n : Int)) = id := by funext n; simp
 rw [e, List.map_id]
theorem Yc2 (L : List Nat) (hL : ∀ n ∈ L, n ≤ 30) : okZ (Y03 L) = true := by
 unfold okZ Y03
 rw [List.all_eq_true]
 intro z hz
 obtain ⟨n, hn, rfl⟩ := List.mem_map.1 hz
 have := hL n hn
 simp
 omega
theorem Yex (L : List Nat) (hL : ∀ n ∈ L, n ≤ 30) (h : startN L 31 ≤ 1073741824) : Y8r (Y03 L) = 0 := by
 unfold Y8r
 rw [if_pos (Yc2 L hL), Y2f, if_pos h]
theorem Y8z (L : List Nat) (hL : ∀ n ∈ L, n ≤ 30) (h : ¬ startN L 31 ≤ 1073741824) : Y8r (Y03 L) = 3 := by
 unfold Y8r
 rw [if_pos (Yc2 L hL), Y2f, if_neg h]
def Y22 (n k : Nat) : List Value := places k ++ List.replicate (n - k) (.int .i64 0)
theorem Y9r (n : Nat) : Y22 n 0 = List.replicate n (.int .i64 0) := by simp [Y22, places, ints]
theorem Ybd (n : Nat) : Y22 n n = places n := by simp [Y22]
theorem Y2t (n k : Nat) (h : k ≤ n) : (Y22 n k).length = n := by simp [Y22, Y1b]; omega
theorem Ybe (k : Nat) : places (k + 1) = places k ++ [.int .i64 (k : Int)] := by simp [places, ints, List.range_succ]
theorem Y9q (n k : Nat) (h : k < n) : (Y22 n k).set k (.int .i64 (k : Int)) = Y22 n (k + 1) := by
 unfold Y22
 rw [List.set_append, if_neg (by rw [Y1b]; omega), Y1b, Nat.sub_self, Ybe, List.append_assoc]
 congr 1
 rw [show n - k = (n - (k + 1)) + 1 from by omega, List.replicate_succ]
 rfl
theorem Y7x {w : World} {g : Nat} {vs : List Value} {T : TypeId} {fr : Nat × Nat} (h : w.heap[g]? = some (.cells vs.toArray T fr)) (i : Nat) (u : Value) : (w.setCell ⟨g, i, none⟩ u).heap[g]? = some (.cells (vs.set i u).toArray T fr) := by
 simp [World.setCell, Array.getElem?_modify, h]
def NbP (w : World) (L : List Nat) (e : Ending) (w' : World) : Prop :=
 Below w.heap.size w w' ∧ ((¬ startN L 31 ≤ 1073741824 ∧ e = .returned (.tuple #[.pointer none, .bool false, .int .i64 3])) ∨
  (startN L 31 ≤ 1073741824 ∧ ∃ B g, e = .returned (.tuple #[.pointer (some ⟨g, 0, none⟩), .bool (decide (startN L 31 = 1073741824)), .int .i64 0]) ∧ w.heap.size ≤ B ∧ Bo w' B w'.heap.size g (Y06 L)))
def Yke (w : World) (n : Nat) (q : Option Addr) (ws : List Value) (H k : Nat) (wr : World) : Prop :=
 Below w.heap.size w wr ∧ wr.heap[H]? = some (.cells (Y22 n k).toArray 3 (0, 0)) ∧ VRow wr H q ws
theorem VRow.set_far {w : World} {C : Nat} {q : Option Addr} {vs : List Value} (h : VRow w C q vs) {i : Nat} (u : Value) : VRow (w.setCell ⟨C, i, none⟩ u) C q vs := by
 intro hp
 obtain ⟨b, off, rfl, hlt, hc⟩ := h hp
 exact ⟨b, off, rfl, hlt, fun j hj => (World.cell?_of_block (w := w) (Below.heap_setCell _ _ _ _ (by show b ≠ C; omega))).trans (hc j hj)⟩
set_option maxHeartbeats 4000000 in
theorem Y4e (p : Option Addr) (cap n : Nat) (L : List Nat) (w : World) (hr : VRow w w.heap.size p (ints (Y03 L))) (hn : L.length = n) (hL : ∀ m ∈ L, m ≤ 30) (hn3 : n ≤ 300) (hnil : p = none → cap = 0) :
  Calls Tryz.prog 121 #[.slice p n cap] w (NbP w L) := by
 obtain ⟨i0, hi, hz0, hz1, hz2⟩ := info_parts Tryz.infoInt
 have HCA := Lib.hid (Yey p n cap (Y03 L) w hr (by rw [Y01]; exact hn) (by omega))
 have HR := Lib.hid hr
 have HN := Lib.hid hn
 have HL := Lib.hid hL
 clear hr hn hL hnil
 by_cases hov : startN L 31 ≤ 1073741824
 ·have HE := Lib.hid (Yex L HL.out hov)
  have HOV := Lib.hid hov
  have HGOOD := Lib.hid (Yap L HL.out hov)
  clear hov
  go_enter Tryz.func121, Tryz.ntmps121
  go_wp2_with fail
  refine HCA.out.mono ?_
  rintro e w1 ⟨hb1, hres⟩
  rcases hres with ⟨hne, _⟩ | ⟨_, q, c, rfl, hv, hq0, hqc, hqm, hqa⟩
  ·exact absurd HE.out hne
  rw [Y2f] at hv
  rw [Y01] at hqc
  rw [Y2f, Y01, HN.out]
  rw [HN.out] at hqc
  obtain ⟨full, hfull⟩ : ∃ full, full = decide (startN L 31 = 1073741824) := ⟨_, rfl⟩
  rw [← hfull]
  have HFULL := Lib.hid hfull
  have HB1 := Lib.hid hb1
  have HV := Lib.hid hv
  have HQ0 := Lib.hid hq0
  clear hb1 hv hq0 hqa hfull
  go_wp2_with (at_make; refine wpList_make_full _ rfl _ _ 74 rfl w1.heap.size 3 i0 (.int .i64 0) 1 Tryz.underlying74 hi hz0 hz1 .i64 .i64 (n : Int) (n : Int) n rfl rfl rfl rfl ?c2 ?c3 ?c4 ?_)
  case c2 => rw [hz2]; omega
  case c3 => unfold maxLen; omega
  case c4 => omega
  intro w2 hown hgrow
  have hb2 : Below w1.heap.size w1 w2 := (Below.refl _ _).grown hgrow (Nat.le_refl _) (fun k hk => by cases hk)
  have hblk := Y1k hown
  have hmv : (madeCells #[Value.int .i64 0] n).toList = Y22 n 0 := by rw [Y3q, Y9r]
  rw [hmv] at hblk
  have HST := Lib.hid (show Yke w n q (strs (Y2h L)) w1.heap.size 0 w2 from ⟨HB1.out.trans (hb2.mono HB1.out.size), hblk, HV.out.below hb2 (Nat.le_refl _)⟩)
  have HHs := HB1.out.size
  clear hown hgrow hb2 hblk hmv HV
  generalize hH : w1.heap.size = H at HST HHs ⊢
  clear hH
  go_wp2_with fail
  go_loopw [9, 25] (fun u i wr => ∃ k : Nat, k ≤ n ∧ i = .int .i64 (k : Int) ∧ Hid (Yke w n q (strs (Y2h L)) H k wr)) (fun u i wr => n - (intOf i).toNat)
  case atStart => exact ⟨0, by omega, rfl, HST⟩
  case round =>
   obtain ⟨k, hk, rfl, HB⟩ := hrel
   by_cases hlt : k < n
   ·have ql : decide ((k : Int) < (n : Int)) = true := by simpa using hlt
    have i1 : (0 : Int) ≤ (k : Int) := by omega
    have i2 : (k : Int) < (n : Int) := by omega
    have hblk := HB.out.2.1
    have u0 : wr.cell? ⟨H, k, none⟩ = some ((Y22 n k)[k]'(by rw [Y2t n k hk]; exact hlt)) := by simp [World.cell?, hblk, Y2t n k hk, hlt]
    have f0 : wr.frozen? ⟨H, k, none⟩ = false := by simp [World.frozen?, hblk]
    generalize (Y22 n k)[k]'(by rw [Y2t n k hk]; exact hlt) = v0 at u0
    have HNX : Hid (Yke w n q (strs (Y2h L)) H (k + 1) (wr.setCell ⟨H, k, none⟩ (.int .i64 (k : Int)))) := Lib.hid ⟨HB.out.1.setCell (p := ⟨H, k, none⟩) HHs _, by
     rw [← Y9q n k hlt]
     exact Y7x hblk k _, VRow.set_far HB.out.2.2 _⟩
    clear hblk HB HST
    go_wp2_with fail
    go_roundw
    case rel => exact ⟨k + 1, by omega, by first | rfl | (push_cast; rfl), HNX⟩
    case measure => simp [intOf]; omega
   ·have hkn : k = n := by omega
    subst hkn
    have hblk := HB.out.2.1
    have hHlt : H < wr.heap.size := by
     rcases Nat.lt_or_ge H wr.heap.size with h | h
     ·exact h
     ·rw [Array.getElem?_eq_none h] at hblk; cases hblk
    rw [Ybd] at hblk
    have hv2 : VRow wr wr.heap.size (some ⟨H, 0, none⟩) (places k) := Y0y hblk hHlt
    have HNEW := Lib.hid (Yin q (some ⟨H, 0, none⟩) k c k (Y2h L) (places k) wr (HB.out.2.2.mono (Nat.le_of_lt hHlt)) (by rw [Y2b, HN.out]) HQ0.out hv2 (Y1b _) (fun h => by cases h) (by omega) (by exact Y2d) (Yaq L HL.out))
    have ql : decide ((k : Int) < (k : Int)) = false := by simp
    have HBW := Lib.hid HB.out.1
    clear hblk hv2 HST HB hlt hk
    go_wp2_with fail
    refine HNEW.out.mono ?_
    rintro e w5 ⟨hb5, hres⟩
    rcases hres with ⟨cc, _, _, hng⟩ | ⟨g, rfl, hg1, hg2, hbk⟩
    ·exact absurd HGOOD.out hng
    have hbo : Bo w5 wr.heap.size w5.heap.size g (Y06 L) := by
     unfold Bo
     rw [Y0c, HN.out]
     exact hbk.boU hg1
    have HBO := Lib.hid hbo
    have HB5 := Lib.hid (HBW.out.trans (hb5.mono HBW.out.size))
    have HBZ := Lib.hid HBW.out.size
    clear hb5 hg1 hg2 hbk hbo
    go_wp2_with fail
    go_ret3
    exact ⟨HB5.out, .inr ⟨HOV.out, _, g, by rw [HFULL.out]; rfl, HBZ.out, HBO.out⟩⟩
 ·have HE := Lib.hid (Y8z L HL.out hov)
  have HOV := Lib.hid hov
  clear hov
  go_enter Tryz.func121, Tryz.ntmps121
  go_wp2_with fail
  refine HCA.out.mono ?_
  rintro e w1 ⟨hb1, hres⟩
  rcases hres with ⟨_, rfl⟩ | ⟨he, _⟩
  ·rw [HE.out]
   have HB1 := Lib.hid hb1
   clear hb1
   go_wp2_with fail
   go_ret3
   exact ⟨HB1.out, .inl ⟨HOV.out, rfl⟩⟩
  ·rw [HE.out] at he; cases he
end Go.Proofs.YtkkfkmoikcmhoaaGreat.Inf
namespace Go.Proofs.YtkkfkmoikcmhoaaGreat.Sm
open Go.Sort
variable {α : Type} [Inhabited α] {lt : α → α → Bool}
def rotG (a m b : Nat) (d : Array α) (k : Nat) : α := if k < a ∨ b ≤ k then d[k]! else if k < a + (b - m) then d[k + (m - a)]! else d[k - (b - m)]!
theorem SortedIn.join {a m b : Nat} {d : Array α} (h1 : SortedIn lt a m d) (h2 : SortedIn lt m b d) (hx : ∀ x y, a ≤ x → x < m → m ≤ y → y < b → lt d[y]! d[x]! = false) : SortedIn lt a b d := by
 intro i j hi hij hj
 by_cases h : j < m
 ·exact h1 i j hi hij h
 ·by_cases h' : i < m
  ·exact hx i j hi h' (by omega) hj
  ·exact h2 i j (by omega) hij hj
structure Cut (lt : α → α → Bool) (a s m e b : Nat) (d : Array α) : Prop where
 hs : a ≤ s
 hm : s ≤ m
 he : m ≤ e
 hb : e ≤ b
 x1 : ∀ x y, a ≤ x → x < s → e ≤ y → y < b → lt d[y]! d[x]! = false
 x2 : ∀ x y, m ≤ x → x < e → s ≤ y → y < m → lt d[y]! d[x]! = false
section
variable {a s m e b : Nat} {d d' : Array α} (hS : SWO lt) (h1 : SortedIn lt a m d) (h2 : SortedIn lt m b d) (C : Cut lt a s m e b d) (hd : ∀ k, d'[k]! = rotG s m e d k)
include hS h1 h2 C hd
omit hS h2 in
end
theorem halves {a mid b : Nat} {d e f : Array α} (hb : b ≤ d.size) (ha : a ≤ mid) (hmb : mid ≤ b) (hx : ∀ x y, a ≤ x → x < mid → mid ≤ y → y < b → lt d[y]! d[x]! = false) (p1 : PermIn a mid d e) (s1 : SortedIn lt a mid e) (p2 : PermIn mid b e f) (s2 : SortedIn lt mid b f) :
  PermIn a b d f ∧ SortedIn lt a b f := by
 have hes : e.size = d.size := p1.1
 refine ⟨permIn_trans _ _ _ _ _ (permIn_mono _ _ _ _ _ _ (Nat.le_refl _) hmb hb p1) (permIn_mono _ _ _ _ _ _ ha (Nat.le_refl _) (by omega) p2), ?_⟩
 have s1' : SortedIn lt a mid f := s1.congrA (fun p hp => p2.2.1 p (Or.inl hp))
 refine SortedIn.join s1' s2 ?_
 intro x y hx1 hx2 hy1 hy2
 have q1 : ∀ y', mid ≤ y' → y' < b → ∀ x', a ≤ x' → x' < mid → lt d[y']! e[x']! = false := fun y' h1 h2 => permIn_all d e a mid (fun v => lt d[y']! v = false) (by omega) p1 (fun i hi hi2 => hx i y' hi hi2 h1 h2)
 have q2 : ∀ x', a ≤ x' → x' < mid → ∀ y', mid ≤ y' → y' < b → lt f[y']! e[x']! = false := fun x' h1 h2 => permIn_all e f mid b (fun v => lt v e[x']! = false) (by omega) p2 (fun i hi hi2 => by
  rw [p1.2.1 i (Or.inr hi)]
  exact q1 i hi hi2 x' h1 h2)
 rw [p2.2.1 x (Or.inl hx2)]
 exact q2 x hx1 hx2 y hy1 hy2
end Go.Proofs.YtkkfkmoikcmhoaaGreat.Sm
namespace Go.Proofs.YtkkfkmoikcmhoaaGreat.Lm
open Bit Hf
def ins (x : Nat) : List Nat → List Nat
 | [] => [x]
 | b :: B => if x ≤ b then x :: b :: B else b :: ins x B
def isort : List Nat → List Nat
 | [] => []
 | x :: f => ins x (isort f)
def sumH (A : List Nat) (r : Nat) : Nat := (A.take r).sum
def cost : List Nat → List Nat → Nat
 | x :: f, y :: l => x * y + cost f l
 | _, _ => 0
def kraft (l : List Nat) : Nat := (l.map share).sum
def cntG (l : List Nat) (k : Nat) : Nat := l.countP (k < ·)
def sumK (g : Nat → Nat) : Nat → Nat
 | 0 => 0
 | k + 1 => sumK g k + g k
def base (f l : List Nat) (L : Nat) : Nat := sumK (fun k => sumH (isort f) (cntG l k)) L
structure Ok (f : List Nat) (L : Nat) (l : List Nat) : Prop where
 len : l.length = f.length
 lo : ∀ x ∈ l, 1 ≤ x
 hi : ∀ x ∈ l, x ≤ L
 kr : kraft l ≤ 1073741824
structure Least (f : List Nat) (L : Nat) (l : List Nat) : Prop where
 ok : Ok f L l
 min : ∀ l', Ok f L l' → cost f l ≤ cost f l'
end Go.Proofs.YtkkfkmoikcmhoaaGreat.Lm
namespace Go.Proofs.YtkkfkmoikcmhoaaGreat.Lm
open Bit Hf
def taken : List Nat → Nat → Nat
 | [], _ => 0
 | y :: l, k => (if k < y then share y else 0) + taken l k
def before : List Nat → Nat → Nat
 | [], _ => 0
 | y :: l, k => (if k < y then 0 else share y) + before l k
def pairs : List Nat → List Nat
 | a :: b :: P => (a + b) :: pairs P
 | _ => []
def parcels (f : List Nat) : Nat → List Nat
 | 0 => []
 | t + 1 => isort (isort f ++ pairs (parcels f t))
def levels (l : List Nat) (k : Nat) : Nat → List Nat
 | 0 => []
 | t + 1 => cntG l k :: levels l (k + 1) t
end Go.Proofs.YtkkfkmoikcmhoaaGreat.Lm
namespace Go.Proofs.YtkkfkmoikcmhoaaGreat.Lm
open Bit Hf
def come (o : List Nat) : List Nat := o.filter (0 < ·)
end Go.Proofs.YtkkfkmoikcmhoaaGreat.Lm
namespace Go.Proofs.YtkkfkmoikcmhoaaGreat.Lm
open Bit Hf
def far : Nat := 1152921504606846976
end Go.Proofs.YtkkfkmoikcmhoaaGreat.Lm
namespace Go.Proofs.YtkkfkmoikcmhoaaGreat.Lp
open Go.Shelf Go.RowKit Go.Lib Go.Sort Sm Lm
set_option maxRecDepth 100000
structure Pk where
 wt : Int
 sym : Int
 ptr : Option Addr
 len : Nat
 cap : Nat
instance : Inhabited Pk := ⟨⟨0, 0, none, 0, 0⟩⟩
end Go.Proofs.YtkkfkmoikcmhoaaGreat.Lp

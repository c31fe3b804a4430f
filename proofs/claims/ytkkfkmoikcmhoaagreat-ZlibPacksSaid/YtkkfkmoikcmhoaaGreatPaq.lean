/- HfF, IgK, SmM, SmA: merged. -/
import Derived.Sort.LotA
import Derived.Shelf.SlSortCmp.PdqK
import Derived.Test.YtkkfkmoikcmhoaaGreatPaa
import Derived.Test.YtkkfkmoikcmhoaaGreatPam
import Derived.Test.YtkkfkmoikcmhoaaGreatPap
set_option linter.unusedVariables false
set_option linter.unusedSimpArgs false
namespace Go.Proofs.YtkkfkmoikcmhoaaGreat.Hf
open Go.RowKit Oct Bit
set_option maxRecDepth 100000
def wcell (L : List Nat) (n i j : Nat) : Value :=
 if L.getD j 0 < n ∨ (L.getD j 0 = n ∧ j < i) then .string (ds (Y0n (pos L (L.getD j 0) j) (L.getD j 0))) else .string ByteArray.empty
def wfill (L : List Nat) (n i : Nat) : List Value := (List.range L.length).map (wcell L n i)
theorem Y98 (L : List Nat) (n i : Nat) : (wfill L n i).length = L.length := by simp [wfill]
theorem Yiz (L : List Nat) : wfill L 1 0 = List.replicate L.length (.string ByteArray.empty) := by
 unfold wfill
 apply List.ext_getElem
 ·simp
 ·intro j h1 h2
  simp only [List.getElem_map, List.getElem_range, List.getElem_replicate]
  unfold wcell
  split
  ·rename_i h
   have h0 : L.getD j 0 = 0 := by omega
   rw [h0]
   rfl
  ·rfl
theorem Ynd (L : List Nat) (n : Nat) : wfill L n L.length = wfill L (n + 1) 0 := by
 unfold wfill
 refine List.map_congr_left fun j hj => ?_
 have hj : j < L.length := by simpa using hj
 unfold wcell
 by_cases h : L.getD j 0 < n ∨ (L.getD j 0 = n ∧ j < L.length)
 ·rw [if_pos h, if_pos (by omega)]
 ·rw [if_neg h, if_neg (by omega)]
theorem Ync (L : List Nat) (n i : Nat) (hi : i < L.length) (hn : L[i] ≠ n) : wfill L n i = wfill L n (i + 1) := by
 unfold wfill
 refine List.map_congr_left fun j hj => ?_
 unfold wcell
 have hg : L.getD i 0 = L[i] := by simp [List.getD, List.getElem?_eq_getElem hi]
 by_cases hji : j = i
 ·subst hji
  rw [hg]
  by_cases h : L[j] < n ∨ (L[j] = n ∧ j < j)
  ·rw [if_pos h, if_pos (by omega)]
  ·rw [if_neg h, if_neg (by omega)]
 ·by_cases h : L.getD j 0 < n ∨ (L.getD j 0 = n ∧ j < i)
  ·rw [if_pos h, if_pos (by omega)]
  ·rw [if_neg h, if_neg (by omega)]
theorem Yso (L : List Nat) (n i : Nat) (hi : i < L.length) (hn : L[i] = n) : (wfill L n i).set i (.string (ds (Y0n (pos L n i) n))) = wfill L n (i + 1) := by
 have hg : L.getD i 0 = n := by simp [List.getD, List.getElem?_eq_getElem hi, hn]
 apply List.ext_getElem
 ·simp [wfill]
 ·intro j h1 h2
  rw [List.getElem_set]
  simp only [wfill, List.getElem_map, List.getElem_range]
  unfold wcell
  by_cases hji : i = j
  ·subst hji
   rw [if_pos rfl, hg, if_pos (by omega)]
  ·rw [if_neg hji]
   by_cases h : L.getD j 0 < n ∨ (L.getD j 0 = n ∧ j < i)
   ·rw [if_pos h, if_pos (by omega)]
   ·rw [if_neg h, if_neg (by omega)]
theorem Ysn (L : List Nat) (hL : ∀ i (h : i < L.length), L[i] ≤ 30) : wfill L 31 0 = strs (Y42 L) := by
 apply List.ext_getElem
 ·simp [wfill, Y0z, Y2g]
 ·intro j h1 h2
  have hj : j < L.length := by simpa [wfill] using h1
  have hg : L.getD j 0 = L[j] := by simp [List.getD, List.getElem?_eq_getElem hj]
  simp only [wfill, List.getElem_map, List.getElem_range, strs]
  rw [Y8g L j _ hj]
  unfold wcell
  have := hL j hj
  rw [hg, if_pos (by omega)]
  rfl
def Ykz (P n : Nat) (was : List Bool) (first : Bool) : Prop :=
 (first = true ∧ P = 0 ∧ was = []) ∨ (first = false ∧ ∃ m, 1 ≤ m ∧ m ≤ n ∧ m ≤ 30 ∧ share m ∣ P ∧ share m ≤ P ∧ P ≤ 1073741824 ∧ was = Y0n (P - share m) m)
theorem Ykz.more {P n : Nat} {was : List Bool} {first : Bool} (h : Ykz P n was first) : Ykz P (n + 1) was first := by
 rcases h with h | ⟨h1, m, h2, h3, h4⟩
 ·exact .inl h
 ·exact .inr ⟨h1, m, h2, by omega, h4⟩
theorem Ykz.len {P n : Nat} {was : List Bool} {first : Bool} (h : Ykz P n was first) : was.length ≤ 30 := by
 rcases h with ⟨_, _, rfl⟩ | ⟨_, m, _, _, h4, _, _, _, rfl⟩
 ·simp
 ·rw [Y09]; exact h4
theorem Yff (P m : Nat) (h30 : m ≤ 30) (hd : share m ∣ P) (h1 : share m ≤ P) (h2 : P ≤ 1073741824) :
  (∀ a k, Y0n (P - share m) m = a ++ false :: List.replicate k true → a ++ true :: zs k = Y0n P m ∧ P < 1073741824) ∧ (Y0n (P - share m) m = List.replicate m true → P = 1073741824) := by
 have hs := Y10 m
 have ht := Y3s m h30
 obtain ⟨q, rfl⟩ := hd
 have hq0 : 1 ≤ q := by
  rcases Nat.eq_zero_or_pos q with h | h
  ·subst h; rw [Nat.mul_zero] at h1; omega
  ·exact h
 have e1 : share m * q / share m = q := Nat.mul_div_cancel_left q hs
 have e2 : (share m * q - share m) / share m = q - 1 := by
  rw [show share m * q - share m = share m * (q - 1) from by rw [Nat.mul_sub, Nat.mul_one]]
  exact Nat.mul_div_cancel_left (q - 1) hs
 have hq : q ≤ 2 ^ m := by
  rw [← ht, Nat.mul_comm] at h2
  exact Nat.le_of_mul_le_mul_right h2 hs
 have hv : q - 1 < 2 ^ m := by omega
 unfold Y0n
 rw [e1, e2]
 constructor
 ·intro a k h
  obtain ⟨x, y⟩ := Yst (q - 1) m k a hv h
  rw [show q - 1 + 1 = q by omega] at x y
  refine ⟨x, ?_⟩
  rw [← ht, Nat.mul_comm]
  exact Nat.mul_lt_mul_of_pos_right y hs
 ·intro h
  have := Yss (q - 1) m hv h
  rw [← ht, Nat.mul_comm, show q = 2 ^ m by omega]
theorem Ykz.step (L : List Nat) (n i : Nat) (hi : i < L.length) (hn : L[i] = n) (h0 : 1 ≤ n) (h30 : n ≤ 30) (hP : pos L n i < 1073741824) : Ykz (pos L n (i + 1)) n (Y0n (pos L n i) n) false := by
 have e := Y5b L n i hi
 rw [if_pos hn] at e
 have hs := Y10 n
 have hd := Yie L n i h30
 refine .inr ⟨rfl, n, h0, Nat.le_refl _, h30, Yie L n (i + 1) h30, by omega, ?_, by rw [e, Nat.add_sub_cancel]⟩
 rw [e]
 obtain ⟨q, hq⟩ := hd
 have ht := Y3s n h30
 rw [hq, ← ht, Nat.mul_comm] at hP
 have hql := Nat.lt_of_mul_lt_mul_right hP
 rw [hq, ← ht, Nat.mul_comm, ← Nat.succ_mul]
 exact Nat.mul_le_mul_right _ hql
theorem X0f {W : World} {d : Nat} {o : Obj} (h : W.heap[d]? = some o) : d < W.heap.size := by
 rcases Nat.lt_or_ge d W.heap.size with hlt | hge
 ·exact hlt
 ·rw [Array.getElem?_eq_none hge] at h; cases h
def Yh4 (w : World) (nw : Nat) (L : List Nat) (n i : Nat) (W : World) : Prop := W.heap[nw]? = some (.cells (wfill L n i).toArray 9 (0, 0)) ∧ Below w.heap.size w W
theorem Yh4.put {w W : World} {nw n i : Nat} {L : List Nat} (h : Yh4 w nw L n i W) (hi : i < L.length) (hn : L[i] = n) (hw : w.heap.size ≤ nw) : Yh4 w nw L n (i + 1) (W.setCell ⟨nw, i, none⟩ (.string (ds (Y0n (pos L n i) n)))) := by
 refine ⟨?_, h.2.setCell (p := ⟨nw, i, none⟩) hw _⟩
 rw [Y2f h.1, List.setIfInBounds_toArray, Yso L n i hi hn]
theorem Yh4.skip {w W : World} {nw n i : Nat} {L : List Nat} (h : Yh4 w nw L n i W) (hi : i < L.length) (hn : L[i] ≠ n) : Yh4 w nw L n (i + 1) W := by
 unfold Yh4
 rw [← Ync L n i hi hn]
 exact h
theorem Yh4.turn {w W : World} {nw n : Nat} {L : List Nat} (h : Yh4 w nw L n L.length W) : Yh4 w nw L (n + 1) 0 W := by
 unfold Yh4
 rw [← Ynd]
 exact h
theorem Ypy (zs : List Int) (h : okZ zs = true) (i : Nat) (hi : i < (Y1v zs).length) : (Y1v zs)[i] ≤ 30 := by
 have hi' : i < zs.length := by rwa [Y2b] at hi
 have := Yi9 zs h i hi'
 rw [Yam zs i hi hi']
 omega
set_option maxHeartbeats 4000000 in
theorem Ymo (p : Option Addr) (len cap : Nat) (zs : List Int) (w : World) (hr : VRow w w.heap.size p (ints zs)) (hx : zs.length = len) (hl : len ≤ 100000) :
  Calls Tryz.prog 64 #[.slice p len cap] w (Ywn w zs) := by
 obtain ⟨i0, hi, hz0, hz1, hz2⟩ := info_parts Tryz.infoStr
 have HX := Lib.hid hx
 have HR := Lib.hid hr
 clear hx hr
 go_enter Tryz.func64, Tryz.ntmps64
 go_wp2_with (at_make; refine wpList_make_full _ rfl _ _ 77 rfl w.heap.size 9 i0 (.string ByteArray.empty) 1 Tryz.underlying77 hi hz0 hz1 .i64 .i64 (len : Int) (len : Int) len rfl rfl rfl rfl ?c2 ?c3 ?c4 ?_)
 case c2 => rw [hz2]; omega
 case c3 => unfold maxLen; omega
 case c4 => omega
 intro w1 hown hgrow
 have hb1 : Below w.heap.size w w1 := (Below.refl _ _).grown hgrow (Nat.le_refl _) (fun k hk => by cases hk)
 have hnw := Y2s hown
 rw [Yao] at hnw
 have HB1 := Lib.hid hb1
 have HNW := Lib.hid hnw
 have hn2' : w.heap.size ≤ w.heap.size := Nat.le_refl _
 have hnlt : w.heap.size < w1.heap.size := by
  rcases Nat.lt_or_ge w.heap.size w1.heap.size with h | h
  ·exact h
  ·rw [Array.getElem?_eq_none h] at hnw; cases hnw
 clear hown hgrow hb1 hnw
 generalize hnwe : w.heap.size = nw at HNW hnlt ⊢
 have hn2' : w.heap.size ≤ nw := by omega
 clear hnwe
 go_wp2_with fail
 go_loop [6] (fun i => ∃ k : Nat, k ≤ len ∧ i = .int .i64 (k : Int) ∧ Hid (okZ (zs.take k) = true)) (fun i => len - (intOf i).toNat)
 case atStart => exact ⟨0, by omega, rfl, rfl⟩
 case round =>
  obtain ⟨k, hk, rfl, HO⟩ := hrel
  by_cases hlt : k < len
  ·have hkz : k < zs.length := by rw [HX.out]; exact hlt
   obtain ⟨b, off, hp, hbl⟩ := HR.out.addr (by rw [Y06]; omega)
   subst hp
   have hc := (HB1.out.cell (p := ⟨b, off + k, none⟩) hbl).trans (HR.out.int k hkz)
   have HT := Lib.hid (Yjy zs k hkz HO.out)
   have HBAD := Lib.hid (Yqj zs k hkz)
   generalize zs[k] = z at hc HT HBAD
   have hd : decide ((k : Int) < (len : Int)) = true := by simp; omega
   have i1 : (0 : Int) ≤ (k : Int) := by omega
   have i2 : (k : Int) < (len : Int) := by omega
   by_cases h0 : z < 0
   ·have hd0 : decide (z < 0) = true := by simpa using h0
    have HE := Lib.hid (HBAD.out (.inl h0))
    go_wp2_with fail
    go_ret3
    exact ⟨HB1.out, .inl ⟨by rw [HE.out]; decide, by rw [HE.out]; rfl⟩⟩
   ·have hd0 : decide (z < 0) = false := by simpa using h0
    by_cases h30 : 30 < z
    ·have hd1 : decide (30 < z) = true := by simpa using h30
     have HE := Lib.hid (HBAD.out (.inr h30))
     go_wp2_with fail
     go_ret3
     exact ⟨HB1.out, .inl ⟨by rw [HE.out]; decide, by rw [HE.out]; rfl⟩⟩
    ·have hd1 : decide (30 < z) = false := by simpa using h30
     have HT2 := Lib.hid (HT.out (by omega) (by omega))
     clear HT HBAD
     go_wp2_with fail
     go_round
     case rel => exact ⟨k + 1, by omega, by go_num, HT2⟩
     case measure => simp [intOf]; omega
  ·have hkl : k = len := by omega
   subst hkl
   have hd : decide ((k : Int) < (k : Int)) = false := by simp
   have hOk := HO.out
   rw [← HX.out, List.take_length] at hOk
   have hLl := Y2b zs
   obtain ⟨L, hL⟩ : ∃ L, L = Y1v zs := ⟨_, rfl⟩
   have hcE : Yef zs = if startN L 31 ≤ 1073741824 then 0 else 3 := by unfold Yef; rw [if_pos hOk, hL]
   rw [← hL] at hLl
   rw [HX.out] at hLl
   have HLL := Lib.hid hLl
   have HLE := Lib.hid hL
   have HCE := Lib.hid hcE
   have HOK := Lib.hid hOk
   have HLM := Lib.hid (show ∀ i (h : i < L.length), L[i] ≤ 30 by rw [hL]; exact Ypy zs hOk)
   have HM0 := Lib.hid (show Yh4 w nw L 1 0 w1 from ⟨by rw [Yiz, hLl]; exact HNW.out, HB1.out⟩)
   have HS0 := Lib.hid (show Ykz (pos L 1 0) 1 [] true from .inl ⟨rfl, by rw [Y5c, Y4z], rfl⟩)
   clear hLl hL hcE hOk HO HNW HB1
   go_wp2_with fail
   go_loopw [7, 8, 9, 10, 11, 12] (fun was ok first n i s wr => ∃ (n' : Nat) (ws : List Bool) (f : Bool), n' ≤ 31 ∧ 1 ≤ n' ∧ n = .int .i64 (n' : Int) ∧ was = .string (ds ws) ∧ first = .bool f ∧ Hid (Yh4 w nw L n' 0 wr) ∧ Hid (Ykz (pos L n' 0) n' ws f)) (fun _ _ _ n _ _ _ => 31 - (intOf n).toNat)
   case atStart => exact ⟨1, [], true, by omega, by omega, rfl, rfl, rfl, HM0, HS0⟩
   case round =>
    obtain ⟨n, ws0, f0, hn31, hn1, rfl, rfl, rfl, HMo, HSo⟩ := hrel
    by_cases hn30 : n ≤ 30
    ·have hdn : decide ((n : Int) ≤ 30) = true := by simp; omega
     go_wp2_with fail
     go_loopw [7, 8, 9, 11, 12] (fun was ok first i s wr => ∃ (j : Nat) (ws : List Bool) (f : Bool), j ≤ k ∧ i = .int .i64 (j : Int) ∧ was = .string (ds ws) ∧ first = .bool f ∧ Hid (Yh4 w nw L n j wr) ∧ Hid (Ykz (pos L n j) n ws f)) (fun _ _ _ i _ _ => k - (intOf i).toNat)
     case atStart => exact ⟨0, ws0, f0, by omega, rfl, rfl, rfl, HMo, HSo⟩
     case round =>
      obtain ⟨j, ws, f, hj, rfl, rfl, rfl, HM, HS⟩ := hrel
      by_cases hlt : j < k
      ·have hjz : j < zs.length := by rw [HX.out]; exact hlt
       have hjL : j < L.length := by rw [HLL.out]; exact hlt
       obtain ⟨b, off, hp, hbl⟩ := HR.out.addr (by rw [Y06]; omega)
       subst hp
       have hc := (HM.out.2.cell (p := ⟨b, off + j, none⟩) hbl).trans (HR.out.int j hjz)
       obtain ⟨hz1', hz2'⟩ := Yi9 zs HOK.out j hjz
       have hLg : ∀ h : j < L.length, L[j] = zs[j].toNat := by
        intro h
        have := Yam zs j (by rw [Y2b]; exact hjz) hjz
        rw [← this]
        congr 1
       have hLj := hLg hjL
       generalize zs[j] = z at hc hz1' hz2' hLj
       obtain ⟨n2, rfl⟩ : ∃ n : Nat, z = (n : Int) := ⟨z.toNat, by omega⟩
       have hLj : L[j] = n2 := hLj
       have hd : decide ((j : Int) < (k : Int)) = true := by simp; omega
       have i1 : (0 : Int) ≤ (j : Int) := by omega
       have i2 : (j : Int) < (k : Int) := by omega
       clear hLg
       by_cases hnn : n2 = n
       ·subst hnn
        have hbn : ((n2 : Int) != (n2 : Int)) = false := by simp
        have HLJ := Lib.hid hLj
        clear hLj
        rcases HS.out with ⟨rfl, hP, rfl⟩ | ⟨rfl, m, hm1, hmn, hm30, hsd, hsP, hP30, hws⟩
        ·obtain ⟨U, hU⟩ : ∃ U : List Bool, U = [] := ⟨_, rfl⟩
         have HU0 := Lib.hid (show Value.string { data := #[] } = Value.string (ds U) by rw [hU]; rfl)
         have HPAD := Lib.hid (show U ++ Bit.zs (n2 - U.length) = Y0n (pos L n2 j) n2 by
          rw [hU, hP]
          show Bit.zs n2 = word (0 / share n2) n2
          rw [Nat.zero_div, Yh1])
         have HSTEP := Lib.hid (Ykz.step L n2 j hjL HLJ.out hn1 hn30 (by omega))
         have hUl : U.length ≤ n2 := by rw [hU]; exact Nat.zero_le _
         clear hU hP
         go_wp2_with fail
         go_loop [12] (fun s => ∃ q : Nat, q ≤ n2 - U.length ∧ s = .string (ds (U ++ Bit.zs q))) (fun s => n2 - Yzz s)
         case atStart => exact ⟨0, by omega, by rw [show Bit.zs 0 = [] from rfl, List.append_nil]; first | done | rfl | exact HU0.out⟩
         case round =>
          obtain ⟨q, hq, rfl⟩ := hrel
          have hzz : (ds (U ++ Bit.zs q)).size = U.length + q := by rw [Y0w]; simp [Y0a]
          by_cases hqn : q < n2 - U.length
          ·have hap : ds (U ++ Bit.zs q) ++ { data := #[48] } = ds (U ++ Bit.zs (q + 1)) := by
            refine (Y21 (U ++ Bit.zs q) [false]).trans ?_
            rw [List.append_assoc, show Bit.zs q ++ [false] = Bit.zs (q + 1) from by simp [Bit.zs, List.replicate_succ']]
           have hz0 : ({ data := #[48] } : ByteArray).size = 1 := rfl
           have HZ2 := Lib.hid (show (ds (U ++ Bit.zs (q + 1))).size = (ds (U ++ Bit.zs q)).size + 1 by rw [← hap, ByteArray.size_append]; rfl)
           have hb1 : (ds (U ++ Bit.zs q)).size ≤ 100000 := by omega
           have hd4 : (ds (U ++ Bit.zs q)).size < n2 := by omega
           clear hzz
           go_wp2_with fail
           go_round
           case rel => exact ⟨q + 1, by omega, rfl⟩
           case measure => simp only [Yzz, HZ2.out]; omega
          ·have hqe : q = n2 - U.length := by omega
           have hd4 : ¬ (ds (U ++ Bit.zs q)).size < n2 := by omega
           have hwe : U ++ Bit.zs q = Y0n (pos L n2 j) n2 := by rw [hqe]; exact HPAD.out
           rw [hwe] at hd4 ⊢
           have hb2 := HM.out.1
           have hlen : j < (wfill L n2 j).length := by rw [Y98]; exact hjL
           have hw1 : wr.cell? ⟨nw, j, none⟩ = some ((wfill L n2 j)[j]'hlen) := by simp [World.cell?, hb2, hlen]
           have hw2 := Y1h hb2 j
           have HM2 := Lib.hid (show Yh4 w nw L n2 (j + 1) (wr.setCell ⟨nw, j, none⟩ (.string (ds (Y0n (pos L n2 j) n2)))) from HM.out.put hjL HLJ.out hn2')
           generalize (wfill L n2 j)[j]'hlen = old at hw1
           clear hzz hwe hqe hb2 hlen HU0 HPAD
           have HSN := Lib.hid (HSTEP.out)
           generalize Y0n (pos L n2 j) n2 = W0 at *
           go_wp2_with fail
           go_roundw
           case rel => exact ⟨j + 1, W0, false, by omega, by go_num, rfl, rfl, HM2, Lib.hid HSN.out⟩
           case measure => simp [intOf]; omega
        ·have hlw := Yff (pos L n2 j) m hm30 hsd hsP hP30
         rw [← hws] at hlw
         have hwl : ws.length ≤ 30 := by rw [hws, Y09]; exact hm30
         have hwm : ws.length = m := by rw [hws, Y09]
         have hpt := Ydz L n2 j hjL HLJ.out (by omega) hn30
         have hsp := Y10 n2
         have HLW := Lib.hid hlw
         have HWM := Lib.hid hwm
         clear hlw hws hwm hsP hP30
         go_wp2_with fail
         refine (Ydo ws _ (by omega)).mono ?_
         rintro e w' ⟨rfl, hne⟩
         rcases hne with ⟨a, q, hl', rfl⟩ | ⟨hl', rfl⟩
         ·obtain ⟨hU, hPl⟩ := HLW.out.1 a q hl'
          generalize a ++ true :: Bit.zs q = U at hU ⊢
          have hUm : U.length = m := by rw [hU, Y09]
          have HU0 := Lib.hid (show Value.string (ds U) = Value.string (ds U) from rfl)
          have HPAD := Lib.hid (show U ++ Bit.zs (n2 - U.length) = Y0n (pos L n2 j) n2 by
           rw [hUm, hU]
           exact Ynf _ m n2 hmn hn30 hsd hPl)
          have HSTEP := Lib.hid (Ykz.step L n2 j hjL HLJ.out hn1 hn30 hPl)
          have hUl : U.length ≤ n2 := by omega
          clear hU hUm hl' hPl hpt hsp hsd
          go_wp2_with fail
          go_loop [12] (fun s => ∃ q : Nat, q ≤ n2 - U.length ∧ s = .string (ds (U ++ Bit.zs q))) (fun s => n2 - Yzz s)
          case atStart => exact ⟨0, by omega, by rw [show Bit.zs 0 = [] from rfl, List.append_nil]; first | done | rfl | exact HU0.out⟩
          case round =>
           obtain ⟨q, hq, rfl⟩ := hrel
           have hzz : (ds (U ++ Bit.zs q)).size = U.length + q := by rw [Y0w]; simp [Y0a]
           by_cases hqn : q < n2 - U.length
           ·have hap : ds (U ++ Bit.zs q) ++ { data := #[48] } = ds (U ++ Bit.zs (q + 1)) := by
             refine (Y21 (U ++ Bit.zs q) [false]).trans ?_
             rw [List.append_assoc, show Bit.zs q ++ [false] = Bit.zs (q + 1) from by simp [Bit.zs, List.replicate_succ']]
            have hz0 : ({ data := #[48] } : ByteArray).size = 1 := rfl
            have HZ2 := Lib.hid (show (ds (U ++ Bit.zs (q + 1))).size = (ds (U ++ Bit.zs q)).size + 1 by rw [← hap, ByteArray.size_append]; rfl)
            have hb1 : (ds (U ++ Bit.zs q)).size ≤ 100000 := by omega
            have hd4 : (ds (U ++ Bit.zs q)).size < n2 := by omega
            clear hzz
            go_wp2_with fail
            go_round
            case rel => exact ⟨q + 1, by omega, rfl⟩
            case measure => simp only [Yzz, HZ2.out]; omega
           ·have hqe : q = n2 - U.length := by omega
            have hd4 : ¬ (ds (U ++ Bit.zs q)).size < n2 := by omega
            have hwe : U ++ Bit.zs q = Y0n (pos L n2 j) n2 := by rw [hqe]; exact HPAD.out
            rw [hwe] at hd4 ⊢
            have hb2 := HM.out.1
            have hlen : j < (wfill L n2 j).length := by rw [Y98]; exact hjL
            have hw1 : wr.cell? ⟨nw, j, none⟩ = some ((wfill L n2 j)[j]'hlen) := by simp [World.cell?, hb2, hlen]
            have hw2 := Y1h hb2 j
            have HM2 := Lib.hid (show Yh4 w nw L n2 (j + 1) (wr.setCell ⟨nw, j, none⟩ (.string (ds (Y0n (pos L n2 j) n2)))) from HM.out.put hjL HLJ.out hn2')
            generalize (wfill L n2 j)[j]'hlen = old at hw1
            clear hzz hwe hqe hb2 hlen HU0 HPAD
            have HSN := Lib.hid (HSTEP.out)
            generalize Y0n (pos L n2 j) n2 = W0 at *
            go_wp2_with fail
            go_roundw
            case rel => exact ⟨j + 1, W0, false, by omega, by go_num, rfl, rfl, HM2, Lib.hid HSN.out⟩
            case measure => simp [intOf]; omega
         ·have hPe := HLW.out.2 (by rw [← HWM.out]; exact hl')
          have hgt : ¬ startN L 31 ≤ 1073741824 := by omega
          have HE := Lib.hid (show Yef zs = 3 by rw [HCE.out, if_neg hgt])
          clear hl' hPe hpt hgt hsp
          go_wp2_with fail
          go_ret3
          exact ⟨HM.out.2, .inl ⟨by rw [HE.out]; decide, by rw [HE.out]; rfl⟩⟩
       ·have hbn : ((n2 : Int) != (n : Int)) = true := by simp; omega
        have HM2 := Lib.hid (HM.out.skip hjL (by rw [hLj]; exact hnn))
        have hps := Y5b L n j hjL
        rw [if_neg (by rw [hLj]; exact hnn), Nat.add_zero] at hps
        have HS2 := Lib.hid (show Ykz (pos L n (j + 1)) n ws f by rw [hps]; exact HS.out)
        clear hps hLj
        go_wp2_with fail
        go_roundw
        case rel => exact ⟨j + 1, ws, f, by omega, by go_num, rfl, rfl, HM2, HS2⟩
        case measure => simp [intOf]; omega
      ·have hje : j = k := by omega
       subst hje
       have hd : decide ((j : Int) < (j : Int)) = false := by simp
       have hM := HM.out
       have hS := HS.out.more
       rw [show j = L.length from HLL.out.symm] at hM hS
       rw [Yif L n (by omega), ← Y5c] at hS
       have HM2 := Lib.hid hM.turn
       have HS2 := Lib.hid hS
       clear hM hS
       go_wp2_with fail
       go_roundw
       case rel => exact ⟨n + 1, ws, f, by omega, by omega, by go_num, rfl, rfl, HM2, HS2⟩
       case measure => simp [intOf]; omega
    ·have hne : n = 31 := by omega
     subst hne
     have hdn : decide ((31 : Int) ≤ 30) = false := by simp
     have hwl := HSo.out.len
     have hrow := HMo.out.1
     rw [Ysn L HLM.out, HLE.out] at hrow
     have hlt2 : nw < wr.heap.size := X0f hrow
     have HROW := Lib.hid (Y17 hrow hlt2)
     have HX2 := Lib.hid (show zs.length = k from HX.out)
     clear hrow
     have hTe : pos L 31 0 = startN L 31 := Y5c L 31
     rcases HSo.out with ⟨rfl, hP, rfl⟩ | ⟨rfl, m, hm1, hmn, hm30, hsd, hsP, hP30, hws⟩
     ·rw [hTe] at hP
      have HE := Lib.hid (show Yef zs = 0 by rw [HCE.out, if_pos (by omega)])
      have HF := Lib.hid (show decide (startN (Y1v zs) 31 = 1073741824) = false by rw [← HLE.out, hP]; rfl)
      clear hP hTe
      go_wp2_with fail
      refine (Ydo [] _ (by simp)).mono ?_
      rintro e w' ⟨rfl, hne⟩
      rcases hne with ⟨a, q, hl', _⟩ | ⟨hl', rfl⟩
      ·exfalso
       cases a with
       | nil => cases hl'
       | cons => cases hl'
      ·clear hl'
       go_wp2_with fail
       go_ret3
       exact ⟨HMo.out.2, .inr ⟨HE.out, some ⟨nw, 0, none⟩, k, by rw [HX2.out, HF.out]; first | done | rfl, HROW.out, (fun h => by cases h), by rw [HX2.out]; exact Nat.le_refl _, by unfold maxLen; omega, fun a h => by injection h with h; subst h; exact hn2'⟩⟩
     ·have hlw := Yff (pos L 31 0) m hm30 hsd hsP hP30
      rw [← hws] at hlw
      have hwm : ws0.length = m := by rw [hws, Y09]
      rw [hTe] at hlw hP30
      have HE := Lib.hid (show Yef zs = 0 by rw [HCE.out, if_pos hP30])
      have HLW := Lib.hid hlw
      have HWM := Lib.hid hwm
      clear hlw hws hwm hsP hP30 hsd hTe
      go_wp2_with fail
      refine (Ydo ws0 _ (by omega)).mono ?_
      rintro e w' ⟨rfl, hne⟩
      rcases hne with ⟨a, q, hl', rfl⟩ | ⟨hl', rfl⟩
      ·have hlt3 := (HLW.out.1 a q hl').2
       have HF := Lib.hid (show decide (startN (Y1v zs) 31 = 1073741824) = false by rw [← HLE.out]; simp; omega)
       clear hlt3 hl'
       go_wp2_with fail
       go_ret3
       exact ⟨HMo.out.2, .inr ⟨HE.out, some ⟨nw, 0, none⟩, k, by rw [HX2.out, HF.out]; first | done | rfl, HROW.out, (fun h => by cases h), by rw [HX2.out]; exact Nat.le_refl _, by unfold maxLen; omega, fun a h => by injection h with h; subst h; exact hn2'⟩⟩
      ·have heq3 := HLW.out.2 (by rw [← HWM.out]; exact hl')
       have HF := Lib.hid (show decide (startN (Y1v zs) 31 = 1073741824) = true by rw [← HLE.out, heq3]; rfl)
       clear heq3 hl'
       go_wp2_with fail
       go_ret3
       exact ⟨HMo.out.2, .inr ⟨HE.out, some ⟨nw, 0, none⟩, k, by rw [HX2.out, HF.out]; first | done | rfl, HROW.out, (fun h => by cases h), by rw [HX2.out]; exact Nat.le_refl _, by unfold maxLen; omega, fun a h => by injection h with h; subst h; exact hn2'⟩⟩
end Go.Proofs.YtkkfkmoikcmhoaaGreat.Hf
namespace Go.Proofs.YtkkfkmoikcmhoaaGreat.Inf
open Go.RowKit Oct Bit Hf
set_option maxRecDepth 100000
theorem Yhj {a b : List Bool} (h : a.map dig <+: b.map dig) : a <+: b := by
 rw [List.prefix_iff_eq_take] at h ⊢
 rw [List.length_map, ← List.map_take] at h
 exact Hf.Yxm h
theorem Y43 (L : List Nat) (i : Nat) (s : List UInt8) (h : (Y42 L)[i]? = some s) : ∃ hi : i < L.length, s = (Y0n (pos L L[i] i) L[i]).map dig := by
 obtain ⟨hi, he⟩ := List.getElem?_eq_some_iff.1 h
 have hi' : i < L.length := by rwa [Y2g] at hi
 exact ⟨hi', by rw [← he, Y8g L i hi hi']⟩
theorem Yha (L : List Nat) (hL : ∀ n ∈ L, n ≤ 30) (hT : startN L 31 ≤ 1073741824) : Hf.Good (Y42 L) := by
 constructor
 ·intro s hs
  obtain ⟨i, hi⟩ := List.mem_iff_getElem?.1 hs
  obtain ⟨_, rfl⟩ := Y43 L i s hi
  exact Ygy _
 ·intro i j s t hi hj hij hs ht hp
  obtain ⟨hi', rfl⟩ := Y43 L i s hi
  obtain ⟨hj', rfl⟩ := Y43 L j t hj
  have h0 : L[i] ≠ 0 := by
   intro e
   apply hs
   rw [List.map_eq_nil_iff]
   exact List.eq_nil_of_length_eq_zero (by rw [Y09, e])
  exact Y8h L (fun k hk => hL _ (List.getElem_mem hk)) hT i j hi' hj' hij h0 (Yhj hp)
theorem Yhb (L : List Nat) (hL : ∀ n ∈ L, n ≤ 30) : ∀ s ∈ Y42 L, s.length ≤ 1000000 := by
 intro s hs
 obtain ⟨i, hi⟩ := List.mem_iff_getElem?.1 hs
 obtain ⟨hi', rfl⟩ := Y43 L i s hi
 rw [List.length_map, Y09]
 have := hL _ (List.getElem_mem hi')
 omega
theorem Y3l (L : List Nat) : Y1v (Y05 L) = L := by
 unfold Y1v Y05
 rw [List.map_map]
 have e : (Int.toNat ∘ fun n : Nat => (n : Int)) = id := by funext n; simp
 rw [e, List.map_id]
theorem Yjx (L : List Nat) (hL : ∀ n ∈ L, n ≤ 30) : okZ (Y05 L) = true := by
 unfold okZ Y05
 rw [List.all_eq_true]
 intro z hz
 obtain ⟨n, hn, rfl⟩ := List.mem_map.1 hz
 have := hL n hn
 simp
 omega
theorem Yod (L : List Nat) (hL : ∀ n ∈ L, n ≤ 30) (h : startN L 31 ≤ 1073741824) : Yef (Y05 L) = 0 := by
 unfold Yef
 rw [if_pos (Yjx L hL), Y3l, if_pos h]
theorem Yoe (L : List Nat) (hL : ∀ n ∈ L, n ≤ 30) (h : ¬ startN L 31 ≤ 1073741824) : Yef (Y05 L) = 3 := by
 unfold Yef
 rw [if_pos (Yjx L hL), Y3l, if_neg h]
theorem Ytg {w : World} {g : Nat} {vs : List Value} {T : TypeId} {fr : Nat × Nat} (h : w.heap[g]? = some (.cells vs.toArray T fr)) (i : Nat) (u : Value) : (w.setCell ⟨g, i, none⟩ u).heap[g]? = some (.cells (vs.set i u).toArray T fr) := by
 simp [World.setCell, Array.getElem?_modify, h]
end Go.Proofs.YtkkfkmoikcmhoaaGreat.Inf
namespace Go.Proofs.YtkkfkmoikcmhoaaGreat.Sm
open Go.Sort
variable {α : Type} [Inhabited α] {lt : α → α → Bool}
def swR (a b : Nat) : Nat → Array α → Array α
 | 0, d => d
 | n + 1, d => swp (swR a b n d) (a + n) (b + n)
theorem Y86 (a b n : Nat) (d : Array α) : (swR a b n d).size = d.size := by
 induction n with
 | zero => rfl
 | succ n ih => simp only [swR, size_swp, ih]
theorem Yea {lo hi a b n : Nat} {d : Array α} (h1 : lo ≤ a) (h2 : a + n ≤ b) (h3 : b + n ≤ hi) (h4 : hi ≤ d.size) : PermIn lo hi d (swR a b n d) := by
 induction n with
 | zero => exact permIn_refl _ _ _
 | succ n ih => exact permIn_trans _ _ _ _ _ (ih (by omega) (by omega)) (swp_permIn _ lo hi _ _ (by omega) (by omega) (by omega) (by omega) (by rw [Y86]; omega))
theorem Yiu {a b n : Nat} {d : Array α} (h2 : a + n ≤ b) (h3 : b + n ≤ d.size) (k : Nat) :
  (swR a b n d)[k]! = if a ≤ k ∧ k < a + n then d[k - a + b]! else if b ≤ k ∧ k < b + n then d[k - b + a]! else d[k]! := by
 induction n generalizing k with
 | zero => rw [if_neg (by omega), if_neg (by omega)]; rfl
 | succ n ih =>
  have hs := Y86 a b n d
  simp only [swR]
  rw [swp_get _ (by omega) (by omega), ih (by omega) (by omega), ih (by omega) (by omega), ih (by omega) (by omega)]
  by_cases h4 : k = b + n
  ·subst h4
   rw [if_pos rfl, if_neg (by omega), if_neg (by omega), if_neg (by omega), if_pos (by omega)]
   congr 1; omega
  ·rw [if_neg h4]
   by_cases h5 : k = a + n
   ·subst h5
    rw [if_pos rfl, if_neg (by omega), if_neg (by omega), if_pos (by omega)]
    congr 1; omega
   ·rw [if_neg h5]
    by_cases h6 : a ≤ k ∧ k < a + n
    ·rw [if_pos h6, if_pos (by omega)]
    ·rw [if_neg h6, if_neg (show ¬ (a ≤ k ∧ k < a + (n + 1)) by omega)]
     by_cases h7 : b ≤ k ∧ k < b + n
     ·rw [if_pos h7, if_pos (by omega)]
     ·rw [if_neg h7, if_neg (by omega)]
def Y6b (a m b : Nat) (d : Array α) (k : Nat) : α := if k < a ∨ b ≤ k then d[k]! else if k < a + (b - m) then d[k + (m - a)]! else d[k - (b - m)]!
theorem Y3i {a m b : Nat} {d : Array α} {k : Nat} (h : k < a ∨ b ≤ k) : Y6b a m b d k = d[k]! := by unfold Y6b; rw [if_pos h]
theorem Y80 {a m b : Nat} {d : Array α} {k : Nat} (h1 : a ≤ k) (h2 : k < a + (b - m)) (h3 : m ≤ b) (h4 : a ≤ m) : Y6b a m b d k = d[k + (m - a)]! := by unfold Y6b; rw [if_neg (by omega), if_pos h2]
theorem Y4y {a m b : Nat} {d : Array α} {k : Nat} (h1 : a + (b - m) ≤ k) (h2 : k < b) : Y6b a m b d k = d[k - (b - m)]! := by unfold Y6b; rw [if_neg (by omega), if_neg (by omega)]
theorem Ycj {a b : Nat} {d : Array α} (k : Nat) : Y6b a a b d k = d[k]! := by
 unfold Y6b
 split
 ·rfl
 ·rename_i h
  split
  ·congr 1; omega
  ·omega
theorem Yck {a b : Nat} {d : Array α} (h : a ≤ b) (k : Nat) : Y6b a b b d k = d[k]! := by
 unfold Y6b
 split
 ·rfl
 ·rename_i h
  split
  ·omega
  ·congr 1; omega
theorem Yvi {m i j : Nat} {d : Array α} (hi : i ≤ m) (hj : j < i) (hs : m + j ≤ d.size) (k : Nat) : Y6b (m - (i - j)) m (m + j) (swR (m - i) m j d) k = Y6b (m - i) m (m + j) d k := by
 have g := fun k => Yiu (d := d) (a := m - i) (b := m) (n := j) (by omega) hs k
 unfold Y6b
 by_cases h1 : k < m - i ∨ m + j ≤ k
 ·rw [if_pos (by omega), if_pos h1, g, if_neg (by omega), if_neg (by omega)]
 ·rw [if_neg h1]
  by_cases h2 : k < m - i + (m + j - m)
  ·rw [if_pos h2, if_pos (by omega), g, if_pos (by omega)]
   congr 1; omega
  ·rw [if_neg h2, if_neg (by omega)]
   by_cases h3 : k < m - (i - j) + (m + j - m)
   ·rw [if_pos h3, g, if_neg (by omega), if_pos (by omega)]
    congr 1; omega
   ·rw [if_neg h3, g, if_neg (by omega), if_neg (by omega)]
theorem Yvh {m i j : Nat} {d : Array α} (hi : i ≤ m) (hj : i < j) (hs : m + j ≤ d.size) (k : Nat) : Y6b (m - i) m (m + (j - i)) (swR (m - i) (m + j - i) i d) k = Y6b (m - i) m (m + j) d k := by
 have g := fun k => Yiu (d := d) (a := m - i) (b := m + j - i) (n := i) (by omega) (by omega) k
 unfold Y6b
 by_cases h1 : k < m - i ∨ m + j ≤ k
 ·rw [if_pos (by omega), if_pos h1, g, if_neg (by omega), if_neg (by omega)]
 ·rw [if_neg h1]
  by_cases h2 : k < m - i ∨ m + (j - i) ≤ k
  ·rw [if_pos h2, if_neg (by omega), g, if_neg (by omega), if_pos (by omega)]
   congr 1; omega
  ·rw [if_neg h2]
   by_cases h3 : k < m - i + (m + (j - i) - m)
   ·rw [if_pos h3, if_pos (by omega), g]
    by_cases h4 : k + (m - (m - i)) < m + j - i
    ·rw [if_neg (by omega), if_neg (by omega)]
    ·omega
   ·rw [if_neg h3, g, if_pos (by omega)]
    by_cases h4 : k < m - i + (m + j - m)
    ·rw [if_pos h4]; congr 1; omega
    ·omega
theorem Yvj {m i : Nat} {d : Array α} (hi : i ≤ m) (hs : m + i ≤ d.size) (k : Nat) : (swR (m - i) m i d)[k]! = Y6b (m - i) m (m + i) d k := by
 rw [Yiu (by omega) hs]
 unfold Y6b
 by_cases h1 : k < m - i ∨ m + i ≤ k
 ·rw [if_pos h1, if_neg (by omega), if_neg (by omega)]
 ·rw [if_neg h1]
  by_cases h2 : k < m - i + (m + i - m)
  ·rw [if_pos h2, if_pos (by omega)]; congr 1; omega
  ·rw [if_neg h2, if_neg (by omega), if_pos (by omega)]; congr 1; omega
theorem SortedIn.join {a m b : Nat} {d : Array α} (h1 : SortedIn lt a m d) (h2 : SortedIn lt m b d) (hx : ∀ x y, a ≤ x → x < m → m ≤ y → y < b → lt d[y]! d[x]! = false) : SortedIn lt a b d := by
 intro i j hi hij hj
 by_cases h : j < m
 ·exact h1 i j hi hij h
 ·by_cases h' : i < m
  ·exact hx i j hi h' (by omega) hj
  ·exact h2 i j (by omega) hij hj
theorem SortedIn.sub {a b a' b' : Nat} {d : Array α} (h : SortedIn lt a b d) (h1 : a ≤ a') (h2 : b' ≤ b) : SortedIn lt a' b' d := fun i j hi hij hj => h i j (by omega) hij (by omega)
theorem SortedIn.le {a b : Nat} {d : Array α} (hS : SWO lt) (h : SortedIn lt a b d) {i j : Nat} (hi : a ≤ i) (hij : i ≤ j) (hj : j < b) : lt d[j]! d[i]! = false := by
 rcases Nat.lt_or_ge i j with h' | h'
 ·exact h i j hi h' hj
 ·have : i = j := by omega
  subst this
  exact hS.irrefl _
theorem Ycm {a : Nat} {d : Array α} : SortedIn lt a (a + 1) d := fun i j hi hij hj => by omega
theorem Ybe {a b : Nat} {d : Array α} (h : b ≤ a + 1) : SortedIn lt a b d := fun i j hi hij hj => by omega
structure Cut (lt : α → α → Bool) (a s m e b : Nat) (d : Array α) : Prop where
 hs : a ≤ s
 hm : s ≤ m
 he : m ≤ e
 hb : e ≤ b
 x1 : ∀ x y, a ≤ x → x < s → e ≤ y → y < b → lt d[y]! d[x]! = false
 x2 : ∀ x y, m ≤ x → x < e → s ≤ y → y < m → lt d[y]! d[x]! = false
section
variable {a s m e b : Nat} {d d' : Array α} (hS : SWO lt) (h1 : SortedIn lt a m d) (h2 : SortedIn lt m b d) (C : Cut lt a s m e b d) (hd : ∀ k, d'[k]! = Y6b s m e d k)
include hS h1 h2 C hd
omit hS h2 in
theorem Yom : SortedIn lt a s d' := fun i j hi hij hj => by
 rw [hd, hd, Y3i (by omega), Y3i (by omega)]
 exact h1 i j hi hij (Nat.lt_of_lt_of_le hj C.hm)
omit hS h1 in
theorem Yhh : SortedIn lt s (s + (e - m)) d' := fun i j hi hij hj => by
 have := C.hm; have := C.he
 rw [hd, hd, Y80 (by omega) (by omega) C.he C.hm, Y80 (by omega) (by omega) C.he C.hm]
 exact h2 _ _ (by omega) (by omega) (by have := C.hb; omega)
omit hS h2 in
theorem Yab : SortedIn lt (s + (e - m)) e d' := fun i j hi hij hj => by
 have := C.hm; have := C.he
 rw [hd, hd, Y4y (by omega) (by omega), Y4y (by omega) (by omega)]
 exact h1 _ _ (by have := C.hs; omega) (by omega) (by omega)
omit hS h1 in
theorem Yje : SortedIn lt e b d' := fun i j hi hij hj => by
 rw [hd, hd, Y3i (by omega), Y3i (by omega)]
 exact h2 i j (by have := C.he; omega) hij hj
omit hS in
theorem Yaa (x y : Nat) (hx : a ≤ x) (hx2 : x < s + (e - m)) (hy : s + (e - m) ≤ y) (hy2 : y < b) : lt d'[y]! d'[x]! = false := by
 have h3 := C.hm; have h4 := C.he; have h5 := C.hs; have h6 := C.hb
 rw [hd, hd]
 by_cases hxs : x < s
 ·rw [Y3i (k := x) (by omega)]
  by_cases hye : y < e
  ·rw [Y4y hy hye]
   exact h1 _ _ hx (by omega) (by omega)
  ·rw [Y3i (by omega)]
   exact C.x1 x y hx hxs (by omega) hy2
 ·rw [Y80 (by omega) hx2 h4 h3]
  by_cases hye : y < e
  ·rw [Y4y hy hye]
   exact C.x2 _ _ (by omega) (by omega) (by omega) (by omega)
  ·rw [Y3i (by omega)]
   exact h2 _ _ (by omega) (by omega) hy2
end
theorem Ym8 {a m i b : Nat} {d d' : Array α} (hS : SWO lt) (hm : m = a + 1) (h2 : SortedIn lt m b d) (hi : m ≤ i) (hib : i ≤ b) (hlo : ∀ q, m ≤ q → q < i → lt d[q]! d[a]! = true) (hhi : ∀ q, i ≤ q → q < b → lt d[q]! d[a]! = false)
  (hd : ∀ k, d'[k]! = Y6b a m i d k) : SortedIn lt a b d' := by
 have C : Cut lt a a m i b d := ⟨Nat.le_refl _, by omega, hi, hib, fun x y _ _ => by omega, fun x y hx hx2 hy hy2 => by
  have : y = a := by omega
  subst this
  exact hS.asymmA (hlo x hx hx2)⟩
 have h1 : SortedIn lt a m d := by subst hm; exact Ycm
 refine SortedIn.join (m := a + (i - m)) (Yhh h2 C hd) ?_ (Yaa h1 h2 C hd)
 refine SortedIn.join (m := i) (Yab h1 C hd) (Yje h2 C hd) ?_
 intro x y hx hx2 hy hy2
 rw [hd, hd, Y4y hx hx2, Y3i (by omega), show x - (i - m) = a by omega]
 exact hhi y hy hy2
theorem Yi5 {a m i b : Nat} {d d' : Array α} (hS : SWO lt) (hb : b = m + 1) (h1 : SortedIn lt a m d) (hi : a ≤ i) (him : i ≤ m) (hlo : ∀ q, a ≤ q → q < i → lt d[m]! d[q]! = false) (hhi : ∀ q, i ≤ q → q < m → lt d[m]! d[q]! = true)
  (hd : ∀ k, d'[k]! = Y6b i m b d k) : SortedIn lt a b d' := by
 have C : Cut lt a i m b b d := ⟨hi, him, by omega, Nat.le_refl _, fun x y _ _ => by omega, fun x y hx hx2 hy hy2 => by
  have : x = m := by omega
  subst this
  exact hS.asymmA (hhi y hy hy2)⟩
 have h2 : SortedIn lt m b d := by subst hb; exact Ycm
 refine SortedIn.join (m := i + (b - m)) ?_ (Yab h1 C hd) (Yaa h1 h2 C hd)
 refine SortedIn.join (m := i) (Yom h1 C hd) (Yhh h2 C hd) ?_
 intro x y hx hx2 hy hy2
 rw [hd, hd, Y3i (k := x) (by omega), Y80 hy hy2 C.he C.hm, show y + (m - i) = m by omega]
 exact hlo x hx hx2
structure Srch (lt : α → α → Bool) (d : Array α) (p lo hi start r : Nat) : Prop where
 h1 : lo ≤ start
 h2 : start ≤ r
 h3 : r ≤ hi
 below : lo < start → lt d[p - (start - 1)]! d[start - 1]! = false
 above : r < hi → lt d[p - r]! d[r]! = true
theorem Srch.cut {a m b mid start : Nat} {d : Array α} (hS : SWO lt) (h1 : SortedIn lt a m d) (h2 : SortedIn lt m b d) (ham : a < m) (hmb : m < b) (hmid : mid = (a + b) / 2) {lo hi : Nat} (hlo : lo = if mid < m then mid + m - b else a) (hhi : hi = if mid < m then mid else m)
  (H : Srch lt d (mid + m - 1) lo hi start start) : Cut lt a start m (mid + m - start) b d := by
 have e1 := H.h1; have e2 := H.h3
 have hA : a ≤ start ∧ start ≤ m ∧ m ≤ mid + m - start ∧ mid + m - start ≤ b := by
  by_cases h : mid < m
  ·rw [if_pos h] at hlo hhi; omega
  ·rw [if_neg h] at hlo hhi; omega
 refine ⟨hA.1, hA.2.1, hA.2.2.1, hA.2.2.2, ?_, ?_⟩
 ·intro x y hx hx2 hy hy2
  by_cases hl : lo < start
  ·have hb := H.below hl
   rw [show mid + m - 1 - (start - 1) = mid + m - start by omega] at hb
   have hye := SortedIn.le hS h2 hA.2.2.1 hy hy2
   have hxs := SortedIn.le hS h1 hx (show x ≤ start - 1 by omega) (by omega)
   exact hS.ntrans _ _ _ (hS.ntrans _ _ _ hye hb) hxs
  ·exfalso
   by_cases h : mid < m
   ·rw [if_pos h] at hlo; omega
   ·rw [if_neg h] at hlo; omega
 ·intro x y hx hx2 hy hy2
  by_cases hl : start < hi
  ·have hb := hS.asymmA (H.above hl)
   rw [show mid + m - 1 - start = mid + m - start - 1 by omega] at hb
   have hys := SortedIn.le hS h1 hA.1 hy hy2
   have hxe := SortedIn.le hS h2 hx (show x ≤ mid + m - start - 1 by omega) (by omega)
   exact hS.ntrans _ _ _ (hS.ntrans _ _ _ hys hb) hxe
  ·exfalso
   by_cases h : mid < m
   ·rw [if_pos h] at hhi; omega
   ·rw [if_neg h] at hhi; omega
theorem halves {a mid b : Nat} {d e f : Array α} (hb : b ≤ d.size) (ha : a ≤ mid) (hmb : mid ≤ b) (hx : ∀ x y, a ≤ x → x < mid → mid ≤ y → y < b → lt d[y]! d[x]! = false) (p1 : PermIn a mid d e) (s1 : SortedIn lt a mid e) (p2 : PermIn mid b e f) (s2 : SortedIn lt mid b f) :
  PermIn a b d f ∧ SortedIn lt a b f := by
 have hes : e.size = d.size := p1.1
 refine ⟨permIn_trans _ _ _ _ _ (permIn_mono _ _ _ _ _ _ (Nat.le_refl _) hmb hb p1) (permIn_mono _ _ _ _ _ _ ha (Nat.le_refl _) (by omega) p2), ?_⟩
 have s1' : SortedIn lt a mid f := s1.congrA (fun p hp => p2.2.1 p (Or.inl hp))
 refine SortedIn.join s1' s2 ?_
 intro x y hx1 hx2 hy1 hy2
 have q1 : ∀ y', mid ≤ y' → y' < b → ∀ x', a ≤ x' → x' < mid → lt d[y']! e[x']! = false := fun y' h1 h2 => permIn_all d e a mid (fun v => lt d[y']! v = false) (by omega) p1 (fun i hi hi2 => hx i y' hi hi2 h1 h2)
 have q2 : ∀ x', a ≤ x' → x' < mid → ∀ y', mid ≤ y' → y' < b → lt f[y']! e[x']! = false := fun x' h1 h2 => permIn_all e f mid b (fun v => lt v e[x']! = false) (by omega) p2 (fun i hi hi2 => by
  rw [p1.2.1 i (Or.inr hi)]
  exact q1 i hi hi2 x' h1 h2)
 rw [p2.2.1 x (Or.inl hx2)]
 exact q2 x hx1 hx2 y hy1 hy2
theorem Y3m {a b a' b' : Nat} {d d' : Array α} (hp : PermIn a b d d') (h : SortedIn lt a' b' d) (ho : b' ≤ a ∨ b ≤ a') : SortedIn lt a' b' d' := fun i j hi hij hj => by
 rw [hp.2.1 i (by omega), hp.2.1 j (by omega)]
 exact h i j hi hij hj
end Go.Proofs.YtkkfkmoikcmhoaaGreat.Sm
namespace Go.Proofs.YtkkfkmoikcmhoaaGreat.Sm
open Go.Shelf Go.RowKit Go.Lib Go.Sort
variable {α : Type} [Inhabited α] {P : Program}
structure Lays (P : Program) : Prop where
 mixed : P.follows .mixedOrders = true
 fS : P.funcs[175]? = some Tryz.f175
 fR : P.funcs[174]? = some Tryz.f174
 fM : P.funcs[173]? = some Tryz.f173
 fT : P.funcs[170]? = some Tryz.f170
 t0 : P.underlying 0 = some (TypeDesc.tuple #[])
 a0 : ∀ w, (isAgg 0).run P w = .ok false w
 z0 : ∀ w, (Go.sizeOf 0).run P w = .ok 1 w
 v0 : ∀ w, (zeroValue 0).run P w = .ok (Value.tuple #[]) w
 t3 : P.underlying 3 = some (TypeDesc.int IntKind.i64)
 a3 : ∀ w, (isAgg 3).run P w = .ok false w
 z3 : ∀ w, (Go.sizeOf 3).run P w = .ok 1 w
 v3 : ∀ w, (zeroValue 3).run P w = .ok (Value.int IntKind.i64 0) w
 t4 : P.underlying 4 = some (TypeDesc.bool)
 a4 : ∀ w, (isAgg 4).run P w = .ok false w
 z4 : ∀ w, (Go.sizeOf 4).run P w = .ok 1 w
 v4 : ∀ w, (zeroValue 4).run P w = .ok (Value.bool false) w
 t33 : P.underlying 34 = some (TypeDesc.int IntKind.u64)
 a33 : ∀ w, (isAgg 34).run P w = .ok false w
 z33 : ∀ w, (Go.sizeOf 34).run P w = .ok 1 w
 v33 : ∀ w, (zeroValue 34).run P w = .ok (Value.int IntKind.u64 0) w
 t36 : P.underlying 218 = some (TypeDesc.slice 221)
 a36 : ∀ w, (isAgg 218).run P w = .ok false w
 z36 : ∀ w, (Go.sizeOf 218).run P w = .ok 1 w
 v36 : ∀ w, (zeroValue 218).run P w = .ok (Value.slice none 0 0) w
 t49 : P.underlying 244 = some (TypeDesc.func #[221, 221] #[3] false)
 a49 : ∀ w, (isAgg 244).run P w = .ok false w
 z49 : ∀ w, (Go.sizeOf 244).run P w = .ok 1 w
 v49 : ∀ w, (zeroValue 244).run P w = .ok (Value.nilFunc) w
 aE : ∀ w, (isAgg 221).run P w = .ok true w
theorem lays : Lays Tryz.prog where
 mixed := by kernel_rfl
 fS := Tryz.func175
 fR := Tryz.func174
 fM := Tryz.func173
 fT := Tryz.func170
 t0 := by kernel_rfl
 a0 _ := by kernel_rfl
 z0 _ := by kernel_rfl
 v0 _ := by kernel_rfl
 t3 := by kernel_rfl
 a3 _ := by kernel_rfl
 z3 _ := by kernel_rfl
 v3 _ := by kernel_rfl
 t4 := by kernel_rfl
 a4 _ := by kernel_rfl
 z4 _ := by kernel_rfl
 v4 _ := by kernel_rfl
 t33 := by kernel_rfl
 a33 _ := by kernel_rfl
 z33 _ := by kernel_rfl
 v33 _ := by kernel_rfl
 t36 := by kernel_rfl
 a36 _ := by kernel_rfl
 z36 _ := by kernel_rfl
 v36 _ := by kernel_rfl
 t49 := by kernel_rfl
 a49 _ := by kernel_rfl
 z49 _ := by kernel_rfl
 v49 _ := by kernel_rfl
 aE _ := by kernel_rfl
theorem Yvr (w : World) : (Go.sizeOf 221).run Tryz.prog w = .ok 3 w := by kernel_rfl
set_option maxHeartbeats 4000000 in
set_option maxRecDepth 1000000 in
theorem Yn4 (L : Lays P) (k : Nat) (zE : ∀ w, (Go.sizeOf 221).run P w = .ok k w) (enc : α → List Value) (blk off cap a b n : Nat) (fv : Value) (d0 d : Array α) (w0 w : World) (R : RowK enc k w0 blk off d0) (hs : d0.size = d.size) (S : SWK enc k w0 blk off d w) (hab : a + n ≤ b) (hb : b + n ≤ d.size) (hsz : d.size < 4611686018427387904) :
  Calls P 175 #[.slice (some ⟨blk, off, none⟩) d.size cap, .int .i64 a, .int .i64 b, .int .i64 n, fv] w fun e w' => e = .returned (.tuple #[]) ∧ SWK enc k w0 blk off (swR a b n d) w' := by
 have mixed := L.mixed; have t0 := L.t0; have a0 := L.a0; have z0 := L.z0; have v0 := L.v0; have t3 := L.t3; have a3 := L.a3; have z3 := L.z3; have v3 := L.v3; have t4 := L.t4; have a4 := L.a4; have z4 := L.z4; have v4 := L.v4; have t33 := L.t33; have a33 := L.a33; have z33 := L.z33; have v33 := L.v33; have t36 := L.t36; have a36 := L.a36; have z36 := L.z36; have v36 := L.v36; have t49 := L.t49; have a49 := L.a49; have z49 := L.z49; have v49 := L.v49; have aE := L.aE
 have S0 : Aside (SWK enc k w0 blk off d w) := S
 clear S
 go_enter L.fS, Tryz.ntmps175
 go_wp2
 go_loopg [10] n (fun kx s10 wr => ∃ (i : Nat), s10 = .int .i64 i ∧ i ≤ n ∧ n - i ≤ kx ∧ Aside (SWK enc k w0 blk off (swR a b i d) wr))
 case atStart => exact ⟨0, rfl, by omega, by omega, S0⟩
 case round =>
  clear S0
  obtain ⟨i, rfl, hin, hkx, S1⟩ := hrel
  by_cases hlt : i < n
  ·have hltz : (i : Int) < (n : Int) := by omega
   obtain ⟨dk, hdk⟩ : ∃ dk, dk = swR a b i d := ⟨_, rfl⟩
   have hds : dk.size = d.size := by rw [hdk, Y86]
   rw [← hdk] at S1
   have hsw : swp dk (a + i) (b + i) = swR a b (i + 1) d := by rw [hdk]; rfl
   have wa : IntKind.i64.wrap ((a : Int) + (i : Int)) = ((a + i : Nat) : Int) := by rw [IntKind.wrap_i64]; omega
   have wb : IntKind.i64.wrap ((b : Int) + (i : Int)) = ((b + i : Nat) : Int) := by rw [IntKind.wrap_i64]; omega
   have ea : (((a + i : Nat) : Int)).toNat = a + i := by omega
   have pa : (0 : Int) ≤ ((a + i : Nat) : Int) := by omega
   have ba : ((a + i : Nat) : Int) < (d.size : Int) := by omega
   have eb : (((b + i : Nat) : Int)).toNat = b + i := by omega
   have pb : (0 : Int) ≤ ((b + i : Nat) : Int) := by omega
   have bb : ((b + i : Nat) : Int) < (d.size : Int) := by omega
   have S2 : Aside (SWK enc k w0 blk off (swp dk (a + i) (b + i)) ((wr.drew.setCells blk (off + (a + i) * k) (enc dk[b + i]!)).setCells blk (off + (b + i) * k) (enc dk[a + i]!))) := S1.out.swapped R _ _ (by omega) (by omega)
   have la := S1.out.ld1 R (by omega) P (a + i) (by omega)
   have lb := S1.out.ld1 R (by omega) P (b + i) (by omega)
   have sa := S1.out.st1 R (by omega) P (a + i) (by omega) dk[b + i]!
   have sb := S1.out.st2 R (by omega) P (a + i) (b + i) (by omega) (by omega) dk[b + i]! dk[a + i]!
   have na : (enc dk[a + i]!).length = k := R.hk _
   have nb : (enc dk[b + i]!).length = k := R.hk _
   generalize enc dk[a + i]! = cI at S2 la sb na
   generalize enc dk[b + i]! = cJ at S2 lb sa sb nb
   rw [hsw] at S2
   have HH : Hid (a + n ≤ b ∧ b + n ≤ d.size ∧ d.size < 4611686018427387904) := ⟨hab, hb, hsz⟩
   generalize ha1 : a + i = ai at *
   generalize hb1 : b + i = bi at *
   have HI : Hid (a + i = ai ∧ b + i = bi) := ⟨ha1, hb1⟩
   clear S1 ha1 hb1 hsw hdk hds
   go_wp2_with fail
   go_big_region_o
   clear la lb sa sb
   generalize (wr.drew.setCells blk (off + ai * k) cJ).setCells blk (off + bi * k) cI = w2 at S2 ⊢
   go_wp2
   go_roundg (n - (i + 1))
   case measure => omega
   case rel => exact ⟨i + 1, by go_num, by omega, Nat.le_refl _, S2⟩
  ·have hltz : ¬ (i : Int) < (n : Int) := by omega
   have hin' : i = n := by omega
   go_wp2
   go_end0
   subst hin'
   exact ⟨rfl, S1.out⟩
end Go.Proofs.YtkkfkmoikcmhoaaGreat.Sm

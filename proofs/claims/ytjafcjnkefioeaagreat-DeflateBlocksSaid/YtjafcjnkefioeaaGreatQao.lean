/- HfE, HfF, IgK: merged. -/
import Derived.Laws.BitsAllLaws
import Derived.Laws.Strings
import Derived.Laws.BytesArg
import Derived.Test.YtjafcjnkefioeaaGreatRows
import Derived.WalkKit
import Derived.ProofKit
import Derived.WalkLawsBesides
import Derived.Lib.Hide
import Derived.Deep.QuietTactic
import Derived.BigQuiet
import Derived.Outline
import Derived.Laws.NewBlocks
import Derived.Laws.CopyOwn
import Derived.Laws.Concat
import Derived.Laws.Strings2
import Derived.WalkSpells
import Derived.Laws.AppendOwnNone
import Derived.OpenShut
import Derived.Lib.SliceRun
import Derived.Deep.MidRow
import Derived.Deep.WholeRow
import Derived.Laws.ResultCell
import Derived.Deep.RegionHeld3
import Derived.ChangeKeysEq
import Derived.Laws.Pointers
import Derived.Deep.RegionLaw
import Derived.Deep.DeepCutAuto
import Derived.BigRegion
import Derived.Deep.AppendLies
import Derived.Laws.Externs
import Derived.Laws.IdiomCopy
import Derived.Lib.EndianMore
import Derived.Shelf.Spec.SlicesGrow
import Derived.LoopTactic
import Derived.Deep.LoopGhost
import Derived.Test.YtjafcjnkefioeaaGreatQaj
import Derived.Test.YtjafcjnkefioeaaGreatQan
set_option linter.unusedVariables false
set_option linter.unusedSimpArgs false
/- The contracts of the document's next and Canon. -/
namespace Go.Proofs.YtjafcjnkefioeaaGreat.Hf
open Go.RowKit Go.Proofs.YtjafcjnkefioeaaGreat.Oct Go.Proofs.YtjafcjnkefioeaaGreat.Bit
set_option maxRecDepth 100000
def NextP (w : World) (l : List Bool) (e : Ending) (w' : World) : Prop :=
  w = w' ∧ ((∃ a k, l = a ++ false :: List.replicate k true ∧ e = .returned (.tuple #[.string (ds (a ++ true :: zs k)), .bool true])) ∨
    (l = List.replicate l.length true ∧ e = .returned (.tuple #[.string ⟨#[]⟩, .bool false])))
def strN : Value → Nat
  | .string b => b.size
  | _ => 0
set_option maxHeartbeats 1000000 in
theorem next_law (l : List Bool) (w : World) (hl : l.length ≤ 100000) : Calls Tryz.prog 111 #[.string (ds l)] w (NextP w l) := by
  have hsz := ds_size l
  go_enter Tryz.func111, Tryz.ntmps111
  go_wp2_with fail
  go_loop [4, 5] (fun i s => ∃ k : Nat, k ≤ l.length ∧ i = .int .i64 ((l.length : Int) - 1 - (k : Int)) ∧ Hid (l.drop (l.length - k) = List.replicate k true)) (fun i _ => (intOf i + 1).toNat)
  case atStart => exact ⟨0, by omega, by go_num, Lib.hid (by simp)⟩
  case round =>
    obtain ⟨k, hk, rfl, hH⟩ := hrel
    by_cases hlt : k < l.length
    · obtain ⟨i, hi⟩ : ∃ i : Nat, i = l.length - 1 - k := ⟨_, rfl⟩
      have hil : i < l.length := by omega
      have HIK := Lib.hid (show i + 1 + k = l.length by omega)
      rw [show (l.length : Int) - 1 - (k : Int) = (i : Int) by omega]
      obtain ⟨b, hb⟩ : ∃ b, b = l[i] := ⟨_, rfl⟩
      have hg : ∀ h, (ds l)[i]'h = dig b := fun h => (ds_get l i h hil).trans (by rw [hb])
      have hdr : l.drop (l.length - k) = l.drop (i + 1) := by congr 1; omega
      have hcut : l.drop i = b :: l.drop (i + 1) := by rw [hb]; exact List.drop_eq_getElem_cons hil
      have HH := Lib.hid (hdr.symm.trans hH.out)
      have HCUT := Lib.hid hcut
      have i0 : (0 : Int) ≤ (i : Int) := by omega
      have hd : decide ((0 : Int) ≤ (i : Int)) = true := by simp
      clear hb hdr hcut hH hi hk hlt
      cases b
      · have hz2 : (ds (l.take i)).size = i := by rw [ds_size, List.length_take]; omega
        have hx := ds_extract l 0 i
        rw [List.drop_zero, Nat.sub_zero] at hx
        have hap : ds (l.take i) ++ { data := #[49] } = ds (l.take i ++ [true]) := ds_append (l.take i) [true]
        have hz1 : ({ data := #[49] } : ByteArray).size = 1 := rfl
        have hdb : (((dig false).toNat : Int) == 48) = true := rfl
        go_wp2_with fail
        generalize hae : l.take i = a at *
        have HA := Lib.hid hae.symm
        clear hae
        have HAL := Lib.hid (show a.length = i by rw [← ds_size]; exact hz2)
        have hn1 : decide ((0 : Int) ≤ (i : Int)) = true := hd
        clear hx hap hz2
        go_loop [5] (fun s => ∃ j : Nat, j ≤ k ∧ s = .string (ds (a ++ true :: zs j))) (fun s => l.length - strN s)
        case atStart => exact ⟨0, by omega, rfl⟩
        case round =>
          obtain ⟨j, hj, rfl⟩ := hrel
          have hzz : (ds (a ++ true :: zs j)).size = i + 1 + j := by
            rw [ds_size]; simp [zs_length, HAL.out]; omega
          by_cases hjk : j < k
          · have hap : ds (a ++ true :: zs j) ++ { data := #[48] } = ds (a ++ true :: zs (j + 1)) := by
              refine (ds_append (a ++ true :: zs j) [false]).trans ?_
              rw [List.append_assoc, List.cons_append, show zs j ++ [false] = zs (j + 1) from by simp [zs, List.replicate_succ']]
            have hz0 : ({ data := #[48] } : ByteArray).size = 1 := rfl
            have HZ2 := Lib.hid (show (ds (a ++ true :: zs (j + 1))).size = (ds (a ++ true :: zs j)).size + 1 by rw [← hap, ByteArray.size_append]; rfl)
            have hb1 : (ds (a ++ true :: zs j)).size ≤ 100000 := by have := HIK.out; omega
            have hd4 : (ds (a ++ true :: zs j)).size < l.length := by have := HIK.out; omega
            clear hzz
            go_wp2_with fail
            go_round
            case rel => exact ⟨j + 1, by omega, rfl⟩
            case measure => simp only [strN, HZ2.out]; omega
          · have hje : j = k := by omega
            subst hje
            have hd4 : ¬ (ds (a ++ true :: zs j)).size < l.length := by have := HIK.out; omega
            have hcat : l = a ++ false :: List.replicate j true := by rw [← HH.out, ← HCUT.out, HA.out, List.take_append_drop]
            have HC := Lib.hid hcat
            clear hzz hcat
            go_wp2_with fail
            go_ret2
            exact ⟨rfl, .inl ⟨a, j, HC.out, rfl⟩⟩
      · have hdb : (((dig true).toNat : Int) == 48) = false := rfl
        go_wp2_with fail
        go_round
        case rel => exact ⟨k + 1, by have := HIK.out; omega, by have := HIK.out; go_num, Lib.hid (by rw [show l.length - (k + 1) = i by have := HIK.out; omega, HCUT.out, HH.out]; rfl)⟩
        case measure => simp [intOf]
    · have hke : k = l.length := by omega
      subst hke
      have hH' := hH.out
      rw [Nat.sub_self, List.drop_zero] at hH'
      have HH := Lib.hid hH'
      have hneg : (l.length : Int) - 1 - (l.length : Int) = -1 := by omega
      rw [hneg]
      clear hH hH' hneg
      go_wp2_with fail
      go_ret2
      exact ⟨rfl, .inr ⟨HH.out, rfl⟩⟩
end Go.Proofs.YtjafcjnkefioeaaGreat.Hf
/- The contract of the document's Canon. -/
namespace Go.Proofs.YtjafcjnkefioeaaGreat.Hf
open Go.RowKit Go.Proofs.YtjafcjnkefioeaaGreat.Oct Go.Proofs.YtjafcjnkefioeaaGreat.Bit
set_option maxRecDepth 100000
def wcell (L : List Nat) (n i j : Nat) : Value :=
  if L.getD j 0 < n ∨ (L.getD j 0 = n ∧ j < i) then .string (ds (wordAt (pos L (L.getD j 0) j) (L.getD j 0))) else .string ByteArray.empty
def wfill (L : List Nat) (n i : Nat) : List Value := (List.range L.length).map (wcell L n i)
theorem wfill_length (L : List Nat) (n i : Nat) : (wfill L n i).length = L.length := by simp [wfill]
theorem wfill_start (L : List Nat) : wfill L 1 0 = List.replicate L.length (.string ByteArray.empty) := by
  unfold wfill
  apply List.ext_getElem
  · simp
  · intro j h1 h2
    simp only [List.getElem_map, List.getElem_range, List.getElem_replicate]
    unfold wcell
    split
    · rename_i h
      have h0 : L.getD j 0 = 0 := by omega
      rw [h0]
      rfl
    · rfl
theorem wfill_turn (L : List Nat) (n : Nat) : wfill L n L.length = wfill L (n + 1) 0 := by
  unfold wfill
  refine List.map_congr_left fun j hj => ?_
  have hj : j < L.length := by simpa using hj
  unfold wcell
  by_cases h : L.getD j 0 < n ∨ (L.getD j 0 = n ∧ j < L.length)
  · rw [if_pos h, if_pos (by omega)]
  · rw [if_neg h, if_neg (by omega)]
theorem wfill_skip (L : List Nat) (n i : Nat) (hi : i < L.length) (hn : L[i] ≠ n) : wfill L n i = wfill L n (i + 1) := by
  unfold wfill
  refine List.map_congr_left fun j hj => ?_
  unfold wcell
  have hg : L.getD i 0 = L[i] := by simp [List.getD, List.getElem?_eq_getElem hi]
  by_cases hji : j = i
  · subst hji
    rw [hg]
    by_cases h : L[j] < n ∨ (L[j] = n ∧ j < j)
    · rw [if_pos h, if_pos (by omega)]
    · rw [if_neg h, if_neg (by omega)]
  · by_cases h : L.getD j 0 < n ∨ (L.getD j 0 = n ∧ j < i)
    · rw [if_pos h, if_pos (by omega)]
    · rw [if_neg h, if_neg (by omega)]
theorem wfill_put (L : List Nat) (n i : Nat) (hi : i < L.length) (hn : L[i] = n) : (wfill L n i).set i (.string (ds (wordAt (pos L n i) n))) = wfill L n (i + 1) := by
  have hg : L.getD i 0 = n := by simp [List.getD, List.getElem?_eq_getElem hi, hn]
  apply List.ext_getElem
  · simp [wfill]
  · intro j h1 h2
    rw [List.getElem_set]
    simp only [wfill, List.getElem_map, List.getElem_range]
    unfold wcell
    by_cases hji : i = j
    · subst hji
      rw [if_pos rfl, hg, if_pos (by omega)]
    · rw [if_neg hji]
      by_cases h : L.getD j 0 < n ∨ (L.getD j 0 = n ∧ j < i)
      · rw [if_pos h, if_pos (by omega)]
      · rw [if_neg h, if_neg (by omega)]
theorem wfill_end (L : List Nat) (hL : ∀ i (h : i < L.length), L[i] ≤ 30) : wfill L 31 0 = strs (canonB L) := by
  apply List.ext_getElem
  · simp [wfill, strs_length, canonB_length]
  · intro j h1 h2
    have hj : j < L.length := by simpa [wfill] using h1
    have hg : L.getD j 0 = L[j] := by simp [List.getD, List.getElem?_eq_getElem hj]
    simp only [wfill, List.getElem_map, List.getElem_range, strs]
    rw [canonB_get L j _ hj]
    unfold wcell
    have := hL j hj
    rw [hg, if_pos (by omega)]
    rfl
def RefS (P n : Nat) (was : List Bool) (first : Bool) : Prop :=
  (first = true ∧ P = 0 ∧ was = []) ∨ (first = false ∧ ∃ m, 1 ≤ m ∧ m ≤ n ∧ m ≤ 30 ∧ share m ∣ P ∧ share m ≤ P ∧ P ≤ 1073741824 ∧ was = wordAt (P - share m) m)
theorem RefS.more {P n : Nat} {was : List Bool} {first : Bool} (h : RefS P n was first) : RefS P (n + 1) was first := by
  rcases h with h | ⟨h1, m, h2, h3, h4⟩
  · exact .inl h
  · exact .inr ⟨h1, m, h2, by omega, h4⟩
theorem RefS.len {P n : Nat} {was : List Bool} {first : Bool} (h : RefS P n was first) : was.length ≤ 30 := by
  rcases h with ⟨_, _, rfl⟩ | ⟨_, m, _, _, h4, _, _, _, rfl⟩
  · simp
  · rw [wordAt_length]; exact h4
theorem last_word (P m : Nat) (h30 : m ≤ 30) (hd : share m ∣ P) (h1 : share m ≤ P) (h2 : P ≤ 1073741824) :
    (∀ a k, wordAt (P - share m) m = a ++ false :: List.replicate k true → a ++ true :: zs k = wordAt P m ∧ P < 1073741824) ∧ (wordAt (P - share m) m = List.replicate m true → P = 1073741824) := by
  have hs := share_pos m
  have ht := share_top m h30
  obtain ⟨q, rfl⟩ := hd
  have hq0 : 1 ≤ q := by
    rcases Nat.eq_zero_or_pos q with h | h
    · subst h; rw [Nat.mul_zero] at h1; omega
    · exact h
  have e1 : share m * q / share m = q := Nat.mul_div_cancel_left q hs
  have e2 : (share m * q - share m) / share m = q - 1 := by
    rw [show share m * q - share m = share m * (q - 1) from by rw [Nat.mul_sub, Nat.mul_one]]
    exact Nat.mul_div_cancel_left (q - 1) hs
  have hq : q ≤ 2 ^ m := by
    rw [← ht, Nat.mul_comm] at h2
    exact Nat.le_of_mul_le_mul_right h2 hs
  have hv : q - 1 < 2 ^ m := by omega
  unfold wordAt
  rw [e1, e2]
  constructor
  · intro a k h
    obtain ⟨x, y⟩ := word_next (q - 1) m k a hv h
    rw [show q - 1 + 1 = q by omega] at x y
    refine ⟨x, ?_⟩
    rw [← ht, Nat.mul_comm]
    exact Nat.mul_lt_mul_of_pos_right y hs
  · intro h
    have := word_last (q - 1) m hv h
    rw [← ht, Nat.mul_comm, show q = 2 ^ m by omega]
theorem RefS.step (L : List Nat) (n i : Nat) (hi : i < L.length) (hn : L[i] = n) (h0 : 1 ≤ n) (h30 : n ≤ 30) (hP : pos L n i < 1073741824) : RefS (pos L n (i + 1)) n (wordAt (pos L n i) n) false := by
  have e := pos_succ L n i hi
  rw [if_pos hn] at e
  have hs := share_pos n
  have hd := pos_dvd L n i h30
  refine .inr ⟨rfl, n, h0, Nat.le_refl _, h30, pos_dvd L n (i + 1) h30, by omega, ?_, by rw [e, Nat.add_sub_cancel]⟩
  rw [e]
  obtain ⟨q, hq⟩ := hd
  have ht := share_top n h30
  rw [hq, ← ht, Nat.mul_comm] at hP
  have hql := Nat.lt_of_mul_lt_mul_right hP
  rw [hq, ← ht, Nat.mul_comm, ← Nat.succ_mul]
  exact Nat.mul_le_mul_right _ hql
theorem blk_lt {W : World} {d : Nat} {o : Obj} (h : W.heap[d]? = some o) : d < W.heap.size := by
  rcases Nat.lt_or_ge d W.heap.size with hlt | hge
  · exact hlt
  · rw [Array.getElem?_eq_none hge] at h; cases h
def RefM (w : World) (nw : Nat) (L : List Nat) (n i : Nat) (W : World) : Prop := W.heap[nw]? = some (.cells (wfill L n i).toArray 9 (0, 0)) ∧ Below w.heap.size w W
theorem RefM.put {w W : World} {nw n i : Nat} {L : List Nat} (h : RefM w nw L n i W) (hi : i < L.length) (hn : L[i] = n) (hw : w.heap.size ≤ nw) : RefM w nw L n (i + 1) (W.setCell ⟨nw, i, none⟩ (.string (ds (wordAt (pos L n i) n)))) := by
  refine ⟨?_, h.2.setCell (p := ⟨nw, i, none⟩) hw _⟩
  rw [blk_set h.1, List.setIfInBounds_toArray, wfill_put L n i hi hn]
theorem RefM.skip {w W : World} {nw n i : Nat} {L : List Nat} (h : RefM w nw L n i W) (hi : i < L.length) (hn : L[i] ≠ n) : RefM w nw L n (i + 1) W := by
  unfold RefM
  rw [← wfill_skip L n i hi hn]
  exact h
theorem RefM.turn {w W : World} {nw n : Nat} {L : List Nat} (h : RefM w nw L n L.length W) : RefM w nw L (n + 1) 0 W := by
  unfold RefM
  rw [← wfill_turn]
  exact h
theorem lensN_max (zs : List Int) (h : okZ zs = true) (i : Nat) (hi : i < (lensN zs).length) : (lensN zs)[i] ≤ 30 := by
  have hi' : i < zs.length := by rwa [lensN_length] at hi
  have := okZ_get zs h i hi'
  rw [lensN_get zs i hi hi']
  omega
set_option maxHeartbeats 4000000 in
theorem rcanon_any (p : Option Addr) (len cap : Nat) (zs : List Int) (w : World) (hr : VRow w w.heap.size p (ints zs)) (hx : zs.length = len) (hl : len ≤ 100000) :
    Calls Tryz.prog 75 #[.slice p len cap] w (CanonP w zs) := by
  obtain ⟨i0, hi, hz0, hz1, hz2⟩ := info_parts Tryz.infoStr
  have HX := Lib.hid hx
  have HR := Lib.hid hr
  clear hx hr
  go_enter Tryz.func75, Tryz.ntmps75
  go_wp2_with (at_make; refine wpList_make_full _ rfl _ _ 97 rfl w.heap.size 9 i0 (.string ByteArray.empty) 1 Tryz.underlying97 hi hz0 hz1 .i64 .i64 (len : Int) (len : Int) len rfl rfl rfl rfl ?c2 ?c3 ?c4 ?_)
  case c2 => rw [hz2]; omega
  case c3 => unfold maxLen; omega
  case c4 => omega
  intro w1 hown hgrow
  have hb1 : Below w.heap.size w w1 := (Below.refl _ _).grown hgrow (Nat.le_refl _) (fun k hk => by cases hk)
  have hnw := blk_of_own hown
  rw [made_vals] at hnw
  have HB1 := Lib.hid hb1
  have HNW := Lib.hid hnw
  have hn2' : w.heap.size ≤ w.heap.size := Nat.le_refl _
  have hnlt : w.heap.size < w1.heap.size := by
    rcases Nat.lt_or_ge w.heap.size w1.heap.size with h | h
    · exact h
    · rw [Array.getElem?_eq_none h] at hnw; cases hnw
  clear hown hgrow hb1 hnw
  generalize hnwe : w.heap.size = nw at HNW hnlt ⊢
  have hn2' : w.heap.size ≤ nw := by omega
  clear hnwe
  go_wp2_with fail
  go_loop [6] (fun i => ∃ k : Nat, k ≤ len ∧ i = .int .i64 (k : Int) ∧ Hid (okZ (zs.take k) = true)) (fun i => len - (intOf i).toNat)
  case atStart => exact ⟨0, by omega, rfl, rfl⟩
  case round =>
    obtain ⟨k, hk, rfl, HO⟩ := hrel
    by_cases hlt : k < len
    · have hkz : k < zs.length := by rw [HX.out]; exact hlt
      obtain ⟨b, off, hp, hbl⟩ := HR.out.addr (by rw [ints_length]; omega)
      subst hp
      have hc := (HB1.out.cell (p := ⟨b, off + k, none⟩) hbl).trans (HR.out.int k hkz)
      have HT := Lib.hid (okZ_take zs k hkz HO.out)
      have HBAD := Lib.hid (okZ_bad zs k hkz)
      generalize zs[k] = z at hc HT HBAD
      have hd : decide ((k : Int) < (len : Int)) = true := by simp; omega
      have i1 : (0 : Int) ≤ (k : Int) := by omega
      have i2 : (k : Int) < (len : Int) := by omega
      by_cases h0 : z < 0
      · have hd0 : decide (z < 0) = true := by simpa using h0
        have HE := Lib.hid (HBAD.out (.inl h0))
        go_wp2_with fail
        go_ret3
        exact ⟨HB1.out, .inl ⟨by rw [HE.out]; decide, by rw [HE.out]; rfl⟩⟩
      · have hd0 : decide (z < 0) = false := by simpa using h0
        by_cases h30 : 30 < z
        · have hd1 : decide (30 < z) = true := by simpa using h30
          have HE := Lib.hid (HBAD.out (.inr h30))
          go_wp2_with fail
          go_ret3
          exact ⟨HB1.out, .inl ⟨by rw [HE.out]; decide, by rw [HE.out]; rfl⟩⟩
        · have hd1 : decide (30 < z) = false := by simpa using h30
          have HT2 := Lib.hid (HT.out (by omega) (by omega))
          clear HT HBAD
          go_wp2_with fail
          go_round
          case rel => exact ⟨k + 1, by omega, by go_num, HT2⟩
          case measure => simp [intOf]; omega
    · have hkl : k = len := by omega
      subst hkl
      have hd : decide ((k : Int) < (k : Int)) = false := by simp
      have hOk := HO.out
      rw [← HX.out, List.take_length] at hOk
      have hLl := lensN_length zs
      obtain ⟨L, hL⟩ : ∃ L, L = lensN zs := ⟨_, rfl⟩
      have hcE : cErr zs = if startN L 31 ≤ 1073741824 then 0 else 3 := by unfold cErr; rw [if_pos hOk, hL]
      rw [← hL] at hLl
      rw [HX.out] at hLl
      have HLL := Lib.hid hLl
      have HLE := Lib.hid hL
      have HCE := Lib.hid hcE
      have HOK := Lib.hid hOk
      have HLM := Lib.hid (show ∀ i (h : i < L.length), L[i] ≤ 30 by rw [hL]; exact lensN_max zs hOk)
      have HM0 := Lib.hid (show RefM w nw L 1 0 w1 from ⟨by rw [wfill_start, hLl]; exact HNW.out, HB1.out⟩)
      have HS0 := Lib.hid (show RefS (pos L 1 0) 1 [] true from .inl ⟨rfl, by rw [pos_zero, startN_one], rfl⟩)
      clear hLl hL hcE hOk HO HNW HB1
      go_wp2_with fail
      go_loopw [7, 8, 9, 10, 11, 12] (fun was ok first n i s wr => ∃ (n' : Nat) (ws : List Bool) (f : Bool), n' ≤ 31 ∧ 1 ≤ n' ∧ n = .int .i64 (n' : Int) ∧ was = .string (ds ws) ∧ first = .bool f ∧ Hid (RefM w nw L n' 0 wr) ∧ Hid (RefS (pos L n' 0) n' ws f)) (fun _ _ _ n _ _ _ => 31 - (intOf n).toNat)
      case atStart => exact ⟨1, [], true, by omega, by omega, rfl, rfl, rfl, HM0, HS0⟩
      case round =>
        obtain ⟨n, ws0, f0, hn31, hn1, rfl, rfl, rfl, HMo, HSo⟩ := hrel
        by_cases hn30 : n ≤ 30
        · have hdn : decide ((n : Int) ≤ 30) = true := by simp; omega
          go_wp2_with fail
          go_loopw [7, 8, 9, 11, 12] (fun was ok first i s wr => ∃ (j : Nat) (ws : List Bool) (f : Bool), j ≤ k ∧ i = .int .i64 (j : Int) ∧ was = .string (ds ws) ∧ first = .bool f ∧ Hid (RefM w nw L n j wr) ∧ Hid (RefS (pos L n j) n ws f)) (fun _ _ _ i _ _ => k - (intOf i).toNat)
          case atStart => exact ⟨0, ws0, f0, by omega, rfl, rfl, rfl, HMo, HSo⟩
          case round =>
            obtain ⟨j, ws, f, hj, rfl, rfl, rfl, HM, HS⟩ := hrel
            by_cases hlt : j < k
            · have hjz : j < zs.length := by rw [HX.out]; exact hlt
              have hjL : j < L.length := by rw [HLL.out]; exact hlt
              obtain ⟨b, off, hp, hbl⟩ := HR.out.addr (by rw [ints_length]; omega)
              subst hp
              have hc := (HM.out.2.cell (p := ⟨b, off + j, none⟩) hbl).trans (HR.out.int j hjz)
              obtain ⟨hz1', hz2'⟩ := okZ_get zs HOK.out j hjz
              have hLg : ∀ h : j < L.length, L[j] = zs[j].toNat := by
                intro h
                have := lensN_get zs j (by rw [lensN_length]; exact hjz) hjz
                rw [← this]
                congr 1
              have hLj := hLg hjL
              generalize zs[j] = z at hc hz1' hz2' hLj
              obtain ⟨n2, rfl⟩ : ∃ n : Nat, z = (n : Int) := ⟨z.toNat, by omega⟩
              have hLj : L[j] = n2 := hLj
              have hd : decide ((j : Int) < (k : Int)) = true := by simp; omega
              have i1 : (0 : Int) ≤ (j : Int) := by omega
              have i2 : (j : Int) < (k : Int) := by omega
              clear hLg
              by_cases hnn : n2 = n
              · subst hnn
                have hbn : ((n2 : Int) != (n2 : Int)) = false := by simp
                have HLJ := Lib.hid hLj
                clear hLj
                rcases HS.out with ⟨rfl, hP, rfl⟩ | ⟨rfl, m, hm1, hmn, hm30, hsd, hsP, hP30, hws⟩
                · obtain ⟨U, hU⟩ : ∃ U : List Bool, U = [] := ⟨_, rfl⟩
                  have HU0 := Lib.hid (show Value.string { data := #[] } = Value.string (ds U) by rw [hU]; rfl)
                  have HPAD := Lib.hid (show U ++ Bit.zs (n2 - U.length) = wordAt (pos L n2 j) n2 by
                    rw [hU, hP]
                    show Bit.zs n2 = word (0 / share n2) n2
                    rw [Nat.zero_div, word_zero])
                  have HSTEP := Lib.hid (RefS.step L n2 j hjL HLJ.out hn1 hn30 (by omega))
                  have hUl : U.length ≤ n2 := by rw [hU]; exact Nat.zero_le _
                  clear hU hP
                  go_wp2_with fail
                  go_loop [12] (fun s => ∃ q : Nat, q ≤ n2 - U.length ∧ s = .string (ds (U ++ Bit.zs q))) (fun s => n2 - strN s)
                  case atStart => exact ⟨0, by omega, by rw [show Bit.zs 0 = [] from rfl, List.append_nil]; first | done | rfl | exact HU0.out⟩
                  case round =>
                    obtain ⟨q, hq, rfl⟩ := hrel
                    have hzz : (ds (U ++ Bit.zs q)).size = U.length + q := by rw [ds_size]; simp [zs_length]
                    by_cases hqn : q < n2 - U.length
                    · have hap : ds (U ++ Bit.zs q) ++ { data := #[48] } = ds (U ++ Bit.zs (q + 1)) := by
                        refine (ds_append (U ++ Bit.zs q) [false]).trans ?_
                        rw [List.append_assoc, show Bit.zs q ++ [false] = Bit.zs (q + 1) from by simp [Bit.zs, List.replicate_succ']]
                      have hz0 : ({ data := #[48] } : ByteArray).size = 1 := rfl
                      have HZ2 := Lib.hid (show (ds (U ++ Bit.zs (q + 1))).size = (ds (U ++ Bit.zs q)).size + 1 by rw [← hap, ByteArray.size_append]; rfl)
                      have hb1 : (ds (U ++ Bit.zs q)).size ≤ 100000 := by omega
                      have hd4 : (ds (U ++ Bit.zs q)).size < n2 := by omega
                      clear hzz
                      go_wp2_with fail
                      go_round
                      case rel => exact ⟨q + 1, by omega, rfl⟩
                      case measure => simp only [strN, HZ2.out]; omega
                    · have hqe : q = n2 - U.length := by omega
                      have hd4 : ¬ (ds (U ++ Bit.zs q)).size < n2 := by omega
                      have hwe : U ++ Bit.zs q = wordAt (pos L n2 j) n2 := by rw [hqe]; exact HPAD.out
                      rw [hwe] at hd4 ⊢
                      have hb2 := HM.out.1
                      have hlen : j < (wfill L n2 j).length := by rw [wfill_length]; exact hjL
                      have hw1 : wr.cell? ⟨nw, j, none⟩ = some ((wfill L n2 j)[j]'hlen) := by simp [World.cell?, hb2, hlen]
                      have hw2 := blk_frozen hb2 j
                      have HM2 := Lib.hid (show RefM w nw L n2 (j + 1) (wr.setCell ⟨nw, j, none⟩ (.string (ds (wordAt (pos L n2 j) n2)))) from HM.out.put hjL HLJ.out hn2')
                      generalize (wfill L n2 j)[j]'hlen = old at hw1
                      clear hzz hwe hqe hb2 hlen HU0 HPAD
                      have HSN := Lib.hid (HSTEP.out)
                      generalize wordAt (pos L n2 j) n2 = W0 at *
                      go_wp2_with fail
                      go_roundw
                      case rel => exact ⟨j + 1, W0, false, by omega, by go_num, rfl, rfl, HM2, Lib.hid HSN.out⟩
                      case measure => simp [intOf]; omega
                · have hlw := last_word (pos L n2 j) m hm30 hsd hsP hP30
                  rw [← hws] at hlw
                  have hwl : ws.length ≤ 30 := by rw [hws, wordAt_length]; exact hm30
                  have hwm : ws.length = m := by rw [hws, wordAt_length]
                  have hpt := pos_all L n2 j hjL HLJ.out (by omega) hn30
                  have hsp := share_pos n2
                  have HLW := Lib.hid hlw
                  have HWM := Lib.hid hwm
                  clear hlw hws hwm hsP hP30
                  go_wp2_with fail
                  refine (next_law ws _ (by omega)).mono ?_
                  rintro e w' ⟨rfl, hne⟩
                  rcases hne with ⟨a, q, hl', rfl⟩ | ⟨hl', rfl⟩
                  · obtain ⟨hU, hPl⟩ := HLW.out.1 a q hl'
                    generalize a ++ true :: Bit.zs q = U at hU ⊢
                    have hUm : U.length = m := by rw [hU, wordAt_length]
                    have HU0 := Lib.hid (show Value.string (ds U) = Value.string (ds U) from rfl)
                    have HPAD := Lib.hid (show U ++ Bit.zs (n2 - U.length) = wordAt (pos L n2 j) n2 by
                      rw [hUm, hU]
                      exact wordAt_pad _ m n2 hmn hn30 hsd hPl)
                    have HSTEP := Lib.hid (RefS.step L n2 j hjL HLJ.out hn1 hn30 hPl)
                    have hUl : U.length ≤ n2 := by omega
                    clear hU hUm hl' hPl hpt hsp hsd
                    go_wp2_with fail
                    go_loop [12] (fun s => ∃ q : Nat, q ≤ n2 - U.length ∧ s = .string (ds (U ++ Bit.zs q))) (fun s => n2 - strN s)
                    case atStart => exact ⟨0, by omega, by rw [show Bit.zs 0 = [] from rfl, List.append_nil]; first | done | rfl | exact HU0.out⟩
                    case round =>
                      obtain ⟨q, hq, rfl⟩ := hrel
                      have hzz : (ds (U ++ Bit.zs q)).size = U.length + q := by rw [ds_size]; simp [zs_length]
                      by_cases hqn : q < n2 - U.length
                      · have hap : ds (U ++ Bit.zs q) ++ { data := #[48] } = ds (U ++ Bit.zs (q + 1)) := by
                          refine (ds_append (U ++ Bit.zs q) [false]).trans ?_
                          rw [List.append_assoc, show Bit.zs q ++ [false] = Bit.zs (q + 1) from by simp [Bit.zs, List.replicate_succ']]
                        have hz0 : ({ data := #[48] } : ByteArray).size = 1 := rfl
                        have HZ2 := Lib.hid (show (ds (U ++ Bit.zs (q + 1))).size = (ds (U ++ Bit.zs q)).size + 1 by rw [← hap, ByteArray.size_append]; rfl)
                        have hb1 : (ds (U ++ Bit.zs q)).size ≤ 100000 := by omega
                        have hd4 : (ds (U ++ Bit.zs q)).size < n2 := by omega
                        clear hzz
                        go_wp2_with fail
                        go_round
                        case rel => exact ⟨q + 1, by omega, rfl⟩
                        case measure => simp only [strN, HZ2.out]; omega
                      · have hqe : q = n2 - U.length := by omega
                        have hd4 : ¬ (ds (U ++ Bit.zs q)).size < n2 := by omega
                        have hwe : U ++ Bit.zs q = wordAt (pos L n2 j) n2 := by rw [hqe]; exact HPAD.out
                        rw [hwe] at hd4 ⊢
                        have hb2 := HM.out.1
                        have hlen : j < (wfill L n2 j).length := by rw [wfill_length]; exact hjL
                        have hw1 : wr.cell? ⟨nw, j, none⟩ = some ((wfill L n2 j)[j]'hlen) := by simp [World.cell?, hb2, hlen]
                        have hw2 := blk_frozen hb2 j
                        have HM2 := Lib.hid (show RefM w nw L n2 (j + 1) (wr.setCell ⟨nw, j, none⟩ (.string (ds (wordAt (pos L n2 j) n2)))) from HM.out.put hjL HLJ.out hn2')
                        generalize (wfill L n2 j)[j]'hlen = old at hw1
                        clear hzz hwe hqe hb2 hlen HU0 HPAD
                        have HSN := Lib.hid (HSTEP.out)
                        generalize wordAt (pos L n2 j) n2 = W0 at *
                        go_wp2_with fail
                        go_roundw
                        case rel => exact ⟨j + 1, W0, false, by omega, by go_num, rfl, rfl, HM2, Lib.hid HSN.out⟩
                        case measure => simp [intOf]; omega
                  · have hPe := HLW.out.2 (by rw [← HWM.out]; exact hl')
                    have hgt : ¬ startN L 31 ≤ 1073741824 := by omega
                    have HE := Lib.hid (show cErr zs = 3 by rw [HCE.out, if_neg hgt])
                    clear hl' hPe hpt hgt hsp
                    go_wp2_with fail
                    go_ret3
                    exact ⟨HM.out.2, .inl ⟨by rw [HE.out]; decide, by rw [HE.out]; rfl⟩⟩
              · have hbn : ((n2 : Int) != (n : Int)) = true := by simp; omega
                have HM2 := Lib.hid (HM.out.skip hjL (by rw [hLj]; exact hnn))
                have hps := pos_succ L n j hjL
                rw [if_neg (by rw [hLj]; exact hnn), Nat.add_zero] at hps
                have HS2 := Lib.hid (show RefS (pos L n (j + 1)) n ws f by rw [hps]; exact HS.out)
                clear hps hLj
                go_wp2_with fail
                go_roundw
                case rel => exact ⟨j + 1, ws, f, by omega, by go_num, rfl, rfl, HM2, HS2⟩
                case measure => simp [intOf]; omega
            · have hje : j = k := by omega
              subst hje
              have hd : decide ((j : Int) < (j : Int)) = false := by simp
              have hM := HM.out
              have hS := HS.out.more
              rw [show j = L.length from HLL.out.symm] at hM hS
              rw [pos_end L n (by omega), ← pos_zero] at hS
              have HM2 := Lib.hid hM.turn
              have HS2 := Lib.hid hS
              clear hM hS
              go_wp2_with fail
              go_roundw
              case rel => exact ⟨n + 1, ws, f, by omega, by omega, by go_num, rfl, rfl, HM2, HS2⟩
              case measure => simp [intOf]; omega
        · have hne : n = 31 := by omega
          subst hne
          have hdn : decide ((31 : Int) ≤ 30) = false := by simp
          have hwl := HSo.out.len
          have hrow := HMo.out.1
          rw [wfill_end L HLM.out, HLE.out] at hrow
          have hlt2 : nw < wr.heap.size := blk_lt hrow
          have HROW := Lib.hid (vrow_blk hrow hlt2)
          have HX2 := Lib.hid (show zs.length = k from HX.out)
          clear hrow
          have hTe : pos L 31 0 = startN L 31 := pos_zero L 31
          rcases HSo.out with ⟨rfl, hP, rfl⟩ | ⟨rfl, m, hm1, hmn, hm30, hsd, hsP, hP30, hws⟩
          · rw [hTe] at hP
            have HE := Lib.hid (show cErr zs = 0 by rw [HCE.out, if_pos (by omega)])
            have HF := Lib.hid (show decide (startN (lensN zs) 31 = 1073741824) = false by rw [← HLE.out, hP]; rfl)
            clear hP hTe
            go_wp2_with fail
            refine (next_law [] _ (by simp)).mono ?_
            rintro e w' ⟨rfl, hne⟩
            rcases hne with ⟨a, q, hl', _⟩ | ⟨hl', rfl⟩
            · exfalso
              cases a with
              | nil => cases hl'
              | cons => cases hl'
            · clear hl'
              go_wp2_with fail
              go_ret3
              exact ⟨HMo.out.2, .inr ⟨HE.out, some ⟨nw, 0, none⟩, k, by rw [HX2.out, HF.out]; first | done | rfl, HROW.out, (fun h => by cases h), by rw [HX2.out]; exact Nat.le_refl _, by unfold maxLen; omega, fun a h => by injection h with h; subst h; exact hn2'⟩⟩
          · have hlw := last_word (pos L 31 0) m hm30 hsd hsP hP30
            rw [← hws] at hlw
            have hwm : ws0.length = m := by rw [hws, wordAt_length]
            rw [hTe] at hlw hP30
            have HE := Lib.hid (show cErr zs = 0 by rw [HCE.out, if_pos hP30])
            have HLW := Lib.hid hlw
            have HWM := Lib.hid hwm
            clear hlw hws hwm hsP hP30 hsd hTe
            go_wp2_with fail
            refine (next_law ws0 _ (by omega)).mono ?_
            rintro e w' ⟨rfl, hne⟩
            rcases hne with ⟨a, q, hl', rfl⟩ | ⟨hl', rfl⟩
            · have hlt3 := (HLW.out.1 a q hl').2
              have HF := Lib.hid (show decide (startN (lensN zs) 31 = 1073741824) = false by rw [← HLE.out]; simp; omega)
              clear hlt3 hl'
              go_wp2_with fail
              go_ret3
              exact ⟨HMo.out.2, .inr ⟨HE.out, some ⟨nw, 0, none⟩, k, by rw [HX2.out, HF.out]; first | done | rfl, HROW.out, (fun h => by cases h), by rw [HX2.out]; exact Nat.le_refl _, by unfold maxLen; omega, fun a h => by injection h with h; subst h; exact hn2'⟩⟩
            · have heq3 := HLW.out.2 (by rw [← HWM.out]; exact hl')
              have HF := Lib.hid (show decide (startN (lensN zs) 31 = 1073741824) = true by rw [← HLE.out, heq3]; rfl)
              clear heq3 hl'
              go_wp2_with fail
              go_ret3
              exact ⟨HMo.out.2, .inr ⟨HE.out, some ⟨nw, 0, none⟩, k, by rw [HX2.out, HF.out]; first | done | rfl, HROW.out, (fun h => by cases h), by rw [HX2.out]; exact Nat.le_refl _, by unfold maxLen; omega, fun a h => by injection h with h; subst h; exact hn2'⟩⟩
end Go.Proofs.YtjafcjnkefioeaaGreat.Hf
/- The contracts of newBook, completeBook and isSmall. -/
namespace Go.Proofs.YtjafcjnkefioeaaGreat.Inf
open Go.RowKit Go.Proofs.YtjafcjnkefioeaaGreat.Oct Go.Proofs.YtjafcjnkefioeaaGreat.Bit Go.Proofs.YtjafcjnkefioeaaGreat.Hf
set_option maxRecDepth 100000
theorem dig_prefix8 {a b : List Bool} (h : a.map dig <+: b.map dig) : a <+: b := by
  rw [List.prefix_iff_eq_take] at h ⊢
  rw [List.length_map, ← List.map_take] at h
  exact Hf.dig_inj h
theorem canonB_some8 (L : List Nat) (i : Nat) (s : List UInt8) (h : (canonB L)[i]? = some s) : ∃ hi : i < L.length, s = (wordAt (pos L L[i] i) L[i]).map dig := by
  obtain ⟨hi, he⟩ := List.getElem?_eq_some_iff.1 h
  have hi' : i < L.length := by rwa [canonB_length] at hi
  exact ⟨hi', by rw [← he, canonB_get L i hi hi']⟩
theorem canon_good8 (L : List Nat) (hL : ∀ n ∈ L, n ≤ 30) (hT : startN L 31 ≤ 1073741824) : Hf.Good (canonB L) := by
  constructor
  · intro s hs
    obtain ⟨i, hi⟩ := List.mem_iff_getElem?.1 hs
    obtain ⟨_, rfl⟩ := canonB_some8 L i s hi
    exact wordB_dig _
  · intro i j s t hi hj hij hs ht hp
    obtain ⟨hi', rfl⟩ := canonB_some8 L i s hi
    obtain ⟨hj', rfl⟩ := canonB_some8 L j t hj
    have h0 : L[i] ≠ 0 := by
      intro e
      apply hs
      rw [List.map_eq_nil_iff]
      exact List.eq_nil_of_length_eq_zero (by rw [wordAt_length, e])
    exact canon_free L (fun k hk => hL _ (List.getElem_mem hk)) hT i j hi' hj' hij h0 (dig_prefix8 hp)
theorem canon_short (L : List Nat) (hL : ∀ n ∈ L, n ≤ 30) : ∀ s ∈ canonB L, s.length ≤ 1000000 := by
  intro s hs
  obtain ⟨i, hi⟩ := List.mem_iff_getElem?.1 hs
  obtain ⟨hi', rfl⟩ := canonB_some8 L i s hi
  rw [List.length_map, wordAt_length]
  have := hL _ (List.getElem_mem hi')
  omega
theorem lensN_cast (L : List Nat) : lensN (castZ L) = L := by
  unfold lensN castZ
  rw [List.map_map]
  have e : (Int.toNat ∘ fun n : Nat => (n : Int)) = id := by funext n; simp
  rw [e, List.map_id]
theorem okZ_cast (L : List Nat) (hL : ∀ n ∈ L, n ≤ 30) : okZ (castZ L) = true := by
  unfold okZ castZ
  rw [List.all_eq_true]
  intro z hz
  obtain ⟨n, hn, rfl⟩ := List.mem_map.1 hz
  have := hL n hn
  simp
  omega
theorem cErr_ok (L : List Nat) (hL : ∀ n ∈ L, n ≤ 30) (h : startN L 31 ≤ 1073741824) : cErr (castZ L) = 0 := by
  unfold cErr
  rw [if_pos (okZ_cast L hL), lensN_cast, if_pos h]
theorem cErr_over (L : List Nat) (hL : ∀ n ∈ L, n ≤ 30) (h : ¬ startN L 31 ≤ 1073741824) : cErr (castZ L) = 3 := by
  unfold cErr
  rw [if_pos (okZ_cast L hL), lensN_cast, if_neg h]
theorem blk_set9 {w : World} {g : Nat} {vs : List Value} {T : TypeId} {fr : Nat × Nat} (h : w.heap[g]? = some (.cells vs.toArray T fr)) (i : Nat) (u : Value) : (w.setCell ⟨g, i, none⟩ u).heap[g]? = some (.cells (vs.set i u).toArray T fr) := by
  simp [World.setCell, Array.getElem?_modify, h]
end Go.Proofs.YtjafcjnkefioeaaGreat.Inf


/- The contracts of places and few. -/
import Derived.Test.YtaohakdeicfpoaaHfG
namespace Go.Proofs.Ytaohakdeicfpoaa.Hf
open Go.RowKit Go.Proofs.Ytaohakdeicfpoaa.Oct Go.Proofs.Ytaohakdeicfpoaa.Bit
set_option linter.unusedVariables false
set_option linter.unusedSimpArgs false
set_option maxRecDepth 100000

/-- 0, 1, .. -/
def placesL (n : Nat) : List Int := (List.range n).map fun i : Nat => (i : Int)
theorem placesL_length (n : Nat) : (placesL n).length = n := by simp [placesL]
theorem placesL_succ (n : Nat) : placesL (n + 1) = placesL n ++ [(n : Int)] := by simp [placesL, List.range_succ]
theorem placesL_get (n i : Nat) (h : i < n) : (ints (placesL n))[i]? = some (.int .i64 (i : Int)) := by simp [ints, placesL, h]
theorem ints_new (w : World) (zs : List Int) (T : TypeId) (fr : Nat × Nat) : VRow (w.alloc (.cells (ints zs).toArray T fr)) (w.alloc (.cells (ints zs).toArray T fr)).heap.size (some ⟨w.heap.size, 0, none⟩) (ints zs) :=
  vrow_blk (T := T) (fr := fr) (by
    show (w.heap.push _)[w.heap.size]? = _
    simp) (by simp)
def RowV (w : World) (vs : List Value) (e : Ending) (w' : World) : Prop :=
  Below w.heap.size w w' ∧ ∃ q c, e = .returned (.slice q vs.length c) ∧ VRow w' w'.heap.size q vs ∧ (q = none → c = 0)
set_option maxHeartbeats 1000000 in
theorem places_any (n : Nat) (w : World) (hn : n ≤ 100000) : Calls Try.prog 11 #[.int .i64 (n : Int)] w (RowV w (ints (placesL n))) := by
  obtain ⟨i0, hi, hz0, hz1, hz2⟩ := info_parts Try.infoInt
  go_enter Try.func11, Try.ntmps11
  go_wp2_with fail
  go_loopw [3, 4, 6] (fun u v i wr => ∃ k : Nat, k ≤ n ∧ i = .int .i64 (k : Int) ∧ Hid (wr.ownsRow w.heap.size 3 1 u k (ints (placesL k))) ∧ Hid (Below w.heap.size w wr)) (fun _ _ i _ => n - (intOf i).toNat)
  case atStart => exact ⟨0, by omega, rfl, Lib.hid (by simpa [placesL, ints] using World.ownsRow_nil w w.heap.size 3 1), Lib.hid (Below.refl _ _)⟩
  case round =>
    obtain ⟨k, hk, rfl, HO, HB⟩ := hrel
    by_cases hlt : k < n
    · have hd : decide ((k : Int) < (n : Int)) = true := by simp; omega
      have hb1 : Below wr.heap.size wr (wr.alloc (.cells (ints [(k : Int)]).toArray 3)) := (Below.refl _ wr).alloc (Nat.le_refl _) _
      have HS := Lib.hid (ints_new wr [(k : Int)] 3 (0, 0))
      have HO2 := Lib.hid (own_below HO.out hb1)
      have HB2 := Lib.hid (HB.out.trans (hb1.mono HB.out.size))
      have HZ := Lib.hid HB2.out.size
      have HLK := Lib.hid (placesL_length k)
      clear hb1
      go_wp2_with (at_builtin; refine wpList_append_vals Try.underlying22 hi hz0 hz1 hz2 rfl (by decide) rfl _ _ rfl w.heap.size _ k (ints (placesL k)) rfl HO2.out (some ⟨wr.heap.size, 0, none⟩) 1 1 (ints [(k : Int)]) rfl HS.out rfl (fun h => by cases h) ints_one (by omega) HZ.out ?_)
      intro v2 w2 hown2 _ hb3
      rw [← ints_append, ← placesL_succ] at hown2
      have HO3 := Lib.hid hown2
      have HB3 := Lib.hid (HB2.out.trans hb3)
      clear hown2 hb3
      go_wp2_with fail
      go_roundw
      case rel => exact ⟨k + 1, by omega, by go_num, HO3, HB3⟩
      case measure => simp [intOf]; omega
    · have hke : k = n := by omega
      subst hke
      have hd : decide ((k : Int) < (k : Int)) = false := by simp
      obtain ⟨q, c, rfl, hq0, _, _, hv, _⟩ := vrow_own HO.out (by rw [ints_length, placesL_length])
      have HQ0 := Lib.hid hq0
      have HV := Lib.hid hv
      clear hq0 hv
      go_wp2_with fail
      go_ret
      exact ⟨HB.out, q, c, by rw [ints_length, placesL_length]; rfl, HV.out, HQ0.out⟩
def FewP (w : World) (L : List (List UInt8)) (e : Ending) (w' : World) : Prop :=
  w = w' ∧ ∃ fb : Bool, e = .returned (.bool fb) ∧ (fb = true → L.length ≤ 60 ∧ ∀ s ∈ L, s.length ≤ 60)
set_option maxHeartbeats 1000000 in
theorem few_any (p : Option Addr) (len cap : Nat) (L : List (List UInt8)) (w : World) (hr : VRow w w.heap.size p (strs L)) (hx : L.length = len) (hl : len ≤ maxLen) (hs : ∀ s ∈ L, s.length ≤ maxLen) : Calls Try.prog 18 #[.slice p len cap] w (FewP w L) := by
  have HX := Lib.hid hx
  have HR := Lib.hid hr
  have HS := Lib.hid hs
  unfold maxLen at hl
  clear hx hr hs
  go_enter Try.func18, Try.ntmps18
  go_wp2_with fail
  go_loop [4, 7] (fun u i => ∃ k : Nat, k ≤ len ∧ i = .int .i64 (k : Int) ∧ Hid (∀ j s, j < k → L[j]? = some s → s.length ≤ 60)) (fun _ i => len - (intOf i).toNat)
  case atStart => exact ⟨0, by omega, rfl, Lib.hid (fun j s h => by omega)⟩
  case round =>
    obtain ⟨k, hk, rfl, HA⟩ := hrel
    by_cases hlt : k < len
    · have hkl : k < L.length := by rw [HX.out]; exact hlt
      obtain ⟨b, off, hq, _⟩ := HR.out.addr (by rw [strs_length]; omega)
      subst hq
      have hc := HR.out.str k hkl
      have hg : L[k]? = some L[k] := List.getElem?_eq_getElem hkl
      have hsm := HS.out L[k] (List.getElem_mem hkl)
      have hsz := bs_size L[k]
      generalize L[k] = s at hc hg hsm hsz
      unfold maxLen at hsm
      have HG := Lib.hid hg
      have hd : decide ((k : Int) < (len : Int)) = true := by simp; omega
      have i1 : (0 : Int) ≤ (k : Int) := by omega
      have i2 : (k : Int) < (len : Int) := by omega
      generalize bs s = S at hc hsz
      clear hg
      by_cases h60 : s.length ≤ 60
      · have hd2 : decide ((60 : Int) < (s.length : Int)) = false := by simp; omega
        have hd3 : ¬ 60 < s.length := by omega
        have HA2 := Lib.hid (show ∀ j t, j < k + 1 → L[j]? = some t → t.length ≤ 60 by
          intro j t hj ht
          by_cases hjk : j = k
          · subst hjk
            rw [HG.out] at ht
            injection ht with ht
            subst ht
            exact h60
          · exact HA.out j t (by omega) ht)
        clear h60
        go_wp2_with fail
        go_round
        case rel => exact ⟨k + 1, by omega, by go_num, HA2⟩
        case measure => simp [intOf]; omega
      · have hd2 : decide ((60 : Int) < (s.length : Int)) = true := by simp; omega
        have hd3 : 60 < s.length := by omega
        clear h60
        go_wp2_with fail
        go_ret
        exact ⟨rfl, false, rfl, fun h => by cases h⟩
    · have hke : k = len := by omega
      subst hke
      have hd : decide ((k : Int) < (k : Int)) = false := by simp
      have HAll := Lib.hid (show ∀ s ∈ L, s.length ≤ 60 by
        intro s hs
        obtain ⟨j, hj⟩ := List.mem_iff_getElem?.1 hs
        have := (List.getElem?_eq_some_iff.1 hj).1
        exact HA.out j s (by rw [HX.out] at this; exact this) hj)
      by_cases h60 : k ≤ 60
      · have hd2 : decide ((k : Int) ≤ 60) = true := by simp; omega
        go_wp2_with fail
        go_ret
        exact ⟨rfl, true, rfl, fun _ => ⟨by rw [HX.out]; exact h60, HAll.out⟩⟩
      · have hd2 : decide ((k : Int) ≤ 60) = false := by simp; omega
        go_wp2_with fail
        go_ret
        exact ⟨rfl, false, rfl, fun h => by cases h⟩
end Go.Proofs.Ytaohakdeicfpoaa.Hf

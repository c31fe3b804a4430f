/- IhA, IhB, IhD, IhF: merged. -/
import Derived.Deep.Slices
import Derived.Deep.Fields
import Derived.ChangeSame
import Derived.Test.YtkkfkmoikcmhoaaGreatQaf
import Derived.Test.YtkkfkmoikcmhoaaGreatQag
import Derived.Test.YtkkfkmoikcmhoaaGreatQas
set_option linter.unusedVariables false
set_option linter.unusedSimpArgs false
namespace Go.Proofs.YtkkfkmoikcmhoaaGreat.Inf
open Go.RowKit Oct Bit Hf
set_option maxRecDepth 100000
def Ylt (w : World) (far : Bool) (e : Ending) (w' : World) : Prop :=
 e = .returned (.tuple #[.slice (some ⟨w.heap.size, 0, none⟩) (froms far).length (froms far).length, .slice (some ⟨w.heap.size + 1, 0, none⟩) (froms far).length (froms far).length]) ∧ Below w.heap.size w w' ∧
  VRow w' w'.heap.size (some ⟨w.heap.size, 0, none⟩) (ints (Y03 (froms far))) ∧ VRow w' w'.heap.size (some ⟨w.heap.size + 1, 0, none⟩) (ints (Y03 (extras far)))
theorem Ycp (w : World) (us vs : List Value) (T : TypeId) : Below w.heap.size w ((w.alloc (.cells us.toArray T)).alloc (.cells vs.toArray T)) ∧
  VRow ((w.alloc (.cells us.toArray T)).alloc (.cells vs.toArray T)) ((w.alloc (.cells us.toArray T)).alloc (.cells vs.toArray T)).heap.size (some ⟨w.heap.size, 0, none⟩) us ∧
  VRow ((w.alloc (.cells us.toArray T)).alloc (.cells vs.toArray T)) ((w.alloc (.cells us.toArray T)).alloc (.cells vs.toArray T)).heap.size (some ⟨w.heap.size + 1, 0, none⟩) vs := by
 have h1 : Below w.heap.size w (w.alloc (.cells us.toArray T)) := (Below.refl _ w).alloc (Nat.le_refl _) _
 have h2 : Below (w.alloc (.cells us.toArray T)).heap.size (w.alloc (.cells us.toArray T)) ((w.alloc (.cells us.toArray T)).alloc (.cells vs.toArray T)) := (Below.refl _ _).alloc (Nat.le_refl _) _
 have hz : (w.alloc (.cells us.toArray T)).heap.size = w.heap.size + 1 := Array.size_push _
 refine ⟨h1.trans (h2.mono h1.size), ?_, ?_⟩
 ·exact ((Y0y (g := w.heap.size) (T := T) (fr := (0, 0)) (vs := us) (C := (w.alloc (.cells us.toArray T)).heap.size) Array.getElem?_push_size (by omega)).below h2 (Nat.le_refl _)).mono h2.size
 ·rw [← hz]
  exact Y0y (T := T) (fr := (0, 0)) (vs := vs) Array.getElem?_push_size (by simp)
set_option maxHeartbeats 4000000 in
theorem Y97 (far : Bool) (w : World) : Calls Tryz.prog 98 #[.bool far] w (Ylt w far) := by
 cases far
 ·go_enter Tryz.func98, Tryz.ntmps98
  go_wp2_with fail
  go_ret2
  exact ⟨rfl, Ycp w (ints (Y03 (froms false))) (ints (Y03 (extras false))) 3⟩
 ·go_enter Tryz.func98, Tryz.ntmps98
  go_wp2_with fail
  go_ret2
  exact ⟨rfl, Ycp w (ints (Y03 (froms true))) (ints (Y03 (extras true))) 3⟩
end Go.Proofs.YtkkfkmoikcmhoaaGreat.Inf
namespace Go.Proofs.YtkkfkmoikcmhoaaGreat.Inf
open Go.RowKit Oct Bit Hf
set_option maxRecDepth 100000
def valA (k : Nat) : Nat := if k < 144 then 8 else if k < 256 then 9 else if k < 280 then 7 else 8
theorem Yay : ∀ k, k < 288 → Y0r.take (k + 1) = Y0r.take k ++ [valA k] := by decide +kernel
theorem Yb0 : ∀ k, k < 30 → Y0n.take (k + 1) = Y0n.take k ++ [5] := by decide +kernel
theorem Yg5 {w : World} {base : Nat} {v : Value} {L : List Nat} (h : IOwn w base v (Y03 L)) (x : Nat) :
  (w.alloc (.cells #[.int .i64 (x : Int)] 3)).ownsRow base 3 1 v L.length (ints (Y03 L)) ∧
  VRow (w.alloc (.cells #[.int .i64 (x : Int)] 3)) (w.alloc (.cells #[.int .i64 (x : Int)] 3)).heap.size (some ⟨w.heap.size, 0, none⟩) (ints [(x : Int)]) := by
 have hba : Below w.heap.size w (w.alloc (.cells #[.int .i64 (x : Int)] 3)) := (Below.refl _ w).alloc (Nat.le_refl _) _
 refine ⟨?_, Y0y (vs := ints [(x : Int)]) (T := 3) (fr := (0, 0)) Array.getElem?_push_size (by simp)⟩
 have h1 := Y1s h hba
 rwa [Y01] at h1
theorem Yg4 {w : World} {base : Nat} {v : Value} {L : List Nat} {x : Nat} (h : w.ownsRow base 3 1 v (L.length + 1) (ints (Y03 L) ++ ints [(x : Int)])) : IOwn w base v (Y03 (L ++ [x])) := by
 unfold IOwn
 rw [Y01, List.length_append, Y1m, Y1g]
 exact h
set_option maxHeartbeats 4000000 in
theorem Ye0 (w : World) : Calls Tryz.prog 37 #[] w (Ykb w) := by
 obtain ⟨i0, hi, hz0, hz1, hz2⟩ := info_parts Tryz.infoInt
 go_enter Tryz.func37, Tryz.ntmps37
 go_wp2_with fail
 go_loopw [2, 4, 5] (fun v i _ wr => ∃ k : Nat, k ≤ 288 ∧ i = .int .i64 (k : Int) ∧ Hid (IOwn wr w.heap.size v (Y03 (Y0r.take k)) ∧ Below w.heap.size w wr)) (fun _ i _ _ => 288 - (intOf i).toNat)
 case atStart => exact ⟨0, by omega, rfl, Lib.hid ⟨World.ownsRow_nil w _ 3 1, Below.refl _ _⟩⟩
 case round =>
  obtain ⟨k, hk, rfl, HB⟩ := hrel
  rename_i v2
  by_cases hlt : k < 288
  ·have ql : decide ((k : Int) < 288) = true := by simp; omega
   have hfl : (Y0r.take k).length = k := by rw [List.length_take]; have : Y0r.length = 288 := by decide
                                            omega
   have HST := Lib.hid (Yay k hlt)
   obtain ⟨x, hx⟩ : ∃ x, x = valA k := ⟨_, rfl⟩
   obtain ⟨ho, hv⟩ := Yg5 HB.out.1 x
   rw [hfl] at ho
   rw [← hx] at HST
   have HO := Lib.hid ho
   have HV := Lib.hid hv
   have HX := Lib.hid hx
   have HFL := Lib.hid hfl
   have hba : Below wr.heap.size wr (wr.alloc (.cells #[.int .i64 (x : Int)] 3)) := (Below.refl _ wr).alloc (Nat.le_refl _) _
   have HBA := Lib.hid (HB.out.2.trans (hba.mono HB.out.2.size))
   have HBZ := Lib.hid HBA.out.size
   clear ho hv hba hfl
   have hcase : (x = 8 ∧ decide (144 ≤ (k : Int)) = false ∧ decide (256 ≤ (k : Int)) = false) ∨ (x = 9 ∧ decide (144 ≤ (k : Int)) = true ∧ decide ((k : Int) < 256) = true ∧ decide (256 ≤ (k : Int)) = false) ∨
     (x = 7 ∧ decide (144 ≤ (k : Int)) = true ∧ decide ((k : Int) < 256) = false ∧ decide (256 ≤ (k : Int)) = true ∧ decide ((k : Int) < 280) = true) ∨
     (x = 8 ∧ decide (144 ≤ (k : Int)) = true ∧ decide ((k : Int) < 256) = false ∧ decide (256 ≤ (k : Int)) = true ∧ decide ((k : Int) < 280) = false) := by
    rw [hx]
    unfold valA
    by_cases h1 : k < 144
    ·left; rw [if_pos h1]; simp; omega
    ·right
     by_cases h2 : k < 256
     ·left; rw [if_neg h1, if_pos h2]; simp; omega
     ·right
      by_cases h3 : k < 280
      ·left; rw [if_neg h1, if_neg h2, if_pos h3]; simp; omega
      ·right; rw [if_neg h1, if_neg h2, if_neg h3]; simp; omega
   clear hx
   rcases hcase with ⟨hxx, q1, q2⟩ | ⟨hxx, q1, q2, q3⟩ | ⟨hxx, q1, q2, q3, q4⟩ | ⟨hxx, q1, q2, q3, q4⟩
   all_goals
    subst hxx
    go_wp2_with (at_builtin; refine Y0b Tryz.underlying74 hi hz0 hz1 hz2 rfl (by decide) rfl _ _ rfl w.heap.size _ k (ints (Y03 (Y0r.take k))) rfl HO.out (some ⟨wr.heap.size, 0, none⟩) 1 1 (ints [_]) rfl HV.out rfl (fun h => by cases h) Y2d (by omega) HBZ.out ?_)
    intro v9 w9 hown9 hgrow9 hb9
    have HN : Hid (IOwn w9 w.heap.size v9 (Y03 (Y0r.take (k + 1))) ∧ Below w.heap.size w w9) := Lib.hid ⟨by
     rw [HST.out]
     exact Yg4 (by rw [HFL.out]; exact hown9), HBA.out.trans hb9⟩
    clear hown9 hgrow9 hb9
    go_wp2_with fail
    go_roundw
    case rel => exact ⟨k + 1, by omega, by first | rfl | (push_cast; rfl), HN⟩
    case measure => simp [intOf]; omega
  ·have hkn : k = 288 := by omega
   have ql : decide ((k : Int) < 288) = false := by simp; omega
   have hall : Y0r.take 288 = Y0r := by decide +kernel
   have HA := HB.out
   rw [hkn, hall] at HA
   obtain ⟨wA, rfl⟩ : ∃ wA, wA = wr := ⟨_, rfl⟩
   obtain ⟨q, c, hv, hq0, hqc, hqm, hqr, _⟩ := Y0z HA.1 (Y04 _)
   rw [Y01] at hv
   have hfa : Y0r.length = 288 := by decide
   rw [hfa] at hv
   subst hv
   have HB2 := Lib.hid HA.2
   have HQR := Lib.hid hqr
   have HQ0 := Lib.hid hq0
   have hwz := HA.2.size
   clear HB hall HA hqr hq0 hqc hqm hfa hkn
   go_wp2_with fail
   go_loopw [3, 6] (fun v i wq => ∃ k : Nat, k ≤ 30 ∧ i = .int .i64 (k : Int) ∧ Hid (IOwn wq wA.heap.size v (Y03 (Y0n.take k)) ∧ Below wA.heap.size wA wq)) (fun _ i _ => 30 - (intOf i).toNat)
   case atStart => exact ⟨0, by omega, rfl, Lib.hid ⟨World.ownsRow_nil wA _ 3 1, Below.refl _ _⟩⟩
   case round =>
    clear hlt hk ql
    obtain ⟨k, hk, rfl, HB⟩ := hrel
    by_cases hlt2 : k < 30
    ·have ql : decide ((k : Int) < 30) = true := by simp; omega
     have hfl : (Y0n.take k).length = k := by rw [List.length_take]; have : Y0n.length = 30 := by decide
                                              omega
     have HST := Lib.hid (Yb0 k hlt2)
     obtain ⟨ho, hv⟩ := Yg5 HB.out.1 5
     rw [hfl] at ho
     have HO := Lib.hid ho
     have HV := Lib.hid hv
     have HFL := Lib.hid hfl
     have hba : Below wr.heap.size wr (wr.alloc (.cells #[.int .i64 ((5 : Nat) : Int)] 3)) := (Below.refl _ wr).alloc (Nat.le_refl _) _
     have HBA := Lib.hid (HB.out.2.trans (hba.mono HB.out.2.size))
     have HBZ := Lib.hid HBA.out.size
     clear ho hv hba hfl
     go_wp2_with (at_builtin; refine Y0b Tryz.underlying74 hi hz0 hz1 hz2 rfl (by decide) rfl _ _ rfl wA.heap.size _ k (ints (Y03 (Y0n.take k))) rfl HO.out (some ⟨wr.heap.size, 0, none⟩) 1 1 (ints [_]) rfl HV.out rfl (fun h => by cases h) Y2d (by omega) HBZ.out ?_)
     intro v9 w9 hown9 hgrow9 hb9
     have HN : Hid (IOwn w9 wA.heap.size v9 (Y03 (Y0n.take (k + 1))) ∧ Below wA.heap.size wA w9) := Lib.hid ⟨by
      rw [HST.out]
      exact Yg4 (by rw [HFL.out]; exact hown9), HBA.out.trans hb9⟩
     clear hown9 hgrow9 hb9
     go_wp2_with fail
     go_roundw
     case rel => exact ⟨k + 1, by omega, by first | rfl | (push_cast; rfl), HN⟩
     case measure => simp [intOf]; omega
    ·have hkn : k = 30 := by omega
     subst hkn
     have hall : Y0n.take 30 = Y0n := by decide +kernel
     have HA := HB.out
     rw [hall] at HA
     obtain ⟨r, d, hv, hr0, hrc, hrm, hrr, _⟩ := Y0z HA.1 (Y04 _)
     rw [Y01] at hv
     have hfb : Y0n.length = 30 := by decide
     rw [hfb] at hv
     subst hv
     have HRES : Hid (Ykb w (.returned (.tuple #[.slice q 288 c, .slice r 30 d])) wr) := Lib.hid ⟨HB2.out.trans (HA.2.mono hwz), q, c, r, d, rfl, (HQR.out.below HA.2 (Nat.le_refl _)).mono HA.2.size, HQ0.out, hrr, hr0⟩
     clear HB HA hall hr0 hrc hrm hrr hfb
     go_wp2_with fail
     go_ret2
     exact HRES.out
end Go.Proofs.YtkkfkmoikcmhoaaGreat.Inf
namespace Go.Proofs.YtkkfkmoikcmhoaaGreat.Inf
open Go.RowKit Oct Bit Hf
set_option maxRecDepth 100000
def Y48 (L : List Nat) (full one : Bool) : Except Nat (List (List Bool)) :=
 if startN L 31 ≤ 1073741824 then (if full = true ∧ startN L 31 ≠ 1073741824 ∧ ¬ (one = true ∧ lone L = true) then .error 3 else .ok (Y06 L)) else .error 3
theorem Y4h (L : List Nat) (one : Bool) : Y48 L true one = Y15 L one := by
 unfold Y48 Y15
 by_cases h1 : startN L 31 ≤ 1073741824
 ·rw [if_pos h1]
  by_cases h2 : startN L 31 = 1073741824
  ·rw [if_neg (fun h => h.2.1 h2), if_pos (.inl h2)]
  ·by_cases h3 : one = true ∧ lone L = true
   ·rw [if_neg (fun h => h.2.2 h3), if_pos (.inr ⟨by omega, h3⟩)]
   ·rw [if_pos ⟨rfl, h2, h3⟩, if_neg (fun h => by
     rcases h with h | h
     ·exact h2 h
     ·exact h3 h.2)]
 ·rw [if_neg h1, if_neg (fun h => by
   rcases h with h | h
   ·omega
   ·omega)]
theorem Yas (L : List Nat) (k : Nat) (h : k < L.length) : (L.take (k + 1)).countP (fun n => decide (0 < n)) = (L.take k).countP (fun n => decide (0 < n)) + (if 0 < L[k] then 1 else 0) := by
 rw [List.take_succ_eq_append_getElem h, List.countP_append]
 simp [List.countP_cons]
end Go.Proofs.YtkkfkmoikcmhoaaGreat.Inf
namespace Go.Proofs.YtkkfkmoikcmhoaaGreat.Inf
open Go.RowKit Oct Bit Hf
set_option maxRecDepth 100000
theorem vget9 {w : World} {C b i : Nat} {L : List Nat} (h : VRow w C (some ⟨b, 0, none⟩) (ints (Y03 L))) (hi : i < L.length) : w.cell? ⟨b, i, none⟩ = some (.int .i64 ((L.getD i 0 : Nat) : Int)) := by
 have h1 := h.int i (by rw [Y01]; exact hi)
 rw [Nat.zero_add] at h1
 rw [h1]
 simp [Y03, List.getD_eq_getElem?_getD, List.getElem?_eq_getElem hi]
theorem Yf3 : ∀ far : Bool, (extras far).length = (froms far).length ∧ 29 ≤ (froms far).length ∧ (froms far).length ≤ 30 ∧ (froms far).getD 0 0 = least1 far := by decide
theorem Ygt {w : World} {C b off i : Nat} {W : List (List Bool)} (h : VRow w C (some ⟨b, off, none⟩) (strs (Y0w W))) (hi : i < W.length) : w.cell? ⟨b, off + i, none⟩ = some (.string (ds (W.getD i []))) := by
 have h1 := h.str i (by rw [Y2e]; exact hi)
 rw [h1]
 simp [Y0w, List.getD_eq_getElem?_getD, List.getElem?_eq_getElem hi, ds]
theorem Yi8 {W : List (List Bool)} (h : ∀ m ∈ W, m.length ≤ 30) (i : Nat) : (W.getD i []).length ≤ 30 := by
 rw [List.getD_eq_getElem?_getD]
 rcases hx : W[i]? with _ | m
 ·simp
 ·exact h m (List.mem_of_getElem? hx)
end Go.Proofs.YtkkfkmoikcmhoaaGreat.Inf

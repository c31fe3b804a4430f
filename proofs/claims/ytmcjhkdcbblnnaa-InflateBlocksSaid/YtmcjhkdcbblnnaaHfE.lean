
/- The contracts of the document's next and Canon. -/
import Derived.Test.YtmcjhkdcbblnnaaHfD
namespace Go.Proofs.Ytmcjhkdcbblnnaa.Hf
open Go.RowKit Go.Proofs.Ytmcjhkdcbblnnaa.Oct Go.Proofs.Ytmcjhkdcbblnnaa.Bit
set_option linter.unusedVariables false
set_option linter.unusedSimpArgs false
set_option maxRecDepth 100000

def NextP (w : World) (l : List Bool) (e : Ending) (w' : World) : Prop :=
  w = w' ∧ ((∃ a k, l = a ++ false :: List.replicate k true ∧ e = .returned (.tuple #[.string (ds (a ++ true :: zs k)), .bool true])) ∨
    (l = List.replicate l.length true ∧ e = .returned (.tuple #[.string ⟨#[]⟩, .bool false])))
theorem dig_is (b : Bool) : (((dig b).toNat : Int) == 48) = !b := by cases b <;> rfl
def strN : Value → Nat
  | .string b => b.size
  | _ => 0
set_option maxHeartbeats 1000000 in
theorem next_law (l : List Bool) (w : World) (hl : l.length ≤ 100000) : Calls Try.prog 48 #[.string (ds l)] w (NextP w l) := by
  have hsz := ds_size l
  go_enter Try.func48, Try.ntmps48
  go_wp2_with fail
  go_loop [4, 5] (fun i s => ∃ k : Nat, k ≤ l.length ∧ i = .int .i64 ((l.length : Int) - 1 - (k : Int)) ∧ Hid (l.drop (l.length - k) = List.replicate k true)) (fun i _ => (intOf i + 1).toNat)
  case atStart => exact ⟨0, by omega, by go_num, Lib.hid (by simp)⟩
  case round =>
    obtain ⟨k, hk, rfl, hH⟩ := hrel
    by_cases hlt : k < l.length
    · obtain ⟨i, hi⟩ : ∃ i : Nat, i = l.length - 1 - k := ⟨_, rfl⟩
      have hil : i < l.length := by omega
      have HIK := Lib.hid (show i + 1 + k = l.length by omega)
      rw [show (l.length : Int) - 1 - (k : Int) = (i : Int) by omega]
      obtain ⟨b, hb⟩ : ∃ b, b = l[i] := ⟨_, rfl⟩
      have hg : ∀ h, (ds l)[i]'h = dig b := fun h => (ds_get l i h hil).trans (by rw [hb])
      have hdr : l.drop (l.length - k) = l.drop (i + 1) := by congr 1; omega
      have hcut : l.drop i = b :: l.drop (i + 1) := by rw [hb]; exact List.drop_eq_getElem_cons hil
      have HH := Lib.hid (hdr.symm.trans hH.out)
      have HCUT := Lib.hid hcut
      have i0 : (0 : Int) ≤ (i : Int) := by omega
      have hd : decide ((0 : Int) ≤ (i : Int)) = true := by simp
      clear hb hdr hcut hH hi hk hlt
      cases b
      · have hz2 : (ds (l.take i)).size = i := by rw [ds_size, List.length_take]; omega
        have hx := ds_extract l 0 i
        rw [List.drop_zero, Nat.sub_zero] at hx
        have hap : ds (l.take i) ++ { data := #[49] } = ds (l.take i ++ [true]) := ds_append (l.take i) [true]
        have hz1 : ({ data := #[49] } : ByteArray).size = 1 := rfl
        have hdb : (((dig false).toNat : Int) == 48) = true := rfl
        go_wp2_with fail
        generalize hae : l.take i = a at *
        have HA := Lib.hid hae.symm
        clear hae
        have HAL := Lib.hid (show a.length = i by rw [← ds_size]; exact hz2)
        have hn1 : decide ((0 : Int) ≤ (i : Int)) = true := hd
        clear hx hap hz2
        go_loop [5] (fun s => ∃ j : Nat, j ≤ k ∧ s = .string (ds (a ++ true :: zs j))) (fun s => l.length - strN s)
        case atStart => exact ⟨0, by omega, rfl⟩
        case round =>
          obtain ⟨j, hj, rfl⟩ := hrel
          have hzz : (ds (a ++ true :: zs j)).size = i + 1 + j := by
            rw [ds_size]; simp [zs_length, HAL.out]; omega
          by_cases hjk : j < k
          · have hap : ds (a ++ true :: zs j) ++ { data := #[48] } = ds (a ++ true :: zs (j + 1)) := by
              refine (ds_append (a ++ true :: zs j) [false]).trans ?_
              rw [List.append_assoc, List.cons_append, show zs j ++ [false] = zs (j + 1) from by simp [zs, List.replicate_succ']]
            have hz0 : ({ data := #[48] } : ByteArray).size = 1 := rfl
            have HZ2 := Lib.hid (show (ds (a ++ true :: zs (j + 1))).size = (ds (a ++ true :: zs j)).size + 1 by rw [← hap, ByteArray.size_append]; rfl)
            have hb1 : (ds (a ++ true :: zs j)).size ≤ 100000 := by have := HIK.out; omega
            have hd4 : (ds (a ++ true :: zs j)).size < l.length := by have := HIK.out; omega
            clear hzz
            go_wp2_with fail
            go_round
            case rel => exact ⟨j + 1, by omega, rfl⟩
            case measure => simp only [strN, HZ2.out]; omega
          · have hje : j = k := by omega
            subst hje
            have hd4 : ¬ (ds (a ++ true :: zs j)).size < l.length := by have := HIK.out; omega
            have hcat : l = a ++ false :: List.replicate j true := by rw [← HH.out, ← HCUT.out, HA.out, List.take_append_drop]
            have HC := Lib.hid hcat
            clear hzz hcat
            go_wp2_with fail
            go_ret2
            exact ⟨rfl, .inl ⟨a, j, HC.out, rfl⟩⟩
      · have hdb : (((dig true).toNat : Int) == 48) = false := rfl
        go_wp2_with fail
        go_round
        case rel => exact ⟨k + 1, by have := HIK.out; omega, by have := HIK.out; go_num, Lib.hid (by rw [show l.length - (k + 1) = i by have := HIK.out; omega, HCUT.out, HH.out]; rfl)⟩
        case measure => simp [intOf]
    · have hke : k = l.length := by omega
      subst hke
      have hH' := hH.out
      rw [Nat.sub_self, List.drop_zero] at hH'
      have HH := Lib.hid hH'
      have hneg : (l.length : Int) - 1 - (l.length : Int) = -1 := by omega
      rw [hneg]
      clear hH hH' hneg
      go_wp2_with fail
      go_ret2
      exact ⟨rfl, .inr ⟨HH.out, rfl⟩⟩
end Go.Proofs.Ytmcjhkdcbblnnaa.Hf

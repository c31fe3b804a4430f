
/- The law's pixels; the document's colour, run, Row. -/
import Derived.Test.YtmbfgejephgojaaDoorMhP
import Derived.Test.YtmbfgejephgojaaDoorFyI
import Derived.Test.YtmbfgejephgojaaDoorRnK
import Derived.BigQuiet
namespace Go.Proofs.YtmbfgejephgojaaDoor.Mh
open Go.RowKit Go.Proofs.YtmbfgejephgojaaDoor.Oct Go.Proofs.YtmbfgejephgojaaDoor.Bit
open Go.Proofs.YtmbfgejephgojaaDoor.Fx (tellF rtell_any)
set_option linter.unusedVariables false
set_option linter.unusedSimpArgs false
set_option maxRecDepth 100000

theorem rcolour_any (b : Bool) (w : World) : Calls Tryd.prog 73 #[.bool b] w fun e w' => e = .returned (.string (ds [b])) ∧ w = w' := by
  cases b
  · go_enter Tryd.func73, Tryd.ntmps73
    go_wp2_with fail
    go_ret
    exact ⟨rfl, rfl⟩
  · go_enter Tryd.func73, Tryd.ntmps73
    go_wp2_with fail
    go_ret
    exact ⟨rfl, rfl⟩
set_option maxHeartbeats 1000000 in
theorem rrun_any (n : Nat) (b : Bool) (w : World) (hn : n ≤ 100000) : Calls Tryd.prog 51 #[.int .i64 (n : Int), .bool b] w fun e w' => e = .returned (.string (ds (List.replicate n b))) ∧ w = w' := by
  have hc := fun w => rcolour_any b w
  have hz1 : (ds [b]).size = 1 := by rw [ds_size]; rfl
  have HAP := Lib.hid (fun k : Nat => (ds_append (List.replicate k b) [b]).trans (by rw [← List.replicate_succ']))
  have HSZ := Lib.hid (fun k : Nat => (ds_size (List.replicate k b)).trans (by rw [List.length_replicate]))
  generalize ds [b] = C at *
  have HC := Lib.hid hc
  clear hc
  go_enter Tryd.func51, Tryd.ntmps51
  go_wp2_with fail
  go_loop [5, 6] (fun s i => ∃ k : Nat, k ≤ n ∧ i = .int .i64 (k : Int) ∧ s = .string (ds (List.replicate k b))) (fun _ i => n - (intOf i).toNat)
  case atStart => exact ⟨0, by omega, rfl, rfl⟩
  case round =>
    obtain ⟨k, hk, rfl, rfl⟩ := hrel
    by_cases hlt : k < n
    · have hd : decide ((k : Int) < (n : Int)) = true := by simp; omega
      have hs := HSZ.out k
      have hap := Lib.hid (HAP.out k)
      generalize hT : ds (List.replicate k b) = T at *
      clear hT
      go_wp2_with fail
      refine (HC.out _).mono ?_
      rintro e w' ⟨rfl, rfl⟩
      go_wp2_with fail
      go_round
      case rel => exact ⟨k + 1, by omega, by go_num, by rw [hap.out]⟩
      case measure => simp [intOf]; omega
    · have hke : k = n := by omega
      subst hke
      have hd : decide ((k : Int) < (k : Int)) = false := by simp
      go_wp2_with fail
      go_ret
      exact ⟨rfl, rfl⟩
theorem and1f : ∀ m : Fin 256, bits .and .u8 ((m.val : Nat) : Int) 1 = ((m.val % 2 : Nat) : Int) := by decide +kernel
theorem and1b (m : Nat) (h : m < 256) : bits .and .u8 (m : Int) 1 = ((m % 2 : Nat) : Int) := and1f ⟨m, h⟩
/-- a text's bytes as white and black -/
def pixB (xs : List UInt8) : List Bool := xs.map fun c => c.toNat % 2 == 1
theorem pixB_length (xs : List UInt8) : (pixB xs).length = xs.length := by simp [pixB]
theorem one_black : ({ data := #[48, 49] } : ByteArray).extract 1 2 = ds [true] := by show (ds [false, true]).extract 1 2 = _; rw [ds_extract]; rfl
theorem one_white : ({ data := #[48, 49] } : ByteArray).extract 0 1 = ds [false] := by show (ds [false, true]).extract 0 1 = _; rw [ds_extract]; rfl
theorem ds_one (X : List Bool) (k : Nat) (h : k < X.length) : (ds X).extract k (k + 1) = ds [X[k]] := by
  rw [ds_extract, show k + 1 - k = 1 from by omega, List.drop_eq_getElem_cons h]
  rfl
theorem restR_len (b : Bool) (n : Nat) : ∀ (l : List Bool) (b : Bool) (n : Nat), n + l.length ≤ 32768 → (restR b n l).length ≤ 200 * (l.length + 1)
  | [], b, n, h => by
    rw [restR_nil]
    simpa using tellF_len b n (by simpa using h)
  | x :: l, b, n, h => by
    rw [List.length_cons] at h ⊢
    by_cases hx : x = b
    · subst hx
      rw [restR_same]
      have := restR_len b n l x (n + 1) (by omega)
      omega
    · have hb : (!b) = x := by cases b <;> cases x <;> simp_all
      subst hb
      rw [restR_turn, List.length_append]
      have h1 := restR_len b n l (!b) 1 (by omega)
      have h2 := tellF_len b n (by omega)
      omega
end Go.Proofs.YtmbfgejephgojaaDoor.Mh

/- Contracts of slices.Clone over bytes and of NewReader; the chapter's example holds. -/
import Derived.Test.YtpphcooikhncfaaBitC
import Derived.Lib.SliceRun
namespace Go.Proofs.Ytpphcooikhncfaa.Bit
open Go.RowKit Go.Proofs.Ytpphcooikhncfaa.Oct
set_option linter.unusedVariables false

def CloneP (w : World) (xs : List UInt8) (e : Ending) (w' : World) : Prop :=
  Below w.heap.size w w' ∧ ∃ q cap, e = .returned (.slice q xs.length cap) ∧ Row w' q xs ∧ xs.length ≤ cap ∧ cap ≤ maxLen ∧ (q = none → cap = 0) ∧ ∀ a, q = some a → w.heap.size ≤ a.block
theorem clone_any (p : Option Addr) (len cap : Nat) (xs : List UInt8) (w : World) (hr : Row w p xs) (hx : xs.length = len) (hnil : p = none → cap = 0) (h47 : len ≤ 140737488355328) :
    Calls Try.prog 34 #[.slice p len cap] w (CloneP w xs) := by
  rcases p with _ | ad
  · have hxs : xs = [] := by
      rcases xs with _ | ⟨x, xs⟩
      · rfl
      · obtain ⟨b, off, he, _⟩ := hr (by simp)
        cases he
    subst hxs
    simp at hx
    subst hx
    have hcap := hnil rfl
    subst hcap
    clear hnil
    have heq : ∀ w' : World, (binOp .eql 22 (.slice none 0 0) (.slice none 0 0)).run Try.prog w' = .ok (.bool true) w' := fun w' => Lib.run_eql_slice_nil (P := Try.prog) w' 22 5 none 0 0 0 0 Try.underlying22
    go_enter Try.func34, Try.ntmps34
    go_wp2_with fail
    go_ret
    exact ⟨Below.refl _ _, none, 0, rfl, fun h => absurd h (by simp), by simp, by simp [maxLen], fun _ => rfl, (fun a h => by cases h)⟩
  · have hown := World.ownsRow_made (base := w.heap.size) (e := 5) (size := 1) w #[] 0 (Nat.le_refl _) (by simp [maxLen]) rfl
    have hr2 := hr.below ((Below.refl _ w).alloc (Nat.le_refl _) (.cells #[] 5))
    have HX := Lib.hid hx
    clear hx hnil
    have heq : ∀ w' : World, (binOp .eql 22 (.slice (some ad) len cap) (.slice none 0 0)).run Try.prog w' = .ok (.bool false) w' := fun w' => Lib.run_eql_slice_nil (P := Try.prog) w' 22 5 (some ad) len cap 0 0 Try.underlying22
    go_enter Try.func34, Try.ntmps34
    go_wp2_with (at_builtin; refine wpList_append_bytes rfl _ _ rfl w.heap.size _ 0 [] rfl hown (some ad) len cap xs rfl hr2 HX.out (fun h => by cases h) (by omega) (by simp) ?_)
    intro v' w2 hown' hgrow hv
    obtain ⟨g, cap2, hv', hgc, hgm, hgb, hgl, hrow2⟩ := own_form hown' hv
    rw [hv']
    have hb12 : Below w.heap.size w w2 := ((Below.refl _ w).alloc (Nat.le_refl _) _).grown hgrow (by simp) (fun k hk => by
      simp [Value.ownBlock] at hk; omega)
    clear hown hr2 hown' hgrow hv hv'
    go_wp2_with fail
    go_ret
    exact ⟨hb12, some ⟨g, 0, none⟩, cap2, by rw [HX.out]; simp, hrow2, by rw [HX.out]; omega, hgm, (fun h => by cases h), (fun a h => by injection h with h; subst h; exact hgb)⟩
def NewP (w : World) (xs : List UInt8) (low : Bool) (e : Ending) (w' : World) : Prop :=
  Below w.heap.size w w' ∧ ∃ g q cap, e = .returned (.pointer (some ⟨g, 0, none⟩)) ∧ w.heap.size ≤ g ∧ Rd w' g q cap xs 0 low ∧ ∀ a, q = some a → w.heap.size ≤ a.block
theorem newReader_any (p : Option Addr) (len cap : Nat) (xs : List UInt8) (low : Bool) (w : World) (hr : Row w p xs) (hx : xs.length = len) (hnil : p = none → cap = 0) (h47 : len ≤ 140737488355328) :
    Calls Try.prog 11 #[.slice p len cap, .bool low] w (NewP w xs low) := by
  go_enter Try.func11, Try.ntmps11
  go_wp2_with fail
  refine (clone_any _ _ _ xs _ hr hx hnil h47).mono ?_
  rintro e w1 ⟨hb, q, cap1, rfl, hr1, hc1, hc2, _, hqb⟩
  have HX := Lib.hid hx
  clear hx hnil
  go_wp2_with fail
  go_ret
  refine ⟨hb.alloc hb.size _, w1.heap.size, q, cap1, rfl, hb.size, ⟨?_, ?_, by omega, ?_⟩, hqb⟩
  · show (w1.heap.push _)[w1.heap.size]? = _
    simp
  · intro h0
    obtain ⟨b, off, e, hlt, hc⟩ := hr1 h0
    refine ⟨b, off, e, hlt, fun i hi => ?_⟩
    rw [← hc i hi]
    exact World.cell?_of_block (w := w1) (Below.heap_alloc _ _ _ hlt)
  · rw [HX.out]; omega
theorem row_one (w : World) (x : UInt8) (T : Nat) : Row (w.alloc (.cells #[.int .u8 (x.toNat : Int)] T)) (some ⟨w.heap.size, 0, none⟩) [x] := by
  intro _
  refine ⟨w.heap.size, 0, rfl, by simp, fun i h => ?_⟩
  match i, h with
  | 0, _ => simp
theorem lives_any (w : World) : Calls Try.prog 9 #[] w fun e w' => e = .returned (.bool true) ∧ Below w.heap.size w w' := by
  go_enter Try.func9, Try.ntmps9
  go_wp2_with fail
  refine (newReader_any _ _ _ [160] _ _ (by exact row_one w 160 _) rfl (fun h => by cases h) (by simp)).mono ?_
  rintro e w1 ⟨hb1, g1, q1, cap1, rfl, hg1, hR1, _⟩
  have hz1 := hb1.size
  simp at hz1 hg1
  go_wp2_with fail
  refine (read_any _ _ _ _ _ _ _ _ hR1).mono ?_
  rintro e w2 ⟨rfl, hR2, ho2, hz2'⟩
  have hz2 := Nat.le_of_eq hz2'.symm
  clear hz2'
  have e1 : readV 3 false [160] 0 = 5 := by decide
  have e2 : readE 3 (8 * [(160 : UInt8)].length) 0 = 0 := by decide
  rw [e1, e2]; clear e1 e2
  go_wp2_with fail
  refine (newReader_any _ _ _ [5] _ _ (by exact row_one w2 5 _) rfl (fun h => by cases h) (by simp)).mono ?_
  rintro e w3 ⟨hb3, g3, q3, cap3, rfl, hg3, hR3, _⟩
  have hz3 := hb3.size
  simp at hz3 hg3
  go_wp2_with fail
  refine (read_any _ _ _ _ _ _ _ _ hR3).mono ?_
  rintro e w4 ⟨rfl, hR4, ho4, hz4'⟩
  have hz4 := Nat.le_of_eq hz4'.symm
  clear hz4'
  have e1 : readV 3 true [5] 0 = 5 := by decide
  have e2 : readE 3 (8 * [(5 : UInt8)].length) 0 = 0 := by decide
  rw [e1, e2]; clear e1 e2
  go_wp2_with fail
  go_ret
  have b1 : Below w.heap.size w w1 := ((Below.refl _ w).alloc (Nat.le_refl _) _).trans (hb1.mono (by simp))
  have b2 : Below w.heap.size w1 w2 := ho2.below (by omega) (fun k hk e => by omega)
  have b3 : Below w.heap.size w2 w3 := ((Below.refl _ w2).alloc (by omega) _).trans (hb3.mono (by simp; omega))
  have b4 : Below w.heap.size w3 w4 := ho4.below (by omega) (fun k hk e => by omega)
  exact ⟨rfl, ((b1.trans b2).trans b3).trans b4⟩
end Go.Proofs.Ytpphcooikhncfaa.Bit

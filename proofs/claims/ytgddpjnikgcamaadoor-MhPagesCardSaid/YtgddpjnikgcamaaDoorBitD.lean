
/- Contracts of slices.Clone over bytes and of NewReader; the chapter's example holds. -/
import Derived.Test.YtgddpjnikgcamaaDoorBitC
import Derived.Lib.SliceRun
namespace Go.Proofs.YtgddpjnikgcamaaDoor.Bit
open Go.RowKit Go.Proofs.YtgddpjnikgcamaaDoor.Oct
set_option linter.unusedVariables false

def CloneP (w : World) (xs : List UInt8) (e : Ending) (w' : World) : Prop :=
  Below w.heap.size w w' ∧ ∃ q cap, e = .returned (.slice q xs.length cap) ∧ Row w' q xs ∧ xs.length ≤ cap ∧ cap ≤ maxLen ∧ (q = none → cap = 0) ∧ ∀ a, q = some a → w.heap.size ≤ a.block
theorem clone_any (p : Option Addr) (len cap : Nat) (xs : List UInt8) (w : World) (hr : Row w p xs) (hx : xs.length = len) (hnil : p = none → cap = 0) (h47 : len ≤ 140737488355328) :
    Calls Tryd.prog 48 #[.slice p len cap] w (CloneP w xs) := by
  rcases p with _ | ad
  · have hxs : xs = [] := by
      rcases xs with _ | ⟨x, xs⟩
      · rfl
      · obtain ⟨b, off, he, _⟩ := hr (by simp)
        cases he
    subst hxs
    simp at hx
    subst hx
    have hcap := hnil rfl
    subst hcap
    clear hnil
    have heq : ∀ w' : World, (binOp .eql 22 (.slice none 0 0) (.slice none 0 0)).run Tryd.prog w' = .ok (.bool true) w' := fun w' => Lib.run_eql_slice_nil (P := Tryd.prog) w' 22 5 none 0 0 0 0 Tryd.underlying22
    go_enter Tryd.func48, Tryd.ntmps48
    go_wp2_with fail
    go_ret
    exact ⟨Below.refl _ _, none, 0, rfl, fun h => absurd h (by simp), by simp, by simp [maxLen], fun _ => rfl, (fun a h => by cases h)⟩
  · have hown := World.ownsRow_made (base := w.heap.size) (e := 5) (size := 1) w #[] 0 (Nat.le_refl _) (by simp [maxLen]) rfl
    have hr2 := hr.below ((Below.refl _ w).alloc (Nat.le_refl _) (.cells #[] 5))
    have HX := Lib.hid hx
    clear hx hnil
    have heq : ∀ w' : World, (binOp .eql 22 (.slice (some ad) len cap) (.slice none 0 0)).run Tryd.prog w' = .ok (.bool false) w' := fun w' => Lib.run_eql_slice_nil (P := Tryd.prog) w' 22 5 (some ad) len cap 0 0 Tryd.underlying22
    go_enter Tryd.func48, Tryd.ntmps48
    go_wp2_with (at_builtin; refine wpList_append_bytes rfl _ _ rfl w.heap.size _ 0 [] rfl hown (some ad) len cap xs rfl hr2 HX.out (fun h => by cases h) (by omega) (by simp) ?_)
    intro v' w2 hown' hgrow hv
    obtain ⟨g, cap2, hv', hgc, hgm, hgb, hgl, hrow2⟩ := own_form hown' hv
    rw [hv']
    have hb12 : Below w.heap.size w w2 := ((Below.refl _ w).alloc (Nat.le_refl _) _).grown hgrow (by simp) (fun k hk => by
      simp [Value.ownBlock] at hk; omega)
    clear hown hr2 hown' hgrow hv hv'
    go_wp2_with fail
    go_ret
    exact ⟨hb12, some ⟨g, 0, none⟩, cap2, by rw [HX.out]; simp, hrow2, by rw [HX.out]; omega, hgm, (fun h => by cases h), (fun a h => by injection h with h; subst h; exact hgb)⟩
def NewP (w : World) (xs : List UInt8) (low : Bool) (e : Ending) (w' : World) : Prop :=
  Below w.heap.size w w' ∧ ∃ g q cap, e = .returned (.pointer (some ⟨g, 0, none⟩)) ∧ w.heap.size ≤ g ∧ Rd w' g q cap xs 0 low ∧ ∀ a, q = some a → w.heap.size ≤ a.block
theorem newReader_any (p : Option Addr) (len cap : Nat) (xs : List UInt8) (low : Bool) (w : World) (hr : Row w p xs) (hx : xs.length = len) (hnil : p = none → cap = 0) (h47 : len ≤ 140737488355328) :
    Calls Tryd.prog 21 #[.slice p len cap, .bool low] w (NewP w xs low) := by
  go_enter Tryd.func21, Tryd.ntmps21
  go_wp2_with fail
  refine (clone_any _ _ _ xs _ hr hx hnil h47).mono ?_
  rintro e w1 ⟨hb, q, cap1, rfl, hr1, hc1, hc2, _, hqb⟩
  have HX := Lib.hid hx
  clear hx hnil
  go_wp2_with fail
  go_ret
  refine ⟨hb.alloc hb.size _, w1.heap.size, q, cap1, rfl, hb.size, ⟨?_, ?_, by omega, ?_⟩, hqb⟩
  · show (w1.heap.push _)[w1.heap.size]? = _
    simp
  · intro h0
    obtain ⟨b, off, e, hlt, hc⟩ := hr1 h0
    refine ⟨b, off, e, hlt, fun i hi => ?_⟩
    rw [← hc i hi]
    exact World.cell?_of_block (w := w1) (Below.heap_alloc _ _ _ hlt)
  · rw [HX.out]; omega
theorem row_one (w : World) (x : UInt8) (T : Nat) : Row (w.alloc (.cells #[.int .u8 (x.toNat : Int)] T)) (some ⟨w.heap.size, 0, none⟩) [x] := by
  intro _
  refine ⟨w.heap.size, 0, rfl, by simp, fun i h => ?_⟩
  match i, h with
  | 0, _ => simp
end Go.Proofs.YtgddpjnikgcamaaDoor.Bit


/- The contracts of Fixed and of Order. -/
import Derived.Test.YtmcjhkdcbblnnaaIgH
namespace Go.Proofs.Ytmcjhkdcbblnnaa.Inf
open Go.RowKit Go.Shelf Go.Proofs.Ytmcjhkdcbblnnaa.Oct Go.Proofs.Ytmcjhkdcbblnnaa.Bit Go.Proofs.Ytmcjhkdcbblnnaa.Hf
set_option linter.unusedVariables false
set_option linter.unusedSimpArgs false
set_option maxRecDepth 100000

def castZ (L : List Nat) : List Int := L.map fun n : Nat => (n : Int)
theorem castZ_length (L : List Nat) : (castZ L).length = L.length := by simp [castZ]
theorem rep_step (w0 w : World) (hb : Below w0.heap.size w0 w) (z N : Int) (n : Nat) (hN : N = (n : Int)) (h1 : 1 ≤ n) (hn : n ≤ 1000) :
    Calls Try.prog 30 #[.slice (some ⟨w.heap.size, 0, none⟩) 1 1, .int .i64 N] (w.alloc (.cells #[.int .i64 z] 3)) fun e w' => ∃ b, e = .returned (.slice (some ⟨b, 0, none⟩) n n) ∧ Below w0.heap.size w0 w' ∧ Below w.heap.size w w' ∧ VRow w' w'.heap.size (some ⟨b, 0, none⟩) (ints (List.replicate n z)) := by
  subst hN
  have hba : Below w.heap.size w (w.alloc (.cells #[.int .i64 z] 3)) := (Below.refl _ w).alloc (Nat.le_refl _) _
  have hv : VRow (w.alloc (.cells #[.int .i64 z] 3)) (w.alloc (.cells #[.int .i64 z] 3)).heap.size (some ⟨w.heap.size, 0, none⟩) (ints [z]) := vrow_blk (vs := ints [z]) (T := 3) (fr := (0, 0)) (Array.getElem?_push_size) (by simp)
  refine (repI_any _ 1 z n _ hv h1 hn).mono ?_
  rintro e w' ⟨rfl, hb2, hv2⟩
  have h3 : Below w.heap.size w w' := hba.trans (hb2.mono (by simp))
  exact ⟨_, rfl, hb.trans (h3.mono hb.size), h3, hv2⟩
/-- what Fixed gives -/
def FixdP (w : World) (e : Ending) (w' : World) : Prop :=
  Below w.heap.size w w' ∧ ∃ q c r d, e = .returned (.tuple #[.slice q 288 c, .slice r 30 d]) ∧ VRow w' w'.heap.size q (ints (castZ fixedA)) ∧ (q = none → c = 0) ∧ VRow w' w'.heap.size r (ints (castZ fixedB)) ∧ (r = none → d = 0)
theorem fixedA_flat : ([List.replicate 144 8, List.replicate 112 9, List.replicate 24 7, List.replicate 8 8] : List (List Int)).flatten = castZ fixedA := by decide +kernel
theorem fixedB_flat : (List.replicate 30 5 : List Int) = castZ fixedB := by decide +kernel
set_option maxHeartbeats 1000000 in
theorem fixed_any (w : World) : Calls Try.prog 9 #[] w (FixdP w) := by
  go_enter Try.func9, Try.ntmps9
  go_wp2_with fail
  refine (rep_step w w (Below.refl _ _) 8 144 144 rfl (by omega) (by omega)).mono ?_
  rintro e w1 ⟨b1, rfl, hB1, _, hv1⟩
  have HB1 := Lib.hid hB1
  have HV1 := Lib.hid hv1
  clear hB1 hv1
  go_wp2_with fail
  refine (rep_step w w1 HB1.out 9 112 112 rfl (by omega) (by omega)).mono ?_
  rintro e w2 ⟨b2, rfl, hB2, hb2, hv2⟩
  have HB2 := Lib.hid hB2
  have HV2 := Lib.hid hv2
  have HV12 := Lib.hid ((HV1.out.below hb2 (Nat.le_refl _)).mono hb2.size)
  clear hB2 hv2 hb2
  go_wp2_with fail
  refine (rep_step w w2 HB2.out 7 24 24 rfl (by omega) (by omega)).mono ?_
  rintro e w3 ⟨b3, rfl, hB3, hb3, hv3⟩
  have HB3 := Lib.hid hB3
  have HV3 := Lib.hid hv3
  have HV13 := Lib.hid ((HV12.out.below hb3 (Nat.le_refl _)).mono hb3.size)
  have HV23 := Lib.hid ((HV2.out.below hb3 (Nat.le_refl _)).mono hb3.size)
  clear hB3 hv3 hb3
  go_wp2_with fail
  refine (rep_step w w3 HB3.out 8 8 8 rfl (by omega) (by omega)).mono ?_
  rintro e w4 ⟨b4, rfl, hB4, hb4, hv4⟩
  have HB4 := Lib.hid hB4
  obtain ⟨w5, hw5⟩ : ∃ w5, w5 = w4.alloc (.cells #[.slice (some ⟨b1, 0, none⟩) 144 144, .slice (some ⟨b2, 0, none⟩) 112 112, .slice (some ⟨b3, 0, none⟩) 24 24, .slice (some ⟨b4, 0, none⟩) 8 8] 30) := ⟨_, rfl⟩
  have hb5 : Below w4.heap.size w4 w5 := by rw [hw5]; exact (Below.refl _ w4).alloc (Nat.le_refl _) _
  have hblk : w5.heap[w4.heap.size]? = some (.cells #[.slice (some ⟨b1, 0, none⟩) 144 144, .slice (some ⟨b2, 0, none⟩) 112 112, .slice (some ⟨b3, 0, none⟩) 24 24, .slice (some ⟨b4, 0, none⟩) 8 8] 30 (0, 0)) := by rw [hw5]; exact Array.getElem?_push_size
  have hrows : RowsAt w5 w4.heap.size [List.replicate 144 8, List.replicate 112 9, List.replicate 24 7, List.replicate 8 8] := by
    have lift : ∀ {p : Option Addr} {vs : List Value}, VRow w4 w4.heap.size p vs → VRow w5 w5.heap.size p vs := fun h => (h.below hb5 (Nat.le_refl _)).mono hb5.size
    intro k hk
    match k, hk with
    | 0, _ => exact ⟨some ⟨b1, 0, none⟩, 144, by simp [World.cell?, hblk], lift ((HV13.out.below hb4 (Nat.le_refl _)).mono hb4.size), (fun h => by cases h), by simp⟩
    | 1, _ => exact ⟨some ⟨b2, 0, none⟩, 112, by simp [World.cell?, hblk], lift ((HV23.out.below hb4 (Nat.le_refl _)).mono hb4.size), (fun h => by cases h), by simp⟩
    | 2, _ => exact ⟨some ⟨b3, 0, none⟩, 24, by simp [World.cell?, hblk], lift ((HV3.out.below hb4 (Nat.le_refl _)).mono hb4.size), (fun h => by cases h), by simp⟩
    | 3, _ => exact ⟨some ⟨b4, 0, none⟩, 8, by simp [World.cell?, hblk], lift hv4, (fun h => by cases h), by simp⟩
  have HCAT := Lib.hid (concatI_any w4.heap.size 4 _ w5 (by rw [hw5]; simp) hrows (by simp) (by simp))
  have HB5 := Lib.hid (HB4.out.trans (hb5.mono HB4.out.size))
  have HW5 := Lib.hid hw5
  clear hB4 hv4 hb4 hb5 hblk hrows hw5
  go_wp2_with fail
  rw [← HW5.out]
  refine HCAT.out.mono ?_
  rintro e w6 ⟨v, rfl, ho, hb6⟩
  rw [fixedA_flat] at ho
  obtain ⟨q, c, rfl, hq0, hqc, hqm, hqr, _⟩ := vrow_own ho (ints_length _)
  have HB6 := Lib.hid (HB5.out.trans (hb6.mono HB5.out.size))
  have HQ := Lib.hid hqr
  have HQ0 := Lib.hid hq0
  clear ho hb6 hqr hq0 hqc hqm
  go_wp2_with fail
  refine (rep_step w w6 HB6.out 5 30 30 rfl (by omega) (by omega)).mono ?_
  rintro e w7 ⟨b7, rfl, hB7, hb7, hv7⟩
  have HB7 := Lib.hid hB7
  have HV7 := Lib.hid hv7
  have HQ7 := Lib.hid ((HQ.out.below hb7 (Nat.le_refl _)).mono hb7.size)
  clear hB7 hv7 hb7
  go_wp2_with fail
  go_ret2
  exact ⟨HB7.out, q, c, _, _, rfl, HQ7.out, HQ0.out, by rw [← fixedB_flat]; exact HV7.out, fun h => by cases h⟩
/-- what Order gives -/
def OrdP (w : World) (e : Ending) (w' : World) : Prop := e = .returned (.slice (some ⟨w.heap.size, 0, none⟩) 19 19) ∧ Below w.heap.size w w' ∧ VRow w' w'.heap.size (some ⟨w.heap.size, 0, none⟩) (ints (castZ order))
theorem order_any (w : World) : Calls Try.prog 12 #[] w (OrdP w) := by
  go_enter Try.func12, Try.ntmps12
  go_wp2_with fail
  go_ret
  exact ⟨rfl, (Below.refl _ w).alloc (Nat.le_refl _) _, vrow_blk (vs := ints (castZ order)) (T := 3) (fr := (0, 0)) (Array.getElem?_push_size) (by simp)⟩
theorem rorder_any (w : World) : Calls Try.prog 13 #[] w (OrdP w) := by
  go_enter Try.func13, Try.ntmps13
  go_wp2_with fail
  go_ret
  exact ⟨rfl, (Below.refl _ w).alloc (Nat.le_refl _) _, vrow_blk (vs := ints (castZ order)) (T := 3) (fr := (0, 0)) (Array.getElem?_push_size) (by simp)⟩
end Go.Proofs.Ytmcjhkdcbblnnaa.Inf


/- The chapter's examples hold; same; the document's Fixed and Froms. -/
import Derived.Test.YtmcjhkdcbblnnaaIgQ
namespace Go.Proofs.Ytmcjhkdcbblnnaa.Inf
open Go.RowKit Go.Proofs.Ytmcjhkdcbblnnaa.Oct Go.Proofs.Ytmcjhkdcbblnnaa.Bit Go.Proofs.Ytmcjhkdcbblnnaa.Hf
set_option linter.unusedVariables false
set_option linter.unusedSimpArgs false
set_option maxRecDepth 100000

theorem ex_one : infZ [1, 1, 0, 254, 255, 97] 5 = .ok ([97], 6) := by kernel_rfl
theorem ex_two : infZ [3, 0] 5 = .ok ([], 2) := by kernel_rfl
theorem row_new9 (w : World) (xs : List UInt8) (T : Nat) (fr : Nat × Nat) : Row (w.alloc (.cells (cellsOf xs).toArray T fr)) (some ⟨w.heap.size, 0, none⟩) xs := by
  intro _
  refine ⟨w.heap.size, 0, rfl, by simp, fun i h => ?_⟩
  rw [World.cell?_alloc_mark, Nat.zero_add]
  simp [cellsOf, h]
def TrueP (w : World) (e : Ending) (w' : World) : Prop := e = .returned (.bool true) ∧ Below w.heap.size w w'
set_option maxHeartbeats 2000000 in
theorem lives_any (w : World) : Calls Try.prog 6 #[] w (TrueP w) := by
  have hba : Below w.heap.size w (w.alloc (.cells #[.int .u8 1, .int .u8 1, .int .u8 0, .int .u8 254, .int .u8 255, .int .u8 97] 5)) := (Below.refl _ w).alloc (Nat.le_refl _) _
  have hra : Row (w.alloc (.cells #[.int .u8 1, .int .u8 1, .int .u8 0, .int .u8 254, .int .u8 255, .int .u8 97] 5)) (some ⟨w.heap.size, 0, none⟩) [1, 1, 0, 254, 255, 97] := row_new9 w [1, 1, 0, 254, 255, 97] 5 (0, 0)
  have HI := Lib.hid (inflate_any (some ⟨w.heap.size, 0, none⟩) 6 6 [1, 1, 0, 254, 255, 97] 5 _ hra rfl (fun h => by cases h) (by omega) (by omega))
  have HBA := Lib.hid hba
  clear hba hra
  go_enter Try.func6, Try.ntmps6
  go_wp2_with fail
  refine HI.out.mono ?_
  rintro e w1 ⟨hb1, hres⟩
  rw [ex_one] at hres
  rcases hres with ⟨o, k, q, c, hok, rfl, hrow, hq0, hoc, hcm, _⟩ | ⟨c, hok, _⟩
  · cases hok
    have HB1 := Lib.hid (HBA.out.trans (hb1.mono HBA.out.size))
    have hra2 : Row (w1.alloc (.cells #[.int .u8 3, .int .u8 0] 5)) (some ⟨w1.heap.size, 0, none⟩) [3, 0] := row_new9 w1 [3, 0] 5 (0, 0)
    have hba2 : Below w1.heap.size w1 (w1.alloc (.cells #[.int .u8 3, .int .u8 0] 5)) := (Below.refl _ w1).alloc (Nat.le_refl _) _
    have HI2 := Lib.hid (inflate_any (some ⟨w1.heap.size, 0, none⟩) 2 2 [3, 0] 5 _ hra2 rfl (fun h => by cases h) (by omega) (by omega))
    have HR := Lib.hid hrow
    have HBA2 := Lib.hid hba2
    have HOC := Lib.hid hoc
    clear hb1 hra2 hba2 hrow hq0 hoc hcm HI
    go_wp2_with fail
    refine HI2.out.mono ?_
    rintro e w2 ⟨hb2, hres⟩
    rw [ex_two] at hres
    rcases hres with ⟨o, k, q2, c2, hok, rfl, hrow2, hq02, hoc2, hcm2, _⟩ | ⟨c, hok, _⟩
    · cases hok
      have hb3 := HBA2.out.trans (hb2.mono HBA2.out.size)
      have hconv := conv_row 1 c (HR.out.below hb3) rfl
      have HB2 := Lib.hid (HB1.out.trans (hb3.mono HB1.out.size))
      have hbs : bs [97] = { data := #[97] } := rfl
      rw [hbs] at hconv
      clear hb2 hb3 hrow2 hq02 hoc2 hcm2 hbs
      go_wp2_with fail
      go_ret
      exact ⟨rfl, HB2.out⟩
    · cases hok
  · cases hok
theorem same_eq (p q : Option Addr) (c d n : Nat) (zs : List Int) (w : World) (C D : Nat) (h1 : VRow w C p (ints zs)) (h2 : VRow w D q (ints zs)) (hn : zs.length = n) (hl : n ≤ 100000) :
    Calls Try.prog 11 #[.slice p n c, .slice q n d] w fun e w' => e = .returned (.bool true) ∧ Drawn w w' := by
  have H1 := Lib.hid h1
  have H2 := Lib.hid h2
  have HN := Lib.hid hn
  clear h1 h2 hn
  go_enter Try.func11, Try.ntmps11
  go_wp2_with fail
  go_loopw [5, 13] (fun _ i wr => ∃ k : Nat, k ≤ n ∧ i = .int .i64 (k : Int) ∧ Hid (Drawn w wr)) (fun _ i _ => n - (intOf i).toNat)
  case atStart => exact ⟨0, by omega, rfl, Lib.hid ⟨0, rfl⟩⟩
  case round =>
    obtain ⟨k, hk, rfl, HD⟩ := hrel
    by_cases hlt : k < n
    · have ql : decide ((k : Int) < (n : Int)) = true := by simpa using hlt
      have i1 : (0 : Int) ≤ (k : Int) := by omega
      have i2 : (k : Int) < (n : Int) := by omega
      have hkz : k < zs.length := by rw [HN.out]; exact hlt
      obtain ⟨b, off, rfl, hb⟩ := H1.out.addr (by rw [ints_length]; omega)
      obtain ⟨b2, off2, rfl, hb2⟩ := H2.out.addr (by rw [ints_length]; omega)
      have c1 : wr.cell? ⟨b, off + k, none⟩ = some (.int .i64 zs[k]) := by obtain ⟨j, rfl⟩ := HD.out; exact H1.out.int k hkz
      have c2 : wr.cell? ⟨b2, off2 + k, none⟩ = some (.int .i64 zs[k]) := by obtain ⟨j, rfl⟩ := HD.out; exact H2.out.int k hkz
      generalize zs[k] = z at c1 c2
      go_wp2_with fail
      go_quiet (fail)
      go_wp2_with fail
      go_roundw
      case rel => exact ⟨k + 1, by omega, by first | rfl | (push_cast; rfl), Lib.hid (HD.out.more _)⟩
      case measure => simp [intOf]; omega
    · have hkn : k = n := by omega
      subst hkn
      have ql : decide ((k : Int) < (k : Int)) = false := by simp
      go_wp2_with fail
      go_ret
      exact ⟨rfl, HD.out⟩
/-- what Froms gives -/
def FromsP (w : World) (far : Bool) (e : Ending) (w' : World) : Prop :=
  e = .returned (.tuple #[.slice (some ⟨w.heap.size, 0, none⟩) (froms far).length (froms far).length, .slice (some ⟨w.heap.size + 1, 0, none⟩) (froms far).length (froms far).length]) ∧ Below w.heap.size w w' ∧
    VRow w' w'.heap.size (some ⟨w.heap.size, 0, none⟩) (ints (castZ (froms far))) ∧ VRow w' w'.heap.size (some ⟨w.heap.size + 1, 0, none⟩) (ints (castZ (extras far)))
theorem two_rows (w : World) (us vs : List Value) (T : TypeId) : Below w.heap.size w ((w.alloc (.cells us.toArray T)).alloc (.cells vs.toArray T)) ∧
    VRow ((w.alloc (.cells us.toArray T)).alloc (.cells vs.toArray T)) ((w.alloc (.cells us.toArray T)).alloc (.cells vs.toArray T)).heap.size (some ⟨w.heap.size, 0, none⟩) us ∧
    VRow ((w.alloc (.cells us.toArray T)).alloc (.cells vs.toArray T)) ((w.alloc (.cells us.toArray T)).alloc (.cells vs.toArray T)).heap.size (some ⟨w.heap.size + 1, 0, none⟩) vs := by
  have h1 : Below w.heap.size w (w.alloc (.cells us.toArray T)) := (Below.refl _ w).alloc (Nat.le_refl _) _
  have h2 : Below (w.alloc (.cells us.toArray T)).heap.size (w.alloc (.cells us.toArray T)) ((w.alloc (.cells us.toArray T)).alloc (.cells vs.toArray T)) := (Below.refl _ _).alloc (Nat.le_refl _) _
  have hz : (w.alloc (.cells us.toArray T)).heap.size = w.heap.size + 1 := Array.size_push _
  refine ⟨h1.trans (h2.mono h1.size), ?_, ?_⟩
  · exact ((vrow_blk (g := w.heap.size) (T := T) (fr := (0, 0)) (vs := us) (C := (w.alloc (.cells us.toArray T)).heap.size) Array.getElem?_push_size (by omega)).below h2 (Nat.le_refl _)).mono h2.size
  · rw [← hz]
    exact vrow_blk (T := T) (fr := (0, 0)) (vs := vs) Array.getElem?_push_size (by simp)
set_option maxHeartbeats 4000000 in
theorem froms_any (far : Bool) (w : World) : Calls Try.prog 16 #[.bool far] w (FromsP w far) := by
  cases far
  · go_enter Try.func16, Try.ntmps16
    go_wp2_with fail
    go_ret2
    exact ⟨rfl, two_rows w (ints (castZ (froms false))) (ints (castZ (extras false))) 3⟩
  · go_enter Try.func16, Try.ntmps16
    go_wp2_with fail
    go_ret2
    exact ⟨rfl, two_rows w (ints (castZ (froms true))) (ints (castZ (extras true))) 3⟩
end Go.Proofs.Ytmcjhkdcbblnnaa.Inf

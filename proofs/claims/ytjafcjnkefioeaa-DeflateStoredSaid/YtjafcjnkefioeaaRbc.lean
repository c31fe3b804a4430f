/- DgK, DgL: merged. -/
import Derived.Laws.BitsAllLaws
import Derived.Laws.Strings
import Derived.Laws.BytesArg
import Derived.Test.YtjafcjnkefioeaaRows
import Derived.WalkKit
import Derived.ProofKit
import Derived.WalkLawsBesides
import Derived.Lib.Hide
import Derived.Deep.QuietTactic
import Derived.BigQuiet
import Derived.Outline
import Derived.Laws.NewBlocks
import Derived.Laws.CopyOwn
import Derived.Laws.Concat
import Derived.Laws.Strings2
import Derived.WalkSpells
import Derived.Laws.AppendOwnNone
import Derived.OpenShut
import Derived.Lib.SliceRun
import Derived.ChangeKeysEq
import Derived.Laws.Pointers
import Derived.Deep.AppendLies
import Derived.Deep.RegionHeld3
import Derived.Laws.Externs
import Derived.Laws.IdiomCopy
import Derived.Lib.EndianMore
import Derived.Deep.RegionLaw
import Derived.Shelf.Spec.SlicesGrow
import Derived.LoopTactic
import Derived.Deep.LoopGhost
import Derived.Deep.DeepCutAuto
import Derived.BigRegion
import Derived.Deep.MidRow
import Derived.Deep.WholeRow
import Derived.Laws.ResultCell
import Derived.Sort.LotA
import Derived.Shelf.SlSortCmp.PdqK
import Derived.ChangeSlices
import Derived.Lib.BufferMore
import Derived.RegionTactic
import Derived.OwnWalk
import Derived.Lib.MinMax
import Derived.Deep.Slices
import Derived.Deep.Fields
import Derived.ChangeSame
import Derived.Deep.OwnRows
import Derived.Lib.SlBytesConst
import Derived.Test.YtjafcjnkefioeaaRbb
set_option linter.unusedVariables false
set_option linter.unusedSimpArgs false
/- The document's Stored. -/
namespace Go.Proofs.Ytjafcjnkefioeaa.Df
open Go.RowKit Go.Proofs.Ytjafcjnkefioeaa.Oct Go.Proofs.Ytjafcjnkefioeaa.Bit Go.Proofs.Ytjafcjnkefioeaa.Hf Go.Proofs.Ytjafcjnkefioeaa.Inf
set_option maxRecDepth 100000
def fiveV (lb : Bool) (m : Nat) : List UInt8 := [if lb then 1 else 0, UInt8.ofNat m, UInt8.ofNat (m / 256), UInt8.ofNat (65535 - m), UInt8.ofNat ((65535 - m) / 256)]
theorem five_sto (lb : Bool) (ys : List UInt8) : fiveV lb ys.length ++ ys = stoB lb ys := rfl
theorem five_cells (lb : Bool) (m : Nat) (h : m ≤ 65535) : cellsOf (fiveV lb m) = [.int .u8 (if lb then 1 else 0), .int .u8 ((m % 256 : Nat) : Int), .int .u8 ((m / 256 : Nat) : Int), .int .u8 ((255 - m % 256 : Nat) : Int), .int .u8 ((255 - m / 256 : Nat) : Int)] := by
  have e1 : (UInt8.ofNat m).toNat = m % 256 := by rw [UInt8.toNat_ofNat']
  have e2 : (UInt8.ofNat (m / 256)).toNat = m / 256 := by rw [UInt8.toNat_ofNat']; omega
  have e3 : (UInt8.ofNat (65535 - m)).toNat = 255 - m % 256 := by rw [UInt8.toNat_ofNat']; omega
  have e4 : (UInt8.ofNat ((65535 - m) / 256)).toNat = 255 - m / 256 := by rw [UInt8.toNat_ofNat']; omega
  have e0 : ((if lb then (1 : UInt8) else 0).toNat : Int) = if lb then 1 else 0 := by cases lb <;> rfl
  simp only [cellsOf, fiveV, List.map_cons, List.map_nil, e1, e2, e3, e4, e0]
theorem wi_nat (r : Nat) (h : r < 256) : IntKind.i64.wrap (r : Int) = (r : Int) := IntWalk.i64_in _ (by omega)
theorem w8_nat (r : Nat) (h : r < 256) : IntKind.u8.wrap (r : Int) = (r : Int) := by
  rw [IntKind.wrap_u8]
  omega
theorem five_rem (m : Nat) : (m : Int).tmod 256 = ((m % 256 : Nat) : Int) := by rw [Int.tmod_eq_emod_of_nonneg (by omega)]; omega
theorem five_quo (m : Nat) : (m : Int).tdiv 256 = ((m / 256 : Nat) : Int) := by rw [Int.tdiv_eq_ediv_of_nonneg (by omega)]; omega
def lenT : Value → Nat
  | .string s => s.size
  | _ => 0
set_option maxHeartbeats 4000000 in
theorem rstored_any (xs : List UInt8) (w : World) (hl : xs.length ≤ 190000) : Calls Try.prog 6 #[.string (bs xs)] w fun e w' => e = .returned (.string (bs (stoX xs))) ∧ Below w.heap.size w w' := by
  have HL := Lib.hid hl
  go_enter Try.func6, Try.ntmps6
  go_wp2_with fail
  go_loopw [0, 3] (fun s0 s3 wr => ∃ (pre rest : List UInt8), s0 = .string (bs rest) ∧ s3 = .string (bs pre) ∧ rest.length ≤ 190000 ∧ Hid (pre ++ stoX rest = stoX xs ∧ Below w.heap.size w wr ∧ (pre.length + 2 * rest.length ≤ 2 * xs.length))) (fun s0 _ _ => lenT s0)
  case atStart => exact ⟨[], xs, rfl, rfl, hl, Lib.hid ⟨rfl, Below.refl _ _, by simp⟩⟩
  case round =>
    obtain ⟨pre, rest, rfl, rfl, hrl, HS⟩ := hrel
    obtain ⟨L, hL⟩ : ∃ L, L = rest.length := ⟨_, rfl⟩
    obtain ⟨m, hm⟩ : ∃ m, m = min L 65535 := ⟨_, rfl⟩
    have hmn : m ≤ L := by omega
    have hm6 : m ≤ 65535 := by omega
    have hmin : min (L : Int) 65535 = (m : Int) := by omega
    obtain ⟨lb, hlb⟩ : ∃ lb : Bool, lb = decide (L ≤ 65535) := ⟨_, rfl⟩
    have qe : ((m : Int) == (L : Int)) = lb := by rw [hlb, Bool.eq_iff_iff]; simp; omega
    have x1 : (bs rest).extract 0 m = bs (rest.take m) := by rw [bs_extract]; simp
    have x2 : (bs rest).extract m L = bs (rest.drop m) := by rw [bs_extract, List.take_of_length_le (by rw [List.length_drop]; omega)]
    have hss : (bs rest).size = L := by rw [bs_size, hL]
    have hst : (bs (rest.take m)).size = m := by rw [bs_size, List.length_take]; omega
    have hsf : (bs (fiveV lb m)).size = 5 := by rw [bs_size]; rfl
    have hsp : (bs pre).size ≤ 400000 := by rw [bs_size]; have := HS.out.2.2; have := HL.out; omega
    have a1 : bs (fiveV lb m) ++ bs (rest.take m) = bs (fiveV lb m ++ rest.take m) := bs_append _ _
    have hsg : (bs (fiveV lb m ++ rest.take m)).size = m + 5 := by rw [bs_size, List.length_append, List.length_take, show (fiveV lb m).length = 5 from rfl]; omega
    have a2 : bs pre ++ bs (fiveV lb m ++ rest.take m) = bs (pre ++ (fiveV lb m ++ rest.take m)) := bs_append _ _
    have hr1 := five_rem m
    have hq1 := five_quo m
    obtain ⟨r1, hr1e⟩ : ∃ r1, r1 = m % 256 := ⟨_, rfl⟩
    obtain ⟨r2, hr2e⟩ : ∃ r2, r2 = m / 256 := ⟨_, rfl⟩
    have hr1b : r1 < 256 := by omega
    have hr2b : r2 < 256 := by omega
    rw [← hr1e] at hr1
    rw [← hr2e] at hq1
    obtain ⟨r3, hr3e⟩ : ∃ r3, r3 = 255 - r1 := ⟨_, rfl⟩
    obtain ⟨r4, hr4e⟩ : ∃ r4, r4 = 255 - r2 := ⟨_, rfl⟩
    have w3 : (255 : Int) - (r1 : Int) = (r3 : Int) := by omega
    have w4 : (255 : Int) - (r2 : Int) = (r4 : Int) := by omega
    have hr3b : r3 < 256 := by omega
    have hr4b : r4 < 256 := by omega
    have hfc := five_cells lb m hm6
    rw [← hr1e, ← hr2e, ← hr3e, ← hr4e] at hfc
    obtain ⟨W, hW⟩ : ∃ W, W = wr.alloc (.cells #[.int .u8 (if lb then 1 else 0), .int .u8 (r1 : Int), .int .u8 (r2 : Int), .int .u8 (r3 : Int), .int .u8 (r4 : Int)] 5) := ⟨_, rfl⟩
    have hrow : Row W (some ⟨wr.heap.size, 0, none⟩) (fiveV lb m) := by
      have h := row_newD wr (fiveV lb m) 5 (0, 0)
      rw [hfc] at h
      rw [hW]
      exact h
    have hbW : Below wr.heap.size wr W := by rw [hW]; exact (Below.refl _ wr).alloc (Nat.le_refl _) _
    have cv : ∀ V, Below W.heap.size W V → (convert 22 9 (.slice (some ⟨wr.heap.size, 0, none⟩) 5 5)).run Try.prog V = .ok (.string (bs (fiveV lb m))) V := fun V hV => conv_row 5 5 (hrow.below hV) rfl
    have HCV := Lib.hid cv
    have HBW := Lib.hid hbW
    have HW := Lib.hid hW
    have HM := Lib.hid hm
    have HLR := Lib.hid hL
    have HLB := Lib.hid hlb
    obtain ⟨S, hS⟩ : ∃ S, S = bs rest := ⟨_, rfl⟩
    obtain ⟨P, hP⟩ : ∃ P, P = bs pre := ⟨_, rfl⟩
    obtain ⟨F, hF⟩ : ∃ F, F = bs (fiveV lb m) := ⟨_, rfl⟩
    obtain ⟨T, hT⟩ : ∃ T, T = bs (rest.take m) := ⟨_, rfl⟩
    obtain ⟨G, hG⟩ : ∃ G, G = bs (fiveV lb m ++ rest.take m) := ⟨_, rfl⟩
    rw [← hS] at x1 x2 hss ⊢
    rw [← hP] at hsp a2 ⊢
    rw [← hF] at hsf a1 HCV
    rw [← hT] at x1 hst a1
    rw [← hG] at a1 hsg a2
    have HFF := Lib.hid hF
    clear cv hfc hrow hbW hW hm hr1e hr2e hr3e hr4e hS hP hF hT hG hlb hL
    have hlt5 : ¬ ((9223372036854775807 : Int) < 5 + (m : Int)) := by omega
    have hlt6 : ¬ (9223372036854775807 < 5 + m) := by omega
    have hlt7 : ¬ ((9223372036854775807 : Int) < (P.size : Int) + ((m : Int) + 5)) := by omega
    have hlt8 : ¬ (9223372036854775807 < P.size + (m + 5)) := by omega
    obtain ⟨U, hU⟩ : ∃ U, U = bs (rest.drop m) := ⟨_, rfl⟩
    rw [← hU] at x2
    obtain ⟨R, hR⟩ : ∃ R, R = bs (pre ++ (fiveV lb m ++ rest.take m)) := ⟨_, rfl⟩
    rw [← hR] at a2
    have HU := Lib.hid hU
    have HR := Lib.hid hR
    clear hU hR
    by_cases hsm : L ≤ 65535
    · have hmN : Hid (m = L) := Lib.hid (by have := HM.out; omega)
      have hlb1 : lb = true := by rw [HLB.out]; exact decide_eq_true hsm
      subst hlb1
      have qU : U.toList.isEmpty = true := by
        rw [HU.out, List.drop_of_length_le (by rw [← HLR.out, hmN.out]; exact Nat.le_refl _), bs_toList]
        rfl
      have HRES : Hid (R = bs (stoX xs)) := Lib.hid (by
        have e1 : rest.take m = rest := List.take_of_length_le (by rw [hmN.out, HLR.out]; exact Nat.le_refl _)
        have e2 := five_sto true rest
        rw [HR.out, e1, hmN.out, HLR.out, e2, ← stoX_small rest (by rw [← HLR.out]; exact hsm), HS.out.1])
      go_wp2_with fail
      refine wp_region_held_drew (S := fun _ => True) (by kernel_rfl) trivial (fun h0 => ?_)
      refine wpAnyH_take (i := 0) (v := ?v1) rfl (by kernel_rfl) (by kernel_rfl) (by kernel_rfl) (fun _ _ _ h => h) (Or.inl ⟨by rfl, fun w hSw => ?y1⟩) h0 ?r1
      case y1 => (try dsimp only at hSw); first | (go_simp; done) | (go_simp; with_reducible rfl)
      try simp only [Act.put, List.setIfInBounds_toArray, List.set_cons_zero, List.set_cons_succ, List.getElem_toArray, List.getElem_cons_zero, List.getElem_cons_succ]
      refine wpAnyH_take (i := 1) (v := ?v2) rfl (by kernel_rfl) (by kernel_rfl) (by kernel_rfl) (fun _ _ _ h => h) (Or.inl ⟨by rfl, fun w hSw => ?y2⟩) h0 ?r2
      case y2 => (try dsimp only at hSw); first | (go_simp; done) | (go_simp; with_reducible rfl)
      try simp only [Act.put, List.setIfInBounds_toArray, List.set_cons_zero, List.set_cons_succ, List.getElem_toArray, List.getElem_cons_zero, List.getElem_cons_succ]
      refine wpAnyH_take (i := 2) (v := ?v3) rfl (by kernel_rfl) (by kernel_rfl) (by kernel_rfl) (fun _ _ _ h => h) (Or.inl ⟨by rfl, fun w hSw => ?y3⟩) h0 ?r3
      case y3 => (try dsimp only at hSw); first | (go_simp; done) | (go_simp; with_reducible rfl)
      try simp only [Act.put, List.setIfInBounds_toArray, List.set_cons_zero, List.set_cons_succ, List.getElem_toArray, List.getElem_cons_zero, List.getElem_cons_succ]
      refine wpAnyH_take (i := 3) (v := ?v4) rfl (by kernel_rfl) (by kernel_rfl) (by kernel_rfl) (fun _ _ _ h => h) (Or.inl ⟨by rfl, fun w hSw => ?y4⟩) h0 ?r4
      case y4 => (try dsimp only at hSw); first | (go_simp; done) | (go_simp; with_reducible rfl)
      try simp only [Act.put, List.setIfInBounds_toArray, List.set_cons_zero, List.set_cons_succ, List.getElem_toArray, List.getElem_cons_zero, List.getElem_cons_succ]
      refine wpAnyH_take (i := 4) (v := ?v5) rfl (by kernel_rfl) (by kernel_rfl) (by kernel_rfl) (fun _ _ _ h => h) (Or.inl ⟨by rfl, fun w hSw => ?y5⟩) h0 ?r5
      case y5 => (try dsimp only at hSw); first | (go_simp; done) | (go_simp; with_reducible rfl)
      try simp only [Act.put, List.setIfInBounds_toArray, List.set_cons_zero, List.set_cons_succ, List.getElem_toArray, List.getElem_cons_zero, List.getElem_cons_succ]
      refine wpAnyH_take (i := 5) (v := ?v6) rfl (by kernel_rfl) (by kernel_rfl) (by kernel_rfl) (fun _ _ _ h => h) (Or.inl ⟨by rfl, fun w hSw => ?y6⟩) h0 ?r6
      case y6 => (try dsimp only at hSw); first | (go_simp; done) | (go_simp; with_reducible rfl)
      try simp only [Act.put, List.setIfInBounds_toArray, List.set_cons_zero, List.set_cons_succ, List.getElem_toArray, List.getElem_cons_zero, List.getElem_cons_succ]
      refine wpAnyH_take (i := 6) (v := ?v7) rfl (by kernel_rfl) (by kernel_rfl) (by kernel_rfl) (fun _ _ _ h => h) (Or.inl ⟨by rfl, fun w hSw => ?y7⟩) h0 ?r7
      case y7 => (try dsimp only at hSw); first | (go_simp; done) | (go_simp; with_reducible rfl)
      try simp only [Act.put, List.setIfInBounds_toArray, List.set_cons_zero, List.set_cons_succ, List.getElem_toArray, List.getElem_cons_zero, List.getElem_cons_succ]
      refine wpAnyH_take (i := 7) (v := ?v8) rfl (by kernel_rfl) (by kernel_rfl) (by kernel_rfl) (fun _ _ _ h => h) (Or.inl ⟨by rfl, fun w hSw => ?y8⟩) h0 ?r8
      case y8 => (try dsimp only at hSw); first | (go_simp; done) | (go_simp; with_reducible rfl)
      try simp only [Act.put, List.setIfInBounds_toArray, List.set_cons_zero, List.set_cons_succ, List.getElem_toArray, List.getElem_cons_zero, List.getElem_cons_succ]
      refine wpAnyH_take (i := 8) (v := ?v9) rfl (by kernel_rfl) (by kernel_rfl) (by kernel_rfl) (fun _ _ _ h => h) (Or.inl ⟨by rfl, fun w hSw => ?y9⟩) h0 ?r9
      case y9 => (try dsimp only at hSw); first | (go_simp; done) | (go_simp; with_reducible rfl)
      try simp only [Act.put, List.setIfInBounds_toArray, List.set_cons_zero, List.set_cons_succ, List.getElem_toArray, List.getElem_cons_zero, List.getElem_cons_succ]
      refine wpAnyH_take (i := 9) (v := ?v10) rfl (by kernel_rfl) (by kernel_rfl) (by kernel_rfl) (fun _ _ _ h => h) (Or.inl ⟨by rfl, fun w hSw => ?y10⟩) h0 ?r10
      case y10 => (try dsimp only at hSw); first | (go_simp; done) | (go_simp; with_reducible rfl)
      try simp only [Act.put, List.setIfInBounds_toArray, List.set_cons_zero, List.set_cons_succ, List.getElem_toArray, List.getElem_cons_zero, List.getElem_cons_succ]
      refine wpAnyH_take (i := 10) (v := ?v11) rfl (by kernel_rfl) (by kernel_rfl) (by kernel_rfl) (fun _ _ _ h => h) (Or.inl ⟨by rfl, fun w hSw => ?y11⟩) h0 ?r11
      case y11 => (try dsimp only at hSw); first | (go_simp; done) | (go_simp; with_reducible rfl)
      try simp only [Act.put, List.setIfInBounds_toArray, List.set_cons_zero, List.set_cons_succ, List.getElem_toArray, List.getElem_cons_zero, List.getElem_cons_succ]
      refine wpAnyH_take (i := 11) (v := ?v12) rfl (by kernel_rfl) (by kernel_rfl) (by kernel_rfl) (fun _ _ _ h => h) (Or.inl ⟨by rfl, fun w hSw => ?y12⟩) h0 ?r12
      case y12 => (try dsimp only at hSw); first | (go_simp; done) | (go_simp; with_reducible rfl)
      try simp only [Act.put, List.setIfInBounds_toArray, List.set_cons_zero, List.set_cons_succ, List.getElem_toArray, List.getElem_cons_zero, List.getElem_cons_succ]
      refine wpAnyH_take (i := 12) (v := ?v13) rfl (by kernel_rfl) (by kernel_rfl) (by kernel_rfl) (fun _ _ _ h => h) (Or.inl ⟨by rfl, fun w hSw => ?y13⟩) h0 ?r13
      case y13 => (try dsimp only at hSw); first | (go_simp; done) | (go_simp; with_reducible rfl)
      try simp only [Act.put, List.setIfInBounds_toArray, List.set_cons_zero, List.set_cons_succ, List.getElem_toArray, List.getElem_cons_zero, List.getElem_cons_succ]
      refine wpAnyH_take (i := 13) (v := ?v14) rfl (by kernel_rfl) (by kernel_rfl) (by kernel_rfl) (fun _ _ _ h => h) (Or.inl ⟨by rfl, fun w hSw => ?y14⟩) h0 ?r14
      case y14 => (try dsimp only at hSw); first | (go_simp; done) | (go_simp; with_reducible rfl)
      try simp only [Act.put, List.setIfInBounds_toArray, List.set_cons_zero, List.set_cons_succ, List.getElem_toArray, List.getElem_cons_zero, List.getElem_cons_succ]
      refine wpAnyH_take (i := 14) (v := ?v15) rfl (by kernel_rfl) (by kernel_rfl) (by kernel_rfl) (fun _ _ _ h => h) (Or.inl ⟨by rfl, fun w hSw => ?y15⟩) h0 ?r15
      case y15 => (try dsimp only at hSw); first | (go_simp; done) | (go_simp; with_reducible rfl)
      try simp only [Act.put, List.setIfInBounds_toArray, List.set_cons_zero, List.set_cons_succ, List.getElem_toArray, List.getElem_cons_zero, List.getElem_cons_succ]
      refine wpAnyH_take (i := 15) (v := ?v16) rfl (by kernel_rfl) (by kernel_rfl) (by kernel_rfl) (fun _ _ _ h => h) (Or.inl ⟨by rfl, fun w hSw => ?y16⟩) h0 ?r16
      case y16 => (try dsimp only at hSw); first | (go_simp; done) | (go_simp; with_reducible rfl)
      try simp only [Act.put, List.setIfInBounds_toArray, List.set_cons_zero, List.set_cons_succ, List.getElem_toArray, List.getElem_cons_zero, List.getElem_cons_succ]
      refine wpAnyH_take (i := 18) (v := ?v17) rfl (by kernel_rfl) (by kernel_rfl) (by kernel_rfl) (fun _ _ _ h => h) (Or.inl ⟨by rfl, fun w hSw => ?y17⟩) h0 ?r17
      case y17 => (try dsimp only at hSw); first | (go_simp; done) | (go_simp; with_reducible rfl)
      try simp only [Act.put, List.setIfInBounds_toArray, List.set_cons_zero, List.set_cons_succ, List.getElem_toArray, List.getElem_cons_zero, List.getElem_cons_succ]
      refine wpAnyH_take (i := 19) (v := ?v18) rfl (by kernel_rfl) (by kernel_rfl) (by kernel_rfl) (fun _ _ _ h => h) (Or.inl ⟨by rfl, fun w hSw => ?y18⟩) h0 ?r18
      case y18 => (try dsimp only at hSw); first | (go_simp; done) | (go_simp; with_reducible rfl)
      try simp only [Act.put, List.setIfInBounds_toArray, List.set_cons_zero, List.set_cons_succ, List.getElem_toArray, List.getElem_cons_zero, List.getElem_cons_succ]
      refine wpAnyH_take (i := 20) (v := ?v19) rfl (by kernel_rfl) (by kernel_rfl) (by kernel_rfl) (fun _ _ _ h => h) (Or.inl ⟨by rfl, fun w hSw => ?y19⟩) h0 ?r19
      case y19 => (try dsimp only at hSw); first | (go_simp; done) | (go_simp; with_reducible rfl)
      try simp only [Act.put, List.setIfInBounds_toArray, List.set_cons_zero, List.set_cons_succ, List.getElem_toArray, List.getElem_cons_zero, List.getElem_cons_succ]
      refine wpAnyH_ready (rs := [16]) (by kernel_rfl) (by simp) ?_
      refine AllReadyH.cons rfl (fun K hK => ?_) AllReadyH.nil
      go_simp
      rw [wi_nat r2 hr2b, wi_nat r3 hr3b, w4, wi_nat r4 hr4b, w8_nat r1 hr1b, w8_nat r2 hr2b, w8_nat r3 hr3b, w8_nat r4 hr4b]
      rw [show wr.alloc (.cells #[.int .u8 1, .int .u8 (r1 : Int), .int .u8 (r2 : Int), .int .u8 (r3 : Int), .int .u8 (r4 : Int)] 5) = W from HW.out.symm]
      refine hK.out _ _ trivial (fun h1 => ?_)
      clear hK K
      try simp only [Act.put, List.setIfInBounds_toArray, List.set_cons_zero, List.set_cons_succ, List.getElem_toArray, List.getElem_cons_zero, List.getElem_cons_succ]
      refine wpAnyH_ready (rs := [17]) (by kernel_rfl) (by simp) ?_
      refine AllReadyH.cons rfl (fun K hK => ?_) AllReadyH.nil
      have hV := (show Drawn W W.drew from ⟨1, rfl⟩).below W.heap.size
      have hcv := HCV.out _ hV
      have HV := Lib.hid (HS.out.2.1.trans (HBW.out.mono HS.out.2.1.size |>.trans (hV.mono (Nat.le_trans HS.out.2.1.size HBW.out.size))))
      generalize W.drew = W2 at hcv HV ⊢
      go_simp
      clear hV hcv
      refine hK.out _ _ trivial (fun h2 => ?_)
      clear hK K
      try simp only [Act.put, List.setIfInBounds_toArray, List.set_cons_zero, List.set_cons_succ, List.getElem_toArray, List.getElem_cons_zero, List.getElem_cons_succ]
      refine wpAnyH_take (i := 21) (v := ?v20) rfl (by kernel_rfl) (by kernel_rfl) (by kernel_rfl) (fun _ _ _ h => h) (Or.inl ⟨by rfl, fun w hSw => ?y20⟩) h2 ?r20
      case y20 => (try dsimp only at hSw); first | (go_simp; done) | (go_simp; with_reducible rfl)
      try simp only [Act.put, List.setIfInBounds_toArray, List.set_cons_zero, List.set_cons_succ, List.getElem_toArray, List.getElem_cons_zero, List.getElem_cons_succ]
      refine wpAnyH_take (i := 22) (v := ?v21) rfl (by kernel_rfl) (by kernel_rfl) (by kernel_rfl) (fun _ _ _ h => h) (Or.inl ⟨by rfl, fun w hSw => ?y21⟩) h2 ?r21
      case y21 => (try dsimp only at hSw); first | (go_simp; done) | (go_simp; with_reducible rfl)
      try simp only [Act.put, List.setIfInBounds_toArray, List.set_cons_zero, List.set_cons_succ, List.getElem_toArray, List.getElem_cons_zero, List.getElem_cons_succ]
      refine wpAnyH_take (i := 23) (v := ?v22) rfl (by kernel_rfl) (by kernel_rfl) (by kernel_rfl) (fun _ _ _ h => h) (Or.inl ⟨by rfl, fun w hSw => ?y22⟩) h2 ?r22
      case y22 => (try dsimp only at hSw); first | (go_simp; done) | (go_simp; with_reducible rfl)
      try simp only [Act.put, List.setIfInBounds_toArray, List.set_cons_zero, List.set_cons_succ, List.getElem_toArray, List.getElem_cons_zero, List.getElem_cons_succ]
      refine wpAnyH_done (by kernel_rfl) ?_ _
      go_wp2_with fail
      go_ret
      refine ⟨?_, HV.out⟩
      rw [HRES.out]
      rfl
    · have HM65 : Hid (m = 65535) := Lib.hid (by have := HM.out; omega)
      have hLm : m < L := by have := HM65.out; omega
      have hlb1 : lb = false := by rw [HLB.out]; exact decide_eq_false hsm
      subst hlb1
      have hdl : (rest.drop m).length = L - m := by rw [List.length_drop, ← HLR.out]
      have qU : U.toList.isEmpty = false := by
        rw [HU.out]
        rcases hd : rest.drop m with _ | ⟨c, t⟩
        · rw [hd] at hdl; simp at hdl; omega
        · rw [bs_toList]; rfl
      have HN : Hid ((pre ++ (fiveV false m ++ rest.take m)) ++ stoX (rest.drop m) = stoX xs ∧ (pre ++ (fiveV false m ++ rest.take m)).length + 2 * (rest.drop m).length ≤ 2 * xs.length ∧ (rest.drop m).length < rest.length) := Lib.hid (by
        have htl : (rest.take m).length = m := by rw [List.length_take, ← HLR.out]; omega
        have e2 := five_sto false (rest.take m)
        rw [htl] at e2
        have e3 := stoX_more rest m HM65.out (by rw [← HLR.out, HM65.out]; exact hsm)
        refine ⟨by rw [e2, List.append_assoc, ← e3, HS.out.1], ?_, by rw [hdl, ← HLR.out]; omega⟩
        have h3 := HS.out.2.2
        rw [← HLR.out] at h3
        have h5 : (fiveV false m).length = 5 := rfl
        rw [List.length_append, List.length_append, htl, h5, hdl]
        omega)
      clear hdl
      go_wp2_with fail
      refine wp_region_held_drew (S := fun _ => True) (by kernel_rfl) trivial (fun h0 => ?_)
      refine wpAnyH_take (i := 0) (v := ?v23) rfl (by kernel_rfl) (by kernel_rfl) (by kernel_rfl) (fun _ _ _ h => h) (Or.inl ⟨by rfl, fun w hSw => ?y23⟩) h0 ?r23
      case y23 => (try dsimp only at hSw); first | (go_simp; done) | (go_simp; with_reducible rfl)
      try simp only [Act.put, List.setIfInBounds_toArray, List.set_cons_zero, List.set_cons_succ, List.getElem_toArray, List.getElem_cons_zero, List.getElem_cons_succ]
      refine wpAnyH_take (i := 1) (v := ?v24) rfl (by kernel_rfl) (by kernel_rfl) (by kernel_rfl) (fun _ _ _ h => h) (Or.inl ⟨by rfl, fun w hSw => ?y24⟩) h0 ?r24
      case y24 => (try dsimp only at hSw); first | (go_simp; done) | (go_simp; with_reducible rfl)
      try simp only [Act.put, List.setIfInBounds_toArray, List.set_cons_zero, List.set_cons_succ, List.getElem_toArray, List.getElem_cons_zero, List.getElem_cons_succ]
      refine wpAnyH_take (i := 2) (v := ?v25) rfl (by kernel_rfl) (by kernel_rfl) (by kernel_rfl) (fun _ _ _ h => h) (Or.inl ⟨by rfl, fun w hSw => ?y25⟩) h0 ?r25
      case y25 => (try dsimp only at hSw); first | (go_simp; done) | (go_simp; with_reducible rfl)
      try simp only [Act.put, List.setIfInBounds_toArray, List.set_cons_zero, List.set_cons_succ, List.getElem_toArray, List.getElem_cons_zero, List.getElem_cons_succ]
      refine wpAnyH_take (i := 3) (v := ?v26) rfl (by kernel_rfl) (by kernel_rfl) (by kernel_rfl) (fun _ _ _ h => h) (Or.inl ⟨by rfl, fun w hSw => ?y26⟩) h0 ?r26
      case y26 => (try dsimp only at hSw); first | (go_simp; done) | (go_simp; with_reducible rfl)
      try simp only [Act.put, List.setIfInBounds_toArray, List.set_cons_zero, List.set_cons_succ, List.getElem_toArray, List.getElem_cons_zero, List.getElem_cons_succ]
      refine wpAnyH_take (i := 4) (v := ?v27) rfl (by kernel_rfl) (by kernel_rfl) (by kernel_rfl) (fun _ _ _ h => h) (Or.inl ⟨by rfl, fun w hSw => ?y27⟩) h0 ?r27
      case y27 => (try dsimp only at hSw); first | (go_simp; done) | (go_simp; with_reducible rfl)
      try simp only [Act.put, List.setIfInBounds_toArray, List.set_cons_zero, List.set_cons_succ, List.getElem_toArray, List.getElem_cons_zero, List.getElem_cons_succ]
      refine wpAnyH_take (i := 5) (v := ?v28) rfl (by kernel_rfl) (by kernel_rfl) (by kernel_rfl) (fun _ _ _ h => h) (Or.inl ⟨by rfl, fun w hSw => ?y28⟩) h0 ?r28
      case y28 => (try dsimp only at hSw); first | (go_simp; done) | (go_simp; with_reducible rfl)
      try simp only [Act.put, List.setIfInBounds_toArray, List.set_cons_zero, List.set_cons_succ, List.getElem_toArray, List.getElem_cons_zero, List.getElem_cons_succ]
      refine wpAnyH_take (i := 6) (v := ?v29) rfl (by kernel_rfl) (by kernel_rfl) (by kernel_rfl) (fun _ _ _ h => h) (Or.inl ⟨by rfl, fun w hSw => ?y29⟩) h0 ?r29
      case y29 => (try dsimp only at hSw); first | (go_simp; done) | (go_simp; with_reducible rfl)
      try simp only [Act.put, List.setIfInBounds_toArray, List.set_cons_zero, List.set_cons_succ, List.getElem_toArray, List.getElem_cons_zero, List.getElem_cons_succ]
      refine wpAnyH_take (i := 7) (v := ?v30) rfl (by kernel_rfl) (by kernel_rfl) (by kernel_rfl) (fun _ _ _ h => h) (Or.inl ⟨by rfl, fun w hSw => ?y30⟩) h0 ?r30
      case y30 => (try dsimp only at hSw); first | (go_simp; done) | (go_simp; with_reducible rfl)
      try simp only [Act.put, List.setIfInBounds_toArray, List.set_cons_zero, List.set_cons_succ, List.getElem_toArray, List.getElem_cons_zero, List.getElem_cons_succ]
      refine wpAnyH_take (i := 8) (v := ?v31) rfl (by kernel_rfl) (by kernel_rfl) (by kernel_rfl) (fun _ _ _ h => h) (Or.inl ⟨by rfl, fun w hSw => ?y31⟩) h0 ?r31
      case y31 => (try dsimp only at hSw); first | (go_simp; done) | (go_simp; with_reducible rfl)
      try simp only [Act.put, List.setIfInBounds_toArray, List.set_cons_zero, List.set_cons_succ, List.getElem_toArray, List.getElem_cons_zero, List.getElem_cons_succ]
      refine wpAnyH_take (i := 9) (v := ?v32) rfl (by kernel_rfl) (by kernel_rfl) (by kernel_rfl) (fun _ _ _ h => h) (Or.inl ⟨by rfl, fun w hSw => ?y32⟩) h0 ?r32
      case y32 => (try dsimp only at hSw); first | (go_simp; done) | (go_simp; with_reducible rfl)
      try simp only [Act.put, List.setIfInBounds_toArray, List.set_cons_zero, List.set_cons_succ, List.getElem_toArray, List.getElem_cons_zero, List.getElem_cons_succ]
      refine wpAnyH_take (i := 10) (v := ?v33) rfl (by kernel_rfl) (by kernel_rfl) (by kernel_rfl) (fun _ _ _ h => h) (Or.inl ⟨by rfl, fun w hSw => ?y33⟩) h0 ?r33
      case y33 => (try dsimp only at hSw); first | (go_simp; done) | (go_simp; with_reducible rfl)
      try simp only [Act.put, List.setIfInBounds_toArray, List.set_cons_zero, List.set_cons_succ, List.getElem_toArray, List.getElem_cons_zero, List.getElem_cons_succ]
      refine wpAnyH_take (i := 11) (v := ?v34) rfl (by kernel_rfl) (by kernel_rfl) (by kernel_rfl) (fun _ _ _ h => h) (Or.inl ⟨by rfl, fun w hSw => ?y34⟩) h0 ?r34
      case y34 => (try dsimp only at hSw); first | (go_simp; done) | (go_simp; with_reducible rfl)
      try simp only [Act.put, List.setIfInBounds_toArray, List.set_cons_zero, List.set_cons_succ, List.getElem_toArray, List.getElem_cons_zero, List.getElem_cons_succ]
      refine wpAnyH_take (i := 12) (v := ?v35) rfl (by kernel_rfl) (by kernel_rfl) (by kernel_rfl) (fun _ _ _ h => h) (Or.inl ⟨by rfl, fun w hSw => ?y35⟩) h0 ?r35
      case y35 => (try dsimp only at hSw); first | (go_simp; done) | (go_simp; with_reducible rfl)
      try simp only [Act.put, List.setIfInBounds_toArray, List.set_cons_zero, List.set_cons_succ, List.getElem_toArray, List.getElem_cons_zero, List.getElem_cons_succ]
      refine wpAnyH_take (i := 13) (v := ?v36) rfl (by kernel_rfl) (by kernel_rfl) (by kernel_rfl) (fun _ _ _ h => h) (Or.inl ⟨by rfl, fun w hSw => ?y36⟩) h0 ?r36
      case y36 => (try dsimp only at hSw); first | (go_simp; done) | (go_simp; with_reducible rfl)
      try simp only [Act.put, List.setIfInBounds_toArray, List.set_cons_zero, List.set_cons_succ, List.getElem_toArray, List.getElem_cons_zero, List.getElem_cons_succ]
      refine wpAnyH_take (i := 14) (v := ?v37) rfl (by kernel_rfl) (by kernel_rfl) (by kernel_rfl) (fun _ _ _ h => h) (Or.inl ⟨by rfl, fun w hSw => ?y37⟩) h0 ?r37
      case y37 => (try dsimp only at hSw); first | (go_simp; done) | (go_simp; with_reducible rfl)
      try simp only [Act.put, List.setIfInBounds_toArray, List.set_cons_zero, List.set_cons_succ, List.getElem_toArray, List.getElem_cons_zero, List.getElem_cons_succ]
      refine wpAnyH_take (i := 15) (v := ?v38) rfl (by kernel_rfl) (by kernel_rfl) (by kernel_rfl) (fun _ _ _ h => h) (Or.inl ⟨by rfl, fun w hSw => ?y38⟩) h0 ?r38
      case y38 => (try dsimp only at hSw); first | (go_simp; done) | (go_simp; with_reducible rfl)
      try simp only [Act.put, List.setIfInBounds_toArray, List.set_cons_zero, List.set_cons_succ, List.getElem_toArray, List.getElem_cons_zero, List.getElem_cons_succ]
      refine wpAnyH_take (i := 18) (v := ?v39) rfl (by kernel_rfl) (by kernel_rfl) (by kernel_rfl) (fun _ _ _ h => h) (Or.inl ⟨by rfl, fun w hSw => ?y39⟩) h0 ?r39
      case y39 => (try dsimp only at hSw); first | (go_simp; done) | (go_simp; with_reducible rfl)
      try simp only [Act.put, List.setIfInBounds_toArray, List.set_cons_zero, List.set_cons_succ, List.getElem_toArray, List.getElem_cons_zero, List.getElem_cons_succ]
      refine wpAnyH_take (i := 19) (v := ?v40) rfl (by kernel_rfl) (by kernel_rfl) (by kernel_rfl) (fun _ _ _ h => h) (Or.inl ⟨by rfl, fun w hSw => ?y40⟩) h0 ?r40
      case y40 => (try dsimp only at hSw); first | (go_simp; done) | (go_simp; with_reducible rfl)
      try simp only [Act.put, List.setIfInBounds_toArray, List.set_cons_zero, List.set_cons_succ, List.getElem_toArray, List.getElem_cons_zero, List.getElem_cons_succ]
      refine wpAnyH_take (i := 20) (v := ?v41) rfl (by kernel_rfl) (by kernel_rfl) (by kernel_rfl) (fun _ _ _ h => h) (Or.inl ⟨by rfl, fun w hSw => ?y41⟩) h0 ?r41
      case y41 => (try dsimp only at hSw); first | (go_simp; done) | (go_simp; with_reducible rfl)
      try simp only [Act.put, List.setIfInBounds_toArray, List.set_cons_zero, List.set_cons_succ, List.getElem_toArray, List.getElem_cons_zero, List.getElem_cons_succ]
      refine wpAnyH_ready (rs := [16]) (by kernel_rfl) (by simp) ?_
      refine AllReadyH.cons rfl (fun K hK => ?_) AllReadyH.nil
      go_simp
      rw [wi_nat r2 hr2b, wi_nat r3 hr3b, w4, wi_nat r4 hr4b, w8_nat r1 hr1b, w8_nat r2 hr2b, w8_nat r3 hr3b, w8_nat r4 hr4b]
      rw [show wr.alloc (.cells #[.int .u8 0, .int .u8 (r1 : Int), .int .u8 (r2 : Int), .int .u8 (r3 : Int), .int .u8 (r4 : Int)] 5) = W from HW.out.symm]
      refine hK.out _ _ trivial (fun h1 => ?_)
      clear hK K
      try simp only [Act.put, List.setIfInBounds_toArray, List.set_cons_zero, List.set_cons_succ, List.getElem_toArray, List.getElem_cons_zero, List.getElem_cons_succ]
      refine wpAnyH_ready (rs := [17]) (by kernel_rfl) (by simp) ?_
      refine AllReadyH.cons rfl (fun K hK => ?_) AllReadyH.nil
      have hV := (show Drawn W W.drew from ⟨1, rfl⟩).below W.heap.size
      have hcv := HCV.out _ hV
      have HV := Lib.hid (HS.out.2.1.trans (HBW.out.mono HS.out.2.1.size |>.trans (hV.mono (Nat.le_trans HS.out.2.1.size HBW.out.size))))
      generalize W.drew = W2 at hcv HV ⊢
      go_simp
      clear hV hcv
      refine hK.out _ _ trivial (fun h2 => ?_)
      clear hK K
      try simp only [Act.put, List.setIfInBounds_toArray, List.set_cons_zero, List.set_cons_succ, List.getElem_toArray, List.getElem_cons_zero, List.getElem_cons_succ]
      refine wpAnyH_take (i := 21) (v := ?v42) rfl (by kernel_rfl) (by kernel_rfl) (by kernel_rfl) (fun _ _ _ h => h) (Or.inl ⟨by rfl, fun w hSw => ?y42⟩) h2 ?r42
      case y42 => (try dsimp only at hSw); first | (go_simp; done) | (go_simp; with_reducible rfl)
      try simp only [Act.put, List.setIfInBounds_toArray, List.set_cons_zero, List.set_cons_succ, List.getElem_toArray, List.getElem_cons_zero, List.getElem_cons_succ]
      refine wpAnyH_take (i := 22) (v := ?v43) rfl (by kernel_rfl) (by kernel_rfl) (by kernel_rfl) (fun _ _ _ h => h) (Or.inl ⟨by rfl, fun w hSw => ?y43⟩) h2 ?r43
      case y43 => (try dsimp only at hSw); first | (go_simp; done) | (go_simp; with_reducible rfl)
      try simp only [Act.put, List.setIfInBounds_toArray, List.set_cons_zero, List.set_cons_succ, List.getElem_toArray, List.getElem_cons_zero, List.getElem_cons_succ]
      refine wpAnyH_take (i := 23) (v := ?v44) rfl (by kernel_rfl) (by kernel_rfl) (by kernel_rfl) (fun _ _ _ h => h) (Or.inl ⟨by rfl, fun w hSw => ?y44⟩) h2 ?r44
      case y44 => (try dsimp only at hSw); first | (go_simp; done) | (go_simp; with_reducible rfl)
      try simp only [Act.put, List.setIfInBounds_toArray, List.set_cons_zero, List.set_cons_succ, List.getElem_toArray, List.getElem_cons_zero, List.getElem_cons_succ]
      refine wpAnyH_done (by kernel_rfl) ?_ _
      go_wp2_with fail
      go_roundw
      case rel => exact ⟨_, rest.drop m, by rw [HU.out], by rw [HR.out], by have := HN.out.2.2; have := HLR.out; omega, Lib.hid ⟨HN.out.1, HV.out, HN.out.2.1⟩⟩
      case measure => simp only [lenT]; rw [HU.out, bs_size, hss, HLR.out]; exact HN.out.2.2
end Go.Proofs.Ytjafcjnkefioeaa.Df
/- The walk of the law DeflateStored. -/
namespace Go.Proofs.Ytjafcjnkefioeaa.Df
open Go.RowKit Go.Proofs.Ytjafcjnkefioeaa.Oct Go.Proofs.Ytjafcjnkefioeaa.Bit Go.Proofs.Ytjafcjnkefioeaa.Hf Go.Proofs.Ytjafcjnkefioeaa.Inf
set_option maxRecDepth 100000
set_option maxHeartbeats 4000000 in
theorem stored_walk (p : Option Addr) (len cap : Nat) (zs0 : List Int) (zt : Int) (w : World)
    (hr0 : IsRow .u8 w p len cap zs0) (ht0 : (Lit.int .i64 zt).wf = true) :
    Calls Try.prog 3 #[.slice p len cap, .int .i64 zt] w fun e w' => e = .returned (.bool true) ∧ Below w.heap.size w w' := by
  obtain ⟨xs, hx, hr, hlc, hcm, hnil⟩ := hr0.row
  obtain ⟨htl, htu⟩ := bounds_i64 ht0
  clear hr0 ht0
  by_cases hbig : 300 < len
  · have hd : decide (300 < (len : Int)) = true := by simp; omega
    unfold maxLen at hcm
    go_enter Try.func3, Try.ntmps3
    go_wp2_with fail
    refine (lives_any _).mono ?_
    rintro e w1 ⟨rfl, hb1⟩
    go_wp2_with fail
    refine (lives_any _).mono ?_
    rintro e w2 ⟨rfl, hb2⟩
    go_wp2_with fail
    go_ret
    exact ⟨rfl, hb1.trans (hb2.mono hb1.size)⟩
  · have hd : decide (300 < (len : Int)) = false := by simp; omega
    have HX := Lib.hid hx
    have HR := Lib.hid hr
    have htp := spot_lt zt 500 (by omega)
    have htc : (IntKind.u64.wrap zt).tmod 500 = ((spot zt 500 : Nat) : Int) := spot_cast zt 500
    generalize spot zt 500 = t at htp htc
    unfold maxLen at hcm
    clear hx hr
    go_enter Try.func3, Try.ntmps3
    go_wp2_with fail
    refine (lives_any _).mono ?_
    rintro e w1 ⟨rfl, hb1⟩
    have HB1 := Lib.hid hb1
    clear hb1
    go_wp2_with fail
    go_loopw [5, 21] (fun u i wr => ∃ (k : Nat) (q : Option Addr) (c : Nat), k ≤ 1 + t ∧ i = .int .i64 (k : Int) ∧ u = .slice q (k * len) c ∧ Hid (wr.ownsRow w1.heap.size 5 1 (.slice q (k * len) c) (k * len) (cellsOf (rep xs k))) ∧ Hid (Below w1.heap.size w1 wr))
      (fun _ i _ => 1 + t - (intOf i).toNat)
    case atStart => exact ⟨0, none, 0, by omega, rfl, by simp, Lib.hid (by simpa [rep, cellsOf] using World.ownsRow_nil w1 w1.heap.size 5 1), Lib.hid (Below.refl _ _)⟩
    case round =>
      obtain ⟨k, q, c, hk, rfl, rfl, HO, HB⟩ := hrel
      have hkl : k * len ≤ 500 * 300 := Nat.mul_le_mul (by omega) (by omega)
      by_cases hlt : k < 1 + t
      · have hd5 : decide ((k : Int) < 1 + (t : Int)) = true := by simp; omega
        have HRx := Lib.hid (HR.out.below (HB1.out.trans (HB.out.mono HB1.out.size)))
        have HZ := Lib.hid HB.out.size
        have HRL := Lib.hid (rep_length xs k)
        have hmul : (k + 1) * len = k * len + len := Nat.succ_mul k len
        have HMU := Lib.hid hmul
        clear hmul
        go_wp2_with (at_builtin; refine wpList_append_bytes rfl _ _ rfl w1.heap.size _ (k * len) (rep xs k) rfl HO.out p len cap xs rfl HRx.out HX.out hnil (by omega) HZ.out ?_)
        intro v2 w2 hown2 hgrow2 hv2
        obtain ⟨q2, c2, rfl, _, _, _, _⟩ := own_shape hown2 (by rw [List.length_append, HRL.out, HX.out])
        have HB2 := Lib.hid (HB.out.trans (grown_below HO.out hgrow2 HZ.out))
        rw [← rep_snoc] at hown2
        have HO2 := Lib.hid hown2
        clear hown2 hgrow2 hv2
        go_wp2_with fail
        go_roundw
        case rel => exact ⟨k + 1, q2, c2, by omega, by go_num, by rw [HMU.out], by rw [HMU.out]; exact HO2, HB2⟩
        case measure => simp [intOf]; omega
      · have hke : k = 1 + t := by omega
        subst hke
        have hd5 : decide (((1 + t : Nat) : Int) < 1 + (t : Int)) = false := by simp
        have HRL := Lib.hid ((rep_length xs (1 + t)).trans (by rw [HX.out]))
        generalize rep xs (1 + t) = all at *
        generalize (1 + t) * len = n at *
        obtain ⟨q0, c0, hqe, hq0, hnc, hc0, hrow0⟩ := own_shape HO.out HRL.out
        injection hqe with e1 e2 e3
        subst e1; subst e3
        have HRy := Lib.hid hrow0
        have HBy := Lib.hid (HB1.out.trans (HB.out.mono HB1.out.size))
        have HAL := Lib.hid (show all.length ≤ 190000 by rw [HRL.out]; omega)
        have HD := Lib.hid (deflate_any wr q n c all 0 hrow0 HRL.out hnc hc0 ⟨HAL.out, fun h => by omega⟩)
        unfold maxLen at hc0
        clear hrow0 HO HB e2 htc
        go_wp2_with fail
        refine HD.out.mono ?_
        rintro e w2 hres
        obtain ⟨hb2, ys, q1, c1, N, hN, hX, rfl, hrow1, hoc1, hcm1, hq1, _⟩ := def_yes (k := 0) (by omega) hres
        have hys : ys = stoX all := hX.sto rfl
        subst hys
        have HB2 := Lib.hid (HBy.out.trans (hb2.mono HBy.out.size))
        have HRy2 := Lib.hid (HRy.out.below hb2)
        have HR1 := Lib.hid hrow1
        have HN := Lib.hid hN
        have hV9 : Below w2.heap.size w2 w2.drew := (show Drawn w2 w2.drew from ⟨1, rfl⟩).below _
        have ca1 := conv_row N c1 (hrow1.below hV9) hN.symm
        have ca2 := conv_row n c ((HRy.out.below hb2).below hV9) HRL.out
        clear hV9
        unfold maxLen at hcm1
        clear hb2 hrow1 HRy hN hX hres HD
        go_wp2_with fail
        refine wp_region_held_drew (S := (fun w' => (convert 22 9 (.slice q1 N c1)).run Try.prog w' = .ok (.string (bs (stoX all))) w' ∧ (convert 22 9 (.slice q n c)).run Try.prog w' = .ok (.string (bs all)) w')) (by kernel_rfl) ⟨ca1, ca2⟩ (fun h0 => ?_)
        refine wpAnyH_take (i := 0) (v := ?v1) rfl (by kernel_rfl) (by kernel_rfl) (by kernel_rfl) (fun _ _ _ h => h) (Or.inl ⟨by rfl, fun w hSw => ?y1⟩) h0 ?r1
        case y1 => (try dsimp only at hSw); first | (go_simp; done) | (go_simp; with_reducible rfl)
        try simp only [Act.put, List.setIfInBounds_toArray, List.set_cons_zero, List.set_cons_succ, List.getElem_toArray, List.getElem_cons_zero, List.getElem_cons_succ]
        refine wpAnyH_take (i := 1) (v := ?v2) rfl (by kernel_rfl) (by kernel_rfl) (by kernel_rfl) (fun _ _ _ h => h) (Or.inl ⟨by rfl, fun w hSw => ?y2⟩) h0 ?r2
        case y2 => (try dsimp only at hSw); first | (go_simp; done) | (go_simp; with_reducible rfl)
        try simp only [Act.put, List.setIfInBounds_toArray, List.set_cons_zero, List.set_cons_succ, List.getElem_toArray, List.getElem_cons_zero, List.getElem_cons_succ]
        refine wpAnyH_take (i := 2) (v := ?v3) rfl (by kernel_rfl) (by kernel_rfl) (by kernel_rfl) (fun _ _ _ h => h) (Or.inl ⟨by rfl, fun w hSw => ?y3⟩) h0 ?r3
        case y3 => (try dsimp only at hSw); first | (go_simp; done) | (go_simp; with_reducible rfl)
        try simp only [Act.put, List.setIfInBounds_toArray, List.set_cons_zero, List.set_cons_succ, List.getElem_toArray, List.getElem_cons_zero, List.getElem_cons_succ]
        refine wpAnyH_take (i := 3) (v := ?v4) rfl (by kernel_rfl) (by kernel_rfl) (by kernel_rfl) (fun _ _ _ h => h) (Or.inl ⟨by rfl, fun w hSw => ?y4⟩) h0 ?r4
        case y4 => (try dsimp only at hSw); first | (go_simp; done) | (go_simp; with_reducible rfl)
        try simp only [Act.put, List.setIfInBounds_toArray, List.set_cons_zero, List.set_cons_succ, List.getElem_toArray, List.getElem_cons_zero, List.getElem_cons_succ]
        refine wpAnyH_take (i := 4) (v := ?v5) rfl (by kernel_rfl) (by kernel_rfl) (by kernel_rfl) (fun _ _ _ h => h) (Or.inl ⟨by rfl, fun w hSw => ?y5⟩) h0 ?r5
        case y5 => (try dsimp only at hSw); first | (go_simp; done) | (go_simp; with_reducible rfl)
        try simp only [Act.put, List.setIfInBounds_toArray, List.set_cons_zero, List.set_cons_succ, List.getElem_toArray, List.getElem_cons_zero, List.getElem_cons_succ]
        refine wpAnyH_take (i := 5) (v := ?v6) rfl (by kernel_rfl) (by kernel_rfl) (by kernel_rfl) (fun _ _ _ h => h) (Or.inl ⟨by rfl, fun w hSw => ?y6⟩) h0 ?r6
        case y6 => (try dsimp only at hSw); first | (go_simp; done) | (go_simp; with_reducible rfl)
        try simp only [Act.put, List.setIfInBounds_toArray, List.set_cons_zero, List.set_cons_succ, List.getElem_toArray, List.getElem_cons_zero, List.getElem_cons_succ]
        refine wpAnyH_take (i := 6) (v := ?v7) rfl (by kernel_rfl) (by kernel_rfl) (by kernel_rfl) (fun _ _ _ h => h) (Or.inl ⟨by rfl, fun w hSw => ?y7⟩) h0 ?r7
        case y7 => (try dsimp only at hSw); first | (go_simp; done) | (go_simp; with_reducible rfl)
        try simp only [Act.put, List.setIfInBounds_toArray, List.set_cons_zero, List.set_cons_succ, List.getElem_toArray, List.getElem_cons_zero, List.getElem_cons_succ]
        refine wpAnyH_ready (rs := [7]) (by kernel_rfl) (by simp) ?_
        refine AllReadyH.cons rfl (fun K hK => ?_) AllReadyH.nil
        go_simp
        have hV0 : Below w2.heap.size w2 w2.drew := (show Drawn w2 w2.drew from ⟨1, rfl⟩).below _
        refine (rstored_any all _ HAL.out).mono ?_
        rintro e w3 ⟨rfl, hb3⟩
        have hb := hV0.trans hb3
        have HB3 := Lib.hid (HB2.out.trans (hb.mono HB2.out.size))
        have hS3 : (convert 22 9 (.slice q1 N c1)).run Try.prog w3 = .ok (.string (bs (stoX all))) w3 ∧ (convert 22 9 (.slice q n c)).run Try.prog w3 = .ok (.string (bs all)) w3 := ⟨conv_row N c1 (HR1.out.below hb) HN.out.symm, conv_row n c (HRy2.out.below hb) HRL.out⟩
        clear hb hb3 hV0
        go_wp2_with fail
        refine hK.out _ _ hS3 (fun h1 => ?_)
        clear hK K
        try simp only [Act.put, List.setIfInBounds_toArray, List.set_cons_zero, List.set_cons_succ, List.getElem_toArray, List.getElem_cons_zero, List.getElem_cons_succ]
        refine wpAnyH_take (i := 8) (v := ?v8) rfl (by kernel_rfl) (by kernel_rfl) (by kernel_rfl) (fun _ _ _ h => h) (Or.inl ⟨by rfl, fun w hSw => ?y8⟩) h1 ?r8
        case y8 => (try dsimp only at hSw); first | (go_simp; done) | (go_simp; with_reducible rfl)
        try simp only [Act.put, List.setIfInBounds_toArray, List.set_cons_zero, List.set_cons_succ, List.getElem_toArray, List.getElem_cons_zero, List.getElem_cons_succ]
        refine wpAnyH_take (i := 9) (v := ?v9) rfl (by kernel_rfl) (by kernel_rfl) (by kernel_rfl) (fun _ _ _ h => h) (Or.inl ⟨by rfl, fun w hSw => ?y9⟩) h1 ?r9
        case y9 => (try dsimp only at hSw); first | (go_simp; done) | (go_simp; with_reducible rfl)
        try simp only [Act.put, List.setIfInBounds_toArray, List.set_cons_zero, List.set_cons_succ, List.getElem_toArray, List.getElem_cons_zero, List.getElem_cons_succ]
        refine wpAnyH_take (i := 10) (v := ?v10) rfl (by kernel_rfl) (by kernel_rfl) (by kernel_rfl) (fun _ _ _ h => h) (Or.inl ⟨by rfl, fun w hSw => ?y10⟩) h1 ?r10
        case y10 => (try dsimp only at hSw); first | (go_simp; done) | (go_simp; with_reducible rfl)
        try simp only [Act.put, List.setIfInBounds_toArray, List.set_cons_zero, List.set_cons_succ, List.getElem_toArray, List.getElem_cons_zero, List.getElem_cons_succ]
        refine wpAnyH_done (by kernel_rfl) ?_ _
        go_wp2_with fail
        go_ret
        exact ⟨rfl, HB3.out⟩
end Go.Proofs.Ytjafcjnkefioeaa.Df

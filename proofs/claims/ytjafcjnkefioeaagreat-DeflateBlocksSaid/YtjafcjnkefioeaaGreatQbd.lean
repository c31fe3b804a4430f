/- IgN, IgF, IgO, IgQ, IhA, IhB, IhD, IhF: merged. -/
import Derived.Laws.BitsAllLaws
import Derived.Laws.Strings
import Derived.Laws.BytesArg
import Derived.Test.YtjafcjnkefioeaaGreatRows
import Derived.WalkKit
import Derived.ProofKit
import Derived.WalkLawsBesides
import Derived.Lib.Hide
import Derived.Deep.QuietTactic
import Derived.BigQuiet
import Derived.Outline
import Derived.Laws.NewBlocks
import Derived.Laws.CopyOwn
import Derived.Laws.Concat
import Derived.Laws.Strings2
import Derived.WalkSpells
import Derived.Laws.AppendOwnNone
import Derived.OpenShut
import Derived.Lib.SliceRun
import Derived.ChangeKeysEq
import Derived.Laws.Pointers
import Derived.Deep.RegionLaw
import Derived.Deep.DeepCutAuto
import Derived.BigRegion
import Derived.Deep.AppendLies
import Derived.Deep.RegionHeld3
import Derived.Laws.Externs
import Derived.Laws.IdiomCopy
import Derived.Lib.EndianMore
import Derived.Shelf.Spec.SlicesGrow
import Derived.LoopTactic
import Derived.Deep.LoopGhost
import Derived.Deep.MidRow
import Derived.Deep.WholeRow
import Derived.Laws.ResultCell
import Derived.Deep.Slices
import Derived.Deep.Fields
import Derived.ChangeSame
import Derived.Test.YtjafcjnkefioeaaGreatQak
import Derived.Test.YtjafcjnkefioeaaGreatQal
import Derived.Test.YtjafcjnkefioeaaGreatQan
import Derived.Test.YtjafcjnkefioeaaGreatQbc
set_option linter.unusedVariables false
set_option linter.unusedSimpArgs false
/- The contract of codeLengths. -/
namespace Go.Proofs.YtjafcjnkefioeaaGreat.Inf
open Go.RowKit Go.Proofs.YtjafcjnkefioeaaGreat.Oct Go.Proofs.YtjafcjnkefioeaaGreat.Bit Go.Proofs.YtjafcjnkefioeaaGreat.Hf
set_option maxRecDepth 100000
theorem own_onlyB {S : Nat → Prop} {w w' : World} {base e n : Nat} {v : Value} {cs : List Value} (h : w.ownsRow base e 1 v n cs) (ho : Only S w w') (hv : ∀ k, v.ownBlock = some k → ¬ S k) : w'.ownsRow base e 1 v n cs := by
  refine ⟨h.1, ?_⟩
  rcases h.2 with hn | ⟨g, cap, cur, rfl, hb, hh, r⟩
  · exact .inl hn
  · refine .inr ⟨g, cap, cur, rfl, hb, ?_, r⟩
    have hlt : g < w.heap.size := by
      rcases Nat.lt_or_ge g w.heap.size with hlt | hge
      · exact hlt
      · rw [Array.getElem?_eq_none hge] at hh; cases hh
    rw [ho.2.2.2.2 g hlt (hv g rfl)]
    exact hh
def lenV (v : Value) : Nat := match v with | .slice _ n _ => n | _ => 0
theorem castZ_append (a b : List Nat) : castZ (a ++ b) = castZ a ++ castZ b := by simp [castZ]
theorem value_le {s : Nat} {all : List Nat} (hs : s ≤ 30) (h : ∀ m ∈ all, m ≤ 30) : valueV s all ≤ 30 := by
  unfold valueV
  split
  · rw [List.getLastD_eq_getLast?]
    rcases hl : all.getLast? with _ | m
    · simp
    · have := h m (List.mem_of_getLast? hl)
      simpa using this
  · split
    · omega
    · split
      · omega
      · exact hs
theorem more_lt (s m : Nat) (h : m < 2 ^ wideV s) : timesV s + m ≤ 140 := by
  unfold wideV at h
  unfold timesV
  split at h
  · rename_i e; rw [if_pos e]; omega
  · rename_i e
    rw [if_neg e]
    split at h
    · rename_i e2; rw [if_pos e2]; omega
    · rename_i e2
      rw [if_neg e2]
      split at h
      · rename_i e3; rw [if_pos e3]; omega
      · rename_i e3; rw [if_neg e3]; omega
theorem wide_le (s : Nat) : wideV s ≤ 13 := by unfold wideV; split <;> (try split) <;> (try split) <;> omega
end Go.Proofs.YtjafcjnkefioeaaGreat.Inf
/- The contract of a decoder's stored: bytes as they stand. -/
namespace Go.Proofs.YtjafcjnkefioeaaGreat.Inf
open Go.RowKit Go.Proofs.YtjafcjnkefioeaaGreat.Oct Go.Proofs.YtjafcjnkefioeaaGreat.Bit Go.Proofs.YtjafcjnkefioeaaGreat.Hf
set_option maxRecDepth 100000
theorem bytesR_one (L : List Bool) (most n at_ : Nat) (out : List UInt8) : bytesR L most (n + 1) at_ out = (numR L at_ 8).then fun c a => if most ≤ out.length then .error 8 else bytesR L most n a (out ++ [UInt8.ofNat c]) := rfl
end Go.Proofs.YtjafcjnkefioeaaGreat.Inf
/- The contract of a decoder's ownBlock. -/
namespace Go.Proofs.YtjafcjnkefioeaaGreat.Inf
open Go.RowKit Go.Proofs.YtjafcjnkefioeaaGreat.Oct Go.Proofs.YtjafcjnkefioeaaGreat.Bit Go.Proofs.YtjafcjnkefioeaaGreat.Hf
set_option maxRecDepth 100000
theorem cut_run (W : World) (b o len cap a : Nat) (h1 : a ≤ cap) (h2 : 0 < cap) :
    (Instr.slice 69 (.slice (some ⟨b, o, none⟩) len cap) none (some (.int .i64 (a : Int))) none).run Tryz.prog W = .ok (.slice (some ⟨b, o, none⟩) a cap) W := by
  have ht' : Tryz.prog.underlying 69 = some (.slice (Tryz.prog.elem 69)) := by kernel_rfl
  have he : Tryz.prog.elem 69 = 3 := by kernel_rfl
  have hz : (Go.sizeOf 3).run Tryz.prog W = .ok 1 W := by
    obtain ⟨i, hi, hs⟩ := Option.map_eq_some_iff.1 sizeInt8
    simp [Go.sizeOf, typeInfo, hi, hs]
  rw [run_slice_h W 69 (some ⟨b, o, none⟩) len cap ht' .i64 _ (by omega) (by omega), he, hz]
  have h0 : ¬ cap = 0 := by omega
  simp [Result.andThen, sliced, h0, add_plain]
theorem rest_run (W : World) (b o len cap a : Nat) (h1 : a ≤ len) (h2 : a < cap) :
    (Instr.slice 69 (.slice (some ⟨b, o, none⟩) len cap) (some (.int .i64 (a : Int))) none none).run Tryz.prog W = .ok (.slice (some ⟨b, o + a, none⟩) (len - a) (cap - a)) W := by
  have ht' : Tryz.prog.underlying 69 = some (.slice (Tryz.prog.elem 69)) := by kernel_rfl
  have he : Tryz.prog.elem 69 = 3 := by kernel_rfl
  have hz : (Go.sizeOf 3).run Tryz.prog W = .ok 1 W := by
    obtain ⟨i, hi, hs⟩ := Option.map_eq_some_iff.1 sizeInt8
    simp [Go.sizeOf, typeInfo, hi, hs]
  rw [run_slice_l W 69 (some ⟨b, o, none⟩) len cap ht' .i64 _ (by omega) (by omega), he, hz]
  have h0 : ¬ cap = a := by omega
  simp [Result.andThen, sliced, h0, add_plain]
theorem vrow_take {w : World} {C b o : Nat} {vs : List Value} (h : VRow w C (some ⟨b, o, none⟩) vs) (a : Nat) : VRow w C (some ⟨b, o, none⟩) (vs.take a) := by
  intro hp
  rw [List.length_take] at hp
  obtain ⟨b', o', e, hlt, hc⟩ := h (by omega)
  exact ⟨b', o', e, hlt, fun i hi => by
    rw [List.length_take] at hi
    rw [hc i (by omega)]
    simp⟩
theorem vrow_drop {w : World} {C b o : Nat} {vs : List Value} (h : VRow w C (some ⟨b, o, none⟩) vs) (a : Nat) : VRow w C (some ⟨b, o + a, none⟩) (vs.drop a) := by
  intro hp
  rw [List.length_drop] at hp
  obtain ⟨b', o', e, hlt, hc⟩ := h (by omega)
  cases e
  exact ⟨_, _, rfl, hlt, fun i hi => by
    rw [List.length_drop] at hi
    rw [Nat.add_assoc, hc (a + i) (by omega)]
    simp⟩
theorem ints_take (L : List Nat) (a : Nat) : (ints (castZ L)).take a = ints (castZ (L.take a)) := by simp [ints, castZ, List.map_take]
theorem ints_drop (L : List Nat) (a : Nat) : (ints (castZ L)).drop a = ints (castZ (L.drop a)) := by simp [ints, castZ, List.map_drop]
def tailR (L : List Bool) (most n1 : Nat) (all : List Nat) (a : Nat) (out : List UInt8) : R (List UInt8) :=
  if all.getD 256 0 = 0 then .error 3
  else withW (wordsR (all.take n1) false) fun A => withW (wordsR (all.drop n1) true) fun B => blockA A B L most a out
theorem toldA_tail (L : List Bool) (most at_ : Nat) (out : List UInt8) : toldA L most at_ out = (threeR L at_).then fun n a =>
    if n.1 > 286 ∨ n.2.1 > 30 then .error 3
    else (metaR L n.2.2 0 a (List.replicate 19 0)).then fun l a => withW (wordsR l false) fun W => (lensA W (n.1 + n.2.1) L a []).then fun all a => tailR L most n.1 all a out := rfl
end Go.Proofs.YtjafcjnkefioeaaGreat.Inf
/- The contract of Inflate. -/
namespace Go.Proofs.YtjafcjnkefioeaaGreat.Inf
open Go.RowKit Go.Proofs.YtjafcjnkefioeaaGreat.Oct Go.Proofs.YtjafcjnkefioeaaGreat.Bit Go.Proofs.YtjafcjnkefioeaaGreat.Hf
set_option maxRecDepth 100000
def fin8 : R (List UInt8) → Except Nat (List UInt8 × Nat)
  | .ok (o, a) => .ok (o, (a + 7) / 8)
  | .error e => .error e
theorem inflate_fin (xs : List UInt8) (most : Nat) : inflate xs most = fin8 (inflA (bitsOf true xs) most 0 []) := by
  rw [inflate_eq]
  unfold fin8
  rcases inflA (bitsOf true xs) most 0 [] with e | ⟨o, a⟩ <;> rfl
def infZ (xs : List UInt8) (most : Int) : Except Nat (List UInt8 × Nat) := if most < 0 then .error 1 else inflate xs most.toNat
end Go.Proofs.YtjafcjnkefioeaaGreat.Inf
/- The chapter's examples hold; same; the document's Fixed and Froms. -/
namespace Go.Proofs.YtjafcjnkefioeaaGreat.Inf
open Go.RowKit Go.Proofs.YtjafcjnkefioeaaGreat.Oct Go.Proofs.YtjafcjnkefioeaaGreat.Bit Go.Proofs.YtjafcjnkefioeaaGreat.Hf
set_option maxRecDepth 100000
def FromsP (w : World) (far : Bool) (e : Ending) (w' : World) : Prop :=
  e = .returned (.tuple #[.slice (some ⟨w.heap.size, 0, none⟩) (froms far).length (froms far).length, .slice (some ⟨w.heap.size + 1, 0, none⟩) (froms far).length (froms far).length]) ∧ Below w.heap.size w w' ∧
    VRow w' w'.heap.size (some ⟨w.heap.size, 0, none⟩) (ints (castZ (froms far))) ∧ VRow w' w'.heap.size (some ⟨w.heap.size + 1, 0, none⟩) (ints (castZ (extras far)))
theorem two_rows (w : World) (us vs : List Value) (T : TypeId) : Below w.heap.size w ((w.alloc (.cells us.toArray T)).alloc (.cells vs.toArray T)) ∧
    VRow ((w.alloc (.cells us.toArray T)).alloc (.cells vs.toArray T)) ((w.alloc (.cells us.toArray T)).alloc (.cells vs.toArray T)).heap.size (some ⟨w.heap.size, 0, none⟩) us ∧
    VRow ((w.alloc (.cells us.toArray T)).alloc (.cells vs.toArray T)) ((w.alloc (.cells us.toArray T)).alloc (.cells vs.toArray T)).heap.size (some ⟨w.heap.size + 1, 0, none⟩) vs := by
  have h1 : Below w.heap.size w (w.alloc (.cells us.toArray T)) := (Below.refl _ w).alloc (Nat.le_refl _) _
  have h2 : Below (w.alloc (.cells us.toArray T)).heap.size (w.alloc (.cells us.toArray T)) ((w.alloc (.cells us.toArray T)).alloc (.cells vs.toArray T)) := (Below.refl _ _).alloc (Nat.le_refl _) _
  have hz : (w.alloc (.cells us.toArray T)).heap.size = w.heap.size + 1 := Array.size_push _
  refine ⟨h1.trans (h2.mono h1.size), ?_, ?_⟩
  · exact ((vrow_blk (g := w.heap.size) (T := T) (fr := (0, 0)) (vs := us) (C := (w.alloc (.cells us.toArray T)).heap.size) Array.getElem?_push_size (by omega)).below h2 (Nat.le_refl _)).mono h2.size
  · rw [← hz]
    exact vrow_blk (T := T) (fr := (0, 0)) (vs := vs) Array.getElem?_push_size (by simp)
set_option maxHeartbeats 4000000 in
theorem froms_any (far : Bool) (w : World) : Calls Tryz.prog 113 #[.bool far] w (FromsP w far) := by
  cases far
  · go_enter Tryz.func113, Tryz.ntmps113
    go_wp2_with fail
    go_ret2
    exact ⟨rfl, two_rows w (ints (castZ (froms false))) (ints (castZ (extras false))) 3⟩
  · go_enter Tryz.func113, Tryz.ntmps113
    go_wp2_with fail
    go_ret2
    exact ⟨rfl, two_rows w (ints (castZ (froms true))) (ints (castZ (extras true))) 3⟩
end Go.Proofs.YtjafcjnkefioeaaGreat.Inf
/- The document's Fixed. -/
namespace Go.Proofs.YtjafcjnkefioeaaGreat.Inf
open Go.RowKit Go.Proofs.YtjafcjnkefioeaaGreat.Oct Go.Proofs.YtjafcjnkefioeaaGreat.Bit Go.Proofs.YtjafcjnkefioeaaGreat.Hf
set_option maxRecDepth 100000
def valA (k : Nat) : Nat := if k < 144 then 8 else if k < 256 then 9 else if k < 280 then 7 else 8
theorem fixedA_step : ∀ k, k < 288 → fixedA.take (k + 1) = fixedA.take k ++ [valA k] := by decide +kernel
theorem fixedB_step : ∀ k, k < 30 → fixedB.take (k + 1) = fixedB.take k ++ [5] := by decide +kernel
theorem own_one {w : World} {base : Nat} {v : Value} {L : List Nat} (h : IOwn w base v (castZ L)) (x : Nat) :
    (w.alloc (.cells #[.int .i64 (x : Int)] 3)).ownsRow base 3 1 v L.length (ints (castZ L)) ∧
    VRow (w.alloc (.cells #[.int .i64 (x : Int)] 3)) (w.alloc (.cells #[.int .i64 (x : Int)] 3)).heap.size (some ⟨w.heap.size, 0, none⟩) (ints [(x : Int)]) := by
  have hba : Below w.heap.size w (w.alloc (.cells #[.int .i64 (x : Int)] 3)) := (Below.refl _ w).alloc (Nat.le_refl _) _
  refine ⟨?_, vrow_blk (vs := ints [(x : Int)]) (T := 3) (fr := (0, 0)) Array.getElem?_push_size (by simp)⟩
  have h1 := own_below h hba
  rwa [castZ_length] at h1
theorem own_cat {w : World} {base : Nat} {v : Value} {L : List Nat} {x : Nat} (h : w.ownsRow base 3 1 v (L.length + 1) (ints (castZ L) ++ ints [(x : Int)])) : IOwn w base v (castZ (L ++ [x])) := by
  unfold IOwn
  rw [castZ_length, List.length_append, castZ_append, ints_append]
  exact h
set_option maxHeartbeats 4000000 in
theorem rfixed_any (w : World) : Calls Tryz.prog 44 #[] w (FixdP w) := by
  obtain ⟨i0, hi, hz0, hz1, hz2⟩ := info_parts Tryz.infoInt
  go_enter Tryz.func44, Tryz.ntmps44
  go_wp2_with fail
  go_loopw [2, 4, 5] (fun v i _ wr => ∃ k : Nat, k ≤ 288 ∧ i = .int .i64 (k : Int) ∧ Hid (IOwn wr w.heap.size v (castZ (fixedA.take k)) ∧ Below w.heap.size w wr)) (fun _ i _ _ => 288 - (intOf i).toNat)
  case atStart => exact ⟨0, by omega, rfl, Lib.hid ⟨World.ownsRow_nil w _ 3 1, Below.refl _ _⟩⟩
  case round =>
    obtain ⟨k, hk, rfl, HB⟩ := hrel
    rename_i v2
    by_cases hlt : k < 288
    · have ql : decide ((k : Int) < 288) = true := by simp; omega
      have hfl : (fixedA.take k).length = k := by rw [List.length_take]; have : fixedA.length = 288 := by decide
                                                  omega
      have HST := Lib.hid (fixedA_step k hlt)
      obtain ⟨x, hx⟩ : ∃ x, x = valA k := ⟨_, rfl⟩
      obtain ⟨ho, hv⟩ := own_one HB.out.1 x
      rw [hfl] at ho
      rw [← hx] at HST
      have HO := Lib.hid ho
      have HV := Lib.hid hv
      have HX := Lib.hid hx
      have HFL := Lib.hid hfl
      have hba : Below wr.heap.size wr (wr.alloc (.cells #[.int .i64 (x : Int)] 3)) := (Below.refl _ wr).alloc (Nat.le_refl _) _
      have HBA := Lib.hid (HB.out.2.trans (hba.mono HB.out.2.size))
      have HBZ := Lib.hid HBA.out.size
      clear ho hv hba hfl
      have hcase : (x = 8 ∧ decide (144 ≤ (k : Int)) = false ∧ decide (256 ≤ (k : Int)) = false) ∨ (x = 9 ∧ decide (144 ≤ (k : Int)) = true ∧ decide ((k : Int) < 256) = true ∧ decide (256 ≤ (k : Int)) = false) ∨
          (x = 7 ∧ decide (144 ≤ (k : Int)) = true ∧ decide ((k : Int) < 256) = false ∧ decide (256 ≤ (k : Int)) = true ∧ decide ((k : Int) < 280) = true) ∨
          (x = 8 ∧ decide (144 ≤ (k : Int)) = true ∧ decide ((k : Int) < 256) = false ∧ decide (256 ≤ (k : Int)) = true ∧ decide ((k : Int) < 280) = false) := by
        rw [hx]
        unfold valA
        by_cases h1 : k < 144
        · left; rw [if_pos h1]; simp; omega
        · right
          by_cases h2 : k < 256
          · left; rw [if_neg h1, if_pos h2]; simp; omega
          · right
            by_cases h3 : k < 280
            · left; rw [if_neg h1, if_neg h2, if_pos h3]; simp; omega
            · right; rw [if_neg h1, if_neg h2, if_neg h3]; simp; omega
      clear hx
      rcases hcase with ⟨hxx, q1, q2⟩ | ⟨hxx, q1, q2, q3⟩ | ⟨hxx, q1, q2, q3, q4⟩ | ⟨hxx, q1, q2, q3, q4⟩
      all_goals
        subst hxx
        go_wp2_with (at_builtin; refine wpList_append_vals Tryz.underlying69 hi hz0 hz1 hz2 rfl (by decide) rfl _ _ rfl w.heap.size _ k (ints (castZ (fixedA.take k))) rfl HO.out (some ⟨wr.heap.size, 0, none⟩) 1 1 (ints [_]) rfl HV.out rfl (fun h => by cases h) ints_one (by omega) HBZ.out ?_)
        intro v9 w9 hown9 hgrow9 hb9
        have HN : Hid (IOwn w9 w.heap.size v9 (castZ (fixedA.take (k + 1))) ∧ Below w.heap.size w w9) := Lib.hid ⟨by
          rw [HST.out]
          exact own_cat (by rw [HFL.out]; exact hown9), HBA.out.trans hb9⟩
        clear hown9 hgrow9 hb9
        go_wp2_with fail
        go_roundw
        case rel => exact ⟨k + 1, by omega, by first | rfl | (push_cast; rfl), HN⟩
        case measure => simp [intOf]; omega
    · have hkn : k = 288 := by omega
      have ql : decide ((k : Int) < 288) = false := by simp; omega
      have hall : fixedA.take 288 = fixedA := by decide +kernel
      have HA := HB.out
      rw [hkn, hall] at HA
      obtain ⟨wA, rfl⟩ : ∃ wA, wA = wr := ⟨_, rfl⟩
      obtain ⟨q, c, hv, hq0, hqc, hqm, hqr, _⟩ := vrow_own HA.1 (ints_length _)
      rw [castZ_length] at hv
      have hfa : fixedA.length = 288 := by decide
      rw [hfa] at hv
      subst hv
      have HB2 := Lib.hid HA.2
      have HQR := Lib.hid hqr
      have HQ0 := Lib.hid hq0
      have hwz := HA.2.size
      clear HB hall HA hqr hq0 hqc hqm hfa hkn
      go_wp2_with fail
      go_loopw [3, 6] (fun v i wq => ∃ k : Nat, k ≤ 30 ∧ i = .int .i64 (k : Int) ∧ Hid (IOwn wq wA.heap.size v (castZ (fixedB.take k)) ∧ Below wA.heap.size wA wq)) (fun _ i _ => 30 - (intOf i).toNat)
      case atStart => exact ⟨0, by omega, rfl, Lib.hid ⟨World.ownsRow_nil wA _ 3 1, Below.refl _ _⟩⟩
      case round =>
        clear hlt hk ql
        obtain ⟨k, hk, rfl, HB⟩ := hrel
        by_cases hlt2 : k < 30
        · have ql : decide ((k : Int) < 30) = true := by simp; omega
          have hfl : (fixedB.take k).length = k := by rw [List.length_take]; have : fixedB.length = 30 := by decide
                                                      omega
          have HST := Lib.hid (fixedB_step k hlt2)
          obtain ⟨ho, hv⟩ := own_one HB.out.1 5
          rw [hfl] at ho
          have HO := Lib.hid ho
          have HV := Lib.hid hv
          have HFL := Lib.hid hfl
          have hba : Below wr.heap.size wr (wr.alloc (.cells #[.int .i64 ((5 : Nat) : Int)] 3)) := (Below.refl _ wr).alloc (Nat.le_refl _) _
          have HBA := Lib.hid (HB.out.2.trans (hba.mono HB.out.2.size))
          have HBZ := Lib.hid HBA.out.size
          clear ho hv hba hfl
          go_wp2_with (at_builtin; refine wpList_append_vals Tryz.underlying69 hi hz0 hz1 hz2 rfl (by decide) rfl _ _ rfl wA.heap.size _ k (ints (castZ (fixedB.take k))) rfl HO.out (some ⟨wr.heap.size, 0, none⟩) 1 1 (ints [_]) rfl HV.out rfl (fun h => by cases h) ints_one (by omega) HBZ.out ?_)
          intro v9 w9 hown9 hgrow9 hb9
          have HN : Hid (IOwn w9 wA.heap.size v9 (castZ (fixedB.take (k + 1))) ∧ Below wA.heap.size wA w9) := Lib.hid ⟨by
            rw [HST.out]
            exact own_cat (by rw [HFL.out]; exact hown9), HBA.out.trans hb9⟩
          clear hown9 hgrow9 hb9
          go_wp2_with fail
          go_roundw
          case rel => exact ⟨k + 1, by omega, by first | rfl | (push_cast; rfl), HN⟩
          case measure => simp [intOf]; omega
        · have hkn : k = 30 := by omega
          subst hkn
          have hall : fixedB.take 30 = fixedB := by decide +kernel
          have HA := HB.out
          rw [hall] at HA
          obtain ⟨r, d, hv, hr0, hrc, hrm, hrr, _⟩ := vrow_own HA.1 (ints_length _)
          rw [castZ_length] at hv
          have hfb : fixedB.length = 30 := by decide
          rw [hfb] at hv
          subst hv
          have HRES : Hid (FixdP w (.returned (.tuple #[.slice q 288 c, .slice r 30 d])) wr) := Lib.hid ⟨HB2.out.trans (HA.2.mono hwz), q, c, r, d, rfl, (HQR.out.below HA.2 (Nat.le_refl _)).mono HA.2.size, HQ0.out, hrr, hr0⟩
          clear HB HA hall hr0 hrc hrm hrr hfb
          go_wp2_with fail
          go_ret2
          exact HRES.out
end Go.Proofs.YtjafcjnkefioeaaGreat.Inf
/- The document's Words. -/
namespace Go.Proofs.YtjafcjnkefioeaaGreat.Inf
open Go.RowKit Go.Proofs.YtjafcjnkefioeaaGreat.Oct Go.Proofs.YtjafcjnkefioeaaGreat.Bit Go.Proofs.YtjafcjnkefioeaaGreat.Hf
set_option maxRecDepth 100000
def wordsX (L : List Nat) (full one : Bool) : Except Nat (List (List Bool)) :=
  if startN L 31 ≤ 1073741824 then (if full = true ∧ startN L 31 ≠ 1073741824 ∧ ¬ (one = true ∧ lone L = true) then .error 3 else .ok (canonW L)) else .error 3
theorem wordsX_full (L : List Nat) (one : Bool) : wordsX L true one = wordsR L one := by
  unfold wordsX wordsR
  by_cases h1 : startN L 31 ≤ 1073741824
  · rw [if_pos h1]
    by_cases h2 : startN L 31 = 1073741824
    · rw [if_neg (fun h => h.2.1 h2), if_pos (.inl h2)]
    · by_cases h3 : one = true ∧ lone L = true
      · rw [if_neg (fun h => h.2.2 h3), if_pos (.inr ⟨by omega, h3⟩)]
      · rw [if_pos ⟨rfl, h2, h3⟩, if_neg (fun h => by
          rcases h with h | h
          · exact h2 h
          · exact h3 h.2)]
  · rw [if_neg h1, if_neg (fun h => by
      rcases h with h | h
      · omega
      · omega)]
theorem count_take9 (L : List Nat) (k : Nat) (h : k < L.length) : (L.take (k + 1)).countP (fun n => decide (0 < n)) = (L.take k).countP (fun n => decide (0 < n)) + (if 0 < L[k] then 1 else 0) := by
  rw [List.take_succ_eq_append_getElem h, List.countP_append]
  simp [List.countP_cons]
end Go.Proofs.YtjafcjnkefioeaaGreat.Inf
/- The document's place and Told. -/
namespace Go.Proofs.YtjafcjnkefioeaaGreat.Inf
open Go.RowKit Go.Proofs.YtjafcjnkefioeaaGreat.Oct Go.Proofs.YtjafcjnkefioeaaGreat.Bit Go.Proofs.YtjafcjnkefioeaaGreat.Hf
set_option maxRecDepth 100000
theorem vget9 {w : World} {C b i : Nat} {L : List Nat} (h : VRow w C (some ⟨b, 0, none⟩) (ints (castZ L))) (hi : i < L.length) : w.cell? ⟨b, i, none⟩ = some (.int .i64 ((L.getD i 0 : Nat) : Int)) := by
  have h1 := h.int i (by rw [castZ_length]; exact hi)
  rw [Nat.zero_add] at h1
  rw [h1]
  simp [castZ, List.getD_eq_getElem?_getD, List.getElem?_eq_getElem hi]
theorem ext_len : ∀ far : Bool, (extras far).length = (froms far).length ∧ 29 ≤ (froms far).length ∧ (froms far).length ≤ 30 ∧ (froms far).getD 0 0 = least1 far := by decide
theorem strs_word {w : World} {C b off i : Nat} {W : List (List Bool)} (h : VRow w C (some ⟨b, off, none⟩) (strs (wordsU W))) (hi : i < W.length) : w.cell? ⟨b, off + i, none⟩ = some (.string (ds (W.getD i []))) := by
  have h1 := h.str i (by rw [wordsU_length]; exact hi)
  rw [h1]
  simp [wordsU, List.getD_eq_getElem?_getD, List.getElem?_eq_getElem hi, ds]
theorem getD_len {W : List (List Bool)} (h : ∀ m ∈ W, m.length ≤ 30) (i : Nat) : (W.getD i []).length ≤ 30 := by
  rw [List.getD_eq_getElem?_getD]
  rcases hx : W[i]? with _ | m
  · simp
  · exact h m (List.mem_of_getElem? hx)
end Go.Proofs.YtjafcjnkefioeaaGreat.Inf

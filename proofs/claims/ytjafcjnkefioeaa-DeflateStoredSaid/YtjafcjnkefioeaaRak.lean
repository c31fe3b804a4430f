/- DfB, IfO, IfP, DfM: merged. -/
import Derived.Laws.BitsAllLaws
import Derived.Laws.Strings
import Derived.Laws.BytesArg
import Derived.Test.YtjafcjnkefioeaaRows
import Derived.WalkKit
import Derived.ProofKit
import Derived.WalkLawsBesides
import Derived.Lib.Hide
import Derived.Deep.QuietTactic
import Derived.BigQuiet
import Derived.Outline
import Derived.Laws.NewBlocks
import Derived.Laws.CopyOwn
import Derived.Laws.Concat
import Derived.Laws.Strings2
import Derived.WalkSpells
import Derived.Laws.AppendOwnNone
import Derived.OpenShut
import Derived.Lib.SliceRun
import Derived.ChangeKeysEq
import Derived.Laws.Pointers
import Derived.Deep.AppendLies
import Derived.Deep.RegionHeld3
import Derived.Laws.Externs
import Derived.Laws.IdiomCopy
import Derived.Lib.EndianMore
import Derived.Deep.RegionLaw
import Derived.Shelf.Spec.SlicesGrow
import Derived.LoopTactic
import Derived.Deep.LoopGhost
import Derived.Deep.DeepCutAuto
import Derived.BigRegion
import Derived.Test.YtjafcjnkefioeaaRab
import Derived.Test.YtjafcjnkefioeaaRaf
import Derived.Test.YtjafcjnkefioeaaRai
import Derived.Test.YtjafcjnkefioeaaRaj
set_option linter.unusedVariables false
set_option linter.unusedSimpArgs false
/- What stays in memory whatever else turns; an encoder in memory; keep, number, begin. -/
namespace Go.Proofs.Ytjafcjnkefioeaa.Df
open Go.RowKit Go.Proofs.Ytjafcjnkefioeaa.Oct Go.Proofs.Ytjafcjnkefioeaa.Bit Go.Proofs.Ytjafcjnkefioeaa.Hf Go.Proofs.Ytjafcjnkefioeaa.Inf
set_option maxRecDepth 100000
def Foot (F : Nat → Prop) (P : World → Prop) (w : World) : Prop := (∀ k, F k → k < w.heap.size) ∧ ∀ w' : World, w.heap.size ≤ w'.heap.size → (∀ k, F k → w'.heap[k]? = w.heap[k]?) → P w'
theorem Foot.now {F : Nat → Prop} {P : World → Prop} {w : World} (h : Foot F P w) : P w := h.2 w (Nat.le_refl _) fun _ _ => rfl
theorem Foot.only {F S : Nat → Prop} {P : World → Prop} {w w' : World} (h : Foot F P w) (ho : Only S w w') (hS : ∀ k, F k → ¬ S k) : Foot F P w' :=
  ⟨fun k hk => Nat.lt_of_lt_of_le (h.1 k hk) ho.2.2.2.1, fun w2 hz hs => h.2 w2 (Nat.le_trans ho.2.2.2.1 hz) fun k hk => (hs k hk).trans (ho.2.2.2.2 k (h.1 k hk) (hS k hk))⟩
theorem Foot.below {F : Nat → Prop} {P : World → Prop} {w w' : World} (h : Foot F P w) (hb : Below w.heap.size w w') : Foot F P w' :=
  h.only (S := fun _ => False) (Only.of_below hb) fun _ _ e => e
theorem Foot.mono {F : Nat → Prop} {P Q : World → Prop} {w : World} (h : Foot F P w) (hq : ∀ w', P w' → Q w') : Foot F Q w := ⟨h.1, fun w' hz hs => hq w' (h.2 w' hz hs)⟩
def At (p : Option Addr) (k : Nat) : Prop := ∃ a, p = some a ∧ a.block = k
theorem foot_vrow {w : World} {p : Option Addr} {vs : List Value} (h : VRow w w.heap.size p vs) (h0 : 0 < vs.length) : Foot (At p) (fun w' => VRow w' w'.heap.size p vs) w := by
  obtain ⟨b, off, rfl, hb, hc⟩ := h h0
  refine ⟨fun k ⟨a, e, hk⟩ => by injection e with e; subst e; rw [← hk]; exact hb, fun w' hz hs _ => ⟨b, off, rfl, Nat.lt_of_lt_of_le hb hz, fun i hi => (World.cell?_of_block (hs b ⟨_, rfl, rfl⟩)).trans (hc i hi)⟩⟩
theorem foot_row {w : World} {p : Option Addr} {xs : List UInt8} (h : Row w p xs) (h0 : 0 < xs.length) : Foot (At p) (fun w' => Row w' p xs) w := by
  obtain ⟨b, off, rfl, hb, hc⟩ := h h0
  refine ⟨fun k ⟨a, e, hk⟩ => by injection e with e; subst e; rw [← hk]; exact hb, fun w' hz hs _ => ⟨b, off, rfl, Nat.lt_of_lt_of_le hb hz, fun i hi => (World.cell?_of_block (hs b ⟨_, rfl, rfl⟩)).trans (hc i hi)⟩⟩
structure Ke where
  e : Nat
  gw : Nat
  bl : Nat
  cl : Nat
  bd : Nat
  cd : Nat
structure En (w : World) (K : Ke) (v : Value) (l : List Bool) : Prop where
  blk : w.heap[K.e]? = some (.cells #[.pointer (some ⟨K.gw, 0, none⟩), .slice (some ⟨K.bl, 0, none⟩) 29 K.cl, .slice (some ⟨K.bd, 0, none⟩) 30 K.cd, .int .i64 0] 35 (0, 0))
  ws : Ws w K.gw v l true
  tl : TabR w K.bl false
  td : TabR w K.bd true
  ge : K.gw < K.e
  gl : K.gw < K.bl ∧ K.gw < K.bd
  lt : K.bl < K.e ∧ K.bd < K.e
  vv : ∀ k, v.ownBlock = some k → K.e < k
  cl : 29 ≤ K.cl ∧ 30 ≤ K.cd
section
variable {w w' w1 w2 : World} {K : Ke} {v v1 : Value} {l l' : List Bool}
theorem En.c0 (h : En w K v l) : w.cell? ⟨K.e, 0, none⟩ = some (.pointer (some ⟨K.gw, 0, none⟩)) := by simp [World.cell?, h.blk]
theorem En.c1 (h : En w K v l) : w.cell? ⟨K.e, 1, none⟩ = some (.slice (some ⟨K.bl, 0, none⟩) 29 K.cl) := by simp [World.cell?, h.blk]
theorem En.c2 (h : En w K v l) : w.cell? ⟨K.e, 2, none⟩ = some (.slice (some ⟨K.bd, 0, none⟩) 30 K.cd) := by simp [World.cell?, h.blk]
theorem En.c3 (h : En w K v l) : w.cell? ⟨K.e, 3, none⟩ = some (.int .i64 0) := by simp [World.cell?, h.blk]
theorem En.fz (h : En w K v l) (i : Nat) : w.frozen? ⟨K.e, i, none⟩ = false := by simp [World.frozen?, h.blk]
theorem En.lt' (h : En w K v l) : K.e < w.heap.size := by
  rcases Nat.lt_or_ge K.e w.heap.size with hlt | hge
  · exact hlt
  · have := h.blk; rw [Array.getElem?_eq_none hge] at this; cases this
theorem tab_same {b : Nat} {far : Bool} (h : TabR w b far) (hb : w'.heap[b]? = w.heap[b]?) : TabR w' b far := fun i hi =>
  ⟨(World.cell?_of_block hb).trans (h i hi).1, (World.cell?_of_block hb).trans (h i hi).2⟩
theorem own_lt (h : En w K v l) (k : Nat) (hk : v.ownBlock = some k) : k < w.heap.size := by
  have h1 : w.ownsRow 0 5 1 v (packB true l).length (cellsOf (packB true l)) := h.ws.2.1
  rcases h1.2 with ⟨e, _⟩ | ⟨g, cap, cur, rfl, hb, hh, r⟩
  · rw [e] at hk; cases hk
  · injection hk with hk
    subst hk
    rcases Nat.lt_or_ge g w.heap.size with hlt | hge
    · exact hlt
    · rw [Array.getElem?_eq_none hge] at hh; cases hh
theorem En.only {S : Nat → Prop} (h : En w K v l) (ho : Only S w w') (he : ∀ k, k ≤ K.e → ¬ S k) (hv : ∀ k, v.ownBlock = some k → ¬ S k) : En w' K v l := by
  have hlt := h.lt'
  have h1 := h.ge
  have h2 := h.lt
  exact ⟨(ho.2.2.2.2 _ hlt (he _ (Nat.le_refl _))).trans h.blk, Wr.only h.ws ho (he _ (by omega)) hv, tab_same h.tl (ho.2.2.2.2 _ (by omega) (he _ (by omega))),
    tab_same h.td (ho.2.2.2.2 _ (by omega) (he _ (by omega))), h.ge, h.gl, h.lt, h.vv, h.cl⟩
theorem En.below (h : En w K v l) (hb : Below w.heap.size w w') : En w' K v l := h.only (S := fun _ => False) (Only.of_below hb) (fun _ _ e => e) (fun _ _ e => e)
def EnT (w : World) (K : Ke) (v : Value) (l : List Bool) (w' : World) : Prop :=
  ∃ v', En w' K v' l ∧ Only (Mine K.gw v) w w' ∧ ∀ k, v'.ownBlock = some k → v.ownBlock = some k ∨ w.heap.size ≤ k
theorem En.wst (h : En w K v l) (ht : WsT w K.gw v l' true w') : EnT w K v l' w' := by
  obtain ⟨v', hw, ho, hd⟩ := ht
  have hlt := h.lt'
  have h1 := h.ge
  have h2 := h.lt
  have h3 := h.gl
  have hm : ∀ k, k ≤ K.e → k ≠ K.gw → ¬ Mine K.gw v k := fun k hk hne e => by
    rcases e with e | e
    · exact hne e
    · have := h.vv k e; omega
  refine ⟨v', ⟨(ho.2.2.2.2 _ hlt (hm _ (Nat.le_refl _) (by omega))).trans h.blk, hw, tab_same h.tl (ho.2.2.2.2 _ (by omega) (hm _ (by omega) (by omega))),
    tab_same h.td (ho.2.2.2.2 _ (by omega) (hm _ (by omega) (by omega))), h.ge, h.gl, h.lt, fun k hk => ?_, h.cl⟩, ho, hd⟩
  rcases hd k hk with e | e
  · exact h.vv k e
  · omega
theorem EnT.more (ho : Only (Mine K.gw v) w w1) (hd : ∀ k, v1.ownBlock = some k → v.ownBlock = some k ∨ w.heap.size ≤ k) (h : EnT w1 K v1 l w2) : EnT w K v l w2 := by
  obtain ⟨v2, hW, ho2, hd2⟩ := h
  have hz := ho.2.2.2.1
  refine ⟨v2, hW, ⟨ho2.1.trans ho.1, ho2.2.1.trans ho.2.1, ho2.2.2.1.trans ho.2.2.1, Nat.le_trans hz ho2.2.2.2.1, fun k hk hn => ?_⟩, fun k hk => ?_⟩
  · refine (ho2.2.2.2.2 k (by omega) (fun hm => hn ?_)).trans (ho.2.2.2.2 k hk hn)
    rcases hm with h | h
    · exact .inl h
    · rcases hd k h with h | h
      · exact .inr h
      · omega
  · rcases hd2 k hk with h | h
    · exact hd k h
    · exact .inr (by omega)
theorem EnT.below (h : En w K v l) (hb : Below w.heap.size w w') : EnT w K v l w' := ⟨v, h.below hb, (Only.of_below (S := fun _ => False) hb).mono (fun _ _ e => False.elim e), fun _ e => .inl e⟩
def Far (K : Ke) (v : Value) (F : Nat → Prop) : Prop := ∀ k, F k → k ≠ K.gw ∧ v.ownBlock ≠ some k
theorem Foot.ent {F : Nat → Prop} {P : World → Prop} (h : Foot F P w) (hf : Far K v F) (ho : Only (Mine K.gw v) w w') : Foot F P w' :=
  h.only ho fun k hk e => by
    rcases e with e | e
    · exact (hf k hk).1 e
    · exact (hf k hk).2 e
theorem Far.ent {F : Nat → Prop} {P : World → Prop} (h : Foot F P w) (hf : Far K v F) (hd : ∀ k, v1.ownBlock = some k → v.ownBlock = some k ∨ w.heap.size ≤ k) : Far K v1 F := fun k hk =>
  ⟨(hf k hk).1, fun e => by
    rcases hd k e with e | e
    · exact (hf k hk).2 e
    · have := h.1 k hk; omega⟩
theorem far_new {F : Nat → Prop} (h : En w K v l) (hF : ∀ k, F k → w.heap.size ≤ k) : Far K v F := fun k hk => by
  have h1 := hF k hk
  have h2 := h.lt'
  have h3 := h.ge
  exact ⟨by omega, fun e => by have := own_lt h k e; omega⟩
end
theorem or_any (b : Nat) (w : World) (h : ∀ i, i < 2 → w.cell? ⟨b, i, none⟩ = some (.int .i64 0)) : Calls Try.prog 51 #[.slice (some ⟨b, 0, none⟩) 2 2] w fun e w' => e = .returned (.int .i64 0) ∧ w' = w := by
  have H := Lib.hid h
  clear h
  go_enter Try.func51, Try.ntmps51
  go_wp2_with fail
  go_loopw [8] (fun i wr => ∃ k : Nat, k ≤ 2 ∧ i = .int .i64 (k : Int) ∧ wr = w) (fun i _ => 2 - (intOf i).toNat)
  case atStart => exact ⟨0, by omega, rfl, rfl⟩
  case round =>
    obtain ⟨k, hk, rfl, rfl⟩ := hrel
    by_cases hlt : k < 2
    · have q : decide ((k : Int) < 2) = true := decide_eq_true (by omega)
      have hc := H.out k hlt
      have hc2 : wr.cell? ⟨b, 0 + k, none⟩ = some (.int .i64 0) := by rw [Nat.zero_add]; exact hc
      go_wp2_with fail
      go_roundw
      case rel => exact ⟨k + 1, by omega, by first | rfl | (push_cast; rfl), by first | rfl | trivial⟩
      case measure => simp [intOf]; omega
    · have q : decide ((k : Int) < 2) = false := by simp; omega
      go_wp2_with fail
      go_ret
      exact ⟨rfl, rfl⟩
theorem set_same {w : World} {b i : Nat} {cs : Array Value} {T : TypeId} {fr : Nat × Nat} {v : Value} (h : w.heap[b]? = some (.cells cs T fr)) (hv : cs[i]? = some v) : (w.setCell ⟨b, i, none⟩ v).heap = w.heap := by
  apply Array.ext_getElem?
  intro j
  by_cases hj : b = j
  · subst hj
    simp only [World.setCell, Array.getElem?_modify, h]
    simp only [if_true, Option.map_some]
    congr 2
    rw [if_neg (by simp)]
    apply Array.ext_getElem?
    intro k
    rw [Array.getElem?_setIfInBounds]
    by_cases hk : i = k
    · subst hk; rw [if_pos rfl]; split
      · exact hv.symm
      · rename_i hge
        rw [Array.getElem?_eq_none (by omega)]
    · rw [if_neg hk]
  · simp [World.setCell, Array.getElem?_modify, hj]
theorem set_below {w : World} {b i B : Nat} {v : Value} (h : (w.setCell ⟨b, i, none⟩ v).heap = w.heap) : Below B w (w.setCell ⟨b, i, none⟩ v) :=
  ⟨rfl, rfl, rfl, by rw [h]; exact Nat.le_refl _, fun k hk => by rw [h]⟩
theorem keep_any (w : World) (K : Ke) (v : Value) (l : List Bool) (h : En w K v l) :
    Calls Try.prog 33 #[.pointer (some ⟨K.e, 0, none⟩), .int .i64 0] w fun e w' => e = .returned (.tuple #[]) ∧ Below w.heap.size w w' := by
  have c3 := h.c3
  have hlt := h.lt'
  have hba : Below w.heap.size w (w.alloc (.cells #[.int .i64 0, .int .i64 0] 25)) := (Below.refl _ w).alloc (Nat.le_refl _) _
  have hE := h.below hba
  have fz := hE.fz 3
  have hor := or_any w.heap.size (w.alloc (.cells #[.int .i64 0, .int .i64 0] 25)) (fun i hi => by
    have e : i = 0 ∨ i = 1 := by omega
    rcases e with rfl | rfl
    · simp
    · simp)
  have HOR := Lib.hid hor
  have hsame := set_same (i := 3) (v := .int .i64 0) h.blk rfl
  have hb1 : Below w.heap.size w (w.setCell ⟨K.e, 3, none⟩ (.int .i64 0)) := set_below hsame
  have HB := Lib.hid (hb1.alloc hb1.size (.cells #[.int .i64 0, .int .i64 0] 25))
  clear h hor hE hba hsame hb1
  go_enter Try.func33, Try.ntmps33
  go_wp2_with fail
  refine HOR.out.mono ?_
  rintro e w' ⟨rfl, rfl⟩
  go_wp2_with fail
  go_end0
  exact ⟨rfl, HB.out⟩
theorem number_any (w : World) (K : Ke) (v : Value) (l : List Bool) (m n : Nat) (h : En w K v l) (hn : n ≤ 32) (hm : m < 2 ^ n) (hm2 : m < 4294967296) (hl : l.length ≤ 2000000) :
    Calls Try.prog 19 #[.pointer (some ⟨K.e, 0, none⟩), .int .i64 (m : Int), .int .i64 (n : Int)] w fun e w' => e = .returned (.tuple #[]) ∧ EnT w K v (l ++ wordE true m n) w' := by
  have c0 := h.c0
  have hlt := h.lt'
  have hc : cntB (n : Int) = true := by unfold cntB; simp; omega
  have how : okW m (n : Int) = true := by unfold okW; rw [hc]; simpa using hm
  have hw := write_any w K.gw v l true m (n : Int) hm2 hl h.ws
  unfold WrtP at hw
  rw [show wrE m (n : Int) = 0 from by unfold wrE; rw [hc, how]; rfl, show wrL true l m (n : Int) = l ++ wordE true m n from by unfold wrL; rw [how]; rfl] at hw
  have HW := Lib.hid hw
  have H := Lib.hid h
  have wm : IntKind.u32.wrap (m : Int) = (m : Int) := by rw [IntKind.wrap_u32]; omega
  clear h hw hc how hm hl hn
  go_enter Try.func19, Try.ntmps19
  go_wp2_with fail
  refine HW.out.mono ?_
  rintro e w1 ⟨rfl, ht⟩
  have hT := H.out.wst ht
  obtain ⟨v1, hE1, ho1, hd1⟩ := hT
  have HE1 := Lib.hid hE1
  have HO1 := Lib.hid ho1
  have HD1 := Lib.hid hd1
  clear ht hE1 ho1 hd1
  go_wp2_with fail
  refine (keep_any w1 K v1 _ HE1.out).mono ?_
  rintro e w2 ⟨rfl, hb2⟩
  have HB2 := Lib.hid hb2
  clear hb2
  go_wp2_with fail
  go_end0
  exact ⟨rfl, EnT.more HO1.out HD1.out (EnT.below HE1.out HB2.out)⟩
theorem begin_bits (b k : Nat) (hb : b < 2) (hk : k < 4) : wordE true (b + 2 * k) 3 = wordE true b 1 ++ wordE true k 2 := by
  have hk4 : k = 0 ∨ k = 1 ∨ k = 2 ∨ k = 3 := by omega
  have hb2 : b = 0 ∨ b = 1 := by omega
  rcases hk4 with rfl | rfl | rfl | rfl <;> rcases hb2 with rfl | rfl <;> rfl
theorem begin_one (w : World) (K : Ke) (v : Value) (l : List Bool) (last : Bool) (b k : Nat) (hb : b = if last then 1 else 0) (h : En w K v l) (hk : k < 4) (hl : l.length + 3 ≤ 2000000) :
    Calls Try.prog 17 #[.pointer (some ⟨K.e, 0, none⟩), .bool last, .int .i64 (k : Int)] w fun e w' => e = .returned (.tuple #[]) ∧ EnT w K v (l ++ wordE true (b + 2 * k) 3) w' := by
  have hb2 : b < 2 := by cases last <;> simp at hb <;> omega
  have E1 := Lib.hid (begin_bits b k hb2 hk)
  have HN := Lib.hid (number_any w K v l b 1 h (by omega) hb2 (by omega) (by omega))
  have HL := Lib.hid (show (l ++ wordE true b 1).length ≤ 2000000 by rw [List.length_append, wordE_length]; omega)
  have hk2 : k < 2 ^ 2 := hk
  clear h hl hb2
  cases last
  · have hb0 : b = 0 := by simpa using hb
    subst hb0
    have HN2 : Hid (Calls Try.prog 19 #[.pointer (some ⟨K.e, 0, none⟩), .int .i64 0, .int .i64 1] w fun e w' => e = .returned (.tuple #[]) ∧ EnT w K v (l ++ wordE true 0 1) w') := HN
    have HN3 : Hid (∀ w1 v1, En w1 K v1 (l ++ wordE true 0 1) → Calls Try.prog 19 #[.pointer (some ⟨K.e, 0, none⟩), .int .i64 (k : Int), .int .i64 2] w1 fun e w' => e = .returned (.tuple #[]) ∧ EnT w1 K v1 (l ++ wordE true 0 1 ++ wordE true k 2) w') := Lib.hid fun w1 v1 hE => number_any w1 K v1 _ k 2 hE (by omega) hk2 (by omega) HL.out
    clear HN
    clear hb
    go_enter  Try.func17, Try.ntmps17
    go_wp2_with fail
    refine HN2.out.mono ?_
    rintro e w1 ⟨rfl, v1, hE1, ho1, hd1⟩
    have HE1 := Lib.hid hE1
    have HO1 := Lib.hid ho1
    have HD1 := Lib.hid hd1
    clear hE1 ho1 hd1
    go_wp2_with fail
    refine (HN3.out w1 v1 HE1.out).mono ?_
    rintro e w2 ⟨rfl, ht⟩
    have HT := Lib.hid ht
    clear ht
    go_wp2_with fail
    go_end0
    refine ⟨rfl, ?_⟩
    have := EnT.more HO1.out HD1.out HT.out
    rwa [List.append_assoc, ← E1.out] at this
  · have hb0 : b = 1 := by simpa using hb
    subst hb0
    have HN2 : Hid (Calls Try.prog 19 #[.pointer (some ⟨K.e, 0, none⟩), .int .i64 1, .int .i64 1] w fun e w' => e = .returned (.tuple #[]) ∧ EnT w K v (l ++ wordE true 1 1) w') := HN
    have HN3 : Hid (∀ w1 v1, En w1 K v1 (l ++ wordE true 1 1) → Calls Try.prog 19 #[.pointer (some ⟨K.e, 0, none⟩), .int .i64 (k : Int), .int .i64 2] w1 fun e w' => e = .returned (.tuple #[]) ∧ EnT w1 K v1 (l ++ wordE true 1 1 ++ wordE true k 2) w') := Lib.hid fun w1 v1 hE => number_any w1 K v1 _ k 2 hE (by omega) hk2 (by omega) HL.out
    clear HN
    clear hb
    go_enter  Try.func17, Try.ntmps17
    go_wp2_with fail
    refine HN2.out.mono ?_
    rintro e w1 ⟨rfl, v1, hE1, ho1, hd1⟩
    have HE1 := Lib.hid hE1
    have HO1 := Lib.hid ho1
    have HD1 := Lib.hid hd1
    clear hE1 ho1 hd1
    go_wp2_with fail
    refine (HN3.out w1 v1 HE1.out).mono ?_
    rintro e w2 ⟨rfl, ht⟩
    have HT := Lib.hid ht
    clear ht
    go_wp2_with fail
    go_end0
    refine ⟨rfl, ?_⟩
    have := EnT.more HO1.out HD1.out HT.out
    rwa [List.append_assoc, ← E1.out] at this
theorem begin_any (w : World) (K : Ke) (v : Value) (l : List Bool) (last : Bool) (k : Nat) (h : En w K v l) (hk : k < 4) (hl : l.length + 3 ≤ 2000000) :
    Calls Try.prog 17 #[.pointer (some ⟨K.e, 0, none⟩), .bool last, .int .i64 (k : Int)] w fun e w' => e = .returned (.tuple #[]) ∧ EnT w K v (l ++ wordE true ((if last then 1 else 0) + 2 * k) 3) w' :=
  begin_one w K v l last _ k rfl h hk hl
end Go.Proofs.Ytjafcjnkefioeaa.Df
/- What tells bytes and copies by words is what they stand for; no program in sight. -/
namespace Go.Proofs.Ytjafcjnkefioeaa.Inf
open Go.Proofs.Ytjafcjnkefioeaa.Bit Go.Proofs.Ytjafcjnkefioeaa.Hf
theorem drop_more {L x r : List Bool} {a : Nat} (h : L.drop a = x ++ r) : L.drop (a + x.length) = r := by
  rw [← List.drop_drop, h]
  simp
theorem drop_le {L x r : List Bool} {a : Nat} (h : L.drop a = x ++ r) (ha : a ≤ L.length) : a + x.length ≤ L.length := by
  have := congrArg List.length h
  simp at this
  omega
theorem num_is {L r : List Bool} {a n k : Nat} (h : L.drop a = wordE true n k ++ r) (ha : a ≤ L.length) (hn : n < 2 ^ k) : numR L a k = .ok (n, a + k) := by
  have h1 := drop_le h ha
  rw [wordE_length] at h1
  unfold numR
  rw [if_pos h1, h, List.take_left' (wordE_length _ _ _), numE_wordE true n k hn]
def Fre (W : List (List Bool)) (i : Nat) : Prop := W.getD i [] ≠ [] ∧ ∀ j v, W[j]? = some v → v <+: W.getD i [] → v ≠ [] → j = i
theorem getD_some {α : Type} {W : List α} {i : Nat} {d w : α} (h : W.getD i d = w) (hd : w ≠ d) : W[i]? = some w := by
  rw [List.getD_eq_getElem?_getD] at h
  cases hx : W[i]? with
  | none => rw [hx] at h; exact absurd h.symm hd
  | some x => rw [hx] at h; exact congrArg some h
theorem look_fre (W : List (List Bool)) (i : Nat) (rest : List Bool) (h : Fre W i) : ∀ (q p : List Bool), W.getD i [] = p ++ q → q ≠ [] → lookW W p (q ++ rest) = .ok (i, (W.getD i []).length)
  | [], p, hw, hq => absurd rfl hq
  | b :: t, p, hw, hq => by
    obtain ⟨h0, h1⟩ := h
    have hs := getD_some rfl h0
    rw [List.cons_append, lookW]
    by_cases ht : t = []
    · subst ht
      have hm : p ++ [b] ∈ W := hw ▸ List.mem_of_getElem? hs
      rw [if_pos hm]
      have hl := List.idxOf_lt_length_of_mem hm
      have hj : W.idxOf (p ++ [b]) = i := h1 _ (p ++ [b]) (by rw [List.getElem?_eq_getElem hl, List.getElem_idxOf]) (by rw [hw]; exact List.prefix_refl _) (by simp)
      rw [hj, hw]
      simp
    · have hp : p ++ [b] <+: W.getD i [] := ⟨t, by rw [hw]; simp⟩
      have hm : p ++ [b] ∉ W := by
        intro hm
        obtain ⟨j, hj⟩ := List.mem_iff_getElem?.1 hm
        have := h1 j _ hj hp (by simp)
        subst this
        rw [hs, hw] at hj
        have := congrArg (fun x => (x.getD []).length) hj
        simp at this
        exact ht this
      rw [if_neg hm, if_pos]
      · exact look_fre W i rest ⟨h0, h1⟩ t (p ++ [b]) (by rw [hw]; simp) ht
      · rw [List.any_eq_true]
        exact ⟨_, List.mem_of_getElem? hs, by
          rw [Bool.and_eq_true]
          exact ⟨by simpa using h0, List.isPrefixOf_iff_prefix.2 hp⟩⟩
theorem next_is {W : List (List Bool)} {L r : List Bool} {a i : Nat} (hf : Fre W i) (h : L.drop a = W.getD i [] ++ r) : nextR W L a = .ok (i, a + (W.getD i []).length) := by
  unfold nextR
  have e := look_fre W i r hf (W.getD i []) [] (List.nil_append _).symm hf.1
  rw [h, e]
theorem canon_fre (L : List Nat) (hL : ∀ n ∈ L, 1 ≤ n ∧ n ≤ 30) (hT : startN L 31 ≤ 1073741824) (i : Nat) (hi : i < L.length) : Fre (canonW L) i := by
  have hi' : i < (canonW L).length := by rw [canonW_length]; exact hi
  have hg : (canonW L).getD i [] = (canonW L)[i] := by rw [List.getD_eq_getElem?_getD, List.getElem?_eq_getElem hi']; rfl
  have hl := canonW_len L i hi' hi
  have h30 : ∀ j (h : j < L.length), L[j] ≤ 30 := fun j h => (hL _ (List.getElem_mem h)).2
  have h1 : ∀ j (h : j < L.length), 1 ≤ L[j] := fun j h => (hL _ (List.getElem_mem h)).1
  refine ⟨?_, fun j v hj hp hv => ?_⟩
  · rw [hg]
    intro e
    rw [e] at hl
    have := h1 i hi
    simp at hl
    omega
  · obtain ⟨hj1, hj2⟩ := List.getElem?_eq_some_iff.1 hj
    have hj3 : j < L.length := by rw [canonW_length] at hj1; exact hj1
    refine Classical.byContradiction fun hne => ?_
    refine canon_free L h30 hT j i hj3 hi hne (by have := h1 j hj3; omega) ?_
    rw [← canonW_get L j hj1 hj3, ← canonW_get L i hi' hi, hj2, ← hg]
    exact hp
def lastLe (F : List Nat) (n : Nat) : Nat → Nat
  | 0 => 0
  | i + 1 => if n < F.getD (i + 1) 0 then lastLe F n i else i + 1
theorem lastLe_le (F : List Nat) (n : Nat) : ∀ k, lastLe F n k ≤ k
  | 0 => Nat.le_refl _
  | i + 1 => by
    rw [lastLe]
    split
    · have := lastLe_le F n i; omega
    · omega
theorem lastLe_low (F : List Nat) (n : Nat) (h : F.getD 0 0 ≤ n) : ∀ k, F.getD (lastLe F n k) 0 ≤ n
  | 0 => h
  | i + 1 => by
    rw [lastLe]
    split
    · exact lastLe_low F n h i
    · omega
theorem lastLe_high (F : List Nat) (n : Nat) : ∀ k, lastLe F n k < k → n < F.getD (lastLe F n k + 1) 0
  | 0, h => by omega
  | i + 1, h => by
    rw [lastLe] at h ⊢
    split
    · rename_i hc
      have := lastLe_le F n i
      by_cases hk : lastLe F n i < i
      · exact lastLe_high F n i hk
      · have e : lastLe F n i = i := by omega
        rw [e]; exact hc
    · rename_i hc
      rw [if_neg hc] at h
      omega
def placeN (far : Bool) (n : Nat) : Nat := lastLe (froms far) n ((froms far).length - 1)
def moreB (far : Bool) (n : Nat) : List Bool := wordE true (n - (froms far).getD (placeN far n) 0) ((extras far).getD (placeN far n) 0)
def most1 (far : Bool) : Nat := if far then 32768 else 258
def least1 (far : Bool) : Nat := if far then 1 else 3
theorem place_lt (far : Bool) (n : Nat) : placeN far n < (froms far).length := by
  have := lastLe_le (froms far) n ((froms far).length - 1)
  have h : 0 < (froms far).length := by cases far <;> decide
  unfold placeN
  omega
theorem steps_ok : ∀ far : Bool, ∀ i, i < (froms far).length - 1 → (froms far).getD (i + 1) 0 ≤ (froms far).getD i 0 + 2 ^ (extras far).getD i 0 := by decide +kernel
theorem last_ok : ∀ far : Bool, most1 far < (froms far).getD ((froms far).length - 1) 0 + 2 ^ (extras far).getD ((froms far).length - 1) 0 := by decide +kernel
theorem place_low (far : Bool) (n : Nat) (h : least1 far ≤ n) : (froms far).getD (placeN far n) 0 ≤ n :=
  lastLe_low _ n (by cases far <;> exact h) _
theorem place_high (far : Bool) (n : Nat) (h0 : least1 far ≤ n) (h : n ≤ most1 far) : n - (froms far).getD (placeN far n) 0 < 2 ^ (extras far).getD (placeN far n) 0 := by
  have hl := place_low far n h0
  have hp := lastLe_le (froms far) n ((froms far).length - 1)
  have hh := lastLe_high (froms far) n ((froms far).length - 1)
  change placeN far n ≤ _ at hp
  change placeN far n < _ → n < (froms far).getD (placeN far n + 1) 0 at hh
  generalize placeN far n = i at *
  by_cases hi : i < (froms far).length - 1
  · have := hh hi
    have := steps_ok far i hi
    omega
  · have e : i = (froms far).length - 1 := by omega
    subst e
    have := last_ok far
    omega
theorem number_is {far : Bool} {L r : List Bool} {a n : Nat} (h0 : least1 far ≤ n) (h1 : n ≤ most1 far) (h : L.drop a = moreB far n ++ r) (ha : a ≤ L.length) : numberR far L (placeN far n) a = .ok (n, a + (moreB far n).length) := by
  unfold numberR
  rw [if_pos (place_lt far n), num_is h ha (place_high far n h0 h1), R.then_ok, moreB, wordE_length]
  have := place_low far n h0
  rw [show (froms far).getD (placeN far n) 0 + (n - (froms far).getD (placeN far n) 0) = n from by omega]
structure Tok where
  lit : UInt8
  len : Int
  dist : Int
def rightT (lim : Nat) : List Tok → List UInt8 → Option (List UInt8)
  | [], out => some out
  | t :: l, out => if t.len = 0 then rightT lim l (out ++ [t.lit])
      else if t.len < 3 ∨ 258 < t.len ∨ t.dist < 1 ∨ (out.length : Int) < t.dist ∨ 32768 < t.dist ∨ lim < out.length then none
      else rightT lim l (copyN out t.dist.toNat t.len.toNat)
def tokB (A B : List (List Bool)) (t : Tok) : List Bool :=
  if t.len = 0 then A.getD t.lit.toNat []
  else A.getD (257 + placeN false t.len.toNat) [] ++ (moreB false t.len.toNat ++ (B.getD (placeN true t.dist.toNat) [] ++ moreB true t.dist.toNat))
def toldB (A B : List (List Bool)) : List Tok → List Bool
  | [] => A.getD 256 []
  | t :: l => tokB A B t ++ toldB A B l
theorem right_grows {lim : Nat} : ∀ (l : List Tok) (out o : List UInt8), rightT lim l out = some o → out.length ≤ o.length
  | [], out, o, h => by cases h; exact Nat.le_refl _
  | t :: l, out, o, h => by
    rw [rightT] at h
    split at h
    · have := right_grows l _ o h
      simp at this
      omega
    · split at h
      · cases h
      · have := right_grows l _ o h
        rw [copyN_length] at this
        omega
theorem fixedA_ok : (∀ n ∈ fixedA, 1 ≤ n ∧ n ≤ 30) ∧ startN fixedA 31 = 1073741824 ∧ fixedA.length = 288 := by decide +kernel
theorem fixedB_ok : (∀ n ∈ fixedB, 1 ≤ n ∧ n ≤ 30) ∧ startN fixedB 31 ≤ 1073741824 ∧ fixedB.length = 30 := by decide +kernel
theorem freA (i : Nat) (h : i < 288) : Fre (canonW fixedA) i := canon_fre _ fixedA_ok.1 (Nat.le_of_eq fixedA_ok.2.1) i (by rw [fixedA_ok.2.2]; exact h)
theorem freB (i : Nat) (h : i < 30) : Fre (canonW fixedB) i := canon_fre _ fixedB_ok.1 fixedB_ok.2.1 i (by rw [fixedB_ok.2.2]; exact h)
end Go.Proofs.Ytjafcjnkefioeaa.Inf
/- A block of bytes as they stand, then tokens by the given words: what they stand for; no program in sight. -/
namespace Go.Proofs.Ytjafcjnkefioeaa.Inf
open Go.Proofs.Ytjafcjnkefioeaa.Bit Go.Proofs.Ytjafcjnkefioeaa.Hf Go.Proofs.Ytjafcjnkefioeaa.Oct
theorem bytes_is {L r : List Bool} {most : Nat} : ∀ (ys : List UInt8) (a : Nat) (out : List UInt8), L.drop a = bitsOf true ys ++ r → a ≤ L.length → out.length + ys.length ≤ most →
    bytesR L most ys.length a out = .ok (out ++ ys, a + 8 * ys.length)
  | [], a, out, h, ha, hm => by simp [bytesR]
  | y :: ys, a, out, h, ha, hm => by
    rw [bitsOf_cons, List.append_assoc] at h
    have hle := drop_le h ha
    have hd := drop_more h
    rw [bitsB_length] at hle hd
    simp at hm
    rw [List.length_cons, bytesR, num_is h ha y.toNat_lt, R.then_ok, if_neg (by omega), UInt8.ofNat_toNat, bytes_is ys _ _ hd hle (by simp; omega)]
    simp
    omega
theorem two_is {L r : List Bool} {at_ n m : Nat} (h : L.drop ((at_ + 7) / 8 * 8) = wordE true n 16 ++ (wordE true m 16 ++ r)) (ha : (at_ + 7) / 8 * 8 ≤ L.length) (hn : n < 65536) (hm : m < 65536) :
    twoR L at_ = .ok ((n, m), (at_ + 7) / 8 * 8 + 32) := by
  have h1 := drop_le h ha
  have d1 := drop_more h
  have h2 := drop_le d1 h1
  rw [wordE_length] at h1 d1
  rw [wordE_length, wordE_length] at h2
  unfold twoR
  rw [if_pos (by omega), h, List.take_left' (wordE_length _ _ _), d1, List.take_left' (wordE_length _ _ _), numE_wordE true n 16 (by omega), numE_wordE true m 16 (by omega)]
theorem word16 (n : Nat) (h : n < 65536) : bitsOf true [UInt8.ofNat n, UInt8.ofNat (n / 256)] = wordE true n 16 := by
  apply numE_inj true
  · rw [bitsOf_length, wordE_length]; rfl
  · rw [numE_bitsOf, numE_wordE true n 16 (by omega)]
    simp [numOf, numB]
    omega
end Go.Proofs.Ytjafcjnkefioeaa.Inf
/- Blocks of Deflate that are made, in plain words: what they stand for; no program in sight. -/
namespace Go.Proofs.Ytjafcjnkefioeaa.Df
open Go.Proofs.Ytjafcjnkefioeaa.Bit Go.Proofs.Ytjafcjnkefioeaa.Hf Go.Proofs.Ytjafcjnkefioeaa.Oct Go.Proofs.Ytjafcjnkefioeaa.Inf
def conv (t : Lzt.Tok) : Tok := ⟨t.lit, t.len, t.dist⟩
theorem copy_same (d : Nat) : ∀ (n : Nat) (out : List UInt8), Lzt.copyN out d n = copyN out d n
  | 0, out => rfl
  | n + 1, out => by rw [Lzt.copyN, copyN]; exact copy_same d n _
theorem right_exp {most : Int} {lim : Nat} (hl : most ≤ (lim : Int)) : ∀ (l : List Lzt.Tok) (out o : List UInt8), Lzt.expX most l out = .ok o → rightT lim (l.map conv) out = some o
  | [], out, o, h => by cases h; rfl
  | t :: l, out, o, h => by
    rcases hs : Lzt.stepX most t out with e | o1
    · rw [Lzt.exp_err hs] at h; cases h
    · rw [Lzt.exp_ok hs] at h
      have ih := right_exp hl l o1 o h
      have h2 := Lzt.step_ok hs
      unfold Lzt.stepX at hs
      rw [List.map_cons, rightT]
      by_cases h0 : t.len = 0
      · rw [if_pos h0] at hs
        rw [if_pos (show (conv t).len = 0 from h0)]
        split at hs
        · cases hs
        · cases hs; exact ih
      · rw [if_neg h0] at hs
        rw [if_neg (show ¬ (conv t).len = 0 from h0)]
        split at hs
        · cases hs
        · rename_i hc
          split at hs
          · cases hs
          · rename_i hd
            split at hs
            · cases hs
            · cases hs
              rw [if_neg (by show ¬ (t.len < 3 ∨ 258 < t.len ∨ t.dist < 1 ∨ (out.length : Int) < t.dist ∨ 32768 < t.dist ∨ lim < out.length); omega)]
              rw [copy_same] at ih
              exact ih
theorem canon_fre0 (L : List Nat) (h30 : ∀ n ∈ L, n ≤ 30) (hT : startN L 31 ≤ 1073741824) (i : Nat) (hi : i < L.length) (h1 : 1 ≤ L[i]) : Fre (canonW L) i := by
  have hi' : i < (canonW L).length := by rw [canonW_length]; exact hi
  have hg : (canonW L).getD i [] = (canonW L)[i] := by rw [List.getD_eq_getElem?_getD, List.getElem?_eq_getElem hi']; rfl
  have hl := canonW_len L i hi' hi
  have h30' : ∀ j (h : j < L.length), L[j] ≤ 30 := fun j h => h30 _ (List.getElem_mem h)
  refine ⟨?_, fun j v hj hp hv => ?_⟩
  · rw [hg]
    intro e
    rw [e] at hl
    simp at hl
    omega
  · obtain ⟨hj1, hj2⟩ := List.getElem?_eq_some_iff.1 hj
    have hj3 : j < L.length := by rw [canonW_length] at hj1; exact hj1
    have hlj := canonW_len L j hj1 hj3
    have hj4 : 1 ≤ L[j] := by
      rw [← hlj, hj2]
      exact List.length_pos_iff.2 hv
    refine Classical.byContradiction fun hne => ?_
    refine canon_free L h30' hT j i hj3 hi hne (by omega) ?_
    rw [← canonW_get L j hj1 hj3, ← canonW_get L i hi' hi, hj2, ← hg]
    exact hp
def TokFre (A B : List (List Bool)) (t : Tok) : Prop := if t.len = 0 then Fre A t.lit.toNat else Fre A (257 + placeN false t.len.toNat) ∧ Fre B (placeN true t.dist.toNat)
theorem block_use {A B : List (List Bool)} {L : List Bool} {most : Nat} {rest : List Bool} {o : List UInt8} {lim : Nat} (h256 : Fre A 256) (ho : o.length ≤ most) :
    ∀ (l : List Tok) (out : List UInt8) (a : Nat), (∀ t ∈ l, TokFre A B t) → rightT lim l out = some o → L.drop a = toldB A B l ++ rest → a ≤ L.length → blockA A B L most a out = .ok (o, a + (toldB A B l).length)
  | [], out, a, hu, hr, hd, ha => by
    cases hr
    rw [toldB] at hd
    rw [blockA_eq A B L most a _ ha, next_is h256 hd, R.then_ok, if_pos rfl, toldB]
  | t :: l, out, a, hu, hr, hd, ha => by
    have hu2 : ∀ t ∈ l, TokFre A B t := fun t' ht => hu t' (List.mem_cons_of_mem _ ht)
    have hut := hu t List.mem_cons_self
    unfold TokFre at hut
    rw [rightT] at hr
    rw [toldB, List.append_assoc] at hd
    by_cases h0 : t.len = 0
    · rw [if_pos h0] at hr hut
      have hg := right_grows l _ o hr
      simp at hg
      have hlt : t.lit.toNat < 256 := t.lit.toNat_lt
      rw [tokB, if_pos h0] at hd
      have hle := drop_le hd ha
      rw [blockA_eq A B L most a out ha, next_is hut hd, R.then_ok, if_neg (by omega), if_pos hlt, if_neg (by omega), UInt8.ofNat_toNat,
        block_use h256 ho l _ _ hu2 hr (drop_more hd) hle, toldB, tokB, if_pos h0, List.length_append, Nat.add_assoc]
    · rw [if_neg h0] at hr hut
      split at hr
      · cases hr
      · rename_i hc
        have hg := right_grows l _ o hr
        rw [copyN_length] at hg
        rw [tokB, if_neg h0] at hd
        simp only [List.append_assoc] at hd
        have hp1 := place_lt false t.len.toNat
        have hp2 := place_lt true t.dist.toNat
        have e1 : (froms false).length = 29 := rfl
        have e2 : (froms true).length = 30 := rfl
        have a1 := drop_le hd ha
        have d1 := drop_more hd
        have a2 := drop_le d1 a1
        have d2 := drop_more d1
        have a3 := drop_le d2 a2
        have d3 := drop_more d2
        have a4 := drop_le d3 a3
        have d4 := drop_more d3
        rw [blockA_eq A B L most a out ha, next_is hut.1 hd, R.then_ok, if_neg (by omega), if_neg (by omega), Nat.add_sub_cancel_left,
          number_is (far := false) (by show 3 ≤ _; omega) (by show _ ≤ 258; omega) d1 a1, R.then_ok, next_is hut.2 d2, R.then_ok,
          number_is (far := true) (by show 1 ≤ _; omega) (by show _ ≤ 32768; omega) d3 a3, R.then_ok, if_neg (by omega), if_neg (by omega),
          block_use h256 ho l _ _ hu2 hr d4 a4, toldB, tokB, if_neg h0]
        simp only [List.length_append, Nat.add_assoc]
theorem infl_one {L r : List Bool} {most a h b : Nat} {out o : List UInt8} (hd : L.drop a = wordE true h 3 ++ r) (ha : a ≤ L.length) (h8 : h < 8) (hone : oneA L most h (a + 3) out = .ok (o, b)) :
    inflA L most a out = if h % 2 = 1 then .ok (o, b) else inflA L most b o := by
  rw [inflA_eq L most a out ha, num_is hd ha h8, R.then_ok, hone, R.then_ok]
def stoB (last : Bool) (ys : List UInt8) : List UInt8 := [if last then 1 else 0, UInt8.ofNat ys.length, UInt8.ofNat (ys.length / 256), UInt8.ofNat (65535 - ys.length), UInt8.ofNat ((65535 - ys.length) / 256)] ++ ys
theorem stoB_length (last : Bool) (ys : List UInt8) : (stoB last ys).length = ys.length + 5 := by simp [stoB]
theorem stoB_bits (last : Bool) (ys : List UInt8) (h : ys.length < 65536) : bitsOf true (stoB last ys) = wordE true (if last then 1 else 0) 3 ++ (zs 5 ++ (wordE true ys.length 16 ++ (wordE true (65535 - ys.length) 16 ++ bitsOf true ys))) := by
  have e : stoB last ys = [if last then 1 else 0] ++ [UInt8.ofNat ys.length, UInt8.ofNat (ys.length / 256)] ++ [UInt8.ofNat (65535 - ys.length), UInt8.ofNat ((65535 - ys.length) / 256)] ++ ys := rfl
  rw [e, bitsOf_append, bitsOf_append, bitsOf_append, word16 _ h, word16 (65535 - ys.length) (by omega)]
  simp only [List.append_assoc]
  cases last <;> rfl
theorem sto_one {L r : List Bool} {most k : Nat} {last : Bool} {ys out : List UInt8} (hd : L.drop (8 * k) = bitsOf true (stoB last ys) ++ r) (ha : 8 * k ≤ L.length) (hy : ys.length < 65536) (hm : out.length + ys.length ≤ most) :
    inflA L most (8 * k) out = if last then .ok (out ++ ys, 8 * (k + (ys.length + 5))) else inflA L most (8 * (k + (ys.length + 5))) (out ++ ys) := by
  rw [stoB_bits last ys hy] at hd
  simp only [List.append_assoc] at hd
  have a1 := drop_le hd ha
  have d1 := drop_more hd
  rw [wordE_length] at a1 d1
  have a2 := drop_le d1 a1
  have d2 := drop_more d1
  rw [zs_length] at a2 d2
  have a3 := drop_le d2 a2
  have d3 := drop_more d2
  rw [wordE_length] at a3 d3
  have a4 := drop_le d3 a3
  have d4 := drop_more d3
  rw [wordE_length] at a4 d4
  have ha8 : (8 * k + 3 + 7) / 8 * 8 = 8 * k + 3 + 5 := by omega
  have hst : storedR L most (8 * k + 3) out = .ok (out ++ ys, 8 * (k + (ys.length + 5))) := by
    unfold storedR
    rw [two_is (n := ys.length) (m := 65535 - ys.length) (by rw [ha8]; exact d2) (by rw [ha8]; exact a2) hy (by omega), R.then_ok, if_pos (by show ys.length + (65535 - ys.length) = 65535; omega), ha8]
    rw [bytes_is ys _ out (by rw [show 8 * k + 3 + 5 + 32 = 8 * k + 3 + 5 + 16 + 16 from by omega]; exact d4) (by omega) hm]
    congr 2
    omega
  rw [infl_one hd ha (by cases last <;> decide) (b := 8 * (k + (ys.length + 5))) (o := out ++ ys) (by
    unfold oneA
    rw [if_pos (by cases last <;> rfl)]
    exact hst)]
  cases last <;> rfl
def stoX (xs : List UInt8) : List UInt8 :=
  if h : xs.length ≤ 65535 then stoB true xs else stoB false (xs.take 65535) ++ stoX (xs.drop 65535)
termination_by xs.length
decreasing_by simp; omega
theorem stoX_small (xs : List UInt8) (h : xs.length ≤ 65535) : stoX xs = stoB true xs := by rw [stoX, dif_pos h]
theorem stoX_big (xs : List UInt8) (h : ¬ xs.length ≤ 65535) : ∃ K, K < 65536 ∧ 1 ≤ K ∧ K < xs.length ∧ stoX xs = stoB false (xs.take K) ++ stoX (xs.drop K) :=
  ⟨65535, by decide, by decide, by omega, by rw [stoX, dif_neg h]⟩
theorem sto_all {L r : List Bool} {most : Nat} : ∀ (n : Nat) (xs : List UInt8) (k : Nat) (out : List UInt8), xs.length ≤ n → L.drop (8 * k) = bitsOf true (stoX xs) ++ r → 8 * k ≤ L.length → out.length + xs.length ≤ most →
    inflA L most (8 * k) out = .ok (out ++ xs, 8 * (k + (stoX xs).length))
  | 0, xs, k, out, hn, hd, ha, hm => by
    have hx : xs.length ≤ 65535 := by omega
    rw [stoX_small xs hx] at hd ⊢
    rw [sto_one hd ha (by omega) hm, if_pos rfl, stoB_length]
  | n + 1, xs, k, out, hn, hd, ha, hm => by
    by_cases hx : xs.length ≤ 65535
    · rw [stoX_small xs hx] at hd ⊢
      rw [sto_one hd ha (by omega) hm, if_pos rfl, stoB_length]
    · obtain ⟨K, hK1, hK2, hK3, hK⟩ := stoX_big xs hx
      clear hx
      rw [hK] at hd ⊢
      have hl : (xs.take K).length = K := by rw [List.length_take]; omega
      have hm2 : (out ++ xs.take K).length + (xs.drop K).length ≤ most := by
        rw [List.length_append, hl, List.length_drop]
        omega
      have hn2 : (xs.drop K).length ≤ n := by
        rw [List.length_drop]
        omega
      have hy : (xs.take K).length < 65536 := by rw [hl]; exact hK1
      have hm1 : out.length + (xs.take K).length ≤ most := by rw [hl]; omega
      rw [bitsOf_append, List.append_assoc] at hd
      have a1 := drop_le hd ha
      have d1 := drop_more hd
      rw [bitsOf_length, stoB_length, hl] at a1 d1
      have e : 8 * k + 8 * (K + 5) = 8 * (k + (K + 5)) := by omega
      rw [e] at a1 d1
      have ih := sto_all n (xs.drop K) (k + (K + 5)) (out ++ xs.take K) hn2 d1 a1 hm2
      have h1 := sto_one hd ha hy hm1
      rw [if_neg Bool.false_ne_true, hl] at h1
      rw [h1, ih, List.append_assoc, List.take_append_drop, List.length_append, stoB_length, hl]
      congr 2
      omega
theorem stored_is (xs : List UInt8) (most : Nat) (hm : xs.length ≤ most) : inflate (stoX xs) most = .ok (xs, (stoX xs).length) := by
  rw [inflate_eq]
  have h := sto_all (L := bitsOf true (stoX xs)) (r := []) (most := most) xs.length xs 0 [] (Nat.le_refl _) (by rw [Nat.mul_zero, List.drop_zero, List.append_nil]) (Nat.zero_le _) (by rw [List.length_nil, Nat.zero_add]; exact hm)
  rw [show 8 * 0 = 0 from rfl] at h
  rw [h]
  simp only [List.nil_append, Nat.zero_add]
  congr 2
  omega
end Go.Proofs.Ytjafcjnkefioeaa.Df

/- DfN, DfO, DfP: merged. -/
import Derived.Laws.BitsAllLaws
import Derived.Laws.Strings
import Derived.Laws.BytesArg
import Derived.Test.YtjafcjnkefioeaaRows
import Derived.WalkKit
import Derived.ProofKit
import Derived.WalkLawsBesides
import Derived.Lib.Hide
import Derived.Deep.QuietTactic
import Derived.BigQuiet
import Derived.Outline
import Derived.Laws.NewBlocks
import Derived.Laws.CopyOwn
import Derived.Laws.Concat
import Derived.Laws.Strings2
import Derived.WalkSpells
import Derived.Laws.AppendOwnNone
import Derived.OpenShut
import Derived.Test.YtjafcjnkefioeaaRak
set_option linter.unusedVariables false
set_option linter.unusedSimpArgs false
/- A block of Deflate that tells its words, made, in plain words: what it stands for; no program in sight. -/
namespace Go.Proofs.Ytjafcjnkefioeaa.Df
open Go.Proofs.Ytjafcjnkefioeaa.Bit Go.Proofs.Ytjafcjnkefioeaa.Hf Go.Proofs.Ytjafcjnkefioeaa.Oct Go.Proofs.Ytjafcjnkefioeaa.Inf
def symB (W : List (List Bool)) (op : Nat × Nat) : List Bool := W.getD op.1 [] ++ wordE true op.2 (wideV op.1)
def symS (all : List Nat) (op : Nat × Nat) : List Nat := all ++ List.replicate (timesV op.1 + op.2) (valueV op.1 all)
def symsS : List (Nat × Nat) → List Nat → List Nat
  | [], all => all
  | op :: l, all => symsS l (symS all op)
theorem symS_length (all : List Nat) (op : Nat × Nat) : (symS all op).length = all.length + (timesV op.1 + op.2) := by simp [symS]
theorem symsS_grows : ∀ (ops : List (Nat × Nat)) (all : List Nat), all.length + ops.length ≤ (symsS ops all).length
  | [], all => by simp [symsS]
  | op :: l, all => by
    have h1 := symsS_grows l (symS all op)
    rw [symS_length] at h1
    have h2 := timesV_pos op.1
    rw [symsS, List.length_cons]
    omega
theorem lens_is {W : List (List Bool)} {L r : List Bool} {n : Nat} : ∀ (ops : List (Nat × Nat)) (all : List Nat) (a : Nat), (∀ op ∈ ops, Fre W op.1 ∧ op.2 < 2 ^ wideV op.1) → (all = [] → ∀ op l, ops = op :: l → op.1 ≠ 16) →
    (symsS ops all).length = n → L.drop a = ops.flatMap (symB W) ++ r → a ≤ L.length → lensA W n L a all = .ok (symsS ops all, a + (ops.flatMap (symB W)).length)
  | [], all, a, hu, h16, hn, hd, ha => lensA_end W n L a all hn
  | op :: l, all, a, hu, h16, hn, hd, ha => by
    obtain ⟨h1, h2⟩ := hu op List.mem_cons_self
    have hg := symsS_grows (op :: l) all
    have hg2 := symsS_grows l (symS all op)
    rw [symsS] at hn
    rw [symsS] at hg
    rw [List.length_cons] at hg
    rw [symS_length] at hg2
    rw [List.flatMap_cons, symB] at hd
    simp only [List.append_assoc] at hd
    have a1 := drop_le hd ha
    have d1 := drop_more hd
    have a2 := drop_le d1 a1
    have d2 := drop_more d1
    rw [wordE_length] at a2 d2
    have ht := timesV_pos op.1
    rw [lensA_eq W n L a all (by omega), next_is h1 hd, R.then_ok, if_neg (fun h => h16 h.2 op l rfl h.1), num_is d1 a1 h2, R.then_ok, if_neg (by omega)]
    have ih := lens_is (n := n) l (symS all op) _ (fun o ho => hu o (List.mem_cons_of_mem _ ho)) (fun e => by
      have := symS_length all op
      rw [e] at this
      simp at this
      omega) hn d2 a2
    rw [symsS]
    unfold symS at ih
    rw [ih, List.flatMap_cons, List.length_append, symB, List.length_append, wordE_length]
    simp only [Nat.add_assoc]
    rfl
def setO : List Nat → Nat → List Nat → List Nat
  | [], i, l => l
  | v :: vs, i, l => setO vs (i + 1) (l.set (order.getD i 0) v)
theorem setO_length : ∀ (vs : List Nat) (i : Nat) (l : List Nat), (setO vs i l).length = l.length
  | [], i, l => rfl
  | v :: vs, i, l => by rw [setO, setO_length vs, List.length_set]
def metaB (vs : List Nat) : List Bool := vs.flatMap fun v => wordE true v 3
theorem metaB_length (vs : List Nat) : (metaB vs).length = 3 * vs.length := by
  induction vs with
  | nil => rfl
  | cons v vs ih =>
    unfold metaB at ih ⊢
    rw [List.flatMap_cons, List.length_append, ih, wordE_length, List.length_cons]
    omega
theorem meta_is {L r : List Bool} : ∀ (vs : List Nat) (i a : Nat) (l : List Nat), (∀ v ∈ vs, v < 8) → L.drop a = metaB vs ++ r → a ≤ L.length → metaR L vs.length i a l = .ok (setO vs i l, a + 3 * vs.length)
  | [], i, a, l, hv, hd, ha => rfl
  | v :: vs, i, a, l, hv, hd, ha => by
    unfold metaB at hd
    rw [List.flatMap_cons, List.append_assoc] at hd
    have a1 := drop_le hd ha
    have d1 := drop_more hd
    rw [wordE_length] at a1 d1
    have h8 : v < 2 ^ 3 := hv v List.mem_cons_self
    rw [List.length_cons, metaR, num_is hd ha h8, R.then_ok, meta_is vs (i + 1) (a + 3) _ (fun x hx => hv x (List.mem_cons_of_mem _ hx)) d1 a1, setO]
    congr 2
    omega
theorem order_one : ∀ i, i < 19 → ∀ j, j < 19 → (order.getD i 0 = j ↔ i = order.idxOf j) := by decide +kernel
theorem order_in : ∀ j, j < 19 → order.idxOf j < 19 ∧ order.getD (order.idxOf j) 0 = j := by decide +kernel
theorem setO_get (j : Nat) (hj : j < 19) : ∀ (vs : List Nat) (i : Nat) (l : List Nat), i + vs.length ≤ 19 → l.length = 19 →
    (setO vs i l).getD j 0 = if i ≤ order.idxOf j ∧ order.idxOf j < i + vs.length then vs.getD (order.idxOf j - i) 0 else l.getD j 0
  | [], i, l, h1, h2 => by
    rw [if_neg (by simp)]
    rfl
  | v :: vs, i, l, h1, h2 => by
    rw [List.length_cons] at h1
    have hi : i < 19 := by omega
    have ho := order_one i hi j hj
    rw [setO, setO_get j hj vs (i + 1) _ (by omega) (by rw [List.length_set]; exact h2)]
    rw [List.length_cons]
    by_cases hq : i = order.idxOf j
    · have hs := ho.2 hq
      rw [if_neg (by omega), if_pos (by omega), hs, ← hq, Nat.sub_self]
      rw [List.getD_eq_getElem?_getD, List.getElem?_set, if_pos rfl, if_pos (by omega)]
      rfl
    · have hs : order.getD i 0 ≠ j := fun e => hq (ho.1 e)
      by_cases hc : i + 1 ≤ order.idxOf j ∧ order.idxOf j < i + 1 + vs.length
      · rw [if_pos hc, if_pos (by omega), show order.idxOf j - i = (order.idxOf j - (i + 1)) + 1 from by omega]
        rfl
      · rw [if_neg hc, if_neg (by omega), List.getD_eq_getElem?_getD, List.getElem?_set, if_neg hs, List.getD_eq_getElem?_getD]
theorem setO_is (m : List Nat) (hm : m.length = 19) (k : Nat) (hk : k ≤ 19) (h0 : ∀ i, k ≤ i → i < 19 → m.getD (order.getD i 0) 0 = 0) : setO ((order.take k).map fun s => m.getD s 0) 0 (List.replicate 19 0) = m := by
  have hol : order.length = 19 := rfl
  have hvl : ((order.take k).map fun s => m.getD s 0).length = k := by rw [List.length_map, List.length_take, hol]; omega
  apply List.ext_getElem
  · rw [setO_length, List.length_replicate, hm]
  · intro j h1 h2
    have hj : j < 19 := by omega
    have hg := setO_get j hj ((order.take k).map fun s => m.getD s 0) 0 (List.replicate 19 0) (by rw [hvl]; omega) (by simp)
    obtain ⟨q1, q2⟩ := order_in j hj
    have e1 : (setO ((order.take k).map fun s => m.getD s 0) 0 (List.replicate 19 0)).getD j 0 = (setO ((order.take k).map fun s => m.getD s 0) 0 (List.replicate 19 0))[j] := by
      rw [List.getD_eq_getElem?_getD, List.getElem?_eq_getElem h1]; rfl
    have e2 : m.getD j 0 = m[j] := by rw [List.getD_eq_getElem?_getD, List.getElem?_eq_getElem h2]; rfl
    rw [← e1, ← e2, hg, hvl]
    by_cases hq : order.idxOf j < k
    · rw [if_pos ⟨Nat.zero_le _, by omega⟩, Nat.sub_zero]
      have hv : order.idxOf j < ((order.take k).map fun s => m.getD s 0).length := by rw [hvl]; exact hq
      have h3 : order.idxOf j < (order.take k).length := by rw [List.length_take, hol]; omega
      have h4 : order.idxOf j < order.length := by rw [hol]; exact q1
      rw [List.getD_eq_getElem?_getD, List.getElem?_eq_getElem hv, List.getElem_map, List.getElem_take]
      have h5 : order[order.idxOf j] = j := by
        have := q2
        rw [List.getD_eq_getElem?_getD, List.getElem?_eq_getElem h4] at this
        exact this
      rw [h5]
      rfl
    · rw [if_neg (by omega)]
      have := h0 (order.idxOf j) (by omega) q1
      rw [q2] at this
      rw [this, List.getD_eq_getElem?_getD, List.getElem?_replicate, if_pos hj]
      rfl
theorem three_is {L r : List Bool} {a x y z : Nat} (h : L.drop a = wordE true x 5 ++ (wordE true y 5 ++ (wordE true z 4 ++ r))) (ha : a ≤ L.length) (hx : x < 32) (hy : y < 32) (hz : z < 16) :
    threeR L a = .ok ((x + 257, y + 1, z + 4), a + 14) := by
  have a1 := drop_le h ha
  have d1 := drop_more h
  rw [wordE_length] at a1 d1
  have a2 := drop_le d1 a1
  have d2 := drop_more d1
  rw [wordE_length] at a2 d2
  have a3 := drop_le d2 a2
  rw [wordE_length] at a3
  rw [Nat.add_assoc] at d2
  unfold threeR
  rw [if_pos (by omega), h, List.take_left' (wordE_length _ _ _), d1, List.take_left' (wordE_length _ _ _), d2, List.take_left' (wordE_length _ _ _), numE_wordE true x 5 hx, numE_wordE true y 5 hy, numE_wordE true z 4 hz]
def ownB (LA LB m : List Nat) (k : Nat) (ops : List (Nat × Nat)) (l : List Tok) : List Bool :=
  wordE true (LA.length - 257) 5 ++ (wordE true (LB.length - 1) 5 ++ (wordE true (k - 4) 4 ++ (metaB ((order.take k).map fun s => m.getD s 0) ++ (ops.flatMap (symB (canonW m)) ++ toldB (canonW LA) (canonW LB) l))))
structure OwnL (LA LB m : List Nat) (k : Nat) (ops : List (Nat × Nat)) : Prop where
  a1 : 257 ≤ LA.length
  a2 : LA.length ≤ 286
  b1 : 1 ≤ LB.length
  b2 : LB.length ≤ 30
  k1 : 4 ≤ k
  k2 : k ≤ 19
  ml : m.length = 19
  m7 : ∀ n ∈ m, n ≤ 7
  mz : ∀ i, k ≤ i → i < 19 → m.getD (order.getD i 0) 0 = 0
  mf : startN m 31 = 1073741824
  ou : ∀ op ∈ ops, op.1 < 19 ∧ 1 ≤ m.getD op.1 0 ∧ op.2 < 2 ^ wideV op.1
  o16 : ∀ op r, ops = op :: r → op.1 ≠ 16
  os : symsS ops [] = LA ++ LB
  ae : LA.getD 256 0 ≠ 0
  af : startN LA 31 = 1073741824
  bf : startN LB 31 = 1073741824 ∨ (startN LB 31 < 1073741824 ∧ Inf.lone LB = true)
  a30 : ∀ n ∈ LA, n ≤ 30
  b30 : ∀ n ∈ LB, n ≤ 30
theorem withW_ok {β : Type} (W : List (List Bool)) (f : List (List Bool) → R β) : withW (.ok W) f = f W := rfl
def TokLen (LA LB : List Nat) (t : Tok) : Prop := if t.len = 0 then 1 ≤ LA.getD t.lit.toNat 0 else 1 ≤ LA.getD (257 + placeN false t.len.toNat) 0 ∧ 1 ≤ LB.getD (placeN true t.dist.toNat) 0
theorem fre_of {L : List Nat} (h30 : ∀ n ∈ L, n ≤ 30) (hT : startN L 31 ≤ 1073741824) {i : Nat} (h : 1 ≤ L.getD i 0) : Fre (canonW L) i := by
  have hi : i < L.length := by
    rcases Nat.lt_or_ge i L.length with hlt | hge
    · exact hlt
    · rw [List.getD_eq_getElem?_getD, List.getElem?_eq_none hge] at h
      exact absurd h (by decide)
  have e : L.getD i 0 = L[i] := by rw [List.getD_eq_getElem?_getD, List.getElem?_eq_getElem hi]; rfl
  rw [e] at h
  exact canon_fre0 L h30 hT i hi h
theorem tok_fre {LA LB m : List Nat} {k : Nat} {ops : List (Nat × Nat)} (h : OwnL LA LB m k ops) {t : Tok} (ht : TokLen LA LB t) : TokFre (canonW LA) (canonW LB) t := by
  have ha := Nat.le_of_eq h.af
  have hb : startN LB 31 ≤ 1073741824 := by
    rcases h.bf with e | e
    · exact Nat.le_of_eq e
    · exact Nat.le_of_lt e.1
  unfold TokLen at ht
  unfold TokFre
  by_cases h0 : t.len = 0
  · rw [if_pos h0] at ht ⊢
    exact fre_of h.a30 ha ht
  · rw [if_neg h0] at ht ⊢
    exact ⟨fre_of h.a30 ha ht.1, fre_of h.b30 hb ht.2⟩
theorem own_is {LA LB m : List Nat} {k : Nat} {ops : List (Nat × Nat)} (h : OwnL LA LB m k ops) {L rest : List Bool} {most lim a : Nat} {l : List Tok} {out o : List UInt8} (hu : ∀ t ∈ l, TokLen LA LB t) (hr : rightT lim l out = some o) (ho : o.length ≤ most)
    (hd : L.drop a = ownB LA LB m k ops l ++ rest) (ha : a ≤ L.length) : toldA L most a out = .ok (o, a + (ownB LA LB m k ops l).length) := by
  unfold ownB at hd
  simp only [List.append_assoc] at hd
  have hl1 := h.a1
  have hl2 := h.a2
  have hl3 := h.b1
  have hl4 := h.b2
  have hl5 := h.k1
  have hl6 := h.k2
  have h3 := three_is hd ha (by omega) (by omega) (by omega)
  rw [show LA.length - 257 + 257 = LA.length from by omega, show LB.length - 1 + 1 = LB.length from by omega, show k - 4 + 4 = k from by omega] at h3
  have a1 := drop_le hd ha
  have d1 := drop_more hd
  rw [wordE_length] at a1 d1
  have a2 := drop_le d1 a1
  have d2 := drop_more d1
  rw [wordE_length] at a2 d2
  have a3 := drop_le d2 a2
  have d3 := drop_more d2
  rw [wordE_length] at a3 d3
  rw [show a + 5 + 5 + 4 = a + 14 from by omega] at a3 d3
  have hol : order.length = 19 := rfl
  have hvl : ((order.take k).map fun s => m.getD s 0).length = k := by rw [List.length_map, List.length_take, hol]; omega
  have hv8 : ∀ v ∈ (order.take k).map fun s => m.getD s 0, v < 8 := by
    intro v hv
    obtain ⟨s, _, rfl⟩ := List.mem_map.1 hv
    rw [List.getD_eq_getElem?_getD]
    rcases hx : m[s]? with _ | x
    · simp
    · have := h.m7 x (List.mem_of_getElem? hx)
      simp
      omega
  have hmt := meta_is _ 0 (a + 14) (List.replicate 19 0) hv8 d3 a3
  rw [hvl, setO_is m h.ml k h.k2 h.mz] at hmt
  have a4 := drop_le d3 a3
  have d4 := drop_more d3
  rw [metaB_length, hvl] at a4 d4
  have hT : startN m 31 ≤ 1073741824 := Nat.le_of_eq h.mf
  have hm30 : ∀ n ∈ m, n ≤ 30 := fun n hn => by have := h.m7 n hn; omega
  have hle := lens_is (W := canonW m) (n := LA.length + LB.length) ops [] (a + 14 + 3 * k) (fun op hop => ⟨fre_of hm30 hT (h.ou op hop).2.1, (h.ou op hop).2.2⟩) (fun _ => h.o16) (by rw [h.os, List.length_append]) d4 a4
  rw [h.os] at hle
  have a5 := drop_le d4 a4
  have d5 := drop_more d4
  have h256 : Fre (canonW LA) 256 := fre_of h.a30 (Nat.le_of_eq h.af) (by have := h.ae; omega)
  have hbl := block_use (A := canonW LA) (B := canonW LB) h256 ho l out _ (fun t ht => tok_fre h (hu t ht)) hr d5 a5
  have hwm : wordsR m false = .ok (canonW m) := by unfold wordsR; rw [if_pos (.inl h.mf)]
  have hwa : wordsR LA false = .ok (canonW LA) := by unfold wordsR; rw [if_pos (.inl h.af)]
  have hwb : wordsR LB true = .ok (canonW LB) := by
    unfold wordsR
    rw [if_pos]
    rcases h.bf with e | e
    · exact .inl e
    · exact .inr ⟨e.1, rfl, e.2⟩
  have hg : (LA ++ LB).getD 256 0 = LA.getD 256 0 := by
    rw [List.getD_eq_getElem?_getD, List.getD_eq_getElem?_getD, List.getElem?_append_left (by omega)]
  unfold toldA
  rw [h3, R.then_ok, if_neg (by show ¬ (LA.length > 286 ∨ LB.length > 30); omega)]
  show ((metaR L k 0 (a + 14) (List.replicate 19 0)).then fun l a => _) = _
  rw [hmt, R.then_ok, hwm, withW_ok]
  show ((lensA (canonW m) (LA.length + LB.length) L (a + 14 + 3 * k) []).then fun all a => _) = _
  rw [hle, R.then_ok, if_neg (by rw [hg]; exact h.ae)]
  rw [show (LA ++ LB).take LA.length = LA from by simp, show (LA ++ LB).drop LA.length = LB from by simp, hwa, withW_ok, hwb, withW_ok, hbl]
  congr 2
  unfold ownB
  simp only [List.length_append, wordE_length, metaB_length, hvl]
  omega
theorem packed_is {h most : Nat} {body : List Bool} {o : List UInt8} (h8 : h < 8) (hodd : h % 2 = 1)
    (hone : ∀ (L rest : List Bool), L.drop 3 = body ++ rest → 3 ≤ L.length → oneA L most h 3 [] = .ok (o, 3 + body.length)) :
    inflate (packB true (wordE true h 3 ++ body)) most = .ok (o, (packB true (wordE true h 3 ++ body)).length) := by
  rw [inflate_eq, bitsOf_packB, List.append_assoc, packB_length, List.length_append, wordE_length]
  generalize hz : zs (8 * ((3 + body.length + 7) / 8) - (3 + body.length)) = pad
  obtain ⟨L, hL⟩ : ∃ L, wordE true h 3 ++ (body ++ pad) = L := ⟨_, rfl⟩
  rw [hL]
  have d0 : L.drop 0 = wordE true h 3 ++ (body ++ pad) := by rw [List.drop_zero, hL]
  have a1 := drop_le d0 (Nat.zero_le _)
  have d1 := drop_more d0
  rw [wordE_length, Nat.zero_add] at a1 d1
  rw [infl_one d0 (Nat.zero_le _) h8 (o := o) (b := 3 + body.length) (by rw [Nat.zero_add]; exact hone L pad d1 a1), if_pos hodd]
theorem fixed_is {l : List Tok} {o : List UInt8} {lim most : Nat} (hr : rightT lim l [] = some o) (ho : o.length ≤ most) :
    inflate (packB true (wordE true 3 3 ++ toldB (canonW fixedA) (canonW fixedB) l)) most = .ok (o, (packB true (wordE true 3 3 ++ toldB (canonW fixedA) (canonW fixedB) l)).length) := by
  refine packed_is (by decide) (by decide) (fun L rest hd ha => ?_)
  unfold oneA
  rw [if_neg (by decide), if_pos (by decide)]
  refine block_use (freA 256 (by omega)) ho l [] 3 (fun t ht => ?_) hr hd ha
  unfold TokFre
  split
  · have hlt : t.lit.toNat < 256 := t.lit.toNat_lt
    exact freA _ (by omega)
  · have hp1 := place_lt false t.len.toNat
    have hp2 := place_lt true t.dist.toNat
    have e1 : (froms false).length = 29 := rfl
    have e2 : (froms true).length = 30 := rfl
    exact ⟨freA _ (by omega), freB _ (by omega)⟩
end Go.Proofs.Ytjafcjnkefioeaa.Df
/- How many bits tokens of equal bytes take, by words that aren't longer than fifteen bits; no program in sight. -/
namespace Go.Proofs.Ytjafcjnkefioeaa.Df
open Go.Proofs.Ytjafcjnkefioeaa.Bit Go.Proofs.Ytjafcjnkefioeaa.Hf Go.Proofs.Ytjafcjnkefioeaa.Oct Go.Proofs.Ytjafcjnkefioeaa.Inf
theorem canonW_getD_len (L : List Nat) (k : Nat) (h : ∀ n ∈ L, n ≤ k) (i : Nat) : ((canonW L).getD i []).length ≤ k := by
  rw [List.getD_eq_getElem?_getD]
  by_cases hi : i < L.length
  · have hi' : i < (canonW L).length := by rw [canonW_length]; exact hi
    rw [List.getElem?_eq_getElem hi']
    show ((canonW L)[i]).length ≤ k
    rw [canonW_len L i hi' hi]
    exact h _ (List.getElem_mem hi)
  · rw [List.getElem?_eq_none (by rw [canonW_length]; omega)]
    exact Nat.zero_le _
theorem more_near (n : Nat) : (moreB false n).length ≤ 5 := by
  have h1 : ∀ i, i < 29 → (extras false).getD i 0 ≤ 5 := by decide
  have h2 := place_lt false n
  unfold moreB
  rw [wordE_length]
  exact h1 _ h2
theorem more_one : (moreB true 1).length = 0 := by decide
theorem told_bits {A B : List (List Bool)} {k : Nat} : ∀ (l : List Tok), (∀ t ∈ l, (tokB A B t).length ≤ k) → (toldB A B l).length ≤ k * l.length + (A.getD 256 []).length
  | [], h => by simp [toldB]
  | t :: l, h => by
    have h1 := told_bits l (fun t ht => h t (List.mem_cons_of_mem _ ht))
    have h2 := h t List.mem_cons_self
    rw [toldB, List.length_append, List.length_cons, Nat.mul_add]
    omega
theorem equal_bits {A B : List (List Bool)} (hA : ∀ i, (A.getD i []).length ≤ 15) (hB : ∀ i, (B.getD i []).length ≤ 15) (c : UInt8) (n : Nat) :
    (toldB A B ((Lzt.allToks c n).map conv)).length ≤ 35 * ((n + 256) / 258 + 2) + 15 := by
  have h1 := told_bits (A := A) (B := B) (k := 35) ((Lzt.allToks c n).map conv) (fun t ht => by
    obtain ⟨u, hu, rfl⟩ := List.mem_map.1 ht
    rcases Lzt.all_each c n u hu with rfl | ⟨m, m1, m2, rfl⟩
    · have := hA c.toNat
      unfold tokB conv
      rw [if_pos rfl]
      exact Nat.le_trans this (by decide)
    · have e1 := hA (257 + placeN false m)
      have e2 := hB (placeN true 1)
      have e3 := more_near m
      have e4 := more_one
      unfold tokB conv
      rw [if_neg (by show ¬ (m : Int) = 0; omega)]
      show (A.getD (257 + placeN false ((m : Int).toNat)) [] ++ (moreB false ((m : Int).toNat) ++ (B.getD (placeN true ((1 : Int).toNat)) [] ++ moreB true ((1 : Int).toNat)))).length ≤ 35
      rw [Int.toNat_natCast, show ((1 : Int).toNat) = 1 from rfl]
      simp only [List.length_append]
      omega)
  rw [List.length_map] at h1
  have h2 := Lzt.all_count c n
  have h3 := hA 256
  have h4 := Nat.mul_le_mul_left 35 h2
  omega
set_option maxRecDepth 20000 in
theorem fixed_short : (∀ n ∈ fixedA, n ≤ 15) ∧ (∀ n ∈ fixedB, n ≤ 15) := by decide +kernel
theorem fixed_few (c : UInt8) (n : Nat) (hn : n ≤ 100000) : (packB true (wordE true 3 3 ++ toldB (canonW fixedA) (canonW fixedB) ((Lzt.allToks c n).map conv))).length ≤ 40 + n / 32 := by
  rw [packB_length, List.length_append, wordE_length]
  have h := equal_bits (canonW_getD_len fixedA 15 fixed_short.1) (canonW_getD_len fixedB 15 fixed_short.2) c n
  omega
theorem owned_few {LA LB m : List Nat} {k : Nat} {ops : List (Nat × Nat)} (hA : ∀ n ∈ LA, n ≤ 15) (hB : ∀ n ∈ LB, n ≤ 15) (c : UInt8) (n : Nat) (hk : k ≤ 19) (hn : n ≤ 100000) (ho : (ops.flatMap (symB (canonW m))).length ≤ 500) :
    (packB true (wordE true 5 3 ++ ownB LA LB m k ops ((Lzt.allToks c n).map conv))).length ≤ 100 + n / 32 := by
  have hml : (metaB ((order.take k).map fun s => m.getD s 0)).length ≤ 57 := by
    rw [metaB_length, List.length_map, List.length_take]
    omega
  have h := equal_bits (canonW_getD_len LA 15 hA) (canonW_getD_len LB 15 hB) c n
  rw [packB_length, List.length_append, wordE_length]
  unfold ownB
  simp only [List.length_append, wordE_length]
  omega
end Go.Proofs.Ytjafcjnkefioeaa.Df
/- Lengths of words told by symbols, as a row of marks, in plain words; no program in sight. -/
namespace Go.Proofs.Ytjafcjnkefioeaa.Df
open Go.Proofs.Ytjafcjnkefioeaa.Bit Go.Proofs.Ytjafcjnkefioeaa.Hf Go.Proofs.Ytjafcjnkefioeaa.Oct Go.Proofs.Ytjafcjnkefioeaa.Inf
def runF (l : List Nat) (n : Nat) : Nat := if n < l.length ∧ l.getD n 0 = l.getD 0 0 then runF l (n + 1) else n
termination_by l.length - n
theorem runF_go {l : List Nat} {n : Nat} (h : n < l.length) (h2 : l.getD n 0 = l.getD 0 0) : runF l n = runF l (n + 1) := by
  rw [runF, if_pos ⟨h, h2⟩]
theorem runF_end {l : List Nat} {n : Nat} (h : ¬ (n < l.length ∧ l.getD n 0 = l.getD 0 0)) : runF l n = n := by
  rw [runF, if_neg h]
def runN (l : List Nat) : Nat := runF l 1
theorem runF_is (l : List Nat) : ∀ (k n : Nat), l.length - n ≤ k → n ≤ l.length → (∀ i, i < n → l.getD i 0 = l.getD 0 0) →
    n ≤ runF l n ∧ runF l n ≤ l.length ∧ (∀ i, i < runF l n → l.getD i 0 = l.getD 0 0) ∧ (runF l n < l.length → l.getD (runF l n) 0 ≠ l.getD 0 0)
  | 0, n, hk, hn, h => by
    rw [runF_end (by omega)]
    exact ⟨Nat.le_refl _, hn, h, fun e => by omega⟩
  | k + 1, n, hk, hn, h => by
    by_cases hc : n < l.length ∧ l.getD n 0 = l.getD 0 0
    · rw [runF_go hc.1 hc.2]
      have ih := runF_is l k (n + 1) (by omega) (by omega) (fun i hi => by
        by_cases e : i = n
        · rw [e]; exact hc.2
        · exact h i (by omega))
      exact ⟨by omega, ih.2.1, ih.2.2.1, ih.2.2.2⟩
    · rw [runF_end hc]
      exact ⟨Nat.le_refl _, hn, h, fun e e2 => hc ⟨e, e2⟩⟩
theorem runN_is (l : List Nat) (h : 0 < l.length) : 1 ≤ runN l ∧ runN l ≤ l.length ∧ (∀ i, i < runN l → l.getD i 0 = l.getD 0 0) ∧ (runN l < l.length → l.getD (runN l) 0 ≠ l.getD 0 0) :=
  runF_is l _ 1 (Nat.le_refl _) h fun i hi => by rw [show i = 0 from by omega]
theorem drop_getD (l : List Nat) (a i : Nat) : (l.drop a).getD i 0 = l.getD (a + i) 0 := by
  rw [List.getD_eq_getElem?_getD, List.getD_eq_getElem?_getD, List.getElem?_drop]
def markN (l : List Nat) (a : Nat) : (Nat × Nat) × Nat :=
  if l.getD a 0 = 0 ∧ 11 ≤ runN (l.drop a) then ((18, min (runN (l.drop a)) 138 - 11), min (runN (l.drop a)) 138)
  else if l.getD a 0 = 0 ∧ 3 ≤ runN (l.drop a) then ((17, runN (l.drop a) - 3), runN (l.drop a))
  else if 0 < a ∧ l.getD a 0 = l.getD (a - 1) 0 ∧ 3 ≤ runN (l.drop a) then ((16, min (runN (l.drop a)) 6 - 3), min (runN (l.drop a)) 6)
  else ((l.getD a 0, 0), 1)
theorem run_at {l : List Nat} {a : Nat} (h : a < l.length) : 1 ≤ runN (l.drop a) ∧ a + runN (l.drop a) ≤ l.length ∧ (∀ i, i < runN (l.drop a) → l.getD (a + i) 0 = l.getD a 0) ∧ (a + runN (l.drop a) < l.length → l.getD (a + runN (l.drop a)) 0 ≠ l.getD a 0) := by
  have hl : (l.drop a).length = l.length - a := List.length_drop
  obtain ⟨h1, h2, h3, h4⟩ := runN_is (l.drop a) (by omega)
  rw [hl] at h2 h4
  refine ⟨h1, by omega, fun i hi => ?_, fun hi => ?_⟩
  · have := h3 i hi
    rw [drop_getD, drop_getD] at this
    exact this
  · have := h4 (by omega)
    rw [drop_getD, drop_getD] at this
    exact this
theorem markN_pos {l : List Nat} {a : Nat} (h : a < l.length) : 1 ≤ (markN l a).2 ∧ a + (markN l a).2 ≤ l.length := by
  obtain ⟨h1, h2, _⟩ := run_at h
  unfold markN
  split
  · dsimp only; omega
  · split
    · dsimp only; omega
    · split
      · dsimp only; omega
      · dsimp only; omega
def marksN (l : List Nat) (a : Nat) : List (Nat × Nat) := if h : a < l.length then (markN l a).1 :: marksN l (a + (markN l a).2) else []
termination_by l.length - a
decreasing_by have := markN_pos h; omega
theorem marksN_go {l : List Nat} {a : Nat} (h : a < l.length) : marksN l a = (markN l a).1 :: marksN l (a + (markN l a).2) := by rw [marksN, dif_pos h]
theorem marksN_end {l : List Nat} {a : Nat} (h : ¬ a < l.length) : marksN l a = [] := by rw [marksN, dif_neg h]
theorem take_rep (l : List Nat) (v a : Nat) : ∀ k, a + k ≤ l.length → (∀ i, i < k → l.getD (a + i) 0 = v) → l.take a ++ List.replicate k v = l.take (a + k)
  | 0, h, hv => by simp
  | k + 1, h, hv => by
    have ih := take_rep l v a k (by omega) fun i hi => hv i (by omega)
    have h1 := hv k (by omega)
    have hlt : a + k < l.length := by omega
    rw [List.replicate_succ', ← List.append_assoc, ih, ← Nat.add_assoc, List.take_succ_eq_append_getElem hlt]
    rw [List.getD_eq_getElem?_getD, List.getElem?_eq_getElem hlt] at h1
    have h1 : l[a + k] = v := h1
    rw [h1]
theorem last_take (l : List Nat) (a : Nat) (h0 : 0 < a) (h : a ≤ l.length) : (l.take a).getLastD 0 = l.getD (a - 1) 0 := by
  rw [List.getLastD_eq_getLast?, List.getLast?_take, if_neg (by omega), List.getD_eq_getElem?_getD]
  have hlt : a - 1 < l.length := by omega
  rw [List.getElem?_eq_getElem hlt]
  rfl
theorem mark_is {l : List Nat} {a : Nat} (h : a < l.length) (h15 : l.getD a 0 ≤ 15) :
    symS (l.take a) (markN l a).1 = l.take (a + (markN l a).2) ∧ (markN l a).1.1 < 19 ∧ (markN l a).1.2 < 2 ^ wideV (markN l a).1.1 ∧ ((markN l a).1.1 = 16 → 0 < a) := by
  obtain ⟨h1, h2, h3, h4⟩ := run_at h
  unfold markN
  split
  · rename_i hc
    refine ⟨?_, by dsimp only; omega, by show _ < 2 ^ 7; dsimp only; omega, fun e => absurd (show (18 : Nat) = 16 from e) (by decide)⟩
    show l.take a ++ List.replicate (11 + (min (runN (l.drop a)) 138 - 11)) 0 = _
    rw [show 11 + (min (runN (l.drop a)) 138 - 11) = min (runN (l.drop a)) 138 from by omega]
    exact take_rep l 0 a _ (by omega) fun i hi => by rw [h3 i (by omega)]; exact hc.1
  · split
    · rename_i hn hc
      have : runN (l.drop a) < 11 := by
        rcases Nat.lt_or_ge (runN (l.drop a)) 11 with hlt | hge
        · exact hlt
        · exact absurd ⟨hc.1, hge⟩ hn
      refine ⟨?_, by dsimp only; omega, by show _ < 2 ^ 3; dsimp only; omega, fun e => absurd (show (17 : Nat) = 16 from e) (by decide)⟩
      show l.take a ++ List.replicate (3 + (runN (l.drop a) - 3)) 0 = _
      rw [show 3 + (runN (l.drop a) - 3) = runN (l.drop a) from by omega]
      exact take_rep l 0 a _ (by omega) fun i hi => by rw [h3 i (by omega)]; exact hc.1
    · split
      · rename_i hn1 hn2 hc
        refine ⟨?_, by dsimp only; omega, by show _ < 2 ^ 2; dsimp only; omega, fun e => hc.1⟩
        show l.take a ++ List.replicate (3 + (min (runN (l.drop a)) 6 - 3)) ((l.take a).getLastD 0) = _
        rw [show 3 + (min (runN (l.drop a)) 6 - 3) = min (runN (l.drop a)) 6 from by omega, last_take l a hc.1 (by omega), ← hc.2.1]
        exact take_rep l _ a _ (by omega) fun i hi => by rw [h3 i (by omega)]
      · have e16 : l.getD a 0 ≠ 16 := by omega
        have e17 : l.getD a 0 ≠ 17 := by omega
        have e18 : l.getD a 0 ≠ 18 := by omega
        have w0 : wideV (l.getD a 0) = 0 := by unfold wideV; rw [if_neg e16, if_neg e17, if_neg e18]
        have t0 : timesV (l.getD a 0) = 1 := by unfold timesV; rw [if_neg e16, if_neg e17, if_neg e18]
        have v0 : valueV (l.getD a 0) (l.take a) = l.getD a 0 := by unfold valueV; rw [if_neg e16, if_neg e17, if_neg e18]
        refine ⟨?_, by dsimp only; omega, by dsimp only; rw [w0]; decide, fun e => absurd e e16⟩
        unfold symS
        dsimp only
        rw [t0, v0]
        exact take_rep l _ a 1 (by omega) fun i hi => by rw [show a + i = a from by omega]
theorem marks_is {l : List Nat} (h15 : ∀ x ∈ l, x ≤ 15) : ∀ (k a : Nat), l.length - a ≤ k → a ≤ l.length → symsS (marksN l a) (l.take a) = l ∧ ∀ op ∈ marksN l a, op.1 < 19 ∧ op.2 < 2 ^ wideV op.1
  | 0, a, hk, ha => by
    rw [marksN_end (by omega), symsS]
    exact ⟨List.take_of_length_le (by omega), fun op h => by cases h⟩
  | k + 1, a, hk, ha => by
    by_cases h : a < l.length
    · have hx : l.getD a 0 ≤ 15 := by
        rw [List.getD_eq_getElem?_getD, List.getElem?_eq_getElem h]
        exact h15 _ (List.getElem_mem h)
      obtain ⟨m1, m2, m3, _⟩ := mark_is h hx
      obtain ⟨p1, p2⟩ := markN_pos h
      obtain ⟨i1, i2⟩ := marks_is h15 k (a + (markN l a).2) (by omega) (by omega)
      rw [marksN_go h, symsS, m1, i1]
      refine ⟨rfl, fun op ho => ?_⟩
      rcases List.mem_cons.1 ho with e | e
      · rw [e]; exact ⟨m2, m3⟩
      · exact i2 op e
    · rw [marksN_end h, symsS]
      exact ⟨List.take_of_length_le (by omega), fun op h => by cases h⟩
theorem marks_all {l : List Nat} (h15 : ∀ x ∈ l, x ≤ 15) : symsS (marksN l 0) [] = l ∧ ∀ op ∈ marksN l 0, op.1 < 19 ∧ op.2 < 2 ^ wideV op.1 := by
  have := marks_is h15 l.length 0 (by omega) (by omega)
  rwa [List.take_zero] at this
theorem marks_16 {l : List Nat} (h15 : ∀ x ∈ l, x ≤ 15) : ∀ op r, marksN l 0 = op :: r → op.1 ≠ 16 := by
  intro op r h e
  by_cases h0 : 0 < l.length
  · rw [marksN_go h0] at h
    injection h with h1 h2
    have hx : l.getD 0 0 ≤ 15 := by
      rw [List.getD_eq_getElem?_getD, List.getElem?_eq_getElem h0]
      exact h15 _ (List.getElem_mem h0)
    have := (mark_is h0 hx).2.2.2 (by rw [h1]; exact e)
    omega
  · rw [marksN_end h0] at h
    cases h
theorem syms_one (s : Nat) (h16 : s ≠ 16) : ∀ (ops : List (Nat × Nat)) (all : List Nat), (∀ op ∈ ops, op.1 = s) → (∀ x ∈ all, x = valueV s []) → ∀ x ∈ symsS ops all, x = valueV s []
  | [], all, h, ha => ha
  | op :: ops, all, h, ha => by
    rw [symsS]
    refine syms_one s h16 ops _ (fun o ho => h o (List.mem_cons_of_mem _ ho)) fun x hx => ?_
    unfold symS at hx
    rcases List.mem_append.1 hx with e | e
    · exact ha x e
    · have e1 := (List.mem_replicate.1 e).2
      rw [e1, h op List.mem_cons_self]
      unfold valueV
      rw [if_neg h16, if_neg h16]
theorem marks_two {l : List Nat} (h15 : ∀ x ∈ l, x ≤ 15) (h4 : 4 ≤ l.length) (hn : ∃ x ∈ l, x ≠ 0) : ∃ p ∈ marksN l 0, ∃ q ∈ marksN l 0, p.1 ≠ q.1 := by
  refine Classical.byContradiction fun hno => ?_
  have h0 : 0 < l.length := by omega
  have hx0 : l.getD 0 0 ≤ 15 := by
    rw [List.getD_eq_getElem?_getD, List.getElem?_eq_getElem h0]
    exact h15 _ (List.getElem_mem h0)
  have hm := marksN_go h0
  have hall : ∀ q ∈ marksN l 0, q.1 = (markN l 0).1.1 := fun q hq => Classical.byContradiction fun hne => hno ⟨(markN l 0).1, by rw [hm]; exact List.mem_cons_self, q, hq, fun e => hne e.symm⟩
  have h16 : (markN l 0).1.1 ≠ 16 := fun e => by
    have := (mark_is h0 hx0).2.2.2 e
    omega
  have hv := syms_one _ h16 (marksN l 0) [] hall (fun x hx => by cases hx)
  rw [(marks_all h15).1] at hv
  obtain ⟨r1, r2, r3, r4⟩ := run_at h0
  rw [Nat.zero_add] at r2 r4
  have heq : ∀ i, i < l.length → l.getD i 0 = valueV (markN l 0).1.1 [] := fun i hi => by
    rw [List.getD_eq_getElem?_getD, List.getElem?_eq_getElem hi]
    exact hv _ (List.getElem_mem hi)
  have hrun : runN (l.drop 0) = l.length := by
    rcases Nat.lt_or_ge (runN (l.drop 0)) l.length with hlt | hge
    · exact absurd ((heq _ hlt).trans (heq 0 h0).symm) (r4 hlt)
    · omega
  by_cases hz : l.getD 0 0 = 0
  · obtain ⟨x, hx, hne⟩ := hn
    exact hne ((hv x hx).trans ((heq 0 h0).symm.trans hz))
  · have hm0 : markN l 0 = ((l.getD 0 0, 0), 1) := by
      unfold markN
      rw [if_neg (fun h => hz h.1), if_neg (fun h => hz h.1), if_neg (fun h => by omega)]
    have h1 : 1 < l.length := by omega
    obtain ⟨q1, q2, q3, q4⟩ := run_at h1
    have hrun1 : 1 + runN (l.drop 1) = l.length := by
      rcases Nat.lt_or_ge (1 + runN (l.drop 1)) l.length with hlt | hge
      · exact absurd ((heq _ hlt).trans (heq 1 h1).symm) (q4 hlt)
      · omega
    have e10 : l.getD 1 0 = l.getD 0 0 := (heq 1 h1).trans (heq 0 h0).symm
    have hm1 : (markN l 1).1.1 = 16 := by
      unfold markN
      rw [if_neg (fun h => hz (e10 ▸ h.1)), if_neg (fun h => hz (e10 ▸ h.1)), if_pos ⟨by omega, e10, by omega⟩]
    have hin : (markN l 1).1 ∈ marksN l 0 := by
      rw [hm, hm0, marksN_go (show 0 + 1 < l.length from h1)]
      exact List.mem_cons_of_mem _ List.mem_cons_self
    have := hall _ hin
    rw [hm1, hm0] at this
    dsimp only at this
    omega
end Go.Proofs.Ytjafcjnkefioeaa.Df

/- IfO, IfP, DfM, DfN, DfO: merged. -/
import Derived.Laws.BitsAllLaws
import Derived.Laws.Strings
import Derived.Laws.BytesArg
import Derived.Test.YtjafcjnkefioeaaGreatRows
import Derived.WalkKit
import Derived.ProofKit
import Derived.WalkLawsBesides
import Derived.Lib.Hide
import Derived.Deep.QuietTactic
import Derived.BigQuiet
import Derived.Outline
import Derived.Laws.NewBlocks
import Derived.Laws.CopyOwn
import Derived.Laws.Concat
import Derived.Laws.Strings2
import Derived.WalkSpells
import Derived.Laws.AppendOwnNone
import Derived.OpenShut
import Derived.Test.YtjafcjnkefioeaaGreatQab
import Derived.Test.YtjafcjnkefioeaaGreatQaf
import Derived.Test.YtjafcjnkefioeaaGreatQak
set_option linter.unusedVariables false
set_option linter.unusedSimpArgs false
/- What tells bytes and copies by words is what they stand for; no program in sight. -/
namespace Go.Proofs.YtjafcjnkefioeaaGreat.Inf
open Go.Proofs.YtjafcjnkefioeaaGreat.Bit Go.Proofs.YtjafcjnkefioeaaGreat.Hf
theorem drop_more {L x r : List Bool} {a : Nat} (h : L.drop a = x ++ r) : L.drop (a + x.length) = r := by
  rw [← List.drop_drop, h]
  simp
theorem drop_le {L x r : List Bool} {a : Nat} (h : L.drop a = x ++ r) (ha : a ≤ L.length) : a + x.length ≤ L.length := by
  have := congrArg List.length h
  simp at this
  omega
theorem num_is {L r : List Bool} {a n k : Nat} (h : L.drop a = wordE true n k ++ r) (ha : a ≤ L.length) (hn : n < 2 ^ k) : numR L a k = .ok (n, a + k) := by
  have h1 := drop_le h ha
  rw [wordE_length] at h1
  unfold numR
  rw [if_pos h1, h, List.take_left' (wordE_length _ _ _), numE_wordE true n k hn]
def Fre (W : List (List Bool)) (i : Nat) : Prop := W.getD i [] ≠ [] ∧ ∀ j v, W[j]? = some v → v <+: W.getD i [] → v ≠ [] → j = i
theorem getD_some {α : Type} {W : List α} {i : Nat} {d w : α} (h : W.getD i d = w) (hd : w ≠ d) : W[i]? = some w := by
  rw [List.getD_eq_getElem?_getD] at h
  cases hx : W[i]? with
  | none => rw [hx] at h; exact absurd h.symm hd
  | some x => rw [hx] at h; exact congrArg some h
theorem look_fre (W : List (List Bool)) (i : Nat) (rest : List Bool) (h : Fre W i) : ∀ (q p : List Bool), W.getD i [] = p ++ q → q ≠ [] → lookW W p (q ++ rest) = .ok (i, (W.getD i []).length)
  | [], p, hw, hq => absurd rfl hq
  | b :: t, p, hw, hq => by
    obtain ⟨h0, h1⟩ := h
    have hs := getD_some rfl h0
    rw [List.cons_append, lookW]
    by_cases ht : t = []
    · subst ht
      have hm : p ++ [b] ∈ W := hw ▸ List.mem_of_getElem? hs
      rw [if_pos hm]
      have hl := List.idxOf_lt_length_of_mem hm
      have hj : W.idxOf (p ++ [b]) = i := h1 _ (p ++ [b]) (by rw [List.getElem?_eq_getElem hl, List.getElem_idxOf]) (by rw [hw]; exact List.prefix_refl _) (by simp)
      rw [hj, hw]
      simp
    · have hp : p ++ [b] <+: W.getD i [] := ⟨t, by rw [hw]; simp⟩
      have hm : p ++ [b] ∉ W := by
        intro hm
        obtain ⟨j, hj⟩ := List.mem_iff_getElem?.1 hm
        have := h1 j _ hj hp (by simp)
        subst this
        rw [hs, hw] at hj
        have := congrArg (fun x => (x.getD []).length) hj
        simp at this
        exact ht this
      rw [if_neg hm, if_pos]
      · exact look_fre W i rest ⟨h0, h1⟩ t (p ++ [b]) (by rw [hw]; simp) ht
      · rw [List.any_eq_true]
        exact ⟨_, List.mem_of_getElem? hs, by
          rw [Bool.and_eq_true]
          exact ⟨by simpa using h0, List.isPrefixOf_iff_prefix.2 hp⟩⟩
theorem next_is {W : List (List Bool)} {L r : List Bool} {a i : Nat} (hf : Fre W i) (h : L.drop a = W.getD i [] ++ r) : nextR W L a = .ok (i, a + (W.getD i []).length) := by
  unfold nextR
  have e := look_fre W i r hf (W.getD i []) [] (List.nil_append _).symm hf.1
  rw [h, e]
theorem canon_fre (L : List Nat) (hL : ∀ n ∈ L, 1 ≤ n ∧ n ≤ 30) (hT : startN L 31 ≤ 1073741824) (i : Nat) (hi : i < L.length) : Fre (canonW L) i := by
  have hi' : i < (canonW L).length := by rw [canonW_length]; exact hi
  have hg : (canonW L).getD i [] = (canonW L)[i] := by rw [List.getD_eq_getElem?_getD, List.getElem?_eq_getElem hi']; rfl
  have hl := canonW_len L i hi' hi
  have h30 : ∀ j (h : j < L.length), L[j] ≤ 30 := fun j h => (hL _ (List.getElem_mem h)).2
  have h1 : ∀ j (h : j < L.length), 1 ≤ L[j] := fun j h => (hL _ (List.getElem_mem h)).1
  refine ⟨?_, fun j v hj hp hv => ?_⟩
  · rw [hg]
    intro e
    rw [e] at hl
    have := h1 i hi
    simp at hl
    omega
  · obtain ⟨hj1, hj2⟩ := List.getElem?_eq_some_iff.1 hj
    have hj3 : j < L.length := by rw [canonW_length] at hj1; exact hj1
    refine Classical.byContradiction fun hne => ?_
    refine canon_free L h30 hT j i hj3 hi hne (by have := h1 j hj3; omega) ?_
    rw [← canonW_get L j hj1 hj3, ← canonW_get L i hi' hi, hj2, ← hg]
    exact hp
def lastLe (F : List Nat) (n : Nat) : Nat → Nat
  | 0 => 0
  | i + 1 => if n < F.getD (i + 1) 0 then lastLe F n i else i + 1
theorem lastLe_le (F : List Nat) (n : Nat) : ∀ k, lastLe F n k ≤ k
  | 0 => Nat.le_refl _
  | i + 1 => by
    rw [lastLe]
    split
    · have := lastLe_le F n i; omega
    · omega
theorem lastLe_low (F : List Nat) (n : Nat) (h : F.getD 0 0 ≤ n) : ∀ k, F.getD (lastLe F n k) 0 ≤ n
  | 0 => h
  | i + 1 => by
    rw [lastLe]
    split
    · exact lastLe_low F n h i
    · omega
theorem lastLe_high (F : List Nat) (n : Nat) : ∀ k, lastLe F n k < k → n < F.getD (lastLe F n k + 1) 0
  | 0, h => by omega
  | i + 1, h => by
    rw [lastLe] at h ⊢
    split
    · rename_i hc
      have := lastLe_le F n i
      by_cases hk : lastLe F n i < i
      · exact lastLe_high F n i hk
      · have e : lastLe F n i = i := by omega
        rw [e]; exact hc
    · rename_i hc
      rw [if_neg hc] at h
      omega
def placeN (far : Bool) (n : Nat) : Nat := lastLe (froms far) n ((froms far).length - 1)
def moreB (far : Bool) (n : Nat) : List Bool := wordE true (n - (froms far).getD (placeN far n) 0) ((extras far).getD (placeN far n) 0)
def most1 (far : Bool) : Nat := if far then 32768 else 258
def least1 (far : Bool) : Nat := if far then 1 else 3
theorem place_lt (far : Bool) (n : Nat) : placeN far n < (froms far).length := by
  have := lastLe_le (froms far) n ((froms far).length - 1)
  have h : 0 < (froms far).length := by cases far <;> decide
  unfold placeN
  omega
theorem steps_ok : ∀ far : Bool, ∀ i, i < (froms far).length - 1 → (froms far).getD (i + 1) 0 ≤ (froms far).getD i 0 + 2 ^ (extras far).getD i 0 := by decide +kernel
theorem last_ok : ∀ far : Bool, most1 far < (froms far).getD ((froms far).length - 1) 0 + 2 ^ (extras far).getD ((froms far).length - 1) 0 := by decide +kernel
theorem place_low (far : Bool) (n : Nat) (h : least1 far ≤ n) : (froms far).getD (placeN far n) 0 ≤ n :=
  lastLe_low _ n (by cases far <;> exact h) _
theorem place_high (far : Bool) (n : Nat) (h0 : least1 far ≤ n) (h : n ≤ most1 far) : n - (froms far).getD (placeN far n) 0 < 2 ^ (extras far).getD (placeN far n) 0 := by
  have hl := place_low far n h0
  have hp := lastLe_le (froms far) n ((froms far).length - 1)
  have hh := lastLe_high (froms far) n ((froms far).length - 1)
  change placeN far n ≤ _ at hp
  change placeN far n < _ → n < (froms far).getD (placeN far n + 1) 0 at hh
  generalize placeN far n = i at *
  by_cases hi : i < (froms far).length - 1
  · have := hh hi
    have := steps_ok far i hi
    omega
  · have e : i = (froms far).length - 1 := by omega
    subst e
    have := last_ok far
    omega
theorem number_is {far : Bool} {L r : List Bool} {a n : Nat} (h0 : least1 far ≤ n) (h1 : n ≤ most1 far) (h : L.drop a = moreB far n ++ r) (ha : a ≤ L.length) : numberR far L (placeN far n) a = .ok (n, a + (moreB far n).length) := by
  unfold numberR
  rw [if_pos (place_lt far n), num_is h ha (place_high far n h0 h1), R.then_ok, moreB, wordE_length]
  have := place_low far n h0
  rw [show (froms far).getD (placeN far n) 0 + (n - (froms far).getD (placeN far n) 0) = n from by omega]
structure Tok where
  lit : UInt8
  len : Int
  dist : Int
def rightT (lim : Nat) : List Tok → List UInt8 → Option (List UInt8)
  | [], out => some out
  | t :: l, out => if t.len = 0 then rightT lim l (out ++ [t.lit])
      else if t.len < 3 ∨ 258 < t.len ∨ t.dist < 1 ∨ (out.length : Int) < t.dist ∨ 32768 < t.dist ∨ lim < out.length then none
      else rightT lim l (copyN out t.dist.toNat t.len.toNat)
def tokB (A B : List (List Bool)) (t : Tok) : List Bool :=
  if t.len = 0 then A.getD t.lit.toNat []
  else A.getD (257 + placeN false t.len.toNat) [] ++ (moreB false t.len.toNat ++ (B.getD (placeN true t.dist.toNat) [] ++ moreB true t.dist.toNat))
def toldB (A B : List (List Bool)) : List Tok → List Bool
  | [] => A.getD 256 []
  | t :: l => tokB A B t ++ toldB A B l
theorem right_grows {lim : Nat} : ∀ (l : List Tok) (out o : List UInt8), rightT lim l out = some o → out.length ≤ o.length
  | [], out, o, h => by cases h; exact Nat.le_refl _
  | t :: l, out, o, h => by
    rw [rightT] at h
    split at h
    · have := right_grows l _ o h
      simp at this
      omega
    · split at h
      · cases h
      · have := right_grows l _ o h
        rw [copyN_length] at this
        omega
theorem fixedA_ok : (∀ n ∈ fixedA, 1 ≤ n ∧ n ≤ 30) ∧ startN fixedA 31 = 1073741824 ∧ fixedA.length = 288 := by decide +kernel
theorem fixedB_ok : (∀ n ∈ fixedB, 1 ≤ n ∧ n ≤ 30) ∧ startN fixedB 31 ≤ 1073741824 ∧ fixedB.length = 30 := by decide +kernel
theorem freA (i : Nat) (h : i < 288) : Fre (canonW fixedA) i := canon_fre _ fixedA_ok.1 (Nat.le_of_eq fixedA_ok.2.1) i (by rw [fixedA_ok.2.2]; exact h)
theorem freB (i : Nat) (h : i < 30) : Fre (canonW fixedB) i := canon_fre _ fixedB_ok.1 fixedB_ok.2.1 i (by rw [fixedB_ok.2.2]; exact h)
end Go.Proofs.YtjafcjnkefioeaaGreat.Inf
/- A block of bytes as they stand, then tokens by the given words: what they stand for; no program in sight. -/
namespace Go.Proofs.YtjafcjnkefioeaaGreat.Inf
open Go.Proofs.YtjafcjnkefioeaaGreat.Bit Go.Proofs.YtjafcjnkefioeaaGreat.Hf Go.Proofs.YtjafcjnkefioeaaGreat.Oct
theorem bytes_is {L r : List Bool} {most : Nat} : ∀ (ys : List UInt8) (a : Nat) (out : List UInt8), L.drop a = bitsOf true ys ++ r → a ≤ L.length → out.length + ys.length ≤ most →
    bytesR L most ys.length a out = .ok (out ++ ys, a + 8 * ys.length)
  | [], a, out, h, ha, hm => by simp [bytesR]
  | y :: ys, a, out, h, ha, hm => by
    rw [bitsOf_cons, List.append_assoc] at h
    have hle := drop_le h ha
    have hd := drop_more h
    rw [bitsB_length] at hle hd
    simp at hm
    rw [List.length_cons, bytesR, num_is h ha y.toNat_lt, R.then_ok, if_neg (by omega), UInt8.ofNat_toNat, bytes_is ys _ _ hd hle (by simp; omega)]
    simp
    omega
theorem two_is {L r : List Bool} {at_ n m : Nat} (h : L.drop ((at_ + 7) / 8 * 8) = wordE true n 16 ++ (wordE true m 16 ++ r)) (ha : (at_ + 7) / 8 * 8 ≤ L.length) (hn : n < 65536) (hm : m < 65536) :
    twoR L at_ = .ok ((n, m), (at_ + 7) / 8 * 8 + 32) := by
  have h1 := drop_le h ha
  have d1 := drop_more h
  have h2 := drop_le d1 h1
  rw [wordE_length] at h1 d1
  rw [wordE_length, wordE_length] at h2
  unfold twoR
  rw [if_pos (by omega), h, List.take_left' (wordE_length _ _ _), d1, List.take_left' (wordE_length _ _ _), numE_wordE true n 16 (by omega), numE_wordE true m 16 (by omega)]
theorem word16 (n : Nat) (h : n < 65536) : bitsOf true [UInt8.ofNat n, UInt8.ofNat (n / 256)] = wordE true n 16 := by
  apply numE_inj true
  · rw [bitsOf_length, wordE_length]; rfl
  · rw [numE_bitsOf, numE_wordE true n 16 (by omega)]
    simp [numOf, numB]
    omega
end Go.Proofs.YtjafcjnkefioeaaGreat.Inf
/- Blocks of Deflate that are made, in plain words: what they stand for; no program in sight. -/
namespace Go.Proofs.YtjafcjnkefioeaaGreat.Df
open Go.Proofs.YtjafcjnkefioeaaGreat.Bit Go.Proofs.YtjafcjnkefioeaaGreat.Hf Go.Proofs.YtjafcjnkefioeaaGreat.Oct Go.Proofs.YtjafcjnkefioeaaGreat.Inf
def conv (t : Lzt.Tok) : Tok := ⟨t.lit, t.len, t.dist⟩
theorem copy_same (d : Nat) : ∀ (n : Nat) (out : List UInt8), Lzt.copyN out d n = copyN out d n
  | 0, out => rfl
  | n + 1, out => by rw [Lzt.copyN, copyN]; exact copy_same d n _
theorem right_exp {most : Int} {lim : Nat} (hl : most ≤ (lim : Int)) : ∀ (l : List Lzt.Tok) (out o : List UInt8), Lzt.expX most l out = .ok o → rightT lim (l.map conv) out = some o
  | [], out, o, h => by cases h; rfl
  | t :: l, out, o, h => by
    rcases hs : Lzt.stepX most t out with e | o1
    · rw [Lzt.exp_err hs] at h; cases h
    · rw [Lzt.exp_ok hs] at h
      have ih := right_exp hl l o1 o h
      have h2 := Lzt.step_ok hs
      unfold Lzt.stepX at hs
      rw [List.map_cons, rightT]
      by_cases h0 : t.len = 0
      · rw [if_pos h0] at hs
        rw [if_pos (show (conv t).len = 0 from h0)]
        split at hs
        · cases hs
        · cases hs; exact ih
      · rw [if_neg h0] at hs
        rw [if_neg (show ¬ (conv t).len = 0 from h0)]
        split at hs
        · cases hs
        · rename_i hc
          split at hs
          · cases hs
          · rename_i hd
            split at hs
            · cases hs
            · cases hs
              rw [if_neg (by show ¬ (t.len < 3 ∨ 258 < t.len ∨ t.dist < 1 ∨ (out.length : Int) < t.dist ∨ 32768 < t.dist ∨ lim < out.length); omega)]
              rw [copy_same] at ih
              exact ih
theorem canon_fre0 (L : List Nat) (h30 : ∀ n ∈ L, n ≤ 30) (hT : startN L 31 ≤ 1073741824) (i : Nat) (hi : i < L.length) (h1 : 1 ≤ L[i]) : Fre (canonW L) i := by
  have hi' : i < (canonW L).length := by rw [canonW_length]; exact hi
  have hg : (canonW L).getD i [] = (canonW L)[i] := by rw [List.getD_eq_getElem?_getD, List.getElem?_eq_getElem hi']; rfl
  have hl := canonW_len L i hi' hi
  have h30' : ∀ j (h : j < L.length), L[j] ≤ 30 := fun j h => h30 _ (List.getElem_mem h)
  refine ⟨?_, fun j v hj hp hv => ?_⟩
  · rw [hg]
    intro e
    rw [e] at hl
    simp at hl
    omega
  · obtain ⟨hj1, hj2⟩ := List.getElem?_eq_some_iff.1 hj
    have hj3 : j < L.length := by rw [canonW_length] at hj1; exact hj1
    have hlj := canonW_len L j hj1 hj3
    have hj4 : 1 ≤ L[j] := by
      rw [← hlj, hj2]
      exact List.length_pos_iff.2 hv
    refine Classical.byContradiction fun hne => ?_
    refine canon_free L h30' hT j i hj3 hi hne (by omega) ?_
    rw [← canonW_get L j hj1 hj3, ← canonW_get L i hi' hi, hj2, ← hg]
    exact hp
def TokFre (A B : List (List Bool)) (t : Tok) : Prop := if t.len = 0 then Fre A t.lit.toNat else Fre A (257 + placeN false t.len.toNat) ∧ Fre B (placeN true t.dist.toNat)
theorem block_use {A B : List (List Bool)} {L : List Bool} {most : Nat} {rest : List Bool} {o : List UInt8} {lim : Nat} (h256 : Fre A 256) (ho : o.length ≤ most) :
    ∀ (l : List Tok) (out : List UInt8) (a : Nat), (∀ t ∈ l, TokFre A B t) → rightT lim l out = some o → L.drop a = toldB A B l ++ rest → a ≤ L.length → blockA A B L most a out = .ok (o, a + (toldB A B l).length)
  | [], out, a, hu, hr, hd, ha => by
    cases hr
    rw [toldB] at hd
    rw [blockA_eq A B L most a _ ha, next_is h256 hd, R.then_ok, if_pos rfl, toldB]
  | t :: l, out, a, hu, hr, hd, ha => by
    have hu2 : ∀ t ∈ l, TokFre A B t := fun t' ht => hu t' (List.mem_cons_of_mem _ ht)
    have hut := hu t List.mem_cons_self
    unfold TokFre at hut
    rw [rightT] at hr
    rw [toldB, List.append_assoc] at hd
    by_cases h0 : t.len = 0
    · rw [if_pos h0] at hr hut
      have hg := right_grows l _ o hr
      simp at hg
      have hlt : t.lit.toNat < 256 := t.lit.toNat_lt
      rw [tokB, if_pos h0] at hd
      have hle := drop_le hd ha
      rw [blockA_eq A B L most a out ha, next_is hut hd, R.then_ok, if_neg (by omega), if_pos hlt, if_neg (by omega), UInt8.ofNat_toNat,
        block_use h256 ho l _ _ hu2 hr (drop_more hd) hle, toldB, tokB, if_pos h0, List.length_append, Nat.add_assoc]
    · rw [if_neg h0] at hr hut
      split at hr
      · cases hr
      · rename_i hc
        have hg := right_grows l _ o hr
        rw [copyN_length] at hg
        rw [tokB, if_neg h0] at hd
        simp only [List.append_assoc] at hd
        have hp1 := place_lt false t.len.toNat
        have hp2 := place_lt true t.dist.toNat
        have e1 : (froms false).length = 29 := rfl
        have e2 : (froms true).length = 30 := rfl
        have a1 := drop_le hd ha
        have d1 := drop_more hd
        have a2 := drop_le d1 a1
        have d2 := drop_more d1
        have a3 := drop_le d2 a2
        have d3 := drop_more d2
        have a4 := drop_le d3 a3
        have d4 := drop_more d3
        rw [blockA_eq A B L most a out ha, next_is hut.1 hd, R.then_ok, if_neg (by omega), if_neg (by omega), Nat.add_sub_cancel_left,
          number_is (far := false) (by show 3 ≤ _; omega) (by show _ ≤ 258; omega) d1 a1, R.then_ok, next_is hut.2 d2, R.then_ok,
          number_is (far := true) (by show 1 ≤ _; omega) (by show _ ≤ 32768; omega) d3 a3, R.then_ok, if_neg (by omega), if_neg (by omega),
          block_use h256 ho l _ _ hu2 hr d4 a4, toldB, tokB, if_neg h0]
        simp only [List.length_append, Nat.add_assoc]
theorem infl_one {L r : List Bool} {most a h b : Nat} {out o : List UInt8} (hd : L.drop a = wordE true h 3 ++ r) (ha : a ≤ L.length) (h8 : h < 8) (hone : oneA L most h (a + 3) out = .ok (o, b)) :
    inflA L most a out = if h % 2 = 1 then .ok (o, b) else inflA L most b o := by
  rw [inflA_eq L most a out ha, num_is hd ha h8, R.then_ok, hone, R.then_ok]
def stoB (last : Bool) (ys : List UInt8) : List UInt8 := [if last then 1 else 0, UInt8.ofNat ys.length, UInt8.ofNat (ys.length / 256), UInt8.ofNat (65535 - ys.length), UInt8.ofNat ((65535 - ys.length) / 256)] ++ ys
theorem stoB_length (last : Bool) (ys : List UInt8) : (stoB last ys).length = ys.length + 5 := by simp [stoB]
theorem stoB_bits (last : Bool) (ys : List UInt8) (h : ys.length < 65536) : bitsOf true (stoB last ys) = wordE true (if last then 1 else 0) 3 ++ (zs 5 ++ (wordE true ys.length 16 ++ (wordE true (65535 - ys.length) 16 ++ bitsOf true ys))) := by
  have e : stoB last ys = [if last then 1 else 0] ++ [UInt8.ofNat ys.length, UInt8.ofNat (ys.length / 256)] ++ [UInt8.ofNat (65535 - ys.length), UInt8.ofNat ((65535 - ys.length) / 256)] ++ ys := rfl
  rw [e, bitsOf_append, bitsOf_append, bitsOf_append, word16 _ h, word16 (65535 - ys.length) (by omega)]
  simp only [List.append_assoc]
  cases last <;> rfl
theorem sto_one {L r : List Bool} {most k : Nat} {last : Bool} {ys out : List UInt8} (hd : L.drop (8 * k) = bitsOf true (stoB last ys) ++ r) (ha : 8 * k ≤ L.length) (hy : ys.length < 65536) (hm : out.length + ys.length ≤ most) :
    inflA L most (8 * k) out = if last then .ok (out ++ ys, 8 * (k + (ys.length + 5))) else inflA L most (8 * (k + (ys.length + 5))) (out ++ ys) := by
  rw [stoB_bits last ys hy] at hd
  simp only [List.append_assoc] at hd
  have a1 := drop_le hd ha
  have d1 := drop_more hd
  rw [wordE_length] at a1 d1
  have a2 := drop_le d1 a1
  have d2 := drop_more d1
  rw [zs_length] at a2 d2
  have a3 := drop_le d2 a2
  have d3 := drop_more d2
  rw [wordE_length] at a3 d3
  have a4 := drop_le d3 a3
  have d4 := drop_more d3
  rw [wordE_length] at a4 d4
  have ha8 : (8 * k + 3 + 7) / 8 * 8 = 8 * k + 3 + 5 := by omega
  have hst : storedR L most (8 * k + 3) out = .ok (out ++ ys, 8 * (k + (ys.length + 5))) := by
    unfold storedR
    rw [two_is (n := ys.length) (m := 65535 - ys.length) (by rw [ha8]; exact d2) (by rw [ha8]; exact a2) hy (by omega), R.then_ok, if_pos (by show ys.length + (65535 - ys.length) = 65535; omega), ha8]
    rw [bytes_is ys _ out (by rw [show 8 * k + 3 + 5 + 32 = 8 * k + 3 + 5 + 16 + 16 from by omega]; exact d4) (by omega) hm]
    congr 2
    omega
  rw [infl_one hd ha (by cases last <;> decide) (b := 8 * (k + (ys.length + 5))) (o := out ++ ys) (by
    unfold oneA
    rw [if_pos (by cases last <;> rfl)]
    exact hst)]
  cases last <;> rfl
def stoX (xs : List UInt8) : List UInt8 :=
  if h : xs.length ≤ 65535 then stoB true xs else stoB false (xs.take 65535) ++ stoX (xs.drop 65535)
termination_by xs.length
decreasing_by simp; omega
theorem stoX_small (xs : List UInt8) (h : xs.length ≤ 65535) : stoX xs = stoB true xs := by rw [stoX, dif_pos h]
theorem stoX_big (xs : List UInt8) (h : ¬ xs.length ≤ 65535) : ∃ K, K < 65536 ∧ 1 ≤ K ∧ K < xs.length ∧ stoX xs = stoB false (xs.take K) ++ stoX (xs.drop K) :=
  ⟨65535, by decide, by decide, by omega, by rw [stoX, dif_neg h]⟩
theorem sto_all {L r : List Bool} {most : Nat} : ∀ (n : Nat) (xs : List UInt8) (k : Nat) (out : List UInt8), xs.length ≤ n → L.drop (8 * k) = bitsOf true (stoX xs) ++ r → 8 * k ≤ L.length → out.length + xs.length ≤ most →
    inflA L most (8 * k) out = .ok (out ++ xs, 8 * (k + (stoX xs).length))
  | 0, xs, k, out, hn, hd, ha, hm => by
    have hx : xs.length ≤ 65535 := by omega
    rw [stoX_small xs hx] at hd ⊢
    rw [sto_one hd ha (by omega) hm, if_pos rfl, stoB_length]
  | n + 1, xs, k, out, hn, hd, ha, hm => by
    by_cases hx : xs.length ≤ 65535
    · rw [stoX_small xs hx] at hd ⊢
      rw [sto_one hd ha (by omega) hm, if_pos rfl, stoB_length]
    · obtain ⟨K, hK1, hK2, hK3, hK⟩ := stoX_big xs hx
      clear hx
      rw [hK] at hd ⊢
      have hl : (xs.take K).length = K := by rw [List.length_take]; omega
      have hm2 : (out ++ xs.take K).length + (xs.drop K).length ≤ most := by
        rw [List.length_append, hl, List.length_drop]
        omega
      have hn2 : (xs.drop K).length ≤ n := by
        rw [List.length_drop]
        omega
      have hy : (xs.take K).length < 65536 := by rw [hl]; exact hK1
      have hm1 : out.length + (xs.take K).length ≤ most := by rw [hl]; omega
      rw [bitsOf_append, List.append_assoc] at hd
      have a1 := drop_le hd ha
      have d1 := drop_more hd
      rw [bitsOf_length, stoB_length, hl] at a1 d1
      have e : 8 * k + 8 * (K + 5) = 8 * (k + (K + 5)) := by omega
      rw [e] at a1 d1
      have ih := sto_all n (xs.drop K) (k + (K + 5)) (out ++ xs.take K) hn2 d1 a1 hm2
      have h1 := sto_one hd ha hy hm1
      rw [if_neg Bool.false_ne_true, hl] at h1
      rw [h1, ih, List.append_assoc, List.take_append_drop, List.length_append, stoB_length, hl]
      congr 2
      omega
theorem stored_is (xs : List UInt8) (most : Nat) (hm : xs.length ≤ most) : inflate (stoX xs) most = .ok (xs, (stoX xs).length) := by
  rw [inflate_eq]
  have h := sto_all (L := bitsOf true (stoX xs)) (r := []) (most := most) xs.length xs 0 [] (Nat.le_refl _) (by rw [Nat.mul_zero, List.drop_zero, List.append_nil]) (Nat.zero_le _) (by rw [List.length_nil, Nat.zero_add]; exact hm)
  rw [show 8 * 0 = 0 from rfl] at h
  rw [h]
  simp only [List.nil_append, Nat.zero_add]
  congr 2
  omega
end Go.Proofs.YtjafcjnkefioeaaGreat.Df
/- A block of Deflate that tells its words, made, in plain words: what it stands for; no program in sight. -/
namespace Go.Proofs.YtjafcjnkefioeaaGreat.Df
open Go.Proofs.YtjafcjnkefioeaaGreat.Bit Go.Proofs.YtjafcjnkefioeaaGreat.Hf Go.Proofs.YtjafcjnkefioeaaGreat.Oct Go.Proofs.YtjafcjnkefioeaaGreat.Inf
def symB (W : List (List Bool)) (op : Nat × Nat) : List Bool := W.getD op.1 [] ++ wordE true op.2 (wideV op.1)
def symS (all : List Nat) (op : Nat × Nat) : List Nat := all ++ List.replicate (timesV op.1 + op.2) (valueV op.1 all)
def symsS : List (Nat × Nat) → List Nat → List Nat
  | [], all => all
  | op :: l, all => symsS l (symS all op)
theorem symS_length (all : List Nat) (op : Nat × Nat) : (symS all op).length = all.length + (timesV op.1 + op.2) := by simp [symS]
theorem symsS_grows : ∀ (ops : List (Nat × Nat)) (all : List Nat), all.length + ops.length ≤ (symsS ops all).length
  | [], all => by simp [symsS]
  | op :: l, all => by
    have h1 := symsS_grows l (symS all op)
    rw [symS_length] at h1
    have h2 := timesV_pos op.1
    rw [symsS, List.length_cons]
    omega
theorem lens_is {W : List (List Bool)} {L r : List Bool} {n : Nat} : ∀ (ops : List (Nat × Nat)) (all : List Nat) (a : Nat), (∀ op ∈ ops, Fre W op.1 ∧ op.2 < 2 ^ wideV op.1) → (all = [] → ∀ op l, ops = op :: l → op.1 ≠ 16) →
    (symsS ops all).length = n → L.drop a = ops.flatMap (symB W) ++ r → a ≤ L.length → lensA W n L a all = .ok (symsS ops all, a + (ops.flatMap (symB W)).length)
  | [], all, a, hu, h16, hn, hd, ha => lensA_end W n L a all hn
  | op :: l, all, a, hu, h16, hn, hd, ha => by
    obtain ⟨h1, h2⟩ := hu op List.mem_cons_self
    have hg := symsS_grows (op :: l) all
    have hg2 := symsS_grows l (symS all op)
    rw [symsS] at hn
    rw [symsS] at hg
    rw [List.length_cons] at hg
    rw [symS_length] at hg2
    rw [List.flatMap_cons, symB] at hd
    simp only [List.append_assoc] at hd
    have a1 := drop_le hd ha
    have d1 := drop_more hd
    have a2 := drop_le d1 a1
    have d2 := drop_more d1
    rw [wordE_length] at a2 d2
    have ht := timesV_pos op.1
    rw [lensA_eq W n L a all (by omega), next_is h1 hd, R.then_ok, if_neg (fun h => h16 h.2 op l rfl h.1), num_is d1 a1 h2, R.then_ok, if_neg (by omega)]
    have ih := lens_is (n := n) l (symS all op) _ (fun o ho => hu o (List.mem_cons_of_mem _ ho)) (fun e => by
      have := symS_length all op
      rw [e] at this
      simp at this
      omega) hn d2 a2
    rw [symsS]
    unfold symS at ih
    rw [ih, List.flatMap_cons, List.length_append, symB, List.length_append, wordE_length]
    simp only [Nat.add_assoc]
    rfl
def setO : List Nat → Nat → List Nat → List Nat
  | [], i, l => l
  | v :: vs, i, l => setO vs (i + 1) (l.set (order.getD i 0) v)
theorem setO_length : ∀ (vs : List Nat) (i : Nat) (l : List Nat), (setO vs i l).length = l.length
  | [], i, l => rfl
  | v :: vs, i, l => by rw [setO, setO_length vs, List.length_set]
def metaB (vs : List Nat) : List Bool := vs.flatMap fun v => wordE true v 3
theorem metaB_length (vs : List Nat) : (metaB vs).length = 3 * vs.length := by
  induction vs with
  | nil => rfl
  | cons v vs ih =>
    unfold metaB at ih ⊢
    rw [List.flatMap_cons, List.length_append, ih, wordE_length, List.length_cons]
    omega
theorem meta_is {L r : List Bool} : ∀ (vs : List Nat) (i a : Nat) (l : List Nat), (∀ v ∈ vs, v < 8) → L.drop a = metaB vs ++ r → a ≤ L.length → metaR L vs.length i a l = .ok (setO vs i l, a + 3 * vs.length)
  | [], i, a, l, hv, hd, ha => rfl
  | v :: vs, i, a, l, hv, hd, ha => by
    unfold metaB at hd
    rw [List.flatMap_cons, List.append_assoc] at hd
    have a1 := drop_le hd ha
    have d1 := drop_more hd
    rw [wordE_length] at a1 d1
    have h8 : v < 2 ^ 3 := hv v List.mem_cons_self
    rw [List.length_cons, metaR, num_is hd ha h8, R.then_ok, meta_is vs (i + 1) (a + 3) _ (fun x hx => hv x (List.mem_cons_of_mem _ hx)) d1 a1, setO]
    congr 2
    omega
theorem order_one : ∀ i, i < 19 → ∀ j, j < 19 → (order.getD i 0 = j ↔ i = order.idxOf j) := by decide +kernel
theorem order_in : ∀ j, j < 19 → order.idxOf j < 19 ∧ order.getD (order.idxOf j) 0 = j := by decide +kernel
theorem setO_get (j : Nat) (hj : j < 19) : ∀ (vs : List Nat) (i : Nat) (l : List Nat), i + vs.length ≤ 19 → l.length = 19 →
    (setO vs i l).getD j 0 = if i ≤ order.idxOf j ∧ order.idxOf j < i + vs.length then vs.getD (order.idxOf j - i) 0 else l.getD j 0
  | [], i, l, h1, h2 => by
    rw [if_neg (by simp)]
    rfl
  | v :: vs, i, l, h1, h2 => by
    rw [List.length_cons] at h1
    have hi : i < 19 := by omega
    have ho := order_one i hi j hj
    rw [setO, setO_get j hj vs (i + 1) _ (by omega) (by rw [List.length_set]; exact h2)]
    rw [List.length_cons]
    by_cases hq : i = order.idxOf j
    · have hs := ho.2 hq
      rw [if_neg (by omega), if_pos (by omega), hs, ← hq, Nat.sub_self]
      rw [List.getD_eq_getElem?_getD, List.getElem?_set, if_pos rfl, if_pos (by omega)]
      rfl
    · have hs : order.getD i 0 ≠ j := fun e => hq (ho.1 e)
      by_cases hc : i + 1 ≤ order.idxOf j ∧ order.idxOf j < i + 1 + vs.length
      · rw [if_pos hc, if_pos (by omega), show order.idxOf j - i = (order.idxOf j - (i + 1)) + 1 from by omega]
        rfl
      · rw [if_neg hc, if_neg (by omega), List.getD_eq_getElem?_getD, List.getElem?_set, if_neg hs, List.getD_eq_getElem?_getD]
theorem setO_is (m : List Nat) (hm : m.length = 19) (k : Nat) (hk : k ≤ 19) (h0 : ∀ i, k ≤ i → i < 19 → m.getD (order.getD i 0) 0 = 0) : setO ((order.take k).map fun s => m.getD s 0) 0 (List.replicate 19 0) = m := by
  have hol : order.length = 19 := rfl
  have hvl : ((order.take k).map fun s => m.getD s 0).length = k := by rw [List.length_map, List.length_take, hol]; omega
  apply List.ext_getElem
  · rw [setO_length, List.length_replicate, hm]
  · intro j h1 h2
    have hj : j < 19 := by omega
    have hg := setO_get j hj ((order.take k).map fun s => m.getD s 0) 0 (List.replicate 19 0) (by rw [hvl]; omega) (by simp)
    obtain ⟨q1, q2⟩ := order_in j hj
    have e1 : (setO ((order.take k).map fun s => m.getD s 0) 0 (List.replicate 19 0)).getD j 0 = (setO ((order.take k).map fun s => m.getD s 0) 0 (List.replicate 19 0))[j] := by
      rw [List.getD_eq_getElem?_getD, List.getElem?_eq_getElem h1]; rfl
    have e2 : m.getD j 0 = m[j] := by rw [List.getD_eq_getElem?_getD, List.getElem?_eq_getElem h2]; rfl
    rw [← e1, ← e2, hg, hvl]
    by_cases hq : order.idxOf j < k
    · rw [if_pos ⟨Nat.zero_le _, by omega⟩, Nat.sub_zero]
      have hv : order.idxOf j < ((order.take k).map fun s => m.getD s 0).length := by rw [hvl]; exact hq
      have h3 : order.idxOf j < (order.take k).length := by rw [List.length_take, hol]; omega
      have h4 : order.idxOf j < order.length := by rw [hol]; exact q1
      rw [List.getD_eq_getElem?_getD, List.getElem?_eq_getElem hv, List.getElem_map, List.getElem_take]
      have h5 : order[order.idxOf j] = j := by
        have := q2
        rw [List.getD_eq_getElem?_getD, List.getElem?_eq_getElem h4] at this
        exact this
      rw [h5]
      rfl
    · rw [if_neg (by omega)]
      have := h0 (order.idxOf j) (by omega) q1
      rw [q2] at this
      rw [this, List.getD_eq_getElem?_getD, List.getElem?_replicate, if_pos hj]
      rfl
theorem three_is {L r : List Bool} {a x y z : Nat} (h : L.drop a = wordE true x 5 ++ (wordE true y 5 ++ (wordE true z 4 ++ r))) (ha : a ≤ L.length) (hx : x < 32) (hy : y < 32) (hz : z < 16) :
    threeR L a = .ok ((x + 257, y + 1, z + 4), a + 14) := by
  have a1 := drop_le h ha
  have d1 := drop_more h
  rw [wordE_length] at a1 d1
  have a2 := drop_le d1 a1
  have d2 := drop_more d1
  rw [wordE_length] at a2 d2
  have a3 := drop_le d2 a2
  rw [wordE_length] at a3
  rw [Nat.add_assoc] at d2
  unfold threeR
  rw [if_pos (by omega), h, List.take_left' (wordE_length _ _ _), d1, List.take_left' (wordE_length _ _ _), d2, List.take_left' (wordE_length _ _ _), numE_wordE true x 5 hx, numE_wordE true y 5 hy, numE_wordE true z 4 hz]
def ownB (LA LB m : List Nat) (k : Nat) (ops : List (Nat × Nat)) (l : List Tok) : List Bool :=
  wordE true (LA.length - 257) 5 ++ (wordE true (LB.length - 1) 5 ++ (wordE true (k - 4) 4 ++ (metaB ((order.take k).map fun s => m.getD s 0) ++ (ops.flatMap (symB (canonW m)) ++ toldB (canonW LA) (canonW LB) l))))
structure OwnL (LA LB m : List Nat) (k : Nat) (ops : List (Nat × Nat)) : Prop where
  a1 : 257 ≤ LA.length
  a2 : LA.length ≤ 286
  b1 : 1 ≤ LB.length
  b2 : LB.length ≤ 30
  k1 : 4 ≤ k
  k2 : k ≤ 19
  ml : m.length = 19
  m7 : ∀ n ∈ m, n ≤ 7
  mz : ∀ i, k ≤ i → i < 19 → m.getD (order.getD i 0) 0 = 0
  mf : startN m 31 = 1073741824
  ou : ∀ op ∈ ops, op.1 < 19 ∧ 1 ≤ m.getD op.1 0 ∧ op.2 < 2 ^ wideV op.1
  o16 : ∀ op r, ops = op :: r → op.1 ≠ 16
  os : symsS ops [] = LA ++ LB
  ae : LA.getD 256 0 ≠ 0
  af : startN LA 31 = 1073741824
  bf : startN LB 31 = 1073741824 ∨ (startN LB 31 < 1073741824 ∧ Inf.lone LB = true)
  a30 : ∀ n ∈ LA, n ≤ 30
  b30 : ∀ n ∈ LB, n ≤ 30
theorem withW_ok {β : Type} (W : List (List Bool)) (f : List (List Bool) → R β) : withW (.ok W) f = f W := rfl
def TokLen (LA LB : List Nat) (t : Tok) : Prop := if t.len = 0 then 1 ≤ LA.getD t.lit.toNat 0 else 1 ≤ LA.getD (257 + placeN false t.len.toNat) 0 ∧ 1 ≤ LB.getD (placeN true t.dist.toNat) 0
theorem fre_of {L : List Nat} (h30 : ∀ n ∈ L, n ≤ 30) (hT : startN L 31 ≤ 1073741824) {i : Nat} (h : 1 ≤ L.getD i 0) : Fre (canonW L) i := by
  have hi : i < L.length := by
    rcases Nat.lt_or_ge i L.length with hlt | hge
    · exact hlt
    · rw [List.getD_eq_getElem?_getD, List.getElem?_eq_none hge] at h
      exact absurd h (by decide)
  have e : L.getD i 0 = L[i] := by rw [List.getD_eq_getElem?_getD, List.getElem?_eq_getElem hi]; rfl
  rw [e] at h
  exact canon_fre0 L h30 hT i hi h
theorem tok_fre {LA LB m : List Nat} {k : Nat} {ops : List (Nat × Nat)} (h : OwnL LA LB m k ops) {t : Tok} (ht : TokLen LA LB t) : TokFre (canonW LA) (canonW LB) t := by
  have ha := Nat.le_of_eq h.af
  have hb : startN LB 31 ≤ 1073741824 := by
    rcases h.bf with e | e
    · exact Nat.le_of_eq e
    · exact Nat.le_of_lt e.1
  unfold TokLen at ht
  unfold TokFre
  by_cases h0 : t.len = 0
  · rw [if_pos h0] at ht ⊢
    exact fre_of h.a30 ha ht
  · rw [if_neg h0] at ht ⊢
    exact ⟨fre_of h.a30 ha ht.1, fre_of h.b30 hb ht.2⟩
theorem own_is {LA LB m : List Nat} {k : Nat} {ops : List (Nat × Nat)} (h : OwnL LA LB m k ops) {L rest : List Bool} {most lim a : Nat} {l : List Tok} {out o : List UInt8} (hu : ∀ t ∈ l, TokLen LA LB t) (hr : rightT lim l out = some o) (ho : o.length ≤ most)
    (hd : L.drop a = ownB LA LB m k ops l ++ rest) (ha : a ≤ L.length) : toldA L most a out = .ok (o, a + (ownB LA LB m k ops l).length) := by
  unfold ownB at hd
  simp only [List.append_assoc] at hd
  have hl1 := h.a1
  have hl2 := h.a2
  have hl3 := h.b1
  have hl4 := h.b2
  have hl5 := h.k1
  have hl6 := h.k2
  have h3 := three_is hd ha (by omega) (by omega) (by omega)
  rw [show LA.length - 257 + 257 = LA.length from by omega, show LB.length - 1 + 1 = LB.length from by omega, show k - 4 + 4 = k from by omega] at h3
  have a1 := drop_le hd ha
  have d1 := drop_more hd
  rw [wordE_length] at a1 d1
  have a2 := drop_le d1 a1
  have d2 := drop_more d1
  rw [wordE_length] at a2 d2
  have a3 := drop_le d2 a2
  have d3 := drop_more d2
  rw [wordE_length] at a3 d3
  rw [show a + 5 + 5 + 4 = a + 14 from by omega] at a3 d3
  have hol : order.length = 19 := rfl
  have hvl : ((order.take k).map fun s => m.getD s 0).length = k := by rw [List.length_map, List.length_take, hol]; omega
  have hv8 : ∀ v ∈ (order.take k).map fun s => m.getD s 0, v < 8 := by
    intro v hv
    obtain ⟨s, _, rfl⟩ := List.mem_map.1 hv
    rw [List.getD_eq_getElem?_getD]
    rcases hx : m[s]? with _ | x
    · simp
    · have := h.m7 x (List.mem_of_getElem? hx)
      simp
      omega
  have hmt := meta_is _ 0 (a + 14) (List.replicate 19 0) hv8 d3 a3
  rw [hvl, setO_is m h.ml k h.k2 h.mz] at hmt
  have a4 := drop_le d3 a3
  have d4 := drop_more d3
  rw [metaB_length, hvl] at a4 d4
  have hT : startN m 31 ≤ 1073741824 := Nat.le_of_eq h.mf
  have hm30 : ∀ n ∈ m, n ≤ 30 := fun n hn => by have := h.m7 n hn; omega
  have hle := lens_is (W := canonW m) (n := LA.length + LB.length) ops [] (a + 14 + 3 * k) (fun op hop => ⟨fre_of hm30 hT (h.ou op hop).2.1, (h.ou op hop).2.2⟩) (fun _ => h.o16) (by rw [h.os, List.length_append]) d4 a4
  rw [h.os] at hle
  have a5 := drop_le d4 a4
  have d5 := drop_more d4
  have h256 : Fre (canonW LA) 256 := fre_of h.a30 (Nat.le_of_eq h.af) (by have := h.ae; omega)
  have hbl := block_use (A := canonW LA) (B := canonW LB) h256 ho l out _ (fun t ht => tok_fre h (hu t ht)) hr d5 a5
  have hwm : wordsR m false = .ok (canonW m) := by unfold wordsR; rw [if_pos (.inl h.mf)]
  have hwa : wordsR LA false = .ok (canonW LA) := by unfold wordsR; rw [if_pos (.inl h.af)]
  have hwb : wordsR LB true = .ok (canonW LB) := by
    unfold wordsR
    rw [if_pos]
    rcases h.bf with e | e
    · exact .inl e
    · exact .inr ⟨e.1, rfl, e.2⟩
  have hg : (LA ++ LB).getD 256 0 = LA.getD 256 0 := by
    rw [List.getD_eq_getElem?_getD, List.getD_eq_getElem?_getD, List.getElem?_append_left (by omega)]
  unfold toldA
  rw [h3, R.then_ok, if_neg (by show ¬ (LA.length > 286 ∨ LB.length > 30); omega)]
  show ((metaR L k 0 (a + 14) (List.replicate 19 0)).then fun l a => _) = _
  rw [hmt, R.then_ok, hwm, withW_ok]
  show ((lensA (canonW m) (LA.length + LB.length) L (a + 14 + 3 * k) []).then fun all a => _) = _
  rw [hle, R.then_ok, if_neg (by rw [hg]; exact h.ae)]
  rw [show (LA ++ LB).take LA.length = LA from by simp, show (LA ++ LB).drop LA.length = LB from by simp, hwa, withW_ok, hwb, withW_ok, hbl]
  congr 2
  unfold ownB
  simp only [List.length_append, wordE_length, metaB_length, hvl]
  omega
theorem packed_is {h most : Nat} {body : List Bool} {o : List UInt8} (h8 : h < 8) (hodd : h % 2 = 1)
    (hone : ∀ (L rest : List Bool), L.drop 3 = body ++ rest → 3 ≤ L.length → oneA L most h 3 [] = .ok (o, 3 + body.length)) :
    inflate (packB true (wordE true h 3 ++ body)) most = .ok (o, (packB true (wordE true h 3 ++ body)).length) := by
  rw [inflate_eq, bitsOf_packB, List.append_assoc, packB_length, List.length_append, wordE_length]
  generalize hz : zs (8 * ((3 + body.length + 7) / 8) - (3 + body.length)) = pad
  obtain ⟨L, hL⟩ : ∃ L, wordE true h 3 ++ (body ++ pad) = L := ⟨_, rfl⟩
  rw [hL]
  have d0 : L.drop 0 = wordE true h 3 ++ (body ++ pad) := by rw [List.drop_zero, hL]
  have a1 := drop_le d0 (Nat.zero_le _)
  have d1 := drop_more d0
  rw [wordE_length, Nat.zero_add] at a1 d1
  rw [infl_one d0 (Nat.zero_le _) h8 (o := o) (b := 3 + body.length) (by rw [Nat.zero_add]; exact hone L pad d1 a1), if_pos hodd]
theorem fixed_is {l : List Tok} {o : List UInt8} {lim most : Nat} (hr : rightT lim l [] = some o) (ho : o.length ≤ most) :
    inflate (packB true (wordE true 3 3 ++ toldB (canonW fixedA) (canonW fixedB) l)) most = .ok (o, (packB true (wordE true 3 3 ++ toldB (canonW fixedA) (canonW fixedB) l)).length) := by
  refine packed_is (by decide) (by decide) (fun L rest hd ha => ?_)
  unfold oneA
  rw [if_neg (by decide), if_pos (by decide)]
  refine block_use (freA 256 (by omega)) ho l [] 3 (fun t ht => ?_) hr hd ha
  unfold TokFre
  split
  · have hlt : t.lit.toNat < 256 := t.lit.toNat_lt
    exact freA _ (by omega)
  · have hp1 := place_lt false t.len.toNat
    have hp2 := place_lt true t.dist.toNat
    have e1 : (froms false).length = 29 := rfl
    have e2 : (froms true).length = 30 := rfl
    exact ⟨freA _ (by omega), freB _ (by omega)⟩
end Go.Proofs.YtjafcjnkefioeaaGreat.Df
/- How many bits tokens of equal bytes take, by words that aren't longer than fifteen bits; no program in sight. -/
namespace Go.Proofs.YtjafcjnkefioeaaGreat.Df
open Go.Proofs.YtjafcjnkefioeaaGreat.Bit Go.Proofs.YtjafcjnkefioeaaGreat.Hf Go.Proofs.YtjafcjnkefioeaaGreat.Oct Go.Proofs.YtjafcjnkefioeaaGreat.Inf
theorem canonW_getD_len (L : List Nat) (k : Nat) (h : ∀ n ∈ L, n ≤ k) (i : Nat) : ((canonW L).getD i []).length ≤ k := by
  rw [List.getD_eq_getElem?_getD]
  by_cases hi : i < L.length
  · have hi' : i < (canonW L).length := by rw [canonW_length]; exact hi
    rw [List.getElem?_eq_getElem hi']
    show ((canonW L)[i]).length ≤ k
    rw [canonW_len L i hi' hi]
    exact h _ (List.getElem_mem hi)
  · rw [List.getElem?_eq_none (by rw [canonW_length]; omega)]
    exact Nat.zero_le _
theorem more_near (n : Nat) : (moreB false n).length ≤ 5 := by
  have h1 : ∀ i, i < 29 → (extras false).getD i 0 ≤ 5 := by decide
  have h2 := place_lt false n
  unfold moreB
  rw [wordE_length]
  exact h1 _ h2
theorem more_one : (moreB true 1).length = 0 := by decide
theorem told_bits {A B : List (List Bool)} {k : Nat} : ∀ (l : List Tok), (∀ t ∈ l, (tokB A B t).length ≤ k) → (toldB A B l).length ≤ k * l.length + (A.getD 256 []).length
  | [], h => by simp [toldB]
  | t :: l, h => by
    have h1 := told_bits l (fun t ht => h t (List.mem_cons_of_mem _ ht))
    have h2 := h t List.mem_cons_self
    rw [toldB, List.length_append, List.length_cons, Nat.mul_add]
    omega
theorem equal_bits {A B : List (List Bool)} (hA : ∀ i, (A.getD i []).length ≤ 15) (hB : ∀ i, (B.getD i []).length ≤ 15) (c : UInt8) (n : Nat) :
    (toldB A B ((Lzt.allToks c n).map conv)).length ≤ 35 * ((n + 256) / 258 + 2) + 15 := by
  have h1 := told_bits (A := A) (B := B) (k := 35) ((Lzt.allToks c n).map conv) (fun t ht => by
    obtain ⟨u, hu, rfl⟩ := List.mem_map.1 ht
    rcases Lzt.all_each c n u hu with rfl | ⟨m, m1, m2, rfl⟩
    · have := hA c.toNat
      unfold tokB conv
      rw [if_pos rfl]
      exact Nat.le_trans this (by decide)
    · have e1 := hA (257 + placeN false m)
      have e2 := hB (placeN true 1)
      have e3 := more_near m
      have e4 := more_one
      unfold tokB conv
      rw [if_neg (by show ¬ (m : Int) = 0; omega)]
      show (A.getD (257 + placeN false ((m : Int).toNat)) [] ++ (moreB false ((m : Int).toNat) ++ (B.getD (placeN true ((1 : Int).toNat)) [] ++ moreB true ((1 : Int).toNat)))).length ≤ 35
      rw [Int.toNat_natCast, show ((1 : Int).toNat) = 1 from rfl]
      simp only [List.length_append]
      omega)
  rw [List.length_map] at h1
  have h2 := Lzt.all_count c n
  have h3 := hA 256
  have h4 := Nat.mul_le_mul_left 35 h2
  omega
set_option maxRecDepth 20000 in
theorem fixed_short : (∀ n ∈ fixedA, n ≤ 15) ∧ (∀ n ∈ fixedB, n ≤ 15) := by decide +kernel
theorem fixed_few (c : UInt8) (n : Nat) (hn : n ≤ 100000) : (packB true (wordE true 3 3 ++ toldB (canonW fixedA) (canonW fixedB) ((Lzt.allToks c n).map conv))).length ≤ 40 + n / 32 := by
  rw [packB_length, List.length_append, wordE_length]
  have h := equal_bits (canonW_getD_len fixedA 15 fixed_short.1) (canonW_getD_len fixedB 15 fixed_short.2) c n
  omega
theorem owned_few {LA LB m : List Nat} {k : Nat} {ops : List (Nat × Nat)} (hA : ∀ n ∈ LA, n ≤ 15) (hB : ∀ n ∈ LB, n ≤ 15) (c : UInt8) (n : Nat) (hk : k ≤ 19) (hn : n ≤ 100000) (ho : (ops.flatMap (symB (canonW m))).length ≤ 500) :
    (packB true (wordE true 5 3 ++ ownB LA LB m k ops ((Lzt.allToks c n).map conv))).length ≤ 100 + n / 32 := by
  have hml : (metaB ((order.take k).map fun s => m.getD s 0)).length ≤ 57 := by
    rw [metaB_length, List.length_map, List.length_take]
    omega
  have h := equal_bits (canonW_getD_len LA 15 hA) (canonW_getD_len LB 15 hB) c n
  rw [packB_length, List.length_append, wordE_length]
  unfold ownB
  simp only [List.length_append, wordE_length]
  omega
end Go.Proofs.YtjafcjnkefioeaaGreat.Df

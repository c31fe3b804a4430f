
/- What tells bytes and copies by words is what they stand for; no program in sight. -/
import Derived.Test.YtgddpjnikgcamaaDoorIfN
import Derived.Test.YtgddpjnikgcamaaDoorBitN
namespace Go.Proofs.YtgddpjnikgcamaaDoor.Inf
open Go.Proofs.YtgddpjnikgcamaaDoor.Bit Go.Proofs.YtgddpjnikgcamaaDoor.Hf
set_option linter.unusedVariables false
set_option linter.unusedSimpArgs false

theorem drop_more {L x r : List Bool} {a : Nat} (h : L.drop a = x ++ r) : L.drop (a + x.length) = r := by
  rw [← List.drop_drop, h]
  simp
theorem drop_le {L x r : List Bool} {a : Nat} (h : L.drop a = x ++ r) (ha : a ≤ L.length) : a + x.length ≤ L.length := by
  have := congrArg List.length h
  simp at this
  omega
theorem num_is {L r : List Bool} {a n k : Nat} (h : L.drop a = wordE true n k ++ r) (ha : a ≤ L.length) (hn : n < 2 ^ k) : numR L a k = .ok (n, a + k) := by
  have h1 := drop_le h ha
  rw [wordE_length] at h1
  unfold numR
  rw [if_pos h1, h, List.take_left' (wordE_length _ _ _), numE_wordE true n k hn]

/-- a word that no other one begins -/
def Fre (W : List (List Bool)) (i : Nat) : Prop := W.getD i [] ≠ [] ∧ ∀ j v, W[j]? = some v → v <+: W.getD i [] → v ≠ [] → j = i
theorem getD_some {α : Type} {W : List α} {i : Nat} {d w : α} (h : W.getD i d = w) (hd : w ≠ d) : W[i]? = some w := by
  rw [List.getD_eq_getElem?_getD] at h
  cases hx : W[i]? with
  | none => rw [hx] at h; exact absurd h.symm hd
  | some x => rw [hx] at h; exact congrArg some h
theorem look_fre (W : List (List Bool)) (i : Nat) (rest : List Bool) (h : Fre W i) : ∀ (q p : List Bool), W.getD i [] = p ++ q → q ≠ [] → lookW W p (q ++ rest) = .ok (i, (W.getD i []).length)
  | [], p, hw, hq => absurd rfl hq
  | b :: t, p, hw, hq => by
    obtain ⟨h0, h1⟩ := h
    have hs := getD_some rfl h0
    rw [List.cons_append, lookW]
    by_cases ht : t = []
    · subst ht
      have hm : p ++ [b] ∈ W := hw ▸ List.mem_of_getElem? hs
      rw [if_pos hm]
      have hl := List.idxOf_lt_length_of_mem hm
      have hj : W.idxOf (p ++ [b]) = i := h1 _ (p ++ [b]) (by rw [List.getElem?_eq_getElem hl, List.getElem_idxOf]) (by rw [hw]; exact List.prefix_refl _) (by simp)
      rw [hj, hw]
      simp
    · have hp : p ++ [b] <+: W.getD i [] := ⟨t, by rw [hw]; simp⟩
      have hm : p ++ [b] ∉ W := by
        intro hm
        obtain ⟨j, hj⟩ := List.mem_iff_getElem?.1 hm
        have := h1 j _ hj hp (by simp)
        subst this
        rw [hs, hw] at hj
        have := congrArg (fun x => (x.getD []).length) hj
        simp at this
        exact ht this
      rw [if_neg hm, if_pos]
      · exact look_fre W i rest ⟨h0, h1⟩ t (p ++ [b]) (by rw [hw]; simp) ht
      · rw [List.any_eq_true]
        exact ⟨_, List.mem_of_getElem? hs, by
          rw [Bool.and_eq_true]
          exact ⟨by simpa using h0, List.isPrefixOf_iff_prefix.2 hp⟩⟩
theorem next_is {W : List (List Bool)} {L r : List Bool} {a i : Nat} (hf : Fre W i) (h : L.drop a = W.getD i [] ++ r) : nextR W L a = .ok (i, a + (W.getD i []).length) := by
  unfold nextR
  have e := look_fre W i r hf (W.getD i []) [] (List.nil_append _).symm hf.1
  rw [h, e]
theorem canon_fre (L : List Nat) (hL : ∀ n ∈ L, 1 ≤ n ∧ n ≤ 30) (hT : startN L 31 ≤ 1073741824) (i : Nat) (hi : i < L.length) : Fre (canonW L) i := by
  have hi' : i < (canonW L).length := by rw [canonW_length]; exact hi
  have hg : (canonW L).getD i [] = (canonW L)[i] := by rw [List.getD_eq_getElem?_getD, List.getElem?_eq_getElem hi']; rfl
  have hl := canonW_len L i hi' hi
  have h30 : ∀ j (h : j < L.length), L[j] ≤ 30 := fun j h => (hL _ (List.getElem_mem h)).2
  have h1 : ∀ j (h : j < L.length), 1 ≤ L[j] := fun j h => (hL _ (List.getElem_mem h)).1
  refine ⟨?_, fun j v hj hp hv => ?_⟩
  · rw [hg]
    intro e
    rw [e] at hl
    have := h1 i hi
    simp at hl
    omega
  · obtain ⟨hj1, hj2⟩ := List.getElem?_eq_some_iff.1 hj
    have hj3 : j < L.length := by rw [canonW_length] at hj1; exact hj1
    refine Classical.byContradiction fun hne => ?_
    refine canon_free L h30 hT j i hj3 hi hne (by have := h1 j hj3; omega) ?_
    rw [← canonW_get L j hj1 hj3, ← canonW_get L i hi' hi, hj2, ← hg]
    exact hp

def lastLe (F : List Nat) (n : Nat) : Nat → Nat
  | 0 => 0
  | i + 1 => if n < F.getD (i + 1) 0 then lastLe F n i else i + 1
theorem lastLe_le (F : List Nat) (n : Nat) : ∀ k, lastLe F n k ≤ k
  | 0 => Nat.le_refl _
  | i + 1 => by
    rw [lastLe]
    split
    · have := lastLe_le F n i; omega
    · omega
theorem lastLe_low (F : List Nat) (n : Nat) (h : F.getD 0 0 ≤ n) : ∀ k, F.getD (lastLe F n k) 0 ≤ n
  | 0 => h
  | i + 1 => by
    rw [lastLe]
    split
    · exact lastLe_low F n h i
    · omega
theorem lastLe_high (F : List Nat) (n : Nat) : ∀ k, lastLe F n k < k → n < F.getD (lastLe F n k + 1) 0
  | 0, h => by omega
  | i + 1, h => by
    rw [lastLe] at h ⊢
    split
    · rename_i hc
      have := lastLe_le F n i
      by_cases hk : lastLe F n i < i
      · exact lastLe_high F n i hk
      · have e : lastLe F n i = i := by omega
        rw [e]; exact hc
    · rename_i hc
      rw [if_neg hc] at h
      omega
/-- the place of a length or a distance -/
def placeN (far : Bool) (n : Nat) : Nat := lastLe (froms far) n ((froms far).length - 1)
def moreB (far : Bool) (n : Nat) : List Bool := wordE true (n - (froms far).getD (placeN far n) 0) ((extras far).getD (placeN far n) 0)
def most1 (far : Bool) : Nat := if far then 32768 else 258
def least1 (far : Bool) : Nat := if far then 1 else 3
theorem place_lt (far : Bool) (n : Nat) : placeN far n < (froms far).length := by
  have := lastLe_le (froms far) n ((froms far).length - 1)
  have h : 0 < (froms far).length := by cases far <;> decide
  unfold placeN
  omega
theorem steps_ok : ∀ far : Bool, ∀ i, i < (froms far).length - 1 → (froms far).getD (i + 1) 0 ≤ (froms far).getD i 0 + 2 ^ (extras far).getD i 0 := by decide +kernel
theorem last_ok : ∀ far : Bool, most1 far < (froms far).getD ((froms far).length - 1) 0 + 2 ^ (extras far).getD ((froms far).length - 1) 0 := by decide +kernel
theorem place_low (far : Bool) (n : Nat) (h : least1 far ≤ n) : (froms far).getD (placeN far n) 0 ≤ n :=
  lastLe_low _ n (by cases far <;> exact h) _
theorem place_high (far : Bool) (n : Nat) (h0 : least1 far ≤ n) (h : n ≤ most1 far) : n - (froms far).getD (placeN far n) 0 < 2 ^ (extras far).getD (placeN far n) 0 := by
  have hl := place_low far n h0
  have hp := lastLe_le (froms far) n ((froms far).length - 1)
  have hh := lastLe_high (froms far) n ((froms far).length - 1)
  change placeN far n ≤ _ at hp
  change placeN far n < _ → n < (froms far).getD (placeN far n + 1) 0 at hh
  generalize placeN far n = i at *
  by_cases hi : i < (froms far).length - 1
  · have := hh hi
    have := steps_ok far i hi
    omega
  · have e : i = (froms far).length - 1 := by omega
    subst e
    have := last_ok far
    omega
theorem number_is {far : Bool} {L r : List Bool} {a n : Nat} (h0 : least1 far ≤ n) (h1 : n ≤ most1 far) (h : L.drop a = moreB far n ++ r) (ha : a ≤ L.length) : numberR far L (placeN far n) a = .ok (n, a + (moreB far n).length) := by
  unfold numberR
  rw [if_pos (place_lt far n), num_is h ha (place_high far n h0 h1), R.then_ok, moreB, wordE_length]
  have := place_low far n h0
  rw [show (froms far).getD (placeN far n) 0 + (n - (froms far).getD (placeN far n) 0) = n from by omega]

/-- a byte, or a copy -/
structure Tok where
  lit : UInt8
  len : Int
  dist : Int
/-- what tokens stand for, if they can be -/
def rightT (lim : Nat) : List Tok → List UInt8 → Option (List UInt8)
  | [], out => some out
  | t :: l, out => if t.len = 0 then rightT lim l (out ++ [t.lit])
      else if t.len < 3 ∨ 258 < t.len ∨ t.dist < 1 ∨ (out.length : Int) < t.dist ∨ 32768 < t.dist ∨ lim < out.length then none
      else rightT lim l (copyN out t.dist.toNat t.len.toNat)
def tokB (A B : List (List Bool)) (t : Tok) : List Bool :=
  if t.len = 0 then A.getD t.lit.toNat []
  else A.getD (257 + placeN false t.len.toNat) [] ++ (moreB false t.len.toNat ++ (B.getD (placeN true t.dist.toNat) [] ++ moreB true t.dist.toNat))
def toldB (A B : List (List Bool)) : List Tok → List Bool
  | [] => A.getD 256 []
  | t :: l => tokB A B t ++ toldB A B l
theorem right_grows {lim : Nat} : ∀ (l : List Tok) (out o : List UInt8), rightT lim l out = some o → out.length ≤ o.length
  | [], out, o, h => by cases h; exact Nat.le_refl _
  | t :: l, out, o, h => by
    rw [rightT] at h
    split at h
    · have := right_grows l _ o h
      simp at this
      omega
    · split at h
      · cases h
      · have := right_grows l _ o h
        rw [copyN_length] at this
        omega
theorem block_is {A B : List (List Bool)} (hA : ∀ i, i < 286 → Fre A i) (hB : ∀ i, i < 30 → Fre B i) {L : List Bool} {most : Nat} {rest : List Bool} {o : List UInt8} {lim : Nat} (ho : o.length ≤ most) :
    ∀ (l : List Tok) (out : List UInt8) (a f : Nat), rightT lim l out = some o → L.drop a = toldB A B l ++ rest → a ≤ L.length → l.length < f →
      blockR A B L most f a out = .ok (o, a + (toldB A B l).length)
  | [], out, a, 0, hr, hd, ha, hf => by simp at hf
  | t :: l, out, a, 0, hr, hd, ha, hf => by simp at hf
  | [], out, a, f + 1, hr, hd, ha, hf => by
    cases hr
    rw [blockR, next_is (hA 256 (by omega)) hd, R.then_ok, if_pos rfl, toldB]
  | t :: l, out, a, f + 1, hr, hd, ha, hf => by
    have hf' : l.length < f := by simp at hf; omega
    rw [rightT] at hr
    rw [toldB, List.append_assoc] at hd
    by_cases h0 : t.len = 0
    · rw [if_pos h0] at hr
      have hg := right_grows l _ o hr
      simp at hg
      have hlt : t.lit.toNat < 256 := t.lit.toNat_lt
      rw [tokB, if_pos h0] at hd
      have hle := drop_le hd ha
      rw [blockR, next_is (hA _ (by omega)) hd, R.then_ok, if_neg (by omega), if_pos hlt, if_neg (by omega), UInt8.ofNat_toNat,
        block_is hA hB ho l _ _ f hr (drop_more hd) hle hf', toldB, tokB, if_pos h0, List.length_append, Nat.add_assoc]
    · rw [if_neg h0] at hr
      split at hr
      · cases hr
      · rename_i hc
        have hg := right_grows l _ o hr
        rw [copyN_length] at hg
        rw [tokB, if_neg h0] at hd
        simp only [List.append_assoc] at hd
        have hp1 := place_lt false t.len.toNat
        have hp2 := place_lt true t.dist.toNat
        have e1 : (froms false).length = 29 := rfl
        have e2 : (froms true).length = 30 := rfl
        have a1 := drop_le hd ha
        have d1 := drop_more hd
        have a2 := drop_le d1 a1
        have d2 := drop_more d1
        have a3 := drop_le d2 a2
        have d3 := drop_more d2
        have a4 := drop_le d3 a3
        have d4 := drop_more d3
        rw [blockR, next_is (hA _ (by omega)) hd, R.then_ok, if_neg (by omega), if_neg (by omega), Nat.add_sub_cancel_left,
          number_is (far := false) (by show 3 ≤ _; omega) (by show _ ≤ 258; omega) d1 a1, R.then_ok, next_is (hB _ (by omega)) d2, R.then_ok,
          number_is (far := true) (by show 1 ≤ _; omega) (by show _ ≤ 32768; omega) d3 a3, R.then_ok, if_neg (by omega), if_neg (by omega),
          block_is hA hB ho l _ _ f hr d4 a4 hf', toldB, tokB, if_neg h0]
        simp only [List.length_append, Nat.add_assoc]
theorem fixedA_ok : (∀ n ∈ fixedA, 1 ≤ n ∧ n ≤ 30) ∧ startN fixedA 31 = 1073741824 ∧ fixedA.length = 288 := by decide +kernel
theorem fixedB_ok : (∀ n ∈ fixedB, 1 ≤ n ∧ n ≤ 30) ∧ startN fixedB 31 ≤ 1073741824 ∧ fixedB.length = 30 := by decide +kernel
theorem freA (i : Nat) (h : i < 288) : Fre (canonW fixedA) i := canon_fre _ fixedA_ok.1 (Nat.le_of_eq fixedA_ok.2.1) i (by rw [fixedA_ok.2.2]; exact h)
theorem freB (i : Nat) (h : i < 30) : Fre (canonW fixedB) i := canon_fre _ fixedB_ok.1 fixedB_ok.2.1 i (by rw [fixedB_ok.2.2]; exact h)
end Go.Proofs.YtgddpjnikgcamaaDoor.Inf

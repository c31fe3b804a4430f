
/- What tokens of LZ77 stand for, in plain words; no program in sight. -/
import Derived.Test.YtboknaakcbjkiaaBase
namespace Go.Proofs.Ytboknaakcbjkiaa.Lzt
set_option linter.unusedVariables false
set_option linter.unusedSimpArgs false

structure Tok where
  lit : UInt8
  len : Int
  dist : Int
def copyN (out : List UInt8) (d : Nat) : Nat → List UInt8
  | 0 => out
  | n + 1 => copyN (out ++ [out.getD (out.length - d) 0]) d n
theorem copyN_length (d : Nat) : ∀ (n : Nat) (out : List UInt8), (copyN out d n).length = out.length + n
  | 0, out => rfl
  | n + 1, out => by rw [copyN, copyN_length d n]; simp; omega
theorem copyN_prefix (p : List UInt8) (d : Nat) (hd : 1 ≤ d) : ∀ (n : Nat) (out : List UInt8), d ≤ out.length → copyN (p ++ out) d n = p ++ copyN out d n
  | 0, out, h => rfl
  | n + 1, out, h => by
    have e : (p ++ out).getD ((p ++ out).length - d) 0 = out.getD (out.length - d) 0 := by
      rw [List.getD_eq_getElem?_getD, List.getD_eq_getElem?_getD, List.length_append, List.getElem?_append_right (by omega)]
      congr 2
      omega
    rw [copyN, copyN, e, List.append_assoc]
    exact copyN_prefix p d hd n (out ++ [out.getD (out.length - d) 0]) (by simp; omega)
/-- one token -/
def stepX (most : Int) (t : Tok) (out : List UInt8) : Except Nat (List UInt8) :=
  if t.len = 0 then (if most < (out.length : Int) + 1 then .error 8 else .ok (out ++ [t.lit]))
  else if t.len < 3 ∨ 258 < t.len ∨ t.dist < 1 ∨ 32768 < t.dist then .error 1
  else if (out.length : Int) < t.dist then .error 3
  else if most < (out.length : Int) + t.len then .error 8 else .ok (copyN out t.dist.toNat t.len.toNat)
/-- what tokens stand for, behind what came -/
def expX (most : Int) : List Tok → List UInt8 → Except Nat (List UInt8)
  | [], out => .ok out
  | t :: l, out => match stepX most t out with
    | .ok o => expX most l o
    | .error e => .error e
theorem exp_cons (most : Int) (t : Tok) (l : List Tok) (out : List UInt8) : expX most (t :: l) out = match stepX most t out with
    | .ok o => expX most l o
    | .error e => .error e := rfl
theorem exp_ok {most : Int} {t : Tok} {l : List Tok} {out o : List UInt8} (h : stepX most t out = .ok o) : expX most (t :: l) out = expX most l o := by rw [exp_cons, h]
theorem exp_err {most : Int} {t : Tok} {l : List Tok} {out : List UInt8} {e : Nat} (h : stepX most t out = .error e) : expX most (t :: l) out = .error e := by rw [exp_cons, h]
theorem exp_append (most : Int) : ∀ (l r : List Tok) (out : List UInt8), expX most (l ++ r) out = match expX most l out with
    | .ok o => expX most r o
    | .error e => .error e
  | [], r, out => rfl
  | t :: l, r, out => by
    rw [List.cons_append, exp_cons, exp_cons]
    rcases h : stepX most t out with e | o
    · rfl
    · exact exp_append most l r o
/-- a token that can be told: what comes of it -/
theorem step_ok {most : Int} {t : Tok} {out o : List UInt8} (h : stepX most t out = .ok o) : (o.length : Int) ≤ most ∧ out.length < o.length := by
  unfold stepX at h
  split at h
  · split at h
    · cases h
    · cases h
      rw [List.length_append]
      simp
      omega
  · split at h
    · cases h
    · split at h
      · cases h
      · split at h
        · cases h
        · cases h
          rw [copyN_length]
          omega
/-- with another limit, and something ahead -/
theorem step_more {m m2 : Int} {t : Tok} {p out o : List UInt8} (h : stepX m t out = .ok o) : stepX m2 t (p ++ out) = if m2 < (p.length : Int) + (o.length : Int) then .error 8 else .ok (p ++ o) := by
  unfold stepX at h
  unfold stepX
  rw [List.length_append]
  by_cases h0 : t.len = 0
  · rw [if_pos h0] at h ⊢
    split at h
    · cases h
    · cases h
      rw [List.length_append, List.append_assoc]
      have e : (m2 < ((p.length + out.length : Nat) : Int) + 1) = (m2 < (p.length : Int) + ((out.length + [t.lit].length : Nat) : Int)) := by simp; omega
      simp only [e]
  · rw [if_neg h0] at h ⊢
    by_cases h1 : t.len < 3 ∨ 258 < t.len ∨ t.dist < 1 ∨ 32768 < t.dist
    · rw [if_pos h1] at h; cases h
    · rw [if_neg h1] at h ⊢
      by_cases h2 : (out.length : Int) < t.dist
      · rw [if_pos h2] at h; cases h
      · rw [if_neg h2] at h
        rw [if_neg (by omega)]
        split at h
        · cases h
        · cases h
          rw [copyN_prefix p _ (by omega) _ _ (by omega), copyN_length]
          have e : (m2 < ((p.length + out.length : Nat) : Int) + t.len) = (m2 < (p.length : Int) + ((out.length + t.len.toNat : Nat) : Int)) := by
            apply propext
            constructor <;> intro <;> omega
          simp only [e]
theorem exp_grows {m : Int} : ∀ (l : List Tok) (out o : List UInt8), expX m l out = .ok o → out.length ≤ o.length
  | [], out, o, h => by cases h; exact Nat.le_refl _
  | t :: l, out, o, h => by
    rcases hs : stepX m t out with e | o1
    · rw [exp_err hs] at h; cases h
    · rw [exp_ok hs] at h
      have h1 := exp_grows l o1 o h
      have h2 := (step_ok hs).2
      omega
/-- no more tokens than bytes -/
theorem exp_count {m : Int} : ∀ (l : List Tok) (out o : List UInt8), expX m l out = .ok o → out.length + l.length ≤ o.length
  | [], out, o, h => by cases h; simp
  | t :: l, out, o, h => by
    rcases hs : stepX m t out with e | o1
    · rw [exp_err hs] at h; cases h
    · rw [exp_ok hs] at h
      have h1 := exp_count l o1 o h
      have h2 := (step_ok hs).2
      simp
      omega
/-- the same tokens behind something else, with room enough -/
theorem exp_more {m m2 : Int} (p : List UInt8) : ∀ (l : List Tok) (out o : List UInt8), expX m l out = .ok o → (p.length : Int) + (o.length : Int) ≤ m2 → expX m2 l (p ++ out) = .ok (p ++ o)
  | [], out, o, h, hm => by cases h; rfl
  | t :: l, out, o, h, hm => by
    rcases hs : stepX m t out with e | o1
    · rw [exp_err hs] at h; cases h
    · rw [exp_ok hs] at h
      have h1 := exp_grows l o1 o h
      have h2 := step_more (m2 := m2) (p := p) hs
      rw [if_neg (by omega)] at h2
      rw [exp_ok h2]
      exact exp_more p l o1 o h hm
/-- with too little room -/
theorem exp_less {m m2 : Int} : ∀ (l : List Tok) (out o : List UInt8), l ≠ [] → expX m l out = .ok o → m2 < (o.length : Int) → expX m2 l out = .error 8
  | [], out, o, hne, h, hm => absurd rfl hne
  | t :: l, out, o, hne, h, hm => by
    rcases hs : stepX m t out with e | o1
    · rw [exp_err hs] at h; cases h
    · rw [exp_ok hs] at h
      have h2 := step_more (m2 := m2) (p := []) hs
      simp only [List.nil_append, List.length_nil] at h2
      by_cases hlt : m2 < (o1.length : Int)
      · rw [if_pos (by omega)] at h2
        exact exp_err h2
      · rw [if_neg (by omega)] at h2
        rw [exp_ok h2]
        refine exp_less l o1 o (fun e => ?_) h hm
        subst e
        cases h
        exact hlt hm
/-- two texts' tokens, one behind the other -/
theorem exp_join {m1 m2 m : Int} {l r : List Tok} {a b : List UInt8} (h1 : expX m1 l [] = .ok a) (h2 : expX m2 r [] = .ok b) (hm : (a.length : Int) + (b.length : Int) ≤ m) : expX m (l ++ r) [] = .ok (a ++ b) := by
  have e1 := exp_more (m2 := m) [] l [] a h1 (by simp; omega)
  have e2 := exp_more (m2 := m) a r [] b h2 hm
  simp only [List.nil_append] at e1
  rw [List.append_nil] at e2
  rw [exp_append, e1]
  exact e2
/-- a text told piece by piece: a byte more -/
theorem tell_lit {m : Int} {l : List Tok} {b : List UInt8} {i : Nat} (h : expX m l [] = .ok (b.take i)) (hi : i < b.length) (hm : (i : Int) < m) : expX m (l ++ [⟨b[i], 0, 0⟩]) [] = .ok (b.take (i + 1)) := by
  rw [exp_append, h]
  show expX m [⟨b[i], 0, 0⟩] (b.take i) = _
  have hl : (b.take i).length = i := by rw [List.length_take]; omega
  have hs : stepX m ⟨b[i], 0, 0⟩ (b.take i) = .ok (b.take i ++ [b[i]]) := by
    unfold stepX
    rw [if_pos rfl, if_neg (by rw [hl]; omega)]
  rw [exp_ok hs, List.take_succ_eq_append_getElem hi]
  rfl
/-- bytes that came before, copied -/
theorem copy_take {b : List UInt8} {d : Nat} (hd : 1 ≤ d) : ∀ (n i : Nat), d ≤ i → i + n ≤ b.length → (∀ k, i ≤ k → k < i + n → b[k]? = b[k - d]?) → copyN (b.take i) d n = b.take (i + n)
  | 0, i, h1, h2, h3 => rfl
  | n + 1, i, h1, h2, h3 => by
    have hl : (b.take i).length = i := by rw [List.length_take]; omega
    have hi : i < b.length := by omega
    have e : (b.take i).getD ((b.take i).length - d) 0 = b[i] := by
      rw [hl, List.getD_eq_getElem?_getD, List.getElem?_take, if_pos (by omega), ← h3 i (Nat.le_refl _) (by omega), List.getElem?_eq_getElem hi]
      rfl
    rw [copyN, e, ← List.take_succ_eq_append_getElem hi, copy_take hd n (i + 1) (by omega) (by omega) (fun k k1 k2 => h3 k (by omega) (by omega))]
    congr 1
    omega
/-- a text told piece by piece: a copy -/
theorem tell_copy {m : Int} {l : List Tok} {b : List UInt8} {i n d : Nat} (h : expX m l [] = .ok (b.take i)) (hn : 3 ≤ n) (hn2 : n ≤ 258) (hd : 1 ≤ d) (hd2 : d ≤ 32768) (hdi : d ≤ i) (hin : i + n ≤ b.length) (hm : ((i + n : Nat) : Int) ≤ m)
    (hb : ∀ k, i ≤ k → k < i + n → b[k]? = b[k - d]?) : expX m (l ++ [⟨0, (n : Int), (d : Int)⟩]) [] = .ok (b.take (i + n)) := by
  rw [exp_append, h]
  show expX m [⟨0, (n : Int), (d : Int)⟩] (b.take i) = _
  have hl : (b.take i).length = i := by rw [List.length_take]; omega
  have hs : stepX m ⟨0, (n : Int), (d : Int)⟩ (b.take i) = .ok (b.take (i + n)) := by
    unfold stepX
    rw [if_neg (by show ¬ (n : Int) = 0; omega), if_neg (by show ¬ ((n : Int) < 3 ∨ 258 < (n : Int) ∨ (d : Int) < 1 ∨ 32768 < (d : Int)); omega), if_neg (by rw [hl]; show ¬ (i : Int) < (d : Int); omega),
      if_neg (by rw [hl]; show ¬ m < (i : Int) + (n : Int); omega)]
    show Except.ok (copyN (b.take i) ((d : Int).toNat) ((n : Int).toNat)) = _
    rw [Int.toNat_natCast, Int.toNat_natCast, copy_take hd n i hdi hin hb]
  rw [exp_ok hs]
  rfl
/-- a copy is right: the same bytes d ahead -/
theorem same_part {b : List UInt8} {i n d : Nat} (hdi : d ≤ i) (hin : i + n ≤ b.length) (h : ∀ k, k < n → b[i + k]? = b[i - d + k]?) : ∀ k, i ≤ k → k < i + n → b[k]? = b[k - d]? := by
  intro k h1 h2
  have := h (k - i) (by omega)
  rw [show i + (k - i) = k from by omega, show i - d + (k - i) = k - d from by omega] at this
  exact this
end Go.Proofs.Ytboknaakcbjkiaa.Lzt

/- Packed bytes: what a piece stands for, what so many bytes of packed ones are, and when a text is packed; no program in sight. -/
import Derived.Test.YtcgoejijeeeanaaOctM
namespace Go.Proofs.Ytcgoejijeeeanaa.Pb
set_option linter.unusedVariables false

/-- the first piece: what it stands for, and how many bytes it takes -/
def piece : List UInt8 → Option (List UInt8 × Nat)
  | [] => none
  | c :: rest =>
    if c.toNat = 128 then some ([], 1)
    else if c.toNat < 128 then (if rest.length ≤ c.toNat then none else some (rest.take (c.toNat + 1), c.toNat + 2))
    else match rest with
      | [] => none
      | y :: _ => some (List.replicate (257 - c.toNat) y, 2)
theorem piece_nil : piece [] = none := rfl
theorem piece_128 (c : UInt8) (rest : List UInt8) (h : c.toNat = 128) : piece (c :: rest) = some ([], 1) := by
  simp [piece, h]
theorem piece_short (c : UInt8) (rest : List UInt8) (h : c.toNat < 128) (hl : rest.length ≤ c.toNat) : piece (c :: rest) = none := by
  have : ¬ c.toNat = 128 := by omega
  simp [piece, this, h, hl]
theorem piece_lit (c : UInt8) (rest : List UInt8) (h : c.toNat < 128) (hl : c.toNat < rest.length) : piece (c :: rest) = some (rest.take (c.toNat + 1), c.toNat + 2) := by
  have h1 : ¬ c.toNat = 128 := by omega
  have h2 : ¬ rest.length ≤ c.toNat := by omega
  simp [piece, h1, h, h2]
theorem piece_one (c : UInt8) (h : 128 < c.toNat) : piece [c] = none := by
  have h1 : ¬ c.toNat = 128 := by omega
  have h2 : ¬ c.toNat < 128 := by omega
  simp [piece, h1, h2]
theorem piece_run (c y : UInt8) (t : List UInt8) (h : 128 < c.toNat) : piece (c :: y :: t) = some (List.replicate (257 - c.toNat) y, 2) := by
  have h1 : ¬ c.toNat = 128 := by omega
  have h2 : ¬ c.toNat < 128 := by omega
  simp [piece, h1, h2]
theorem piece_size {l p : List UInt8} {k : Nat} (h : piece l = some (p, k)) : 1 ≤ k ∧ k ≤ l.length ∧ p.length ≤ 128 := by
  rcases l with _ | ⟨c, rest⟩
  · simp [piece] at h
  · have hc : c.toNat < 256 := c.toNat_lt
    rcases Nat.lt_trichotomy c.toNat 128 with h1 | h1 | h1
    · by_cases hl : rest.length ≤ c.toNat
      · rw [piece_short c rest h1 hl] at h; cases h
      · rw [piece_lit c rest h1 (by omega)] at h
        injection h with h; injection h with e1 e2
        subst e1; subst e2
        simp; omega
    · rw [piece_128 c rest h1] at h
      injection h with h; injection h with e1 e2
      subst e1; subst e2
      simp
    · rcases rest with _ | ⟨y, t⟩
      · rw [piece_one c h1] at h; cases h
      · rw [piece_run c y t h1] at h
        injection h with h; injection h with e1 e2
        subst e1; subst e2
        simp; omega
/-- so many bytes of packed ones, some being there already: the bytes, how many packed ones that took, the error -/
def dec (n : Nat) (out : List UInt8) (a : Nat) (rest : List UInt8) : List UInt8 × Nat × Nat :=
  if out.length < n then
    match h : piece rest with
    | none => ([], 0, 2)
    | some (p, k) => if n < (out ++ p).length then ([], 0, 5) else dec n (out ++ p) (a + k) (rest.drop k)
  else (out, a, 0)
termination_by rest.length
decreasing_by
  have := piece_size h
  simp
  omega
theorem dec_done {n : Nat} {out : List UInt8} {a : Nat} {rest : List UInt8} (h : n ≤ out.length) : dec n out a rest = (out, a, 0) := by
  rw [dec, if_neg (by omega)]
theorem dec_cut {n : Nat} {out : List UInt8} {a : Nat} {rest : List UInt8} (h : out.length < n) (hp : piece rest = none) : dec n out a rest = ([], 0, 2) := by
  rw [dec, if_pos h]
  split
  · rfl
  · rename_i p k e; rw [hp] at e; cases e
theorem dec_long {n : Nat} {out : List UInt8} {a : Nat} {rest p : List UInt8} {k : Nat} (h : out.length < n) (hp : piece rest = some (p, k)) (hl : n < (out ++ p).length) : dec n out a rest = ([], 0, 5) := by
  rw [dec, if_pos h]
  split
  · rename_i e; rw [hp] at e; cases e
  · rename_i p' k' e
    rw [hp] at e
    injection e with e; injection e with e1 e2
    subst e1; subst e2
    rw [if_pos hl]
theorem dec_step {n : Nat} {out : List UInt8} {a : Nat} {rest p : List UInt8} {k : Nat} (h : out.length < n) (hp : piece rest = some (p, k)) (hl : (out ++ p).length ≤ n) : dec n out a rest = dec n (out ++ p) (a + k) (rest.drop k) := by
  rw [dec, if_pos h]
  split
  · rename_i e; rw [hp] at e; cases e
  · rename_i p' k' e
    rw [hp] at e
    injection e with e; injection e with e1 e2
    subst e1; subst e2
    rw [if_neg (by omega)]
/-- bytes that are one whole piece, and stand for these -/
def Pc (o x : List UInt8) : Prop := 1 ≤ x.length ∧ (∀ t, piece (o ++ t) = some (x, o.length)) ∧ ∀ i, i < o.length → piece (o.take i) = none
theorem pc_run (c y : UInt8) (n : Nat) (h2 : 2 ≤ n) (hn : n ≤ 128) (hc : c.toNat = 257 - n) : Pc [c, y] (List.replicate n y) := by
  refine ⟨by simp; omega, fun t => ?_, fun i hi => ?_⟩
  · have := piece_run c y t (by omega)
    rw [hc, show 257 - (257 - n) = n by omega] at this
    exact this
  · simp at hi
    rcases i with _ | _ | i
    · rfl
    · exact piece_one c (by omega)
    · omega
theorem pc_lit (c : UInt8) (ys : List UInt8) (hl : ys.length ≤ 128) (hc : c.toNat + 1 = ys.length) : Pc (c :: ys) ys := by
  refine ⟨by omega, fun t => ?_, fun i hi => ?_⟩
  · have := piece_lit c (ys ++ t) (by omega) (by simp; omega)
    rw [List.cons_append, this, hc]
    simp
    omega
  · rcases i with _ | i
    · rfl
    · simp at hi
      rw [List.take_succ_cons]
      exact piece_short c _ (by omega) (by simp; omega)
/-- packed bytes that are whole pieces, none of them of nothing, and stand for these -/
def Pk (out xs : List UInt8) : Prop :=
  ∃ ps : List (List UInt8 × List UInt8), (∀ q ∈ ps, Pc q.1 q.2) ∧ out = (ps.map Prod.fst).flatten ∧ xs = (ps.map Prod.snd).flatten
theorem Pk.nil : Pk [] [] := ⟨[], by simp, rfl, rfl⟩
theorem Pk.join {a b xs ys : List UInt8} (h1 : Pk a xs) (h2 : Pk b ys) : Pk (a ++ b) (xs ++ ys) := by
  obtain ⟨ps, hp, rfl, rfl⟩ := h1
  obtain ⟨qs, hq, rfl, rfl⟩ := h2
  refine ⟨ps ++ qs, fun q h => ?_, by simp, by simp⟩
  rcases List.mem_append.1 h with h | h
  · exact hp q h
  · exact hq q h
theorem Pc.pk {o x : List UInt8} (h : Pc o x) : Pk o x := ⟨[(o, x)], by simpa using h, by simp, by simp⟩
theorem Pk.dec {out xs : List UInt8} (h : Pk out xs) : ∀ (n : Nat) (o : List UInt8) (a : Nat) (t : List UInt8), o.length + xs.length ≤ n → dec n o a (out ++ t) = dec n (o ++ xs) (a + out.length) t := by
  obtain ⟨ps, hp, rfl, rfl⟩ := h
  induction ps with
  | nil => intro n o a t _; simp
  | cons q ps ih =>
    intro n o a t hn
    obtain ⟨h1, h2, _⟩ := hp q (by simp)
    simp only [List.map_cons, List.flatten_cons, List.length_append, List.append_assoc] at hn ⊢
    rw [dec_step (by omega) (h2 _) (by rw [List.length_append]; omega), List.drop_left, ih (fun q h => hp q (by simp [h])) n (o ++ q.2) _ t (by rw [List.length_append]; omega)]
    simp [Nat.add_assoc]
theorem Pk.cut {out xs : List UInt8} (h : Pk out xs) : ∀ (n : Nat) (o : List UInt8) (a i : Nat), o.length + xs.length ≤ n → i < out.length → Pb.dec n o a (out.take i) = ([], 0, 2) := by
  obtain ⟨ps, hp, rfl, rfl⟩ := h
  induction ps with
  | nil => intro n o a i _ hi; simp at hi
  | cons q ps ih =>
    intro n o a i hn hi
    obtain ⟨h1, h2, h3⟩ := hp q (by simp)
    simp only [List.map_cons, List.flatten_cons, List.length_append] at hn hi ⊢
    by_cases hq : i < q.1.length
    · rw [List.take_append_of_le_length (by omega), dec_cut (by omega) (h3 i hq)]
    · rw [List.take_append, List.take_of_length_le (by omega), dec_step (by omega) (h2 _) (by rw [List.length_append]; omega), List.drop_left]
      exact ih (fun q h => hp q (by simp [h])) n _ _ _ (by rw [List.length_append]; omega) (by omega)
/-- whole: the text comes back, whatever stands behind it -/
theorem Pk.back {out xs : List UInt8} (h : Pk out xs) (t : List UInt8) : Pb.dec xs.length [] 0 (out ++ t) = (xs, out.length, 0) := by
  rw [h.dec xs.length [] 0 t (by simp), dec_done (by simp)]
  simp
/-- the first three bytes are equal -/
def three (l : List UInt8) : Bool := match l with
  | a :: b :: c :: _ => a == b && b == c
  | _ => false
theorem three_short (l : List UInt8) (h : l.length < 3) : three l = false := by
  rcases l with _ | ⟨a, _ | ⟨b, _ | ⟨c, l⟩⟩⟩ <;> first | rfl | (simp at h; omega)
theorem three_long (l : List UInt8) (h : 3 ≤ l.length) : three l = (l[0] == l[1] && l[1] == l[2]) := by
  rcases l with _ | ⟨a, _ | ⟨b, _ | ⟨c, l⟩⟩⟩ <;> first | rfl | (simp at h)
/-- hardly longer: o packed bytes stand for d, and these come behind -/
def Slim (o d : Nat) (rest : List UInt8) : Prop := o ≤ d + d / 128 ∨ (1 ≤ d ∧ o ≤ d + 1 + (d - 1) / 128 ∧ (rest ≠ [] → three rest = true))
theorem Slim.start (l : List UInt8) : Slim 0 0 l := .inl (by omega)
theorem Slim.end_ {o d : Nat} (h : Slim o d []) : o ≤ d + (d + 127) / 128 := by
  rcases h with h | ⟨h1, h2, _⟩ <;> omega
/-- how many of the first bytes are equal: what the program's loop answers -/
def Eqs (l : List UInt8) (n : Nat) : Prop := 1 ≤ n ∧ n ≤ min l.length 128 ∧ (∀ i (h : i < l.length), i < n → l[i] = l[0]'(by omega)) ∧ (∀ h : n < l.length, n < 128 → l[n] ≠ l[0]'(by omega))
theorem Eqs.take {l : List UInt8} {n : Nat} (h : Eqs l n) (h0 : 0 < l.length) : l.take n = List.replicate n (l[0]'h0) := by
  obtain ⟨h1, h2, h3, _⟩ := h
  apply List.ext_getElem
  · simp; omega
  · intro i hi hi'
    simp at hi hi' ⊢
    exact h3 i (by omega) hi'
theorem Eqs.three {l : List UInt8} {n : Nat} (h : Eqs l n) (h3 : three l = true) : 3 ≤ n := by
  obtain ⟨h1, h2, _, h4⟩ := h
  have hl : 3 ≤ l.length := by
    rcases Nat.lt_or_ge l.length 3 with hl | hl
    · rw [three_short l hl] at h3; cases h3
    · exact hl
  rw [three_long l hl] at h3
  simp at h3
  rcases Nat.lt_or_ge n 3 with hn | hn
  · exfalso
    have := h4 (by omega) (by omega)
    have e : n = 1 ∨ n = 2 := by omega
    rcases e with rfl | rfl
    · exact this h3.1.symm
    · exact this (h3.2.symm.trans h3.1.symm)
  · exact hn
theorem Slim.run {o d n : Nat} {l : List UInt8} (h : Slim o d l) (hE : Eqs l n) (h2 : 2 ≤ n) : Slim (o + 2) (d + n) (l.drop n) := by
  left
  rcases h with h | ⟨h1, h2', h3⟩
  · omega
  · have hl : l ≠ [] := by
      intro e
      have := hE.2.1
      rw [e] at this
      simp at this
      omega
    have := hE.three (h3 hl)
    omega
/-- how many bytes go ahead of three equal ones: what the program's loop answers -/
def Lits (l : List UInt8) (n : Nat) : Prop := 1 ≤ n ∧ n ≤ min l.length 128 ∧ (n < min l.length 128 → Pb.three (l.drop n) = true)
theorem Slim.lit {o d n : Nat} {l : List UInt8} (h : Slim o d l) (hE : Eqs l 1) (hL : Lits l n) : Slim (o + (n + 1)) (d + n) (l.drop n) := by
  obtain ⟨h1, h2, h3⟩ := hL
  have hs : o ≤ d + d / 128 := by
    rcases h with h | ⟨_, _, h4⟩
    · exact h
    · have hl : l ≠ [] := by
        intro e
        rw [e] at h2
        simp at h2
        omega
      have := hE.three (h4 hl)
      omega
  by_cases hn : n = 128
  · left
    subst hn
    omega
  · right
    refine ⟨by omega, by omega, fun hr => ?_⟩
    have : n < l.length := by
      rcases Nat.lt_or_ge n l.length with h | h
      · exact h
      · exact absurd (List.drop_eq_nil_of_le h) hr
    exact h3 (by omega)
theorem dec_len {n : Nat} {out : List UInt8} {a : Nat} {rest : List UInt8} (h : (Pb.dec n out a rest).2.2 = 0) (ho : out.length ≤ n) : (Pb.dec n out a rest).1.length = n := by
  induction hm : rest.length using Nat.strongRecOn generalizing out a rest with
  | _ m ih =>
    by_cases hlt : out.length < n
    · rcases hp : piece rest with _ | ⟨p, k⟩
      · rw [dec_cut hlt hp] at h; simp at h
      · by_cases hl : n < (out ++ p).length
        · rw [dec_long hlt hp hl] at h; simp at h
        · rw [dec_step hlt hp (by omega)] at h ⊢
          have := piece_size hp
          exact ih (rest.drop k).length (by simp; omega) h (by omega) rfl
    · rw [dec_done (by omega)]
      show out.length = n
      omega
end Go.Proofs.Ytcgoejijeeeanaa.Pb

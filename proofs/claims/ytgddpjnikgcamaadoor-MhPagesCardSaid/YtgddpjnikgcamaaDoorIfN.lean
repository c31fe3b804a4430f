
/- Blocks with a lower bound, and with enough rounds; what is cut off, and what stands behind; no program in sight. -/
import Derived.Test.YtgddpjnikgcamaaDoorIfM
namespace Go.Proofs.YtgddpjnikgcamaaDoor.Inf
open Go.Proofs.YtgddpjnikgcamaaDoor.Bit Go.Proofs.YtgddpjnikgcamaaDoor.Hf
set_option linter.unusedVariables false
set_option linter.unusedSimpArgs false

/-- with m at most, as with n, but for what is too much -/
def Less (m n : Nat) (x y : R (List UInt8)) : Prop :=
  x = .error 8 ∨ (x = y ∧ ∀ o a, x = .ok (o, a) → o.length ≤ m)
theorem Less.err (m n e : Nat) : Less m n (.error e) (.error e) := .inr ⟨rfl, fun o a h => by cases h⟩
theorem Less.ok {m n : Nat} {o : List UInt8} (a : Nat) (h : o.length ≤ m) : Less m n (.ok (o, a)) (.ok (o, a)) := .inr ⟨rfl, fun o a h => by cases h; assumption⟩
theorem Less.after {α : Type} {m n : Nat} (x : R α) {f g : α → Nat → R (List UInt8)} (h : ∀ v a, Less m n (f v a) (g v a)) : Less m n (x.then f) (x.then g) := by
  cases x with
  | error e => exact Less.err m n e
  | ok v => exact h v.1 v.2
theorem Less.ite {m n : Nat} {c : Prop} [Decidable c] {x y x' y' : R (List UInt8)} (h1 : c → Less m n x y) (h2 : ¬ c → Less m n x' y') : Less m n (if c then x else x') (if c then y else y') := by
  by_cases h : c
  · simpa only [h, if_true] using h1 h
  · simpa only [h, if_false] using h2 h
theorem Less.full {m n k : Nat} {x y : R (List UInt8)} (hmn : m ≤ n) (h : k ≤ m → Less m n x y) : Less m n (if m < k then .error 8 else x) (if n < k then .error 8 else y) := by
  by_cases hm : m < k
  · left; rw [if_pos hm]
  · rw [if_neg hm, if_neg (by omega)]
    exact h (by omega)
theorem Less.full' {m n k : Nat} {x y : R (List UInt8)} (hmn : m ≤ n) (h : k < m → Less m n x y) : Less m n (if m ≤ k then .error 8 else x) (if n ≤ k then .error 8 else y) := by
  by_cases hm : m ≤ k
  · left; rw [if_pos hm]
  · rw [if_neg hm, if_neg (by omega)]
    exact h (by omega)
theorem Less.withW {m n : Nat} (x : Except Nat (List (List Bool))) {f g : List (List Bool) → R (List UInt8)} (h : ∀ W, Less m n (f W) (g W)) : Less m n (withW x f) (withW x g) := by
  cases x with
  | error e => exact Less.err m n e
  | ok v => exact h v
theorem less_bytes (L : List Bool) {m n : Nat} (hmn : m ≤ n) : ∀ (k at_ : Nat) (out : List UInt8), out.length ≤ m → Less m n (bytesR L m k at_ out) (bytesR L n k at_ out)
  | 0, at_, out, h => Less.ok at_ h
  | k + 1, at_, out, h => Less.after _ fun c a => Less.full' hmn fun hl => less_bytes L hmn k a _ (by simp; omega)
theorem less_block (A B : List (List Bool)) (L : List Bool) {m n : Nat} (hmn : m ≤ n) : ∀ (f at_ : Nat) (out : List UInt8), out.length ≤ m → Less m n (blockR A B L m f at_ out) (blockR A B L n f at_ out)
  | 0, at_, out, h => Less.err m n 0
  | f + 1, at_, out, h => Less.after _ fun v a => Less.ite (fun _ => Less.ok a h) fun _ => Less.ite (fun _ => Less.full' hmn fun hl => less_block A B L hmn f a _ (by simp; omega)) fun _ =>
      Less.after _ fun k b => Less.after _ fun j c => Less.after _ fun d e => Less.ite (fun _ => Less.err m n 3) fun _ => Less.full hmn fun hl => less_block A B L hmn f e _ (by rw [copyN_length]; exact hl)
theorem less_one (L : List Bool) {m n : Nat} (hmn : m ≤ n) (g h at_ : Nat) (out : List UInt8) (ho : out.length ≤ m) : Less m n (oneR L m g h at_ out) (oneR L n g h at_ out) :=
  Less.ite (fun _ => Less.after _ fun nm a => Less.ite (fun _ => less_bytes L hmn _ a out ho) fun _ => Less.err m n 3) fun _ =>
    Less.ite (fun _ => less_block _ _ L hmn g at_ out ho) fun _ => Less.ite (fun _ => Less.after _ fun k a => Less.ite (fun _ => Less.err m n 3) fun _ => Less.after _ fun l b =>
      Less.withW _ fun W => Less.after _ fun all c => Less.ite (fun _ => Less.err m n 3) fun _ => Less.withW _ fun A => Less.withW _ fun B => less_block A B L hmn g c out ho) fun _ => Less.err m n 3
theorem Less.go {m n : Nat} {x y : R (List UInt8)} (h : Less m n x y) {f g : List UInt8 → Nat → R (List UInt8)} (hf : ∀ o a, o.length ≤ m → Less m n (f o a) (g o a)) : Less m n (x.then f) (y.then g) := by
  rcases h with h | ⟨h, hl⟩
  · left; rw [h]; rfl
  · subst h
    cases x with
    | error e => exact Less.err m n e
    | ok v => exact hf v.1 v.2 (hl v.1 v.2 rfl)
theorem less_infl (L : List Bool) {m n : Nat} (hmn : m ≤ n) (g : Nat) : ∀ (f at_ : Nat) (out : List UInt8), out.length ≤ m → Less m n (inflR L m g f at_ out) (inflR L n g f at_ out)
  | 0, at_, out, h => Less.err m n 0
  | f + 1, at_, out, h => Less.after _ fun v a => Less.go (less_one L hmn g v a out h) fun o b ho => Less.ite (fun _ => Less.ok b ho) fun _ => less_infl L hmn g f b o ho
theorem inflate_limit {xs : List UInt8} {n m k : Nat} {o : List UInt8} (h : inflate xs n = .ok (o, k)) (hm : m < o.length) (hmn : m ≤ n) : inflate xs m = .error 8 := by
  unfold inflate at *
  rcases less_infl (bitsOf true xs) hmn (8 * xs.length + 1) (8 * xs.length + 1) 0 [] (by simp) with e | ⟨e, hl⟩
  · rw [e]
  · rw [← e] at h
    revert h
    cases hx : inflR (bitsOf true xs) m (8 * xs.length + 1) (8 * xs.length + 1) 0 [] with
    | error e => intro h; cases h
    | ok v =>
      intro h
      cases h
      exact absurd (hl v.1 v.2 hx) (by omega)
/- enough rounds -/
theorem then_congr {α β : Type} {x : R α} {f g : α → Nat → R β} (h : ∀ v a, x = .ok (v, a) → f v a = g v a) : x.then f = x.then g := by
  cases x with
  | error e => rfl
  | ok v => exact h v.1 v.2 rfl
theorem withW_congr {β : Type} {x : Except Nat (List (List Bool))} {f g : List (List Bool) → R β} (h : ∀ W, f W = g W) : withW x f = withW x g := by
  cases x with
  | error e => rfl
  | ok v => exact h v
theorem Hon.le {α : Type} {at_ : Nat} {p : List Bool → R α} (h : Hon at_ p) {L : List Bool} (hL : at_ ≤ L.length) {v : α} {a : Nat} (e : p L = .ok (v, a)) : at_ ≤ a ∧ a ≤ L.length := (h L hL).1 v a e
theorem block_fuel (A B : List (List Bool)) (L : List Bool) (most : Nat) : ∀ (f g at_ : Nat) (out : List UInt8), at_ ≤ L.length → L.length < f + at_ → L.length < g + at_ → blockR A B L most f at_ out = blockR A B L most g at_ out
  | 0, g, at_, out, h, hf, hg => by omega
  | f + 1, 0, at_, out, h, hf, hg => by omega
  | f + 1, g + 1, at_, out, h, hf, hg => by
    rw [blockR, blockR]
    refine then_congr fun v a hv => ?_
    have h1 := next_lt hv
    have h2 := (hon_next A at_).le h hv
    split
    · rfl
    · split
      · split
        · rfl
        · exact block_fuel A B L most f g a _ h2.2 (by omega) (by omega)
      · refine then_congr fun n b hb => ?_
        have h3 := (hon_number false _ a).le h2.2 hb
        refine then_congr fun k c hc => ?_
        have h4 := (hon_next B b).le h3.2 hc
        refine then_congr fun d e he => ?_
        have h5 := (hon_number true k c).le h4.2 he
        split
        · rfl
        · split
          · rfl
          · exact block_fuel A B L most f g e _ h5.2 (by omega) (by omega)
theorem num_at {L : List Bool} {at_ n v a : Nat} (h : numR L at_ n = .ok (v, a)) : a = at_ + n := by
  unfold numR at h
  split at h
  · cases h; rfl
  · cases h
theorem one_fuel (L : List Bool) (most f g h at_ : Nat) (out : List UInt8) (ha : at_ ≤ L.length) (hf : L.length < f + at_) (hg : L.length < g + at_) : oneR L most f h at_ out = oneR L most g h at_ out := by
  unfold oneR
  split
  · rfl
  · split
    · exact block_fuel _ _ L most f g at_ out ha hf hg
    · split
      · unfold toldR
        refine then_congr fun n a hn => ?_
        have h1 := (hon_three at_).le ha hn
        split
        · rfl
        · refine then_congr fun l b hb => ?_
          have h2 := (hon_meta _ 0 a _).le h1.2 hb
          refine withW_congr fun W => then_congr fun all c hc => ?_
          have h3 := (hon_lens W _ _ b []).le h2.2 hc
          split
          · rfl
          · exact withW_congr fun A => withW_congr fun B => block_fuel A B L most f g c out h3.2 (by omega) (by omega)
      · rfl
theorem infl_fuel (L : List Bool) (most g1 g2 : Nat) (hg1 : L.length < g1) (hg2 : L.length < g2) : ∀ (f g at_ : Nat) (out : List UInt8), at_ ≤ L.length → L.length < f + at_ → L.length < g + at_ → inflR L most g1 f at_ out = inflR L most g2 g at_ out
  | 0, g, at_, out, h, hf, hg => by omega
  | f + 1, 0, at_, out, h, hf, hg => by omega
  | f + 1, g + 1, at_, out, h, hf, hg => by
    rw [inflR, inflR]
    refine then_congr fun v a hv => ?_
    have h1 := num_at hv
    have h2 := (hon_num at_ 3).le h hv
    rw [one_fuel L most g1 g2 v a out h2.2 (by omega) (by omega)]
    refine then_congr fun o b hb => ?_
    have h3 := (hon_one most g2 v a out).le h2.2 hb
    split
    · rfl
    · exact infl_fuel L most g1 g2 hg1 hg2 f g b o h3.2 (by omega) (by omega)
theorem inflate_big {xs : List UInt8} {most F : Nat} (hF : 8 * xs.length < F) : inflR (bitsOf true xs) most (8 * xs.length + 1) (8 * xs.length + 1) 0 [] = inflR (bitsOf true xs) most F F 0 [] :=
  infl_fuel _ most _ _ (by rw [bitsOf_length]; omega) (by rw [bitsOf_length]; omega) _ _ 0 [] (by omega) (by rw [bitsOf_length]; omega) (by rw [bitsOf_length]; omega)
theorem inflate_more {xs : List UInt8} {most k : Nat} {o : List UInt8} (h : inflate xs most = .ok (o, k)) (ys : List UInt8) : k ≤ xs.length ∧ inflate (xs ++ ys) most = .ok (o, k) := by
  have hF : 8 * xs.length < 8 * (xs ++ ys).length + 1 := by simp; omega
  unfold inflate at *
  rw [inflate_big hF] at h
  have hh := hon_infl most (8 * (xs ++ ys).length + 1) (8 * (xs ++ ys).length + 1) 0 [] (bitsOf true xs) (by omega)
  rw [bitsOf_append]
  rcases hh.2 (bitsOf true ys) with e | e
  · simp only [] at e; rw [e] at h; cases h
  · simp only [] at e
    rw [e]
    refine ⟨?_, h⟩
    revert h
    cases hx : inflR (bitsOf true xs) most (8 * (xs ++ ys).length + 1) (8 * (xs ++ ys).length + 1) 0 [] with
    | error e => intro h; cases h
    | ok v =>
      intro h
      cases h
      have := (hh.1 v.1 v.2 hx).2
      rw [bitsOf_length] at this
      omega
theorem inflate_cut {xs : List UInt8} {most k j : Nat} {o : List UInt8} (h : inflate xs most = .ok (o, k)) (hj : j < k) : inflate (xs.take j) most = .error 2 := by
  have hk := (inflate_more h []).1
  cases hx : inflate (xs.take j) most with
  | ok v =>
    obtain ⟨h1, h2⟩ := inflate_more (o := v.1) (k := v.2) hx (xs.drop j)
    rw [List.take_append_drop, h] at h2
    cases h2
    simp at h1
    omega
  | error e =>
    have hF : 8 * (xs.take j).length < 8 * xs.length + 1 := by simp; omega
    unfold inflate at hx h
    rw [inflate_big hF] at hx
    have hh := (hon_infl most (8 * xs.length + 1) (8 * xs.length + 1) 0 [] (bitsOf true (xs.take j)) (by omega)).2 (bitsOf true (xs.drop j))
    simp only [] at hh
    rw [← bitsOf_append, List.take_append_drop] at hh
    rcases hh with e' | e'
    · rw [e'] at hx; cases hx; rfl
    · rw [← e'] at hx
      revert h hx
      cases inflR (bitsOf true xs) most (8 * xs.length + 1) (8 * xs.length + 1) 0 [] with
      | ok v => intro h hx; cases hx
      | error e => intro h hx; cases h
end Go.Proofs.YtgddpjnikgcamaaDoor.Inf

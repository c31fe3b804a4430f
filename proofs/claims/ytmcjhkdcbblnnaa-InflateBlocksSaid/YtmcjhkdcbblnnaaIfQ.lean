
/- Blocks without a count of rounds: one round at a time; no program in sight. -/
import Derived.Test.YtmcjhkdcbblnnaaIfN
namespace Go.Proofs.Ytmcjhkdcbblnnaa.Inf
open Go.Proofs.Ytmcjhkdcbblnnaa.Bit Go.Proofs.Ytmcjhkdcbblnnaa.Hf
set_option linter.unusedVariables false
set_option linter.unusedSimpArgs false

def blockA (A B : List (List Bool)) (L : List Bool) (most at_ : Nat) (out : List UInt8) : R (List UInt8) := blockR A B L most (L.length + 1 - at_) at_ out
theorem blockA_of (A B : List (List Bool)) (L : List Bool) (most f at_ : Nat) (out : List UInt8) (h : at_ ≤ L.length) (hf : L.length < f + at_) : blockR A B L most f at_ out = blockA A B L most at_ out :=
  block_fuel A B L most f _ at_ out h hf (by omega)
theorem blockA_eq (A B : List (List Bool)) (L : List Bool) (most at_ : Nat) (out : List UInt8) (h : at_ ≤ L.length) : blockA A B L most at_ out = (nextR A L at_).then fun v a =>
    if v = 256 then .ok (out, a)
    else if v < 256 then (if most ≤ out.length then .error 8 else blockA A B L most a (out ++ [UInt8.ofNat v]))
    else (numberR false L (v - 257) a).then fun n a => (nextR B L a).then fun k a => (numberR true L k a).then fun d a =>
      if out.length < d then .error 3 else if most < out.length + n then .error 8 else blockA A B L most a (copyN out d n) := by
  unfold blockA
  rw [show L.length + 1 - at_ = (L.length - at_) + 1 from by omega, blockR]
  refine then_congr fun v a hv => ?_
  have h1 := next_lt hv
  have h2 := (hon_next A at_).le h hv
  split
  · rfl
  · split
    · split
      · rfl
      · exact block_fuel A B L most _ _ a _ h2.2 (by omega) (by omega)
    · refine then_congr fun n b hb => ?_
      have h3 := (hon_number false _ a).le h2.2 hb
      refine then_congr fun k c hc => ?_
      have h4 := (hon_next B b).le h3.2 hc
      refine then_congr fun d e he => ?_
      have h5 := (hon_number true k c).le h4.2 he
      split
      · rfl
      · split
        · rfl
        · exact block_fuel A B L most _ _ e _ h5.2 (by omega) (by omega)
theorem lens_fuel (W : List (List Bool)) (n : Nat) (L : List Bool) : ∀ (f g at_ : Nat) (all : List Nat), n < f + all.length → n < g + all.length → 1 ≤ f → 1 ≤ g → lensR W n L f at_ all = lensR W n L g at_ all
  | 0, g, at_, all, hf, hg, h1, h2 => by omega
  | f + 1, 0, at_, all, hf, hg, h1, h2 => by omega
  | f + 1, g + 1, at_, all, hf, hg, h1, h2 => by
    rw [lensR, lensR]
    by_cases hn : n ≤ all.length
    · rw [if_pos hn, if_pos hn]
    · rw [if_neg hn, if_neg hn]
      refine then_congr fun v a hv => ?_
      split
      · rfl
      · refine then_congr fun m b hb => lens_fuel W n L f g b _ ?_ ?_ (by omega) (by omega)
        · have := timesV_pos v
          simp
          omega
        · have := timesV_pos v
          simp
          omega
def lensA (W : List (List Bool)) (n : Nat) (L : List Bool) (at_ : Nat) (all : List Nat) : R (List Nat) := lensR W n L (n + 1 - all.length) at_ all
theorem lensA_end (W : List (List Bool)) (n : Nat) (L : List Bool) (at_ : Nat) (all : List Nat) (h : all.length = n) : lensA W n L at_ all = .ok (all, at_) := by
  unfold lensA
  rw [show n + 1 - all.length = 0 + 1 from by omega, lensR, if_pos (by omega), if_pos h]
theorem lensA_eq (W : List (List Bool)) (n : Nat) (L : List Bool) (at_ : Nat) (all : List Nat) (h : all.length < n) : lensA W n L at_ all = (nextR W L at_).then fun v a =>
    if v = 16 ∧ all = [] then .error 3
    else (numR L a (wideV v)).then fun more a =>
      if n < all.length + (timesV v + more) then .error 3 else lensA W n L a (all ++ List.replicate (timesV v + more) (valueV v all)) := by
  unfold lensA
  rw [show n + 1 - all.length = (n - all.length) + 1 from by omega, lensR, if_neg (by omega)]
  refine then_congr fun v a hv => ?_
  split
  · rfl
  · refine then_congr fun m b hb => ?_
    have := timesV_pos v
    split
    · rename_i hc
      rw [show n - all.length = (n - all.length - 1) + 1 from by omega, lensR, if_pos (by simp; omega), if_neg (by simp; omega)]
    · exact lens_fuel W n L _ _ b _ (by simp; omega) (by simp; omega) (by omega) (by simp; omega)
def toldA (L : List Bool) (most at_ : Nat) (out : List UInt8) : R (List UInt8) :=
  (threeR L at_).then fun n a =>
    if n.1 > 286 ∨ n.2.1 > 30 then .error 3
    else (metaR L n.2.2 0 a (List.replicate 19 0)).then fun l a => withW (wordsR l false) fun W =>
      (lensA W (n.1 + n.2.1) L a []).then fun all a =>
        if all.getD 256 0 = 0 then .error 3
        else withW (wordsR (all.take n.1) false) fun A => withW (wordsR (all.drop n.1) true) fun B => blockA A B L most a out
def oneA (L : List Bool) (most h at_ : Nat) (out : List UInt8) : R (List UInt8) :=
  if h / 2 = 0 then storedR L most at_ out
  else if h / 2 = 1 then blockA (canonW fixedA) (canonW fixedB) L most at_ out
  else if h / 2 = 2 then toldA L most at_ out
  else .error 3
theorem oneA_of (L : List Bool) (most f h at_ : Nat) (out : List UInt8) (ha : at_ ≤ L.length) (hf : L.length < f) : oneR L most f h at_ out = oneA L most h at_ out := by
  unfold oneR oneA
  split
  · rfl
  · split
    · exact blockA_of _ _ L most f at_ out ha (by omega)
    · split
      · unfold toldR toldA
        refine then_congr fun n a hn => ?_
        have h1 := (hon_three at_).le ha hn
        split
        · rfl
        · refine then_congr fun l b hb => ?_
          have h2 := (hon_meta _ 0 a _).le h1.2 hb
          refine withW_congr fun W => then_congr fun all c hc => ?_
          have h3 := (hon_lens W _ _ b []).le h2.2 hc
          split
          · rfl
          · exact withW_congr fun A => withW_congr fun B => blockA_of A B L most f c out h3.2 (by omega)
      · rfl
def inflA (L : List Bool) (most at_ : Nat) (out : List UInt8) : R (List UInt8) := inflR L most (L.length + 1) (L.length + 1 - at_) at_ out
theorem inflA_eq (L : List Bool) (most at_ : Nat) (out : List UInt8) (h : at_ ≤ L.length) : inflA L most at_ out = (numR L at_ 3).then fun v a => (oneA L most v a out).then fun o a =>
    if v % 2 = 1 then .ok (o, a) else inflA L most a o := by
  unfold inflA
  rw [show L.length + 1 - at_ = (L.length - at_) + 1 from by omega, inflR]
  refine then_congr fun v a hv => ?_
  have h1 := num_at hv
  have h2 := (hon_num at_ 3).le h hv
  rw [← oneA_of L most (L.length + 1) v a out h2.2 (by omega)]
  refine then_congr fun o b hb => ?_
  have h3 := (hon_one most (L.length + 1) v a out).le h2.2 hb
  split
  · rfl
  · exact infl_fuel L most _ _ (by omega) (by omega) _ _ b o h3.2 (by omega) (by omega)
theorem inflate_eq (xs : List UInt8) (most : Nat) : inflate xs most = (match inflA (bitsOf true xs) most 0 [] with
    | .ok (o, a) => .ok (o, (a + 7) / 8)
    | .error e => .error e) := by
  unfold inflate inflA
  rw [bitsOf_length, Nat.sub_zero]
  rfl
end Go.Proofs.Ytmcjhkdcbblnnaa.Inf


/- A block of bytes as they stand, then tokens by the given words: what they stand for; no program in sight. -/
import Derived.Test.YtmcjhkdcbblnnaaIfO
namespace Go.Proofs.Ytmcjhkdcbblnnaa.Inf
open Go.Proofs.Ytmcjhkdcbblnnaa.Bit Go.Proofs.Ytmcjhkdcbblnnaa.Hf Go.Proofs.Ytmcjhkdcbblnnaa.Oct
set_option linter.unusedVariables false
set_option linter.unusedSimpArgs false

theorem copy_behind (pre : List UInt8) (d : Nat) : ∀ (n : Nat) (out : List UInt8), 1 ≤ d → d ≤ out.length → copyN (pre ++ out) d n = pre ++ copyN out d n
  | 0, out, h1, h2 => rfl
  | n + 1, out, h1, h2 => by
    rw [copyN, copyN]
    have e : (pre ++ out).getD ((pre ++ out).length - d) 0 = out.getD (out.length - d) 0 := by
      rw [List.getD_eq_getElem?_getD, List.getD_eq_getElem?_getD, List.length_append, List.getElem?_append_right (by omega)]
      congr 2
      omega
    rw [e, List.append_assoc]
    exact copy_behind pre d n _ h1 (by simp; omega)
theorem right_behind {lim : Nat} (pre : List UInt8) : ∀ (l : List Tok) (out o : List UInt8), rightT lim l out = some o → rightT (lim + pre.length) l (pre ++ out) = some (pre ++ o)
  | [], out, o, h => by cases h; rfl
  | t :: l, out, o, h => by
    rw [rightT] at h ⊢
    by_cases h0 : t.len = 0
    · rw [if_pos h0] at h ⊢
      rw [List.append_assoc]
      exact right_behind pre l _ o h
    · rw [if_neg h0] at h ⊢
      split at h
      · cases h
      · rename_i hc
        rw [if_neg (by rw [List.length_append]; omega), copy_behind pre _ _ _ (by omega) (by omega)]
        exact right_behind pre l _ o h
theorem bytes_is {L r : List Bool} {most : Nat} : ∀ (ys : List UInt8) (a : Nat) (out : List UInt8), L.drop a = bitsOf true ys ++ r → a ≤ L.length → out.length + ys.length ≤ most →
    bytesR L most ys.length a out = .ok (out ++ ys, a + 8 * ys.length)
  | [], a, out, h, ha, hm => by simp [bytesR]
  | y :: ys, a, out, h, ha, hm => by
    rw [bitsOf_cons, List.append_assoc] at h
    have hle := drop_le h ha
    have hd := drop_more h
    rw [bitsB_length] at hle hd
    simp at hm
    rw [List.length_cons, bytesR, num_is h ha y.toNat_lt, R.then_ok, if_neg (by omega), UInt8.ofNat_toNat, bytes_is ys _ _ hd hle (by simp; omega)]
    simp
    omega
theorem two_is {L r : List Bool} {at_ n m : Nat} (h : L.drop ((at_ + 7) / 8 * 8) = wordE true n 16 ++ (wordE true m 16 ++ r)) (ha : (at_ + 7) / 8 * 8 ≤ L.length) (hn : n < 65536) (hm : m < 65536) :
    twoR L at_ = .ok ((n, m), (at_ + 7) / 8 * 8 + 32) := by
  have h1 := drop_le h ha
  have d1 := drop_more h
  have h2 := drop_le d1 h1
  rw [wordE_length] at h1 d1
  rw [wordE_length, wordE_length] at h2
  unfold twoR
  rw [if_pos (by omega), h, List.take_left' (wordE_length _ _ _), d1, List.take_left' (wordE_length _ _ _), numE_wordE true n 16 (by omega), numE_wordE true m 16 (by omega)]
theorem word16 (n : Nat) (h : n < 65536) : bitsOf true [UInt8.ofNat n, UInt8.ofNat (n / 256)] = wordE true n 16 := by
  apply numE_inj true
  · rw [bitsOf_length, wordE_length]; rfl
  · rw [numE_bitsOf, numE_wordE true n 16 (by omega)]
    simp [numOf, numB]
    omega
/-- ahead of bytes that stand as they are -/
def headX (n : Nat) : List UInt8 := [0, UInt8.ofNat n, UInt8.ofNat (n / 256), UInt8.ofNat (65535 - n), UInt8.ofNat ((65535 - n) / 256)]
theorem headX_bits (n : Nat) (h : n < 65536) : bitsOf true (headX n) = wordE true 0 3 ++ (zs 5 ++ (wordE true n 16 ++ wordE true (65535 - n) 16)) := by
  have e : headX n = [0] ++ [UInt8.ofNat n, UInt8.ofNat (n / 256)] ++ [UInt8.ofNat (65535 - n), UInt8.ofNat ((65535 - n) / 256)] := rfl
  rw [e, bitsOf_append, bitsOf_append, word16 n h, word16 (65535 - n) (by omega)]
  simp only [List.append_assoc]
  rfl
theorem told_long {A B : List (List Bool)} (hA : ∀ i, i < 286 → Fre A i) : ∀ l : List Tok, l.length ≤ (toldB A B l).length
  | [] => by simp
  | t :: l => by
    have := told_long (B := B) hA l
    rw [toldB, List.length_append, List.length_cons]
    have h1 : 1 ≤ (tokB A B t).length := by
      unfold tokB
      have hp := place_lt false t.len.toNat
      have e1 : (froms false).length = 29 := rfl
      have hlt : t.lit.toNat < 256 := t.lit.toNat_lt
      split
      · exact List.length_pos_iff.2 (hA _ (by omega)).1
      · have := List.length_pos_iff.2 (hA (257 + placeN false t.len.toNat) (by omega)).1
        rw [List.length_append]
        omega
    omega
/-- the bits of tokens by the given words, as the only block -/
def fixT (l : List Tok) : List Bool := true :: true :: false :: toldB (canonW fixedA) (canonW fixedB) l
def wholeX (ahead : List UInt8) (l : List Tok) : List UInt8 := headX ahead.length ++ (ahead ++ packB true (fixT l))
theorem tokens_is {l : List Tok} {ahead want : List UInt8} {lim most : Nat} (hn : ahead.length < 65536) (hr : rightT lim l [] = some want) (hm : ahead.length + want.length ≤ most) :
    inflate (wholeX ahead l) most = .ok (ahead ++ want, (wholeX ahead l).length) := by
  have hlen : (wholeX ahead l).length = 5 + ahead.length + ((fixT l).length + 7) / 8 := by
    simp [wholeX, packB_length, headX]; omega
  have hfl : (fixT l).length = 3 + (toldB (canonW fixedA) (canonW fixedB) l).length := by simp [fixT]; omega
  have htl := told_long (B := canonW fixedB) (fun i h => freA i (by omega)) l
  have hb : bitsOf true (wholeX ahead l) = wordE true 0 3 ++ (zs 5 ++ (wordE true ahead.length 16 ++ (wordE true (65535 - ahead.length) 16 ++ (bitsOf true ahead ++ (wordE true 3 3 ++ (toldB (canonW fixedA) (canonW fixedB) l ++ zs (8 * (((fixT l).length + 7) / 8) - (fixT l).length))))))) := by
    rw [wholeX, bitsOf_append, bitsOf_append, headX_bits _ hn, bitsOf_packB]
    simp only [List.append_assoc]
    rfl
  have hL : (bitsOf true (wholeX ahead l)).length = 8 * (wholeX ahead l).length := bitsOf_length _ _
  unfold inflate
  obtain ⟨f, hf⟩ : ∃ f, 8 * (wholeX ahead l).length + 1 = f + 2 := ⟨8 * (wholeX ahead l).length - 1, by omega⟩
  generalize bitsOf true (wholeX ahead l) = L at *
  generalize zs (8 * (((fixT l).length + 7) / 8) - (fixT l).length) = pad at *
  have d0 : L.drop 0 = _ := (List.drop_zero).trans hb
  have a0 : 0 ≤ L.length := by omega
  have d1 := drop_more d0
  have d2 := drop_more d1
  have d3 := drop_more d2
  have d4 := drop_more d3
  have d5 := drop_more d4
  simp only [wordE_length, zs_length, bitsOf_length] at d1 d2 d3 d4 d5
  have d6 := drop_more d5
  rw [wordE_length] at d6
  have hst : storedR L most (0 + 3) [] = .ok (ahead, 40 + 8 * ahead.length) := by
    unfold storedR
    rw [two_is (n := ahead.length) (m := 65535 - ahead.length) d2 (by omega) hn (by omega), R.then_ok, if_pos (by show ahead.length + (65535 - ahead.length) = 65535; omega)]
    rw [bytes_is ahead _ [] d4 (by omega) (by simp; omega)]
    simp
  have hbl : blockR (canonW fixedA) (canonW fixedB) L most (f + 2) (40 + 8 * ahead.length + 3) ahead = .ok (ahead ++ want, 40 + 8 * ahead.length + 3 + (toldB (canonW fixedA) (canonW fixedB) l).length) := by
    have h := right_behind ahead l [] want hr
    rw [List.append_nil] at h
    refine block_is (rest := pad) (fun i h => freA i (by omega)) freB (by simp; omega) l ahead _ (f + 2) h ?_ (by omega) (by omega)
    rw [show 40 + 8 * ahead.length + 3 = 0 + 3 + 5 + 16 + 16 + 8 * ahead.length + 3 from by omega]
    exact d6
  have hx : inflR L most (f + 2) (f + 2) 0 [] = .ok (ahead ++ want, 40 + 8 * ahead.length + 3 + (toldB (canonW fixedA) (canonW fixedB) l).length) := by
    rw [inflR, num_is d0 a0 (by decide), R.then_ok, show oneR L most (f + 2) 0 (0 + 3) [] = storedR L most (0 + 3) [] from rfl, hst, R.then_ok, if_neg (by decide), inflR,
      num_is (n := 3) (k := 3) (r := toldB (canonW fixedA) (canonW fixedB) l ++ pad) (by rw [show 40 + 8 * ahead.length = 0 + 3 + 5 + 16 + 16 + 8 * ahead.length from by omega]; exact d5) (by omega) (by decide), R.then_ok,
      show oneR L most (f + 2) 3 (40 + 8 * ahead.length + 3) ahead = blockR (canonW fixedA) (canonW fixedB) L most (f + 2) (40 + 8 * ahead.length + 3) ahead from rfl, hbl, R.then_ok, if_pos (by decide)]
  rw [hf, hx, hlen, hfl]
  show Except.ok (_, _) = _
  congr 2
  omega
/-- what is cut off, what stands behind, and too much -/
theorem tokens_all {l : List Tok} {ahead want : List UInt8} {lim most : Nat} (hn : ahead.length < 65536) (hr : rightT lim l [] = some want) (hm : ahead.length + want.length ≤ most) :
    (∀ ys, inflate (wholeX ahead l ++ ys) most = .ok (ahead ++ want, (wholeX ahead l).length)) ∧
    (∀ j, j < (wholeX ahead l).length → inflate ((wholeX ahead l).take j) most = .error 2) ∧
    (∀ m, m < (ahead ++ want).length → inflate (wholeX ahead l) m = .error 8) := by
  have h := tokens_is hn hr hm
  refine ⟨fun ys => (inflate_more h ys).2, fun j hj => inflate_cut h hj, fun m hlt => inflate_limit h hlt (by simp at hlt; omega)⟩
end Go.Proofs.Ytmcjhkdcbblnnaa.Inf


/- Samples of 1 to 32 bits in plain words: told in bits and bytes, read, read again; no program in sight. -/
import Derived.Test.YtkeplmnohenbnaaOctJ
import Derived.Test.YtkeplmnohenbnaaBitN
namespace Go.Proofs.Ytkeplmnohenbnaa.Sa
open Go.Proofs.Ytkeplmnohenbnaa.Oct Go.Proofs.Ytkeplmnohenbnaa.Bit
set_option linter.unusedVariables false
set_option linter.unusedSimpArgs false
set_option maxRecDepth 100000

theorem bits_one (x y : UInt8) (h : bitsB false x = bitsB false y) : x = y := by
  have hx := x.toNat_lt
  have hy := y.toNat_lt
  have e := congrArg (numE false) h
  unfold bitsB at e
  rw [numE_wordE false _ 8 (by omega), numE_wordE false _ 8 (by omega)] at e
  exact UInt8.toNat_inj.1 e
theorem bits_all : ∀ (xs ys : List UInt8), bitsOf false xs = bitsOf false ys → xs = ys
  | [], [], h => rfl
  | [], y :: ys, h => by have := congrArg List.length h; rw [bitsOf_length, bitsOf_length] at this; simp at this
  | x :: xs, [], h => by have := congrArg List.length h; rw [bitsOf_length, bitsOf_length] at this; simp at this
  | x :: xs, y :: ys, h => by
    rw [bitsOf_cons, bitsOf_cons] at h
    obtain ⟨h1, h2⟩ := List.append_inj h (by rw [bitsB_length, bitsB_length])
    rw [bits_one x y h1, bits_all xs ys h2]
theorem pack_bits (xs : List UInt8) : packB false (bitsOf false xs) = xs := by
  apply bits_all
  rw [bitsOf_packB, bitsOf_length, show 8 * ((8 * xs.length + 7) / 8) - 8 * xs.length = 0 from by omega]
  exact List.append_nil _
/-- samples that are whole integers -/
def whole (k : Nat) : Bool := k == 16 || k == 32
theorem whole_cases {k : Nat} (h : whole k = true) : k = 16 ∨ k = 32 := by simpa [whole] using h
/-- a sample's bits -/
def tellS (k : Nat) (big : Bool) (v : Nat) : List Bool := if whole k then bitsOf false (putL v (k / 8) big) else word v k
theorem tellS_length (k : Nat) (big : Bool) (v : Nat) : (tellS k big v).length = k := by
  unfold tellS
  split
  · rename_i h
    rw [bitsOf_length, putL_length]
    rcases whole_cases h with rfl | rfl <;> rfl
  · exact word_length _ _
def tellsS (k : Nat) (big : Bool) (l : List Nat) : List Bool := l.flatMap (tellS k big)
theorem tellsS_nil (k : Nat) (big : Bool) : tellsS k big [] = [] := rfl
theorem tellsS_cons (k : Nat) (big : Bool) (v : Nat) (l : List Nat) : tellsS k big (v :: l) = tellS k big v ++ tellsS k big l := rfl
theorem tellsS_snoc (k : Nat) (big : Bool) (v : Nat) (l : List Nat) : tellsS k big (l ++ [v]) = tellsS k big l ++ tellS k big v := by simp [tellsS]
theorem tellsS_length (k : Nat) (big : Bool) : ∀ l : List Nat, (tellsS k big l).length = k * l.length
  | [] => rfl
  | v :: l => by rw [tellsS_cons, List.length_append, tellS_length, tellsS_length k big l, List.length_cons, Nat.mul_succ]; omega
/-- packed samples -/
def packS (k : Nat) (big : Bool) (l : List Nat) : List UInt8 := packB false (tellsS k big l)
theorem packS_length (k : Nat) (big : Bool) (l : List Nat) : (packS k big l).length = (k * l.length + 7) / 8 := by
  unfold packS
  rw [packB_length, tellsS_length]
theorem tellsS_whole {k : Nat} (h : whole k = true) (big : Bool) : ∀ l : List Nat, tellsS k big l = bitsOf false (l.flatMap fun v => putL v (k / 8) big)
  | [] => rfl
  | v :: l => by
    rw [tellsS_cons, tellsS_whole h big l, List.flatMap_cons, bitsOf_append]
    unfold tellS
    rw [if_pos h]
/-- whole integers, byte by byte -/
theorem packS_whole {k : Nat} (h : whole k = true) (big : Bool) (l : List Nat) : packS k big l = l.flatMap fun v => putL v (k / 8) big := by
  unfold packS
  rw [tellsS_whole h, pack_bits]
/-- other samples: the order doesn't matter -/
theorem packS_alike {k : Nat} (h : whole k = false) (big big2 : Bool) (l : List Nat) : packS k big l = packS k big2 l := by
  unfold packS tellsS tellS
  rw [h]
  rfl
/-- a sample's bits in their order -/
def turnW (k : Nat) (big : Bool) (w : List Bool) : List Bool :=
  if big = false ∧ k = 16 then w.drop 8 ++ w.take 8
  else if big = false ∧ k = 32 then w.drop 24 ++ (w.drop 16).take 8 ++ (w.drop 8).take 8 ++ w.take 8
  else w
def readS (k : Nat) (big : Bool) (w : List Bool) : Nat := num (turnW k big w)
theorem num_bits (xs : List UInt8) : num (bitsOf false xs) = numB xs := numE_bitsOf false xs
theorem eight (x : UInt8) (r : List Bool) : (bitsB false x ++ r).take 8 = bitsB false x ∧ (bitsB false x ++ r).drop 8 = r :=
  ⟨List.take_left' (bitsB_length false x), List.drop_left' (bitsB_length false x)⟩
theorem turn_two (a b : UInt8) : turnW 16 false (bitsOf false [a, b]) = bitsOf false [b, a] := by
  unfold turnW
  rw [if_pos ⟨rfl, rfl⟩, bitsOf_cons, (eight a _).1, (eight a _).2, bitsOf_cons, bitsOf_nil, List.append_nil, bitsOf_cons, bitsOf_cons, bitsOf_nil, List.append_nil]
theorem turn_four (a b c d : UInt8) : turnW 32 false (bitsOf false [a, b, c, d]) = bitsOf false [d, c, b, a] := by
  unfold turnW
  rw [if_neg (by simp), if_pos ⟨rfl, rfl⟩]
  have e8 : (bitsOf false [a, b, c, d]).drop 8 = bitsOf false [b, c, d] := by rw [bitsOf_cons, (eight a _).2]
  have e16 : (bitsOf false [a, b, c, d]).drop 16 = bitsOf false [c, d] := by rw [show 16 = 8 + 8 from rfl, ← List.drop_drop, e8, bitsOf_cons, (eight b _).2]
  have e24 : (bitsOf false [a, b, c, d]).drop 24 = bitsOf false [d] := by rw [show 24 = 16 + 8 from rfl, ← List.drop_drop, e16, bitsOf_cons, (eight c _).2]
  rw [e8, e16, e24, bitsOf_cons (xs := [c, d]), (eight b _).1, bitsOf_cons (xs := [d]), (eight c _).1, bitsOf_cons (xs := [b, c, d]), (eight a _).1]
  simp [bitsOf]
/-- a sample that fits is read -/
theorem read_tell {k v : Nat} (big : Bool) (hv : v < 2 ^ k) : readS k big (tellS k big v) = v := by
  unfold readS tellS
  by_cases h : whole k = true
  · rw [if_pos h]
    rcases whole_cases h with rfl | rfl
    · cases big
      · show num (turnW 16 false (bitsOf false (beB v 2).reverse)) = v
        rw [show (beB v 2).reverse = [UInt8.ofNat (v / 256 ^ 0 % 256), UInt8.ofNat (v / 256 ^ 1 % 256)] from rfl, turn_two, num_bits]
        exact numB_beB_of_lt v 2 hv
      · show num (bitsOf false (beB v 2)) = v
        rw [num_bits]
        exact numB_beB_of_lt v 2 hv
    · cases big
      · show num (turnW 32 false (bitsOf false (beB v 4).reverse)) = v
        rw [show (beB v 4).reverse = [UInt8.ofNat (v / 256 ^ 0 % 256), UInt8.ofNat (v / 256 ^ 1 % 256), UInt8.ofNat (v / 256 ^ 2 % 256), UInt8.ofNat (v / 256 ^ 3 % 256)] from rfl, turn_four, num_bits]
        exact numB_beB_of_lt v 4 hv
      · show num (bitsOf false (beB v 4)) = v
        rw [num_bits]
        exact numB_beB_of_lt v 4 hv
  · rw [if_neg h]
    unfold turnW
    rw [if_neg (fun q => h (by rw [q.2]; rfl)), if_neg (fun q => h (by rw [q.2]; rfl))]
    exact num_word_of_lt v k hv
/-- so many samples, read -/
def unpackS (k : Nat) (big : Bool) (L : List Bool) (n : Nat) : List Nat := (List.range n).map fun i => readS k big ((L.drop (i * k)).take k)
theorem unpackS_length (k : Nat) (big : Bool) (L : List Bool) (n : Nat) : (unpackS k big L n).length = n := by simp [unpackS]
theorem unpackS_succ (k : Nat) (big : Bool) (L : List Bool) (n : Nat) : unpackS k big L (n + 1) = unpackS k big L n ++ [readS k big ((L.drop (n * k)).take k)] := by simp [unpackS, List.range_succ]
theorem sample_at (k : Nat) (big : Bool) (r : List Bool) : ∀ (l : List Nat) (i : Nat) (h : i < l.length), ((tellsS k big l ++ r).drop (i * k)).take k = tellS k big l[i]
  | v :: l, 0, h => by
    rw [Nat.zero_mul, List.drop_zero, tellsS_cons, List.append_assoc, List.take_left' (tellS_length k big v)]
    rfl
  | v :: l, i + 1, h => by
    rw [Nat.succ_mul, Nat.add_comm, ← List.drop_drop, tellsS_cons, List.append_assoc, List.drop_left' (tellS_length k big v), sample_at k big r l i (by simpa using h)]
    rfl
/-- what is told is read, whatever is behind it -/
theorem unpack_tells {k : Nat} {big : Bool} {l : List Nat} (hl : ∀ v ∈ l, v < 2 ^ k) (r : List Bool) : unpackS k big (tellsS k big l ++ r) l.length = l := by
  apply List.ext_getElem (unpackS_length _ _ _ _)
  intro i h1 h2
  simp only [unpackS, List.getElem_map, List.getElem_range]
  rw [sample_at k big r l i h2]
  exact read_tell big (hl _ (List.getElem_mem h2))
/-- ALL THAT SamplesAgain ASKS of reading: packed samples, whatever bytes are behind them -/
theorem unpack_pack {k : Nat} {big : Bool} {l : List Nat} (hl : ∀ v ∈ l, v < 2 ^ k) (xs : List UInt8) : unpackS k big (bitsOf false (packS k big l ++ xs)) l.length = l := by
  unfold packS
  rw [bitsOf_append, bitsOf_packB, List.append_assoc]
  exact unpack_tells hl _
/-- a list of groups of m, at a place -/
theorem group_get {m : Nat} (h0 : 0 < m) (f : Nat → List UInt8) (hf : ∀ v, (f v).length = m) : ∀ (l : List Nat) (i : Nat) (h : i / m < l.length), (l.flatMap f)[i]? = (f l[i / m])[i % m]?
  | [], i, h => by simp at h
  | v :: l, i, h => by
    rw [List.flatMap_cons]
    by_cases hi : i < m
    · have e : i / m = 0 := Nat.div_eq_of_lt hi
      have e2 : i % m = i := Nat.mod_eq_of_lt hi
      rw [List.getElem?_append_left (by rw [hf]; exact hi), e2]
      simp only [e, List.getElem_cons_zero]
    · have e : i / m = (i - m) / m + 1 := by rw [Nat.div_eq i m, if_pos ⟨h0, by omega⟩]
      have e2 : i % m = (i - m) % m := by rw [Nat.mod_eq i m, if_pos ⟨h0, by omega⟩]
      rw [List.getElem?_append_right (by rw [hf]; omega), hf, group_get h0 f hf l (i - m) (by rw [e] at h; simpa using h), e2]
      simp only [e, List.getElem_cons_succ]
theorem putL_not (v m : Nat) (big : Bool) : putL v m (!big) = (putL v m big).reverse := by cases big <;> simp [putL]
/-- ALL THAT SamplesAgain ASKS of the other order: each group is turned round -/
theorem pack_other {k : Nat} (h : whole k = true) (big : Bool) (l : List Nat) {i : Nat} (hi : i < (packS k big l).length) :
    (packS k (!big) l)[i / (k / 8) * (k / 8) + (k / 8) - 1 - i % (k / 8)]? = (packS k big l)[i]? := by
  rw [packS_length] at hi
  have hm : 0 < k / 8 ∧ k = 8 * (k / 8) := by rcases whole_cases h with rfl | rfl <;> exact ⟨by decide, rfl⟩
  rw [packS_whole h, packS_whole h]
  generalize hmm : k / 8 = m at hm hi ⊢
  obtain ⟨hm, hk⟩ := hm
  have hr : i % m < m := Nat.mod_lt _ hm
  have hq : i / m < l.length := by
    rw [Nat.div_lt_iff_lt_mul hm, Nat.mul_comm]
    rw [hk, Nat.mul_assoc] at hi
    omega
  have hj : i / m * m + m - 1 - i % m = i / m * m + (m - 1 - i % m) := by omega
  have e1 : (i / m * m + (m - 1 - i % m)) / m = i / m := by
    rw [Nat.add_comm, Nat.add_mul_div_right _ _ hm, Nat.div_eq_of_lt (by omega), Nat.zero_add]
  have e2 : (i / m * m + (m - 1 - i % m)) % m = m - 1 - i % m := by
    rw [Nat.add_comm, Nat.add_mul_mod_self_right, Nat.mod_eq_of_lt (by omega)]
  rw [hj, group_get hm (fun v => putL v m (!big)) (fun v => putL_length v m _) l _ (by rw [e1]; exact hq), group_get hm (fun v => putL v m big) (fun v => putL_length v m _) l i hq, e2]
  simp only [e1]
  rw [putL_not, List.getElem?_reverse (by rw [putL_length]; omega), putL_length]
  congr 1
  omega
end Go.Proofs.Ytkeplmnohenbnaa.Sa

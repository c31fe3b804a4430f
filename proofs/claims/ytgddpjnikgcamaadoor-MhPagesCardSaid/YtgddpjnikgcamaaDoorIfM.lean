
/- What blocks of deflate stand for, in plain words: over all bits, a place, and what came; no program in sight. -/
import Derived.Test.YtgddpjnikgcamaaDoorHfM
namespace Go.Proofs.YtgddpjnikgcamaaDoor.Inf
open Go.Proofs.YtgddpjnikgcamaaDoor.Bit Go.Proofs.YtgddpjnikgcamaaDoor.Hf
set_option linter.unusedVariables false
set_option linter.unusedSimpArgs false

/-- what was read and the place behind it, or the error -/
abbrev R (α : Type) := Except Nat (α × Nat)
def R.then {α β : Type} (x : R α) (f : α → Nat → R β) : R β :=
  match x with
  | .ok (v, a) => f v a
  | .error e => .error e
theorem R.then_ok {α β : Type} (v : α) (a : Nat) (f : α → Nat → R β) : R.then (.ok (v, a)) f = f v a := rfl
theorem R.then_err {α β : Type} (e : Nat) (f : α → Nat → R β) : R.then (.error e : R α) f = .error e := rfl

/-- the number of the next bits, the lowest first -/
def numR (L : List Bool) (at_ n : Nat) : R Nat := if at_ + n ≤ L.length then .ok (numE true ((L.drop at_).take n), at_ + n) else .error 2

/-- the word with which bits go on -/
def lookW (W : List (List Bool)) (p : List Bool) : List Bool → Except Nat (Nat × Nat)
  | [] => .error 2
  | b :: r => if p ++ [b] ∈ W then .ok (W.idxOf (p ++ [b]), p.length + 1)
      else if W.any (fun w => !w.isEmpty && (p ++ [b]).isPrefixOf w) then lookW W (p ++ [b]) r else .error 6
def nextR (W : List (List Bool)) (L : List Bool) (at_ : Nat) : R Nat :=
  match lookW W [] (L.drop at_) with
  | .ok (i, k) => .ok (i, at_ + k)
  | .error e => .error e

/-- one word of one bit, or none -/
def lone (L : List Nat) : Bool := L.countP (fun n => decide (0 < n)) == 0 || (L.countP (fun n => decide (0 < n)) == 1 && L.sum == 1)
def wordsR (L : List Nat) (one : Bool) : Except Nat (List (List Bool)) :=
  if startN L 31 = 1073741824 ∨ (startN L 31 < 1073741824 ∧ one = true ∧ lone L = true) then .ok (canonW L) else .error 3

def froms (far : Bool) : List Nat :=
  if far then [1, 2, 3, 4, 5, 7, 9, 13, 17, 25, 33, 49, 65, 97, 129, 193, 257, 385, 513, 769, 1025, 1537, 2049, 3073, 4097, 6145, 8193, 12289, 16385, 24577]
  else [3, 4, 5, 6, 7, 8, 9, 10, 11, 13, 15, 17, 19, 23, 27, 31, 35, 43, 51, 59, 67, 83, 99, 115, 131, 163, 195, 227, 258]
def extras (far : Bool) : List Nat :=
  if far then [0, 0, 0, 0, 1, 1, 2, 2, 3, 3, 4, 4, 5, 5, 6, 6, 7, 7, 8, 8, 9, 9, 10, 10, 11, 11, 12, 12, 13, 13]
  else [0, 0, 0, 0, 0, 0, 0, 0, 1, 1, 1, 1, 2, 2, 2, 2, 3, 3, 3, 3, 4, 4, 4, 4, 5, 5, 5, 5, 0]
def order : List Nat := [16, 17, 18, 0, 8, 7, 9, 6, 10, 5, 11, 4, 12, 3, 13, 2, 14, 1, 15]
def fixedA : List Nat := List.replicate 144 8 ++ List.replicate 112 9 ++ List.replicate 24 7 ++ List.replicate 8 8
def fixedB : List Nat := List.replicate 30 5

/-- so many bytes as they stand -/
def bytesR (L : List Bool) (most : Nat) : Nat → Nat → List UInt8 → R (List UInt8)
  | 0, at_, out => .ok (out, at_)
  | n + 1, at_, out => (numR L at_ 8).then fun c a => if most ≤ out.length then .error 8 else bytesR L most n a (out ++ [UInt8.ofNat c])
/-- two numbers of sixteen bits -/
def twoR (L : List Bool) (at_ : Nat) : R (Nat × Nat) :=
  if (at_ + 7) / 8 * 8 + 32 ≤ L.length then
    .ok ((numE true ((L.drop ((at_ + 7) / 8 * 8)).take 16), numE true ((L.drop ((at_ + 7) / 8 * 8 + 16)).take 16)), (at_ + 7) / 8 * 8 + 32)
  else .error 2
def storedR (L : List Bool) (most at_ : Nat) (out : List UInt8) : R (List UInt8) :=
  (twoR L at_).then fun nm a => if nm.1 + nm.2 = 65535 then bytesR L most nm.1 a out else .error 3

def timesV (v : Nat) : Nat := if v = 16 then 3 else if v = 17 then 3 else if v = 18 then 11 else 1
def wideV (v : Nat) : Nat := if v = 16 then 2 else if v = 17 then 3 else if v = 18 then 7 else 0
def valueV (v : Nat) (all : List Nat) : Nat := if v = 16 then all.getLastD 0 else if v = 17 then 0 else if v = 18 then 0 else v
theorem timesV_pos (v : Nat) : 1 ≤ timesV v := by unfold timesV; split <;> (try split) <;> (try split) <;> omega
/-- so many lengths, told by words -/
def lensR (W : List (List Bool)) (n : Nat) (L : List Bool) : Nat → Nat → List Nat → R (List Nat)
  | 0, _, _ => .error 0
  | f + 1, at_, all =>
    if n ≤ all.length then (if all.length = n then .ok (all, at_) else .error 3)
    else (nextR W L at_).then fun v a =>
      if v = 16 ∧ all = [] then .error 3
      else (numR L a (wideV v)).then fun more a => lensR W n L f a (all ++ List.replicate (timesV v + more) (valueV v all))

/-- what a place tells -/
def numberR (far : Bool) (L : List Bool) (i at_ : Nat) : R Nat :=
  if i < (froms far).length then (numR L at_ ((extras far).getD i 0)).then fun more a => .ok ((froms far).getD i 0 + more, a) else .error 6
def copyN (out : List UInt8) (d : Nat) : Nat → List UInt8
  | 0 => out
  | n + 1 => copyN (out ++ [out.getD (out.length - d) 0]) d n
theorem copyN_length (d : Nat) : ∀ (n : Nat) (out : List UInt8), (copyN out d n).length = out.length + n
  | 0, out => rfl
  | n + 1, out => by rw [copyN, copyN_length d n]; simp; omega
/-- what words tell, up to the end's -/
def blockR (A B : List (List Bool)) (L : List Bool) (most : Nat) : Nat → Nat → List UInt8 → R (List UInt8)
  | 0, _, _ => .error 0
  | f + 1, at_, out => (nextR A L at_).then fun v a =>
    if v = 256 then .ok (out, a)
    else if v < 256 then (if most ≤ out.length then .error 8 else blockR A B L most f a (out ++ [UInt8.ofNat v]))
    else (numberR false L (v - 257) a).then fun n a => (nextR B L a).then fun k a => (numberR true L k a).then fun d a =>
      if out.length < d then .error 3 else if most < out.length + n then .error 8 else blockR A B L most f a (copyN out d n)

/-- three numbers of a block that tells its lengths -/
def threeR (L : List Bool) (at_ : Nat) : R (Nat × Nat × Nat) :=
  if at_ + 14 ≤ L.length then
    .ok ((numE true ((L.drop at_).take 5) + 257, numE true ((L.drop (at_ + 5)).take 5) + 1, numE true ((L.drop (at_ + 10)).take 4) + 4), at_ + 14)
  else .error 2
/-- the lengths of the words of lengths, from the i-th on -/
def metaR (L : List Bool) : Nat → Nat → Nat → List Nat → R (List Nat)
  | 0, _, at_, l => .ok (l, at_)
  | k + 1, i, at_, l => (numR L at_ 3).then fun n a => metaR L k (i + 1) a (l.set (order.getD i 0) n)
def withW {β : Type} (x : Except Nat (List (List Bool))) (f : List (List Bool) → R β) : R β :=
  match x with
  | .ok W => f W
  | .error e => .error e
/-- a block that tells its lengths -/
def toldR (L : List Bool) (most : Nat) (f at_ : Nat) (out : List UInt8) : R (List UInt8) :=
  (threeR L at_).then fun n a =>
    if n.1 > 286 ∨ n.2.1 > 30 then .error 3
    else (metaR L n.2.2 0 a (List.replicate 19 0)).then fun l a => withW (wordsR l false) fun W =>
      (lensR W (n.1 + n.2.1) L (n.1 + n.2.1 + 1) a []).then fun all a =>
        if all.getD 256 0 = 0 then .error 3
        else withW (wordsR (all.take n.1) false) fun A => withW (wordsR (all.drop n.1) true) fun B => blockR A B L most f a out

def oneR (L : List Bool) (most : Nat) (f h at_ : Nat) (out : List UInt8) : R (List UInt8) :=
  if h / 2 = 0 then storedR L most at_ out
  else if h / 2 = 1 then blockR (canonW fixedA) (canonW fixedB) L most f at_ out
  else if h / 2 = 2 then toldR L most f at_ out
  else .error 3
def inflR (L : List Bool) (most : Nat) (g : Nat) : Nat → Nat → List UInt8 → R (List UInt8)
  | 0, _, _ => .error 0
  | f + 1, at_, out => (numR L at_ 3).then fun h a => (oneR L most g h a out).then fun o a =>
    if h % 2 = 1 then .ok (o, a) else inflR L most g f a o
/-- what any bytes stand for, and how many they are -/
def inflate (xs : List UInt8) (most : Nat) : Except Nat (List UInt8 × Nat) :=
  match inflR (bitsOf true xs) most (8 * xs.length + 1) (8 * xs.length + 1) 0 [] with
  | .ok (o, a) => .ok (o, (a + 7) / 8)
  | .error e => .error e

/- what is behind doesn't matter; what is cut off is missed -/
def Hon {α : Type} (at_ : Nat) (p : List Bool → R α) : Prop :=
  ∀ L, at_ ≤ L.length → (∀ v a, p L = .ok (v, a) → at_ ≤ a ∧ a ≤ L.length) ∧ ∀ r, p L = .error 2 ∨ p (L ++ r) = p L
theorem Hon.err {α : Type} (at_ e : Nat) : Hon at_ (fun _ => (.error e : R α)) := fun L hL => ⟨(by intro v a h; cases h), fun r => .inr rfl⟩
theorem Hon.ok {α : Type} (at_ : Nat) (v : α) : Hon at_ (fun _ => .ok (v, at_)) := fun L hL => ⟨(by intro w a h; cases h; exact ⟨Nat.le_refl _, hL⟩), fun r => .inr rfl⟩
theorem Hon.then {α β : Type} {at_ : Nat} {p : List Bool → R α} {f : List Bool → α → Nat → R β} (hp : Hon at_ p) (hf : ∀ v a, at_ ≤ a → Hon a (fun L => f L v a)) :
    Hon at_ (fun L => (p L).then (f L)) := by
  intro L hL
  obtain ⟨h1, h2⟩ := hp L hL
  refine ⟨fun v a h => ?_, fun r => ?_⟩
  · cases hx : p L with
    | error e => simp only [hx, R.then_err] at h; cases h
    | ok x =>
      obtain ⟨w, b⟩ := x
      simp only [hx, R.then_ok] at h
      obtain ⟨g1, g2⟩ := h1 w b hx
      obtain ⟨k1, _⟩ := hf w b g1 L g2
      obtain ⟨m1, m2⟩ := k1 v a h
      exact ⟨by omega, m2⟩
  · rcases h2 r with h | h
    · left; simp only [h, R.then_err]
    · simp only [h]
      cases hx : p L with
      | error e => right; simp only [R.then_err]
      | ok x =>
        obtain ⟨w, b⟩ := x
        simp only [R.then_ok]
        obtain ⟨g1, g2⟩ := h1 w b hx
        exact (hf w b g1 L g2).2 r
theorem Hon.ite {α : Type} {at_ : Nat} {c : Prop} [Decidable c] {p q : List Bool → R α} (hp : Hon at_ p) (hq : Hon at_ q) : Hon at_ (fun L => if c then p L else q L) := by
  by_cases h : c
  · simpa only [h, if_true] using hp
  · simpa only [h, if_false] using hq
theorem Hon.cut {α : Type} {at_ n : Nat} {f : List Bool → α} (h : at_ ≤ n) (hf : ∀ L r, n ≤ L.length → f (L ++ r) = f L) :
    Hon at_ (fun L => if n ≤ L.length then .ok (f L, n) else (.error 2 : R α)) := by
  intro L hL
  refine ⟨fun v a e => ?_, fun r => ?_⟩
  · by_cases hn : n ≤ L.length
    · simp only [hn, if_true] at e; cases e; exact ⟨h, hn⟩
    · simp only [hn, if_false] at e; cases e
  · by_cases hn : n ≤ L.length
    · right
      simp only [hn, if_true, List.length_append]
      rw [if_pos (by omega), hf L r hn]
    · left; simp only [hn, if_false]
theorem part_more (L r : List Bool) (a n : Nat) (h : a + n ≤ L.length) : ((L ++ r).drop a).take n = (L.drop a).take n := by
  rw [List.drop_append_of_le_length (by omega), List.take_append_of_le_length (by simp; omega)]
theorem hon_num (at_ n : Nat) : Hon at_ (fun L => numR L at_ n) := by
  unfold numR
  exact Hon.cut (by omega) fun L r h => by rw [part_more L r at_ n h]
theorem look_le (W : List (List Bool)) : ∀ (l p : List Bool) (i k : Nat), lookW W p l = .ok (i, k) → p.length + 1 ≤ k ∧ k ≤ p.length + l.length := by
  intro l
  induction l with
  | nil => intro p i k h; cases h
  | cons b t ih =>
    intro p i k h
    rw [lookW] at h
    split at h
    · cases h; simp
    · split at h
      · have := ih _ i k h
        simp at this ⊢
        omega
      · cases h
theorem look_more (W : List (List Bool)) (r : List Bool) : ∀ (l p : List Bool), lookW W p l = .error 2 ∨ lookW W p (l ++ r) = lookW W p l := by
  intro l
  induction l with
  | nil => intro p; exact .inl rfl
  | cons b t ih =>
    intro p
    rw [List.cons_append, lookW, lookW]
    split
    · exact .inr rfl
    · split
      · exact ih _
      · exact .inr rfl
theorem next_lt {W : List (List Bool)} {L : List Bool} {at_ v a : Nat} (h : nextR W L at_ = .ok (v, a)) : at_ < a := by
  unfold nextR at h
  cases hx : lookW W [] (L.drop at_) with
  | error e => rw [hx] at h; cases h
  | ok x =>
    obtain ⟨i, k⟩ := x
    rw [hx] at h
    cases h
    have := (look_le W _ _ _ _ hx).1
    simp at this
    omega
theorem hon_next (W : List (List Bool)) (at_ : Nat) : Hon at_ (fun L => nextR W L at_) := by
  intro L hL
  refine ⟨fun v a h => ?_, fun r => ?_⟩
  · change nextR W L at_ = _ at h
    unfold nextR at h
    cases hx : lookW W [] (L.drop at_) with
    | error e => rw [hx] at h; cases h
    | ok x =>
      obtain ⟨i, k⟩ := x
      rw [hx] at h
      cases h
      have := look_le W _ _ _ _ hx
      simp at this
      omega
  · change nextR W L at_ = _ ∨ nextR W (L ++ r) at_ = nextR W L at_
    unfold nextR
    rw [List.drop_append_of_le_length hL]
    rcases look_more W r (L.drop at_) [] with h | h
    · left; rw [h]
    · right; rw [h]
theorem hon_bytes (most : Nat) : ∀ (n at_ : Nat) (out : List UInt8), Hon at_ (fun L => bytesR L most n at_ out)
  | 0, at_, out => Hon.ok at_ out
  | n + 1, at_, out => (hon_num at_ 8).then fun c a ha => Hon.ite (Hon.err a 8) (hon_bytes most n a _)
theorem hon_two (at_ : Nat) : Hon at_ (fun L => twoR L at_) := by
  unfold twoR
  exact Hon.cut (by omega) fun L r h => by rw [part_more L r _ 16 (by omega), part_more L r _ 16 (by omega)]
theorem hon_stored (most at_ : Nat) (out : List UInt8) : Hon at_ (fun L => storedR L most at_ out) :=
  (hon_two at_).then fun nm a ha => Hon.ite (hon_bytes most _ a out) (Hon.err a 3)
theorem hon_lens (W : List (List Bool)) (n : Nat) : ∀ (f at_ : Nat) (all : List Nat), Hon at_ (fun L => lensR W n L f at_ all)
  | 0, at_, all => Hon.err at_ 0
  | f + 1, at_, all => Hon.ite (Hon.ite (Hon.ok at_ all) (Hon.err at_ 3)) ((hon_next W at_).then fun v a ha => Hon.ite (Hon.err a 3) ((hon_num a _).then fun m b hb => hon_lens W n f b _))
theorem hon_number (far : Bool) (i at_ : Nat) : Hon at_ (fun L => numberR far L i at_) :=
  Hon.ite ((hon_num at_ _).then fun m a ha => Hon.ok a _) (Hon.err at_ 6)
theorem hon_block (A B : List (List Bool)) (most : Nat) : ∀ (f at_ : Nat) (out : List UInt8), Hon at_ (fun L => blockR A B L most f at_ out)
  | 0, at_, out => Hon.err at_ 0
  | f + 1, at_, out => (hon_next A at_).then fun v a ha => Hon.ite (Hon.ok a out) (Hon.ite (Hon.ite (Hon.err a 8) (hon_block A B most f a _))
      ((hon_number false _ a).then fun n b hb => (hon_next B b).then fun k c hc => (hon_number true k c).then fun d e he => Hon.ite (Hon.err e 3) (Hon.ite (Hon.err e 8) (hon_block A B most f e _))))
theorem hon_three (at_ : Nat) : Hon at_ (fun L => threeR L at_) := by
  unfold threeR
  exact Hon.cut (by omega) fun L r h => by rw [part_more L r _ 5 (by omega), part_more L r _ 5 (by omega), part_more L r _ 4 (by omega)]
theorem hon_meta : ∀ (k i at_ : Nat) (l : List Nat), Hon at_ (fun L => metaR L k i at_ l)
  | 0, i, at_, l => Hon.ok at_ l
  | k + 1, i, at_, l => (hon_num at_ 3).then fun n a ha => hon_meta k (i + 1) a _
theorem Hon.withW {β : Type} {at_ : Nat} {x : Except Nat (List (List Bool))} {f : List Bool → List (List Bool) → R β} (h : ∀ W, Hon at_ (fun L => f L W)) : Hon at_ (fun L => withW x (f L)) := by
  cases x with
  | error e => exact Hon.err at_ e
  | ok W => exact h W
theorem hon_told (most f at_ : Nat) (out : List UInt8) : Hon at_ (fun L => toldR L most f at_ out) :=
  (hon_three at_).then fun n a ha => Hon.ite (Hon.err a 3) ((hon_meta _ 0 a _).then fun l b hb => Hon.withW fun W => (hon_lens W _ _ b []).then fun all c hc =>
    Hon.ite (Hon.err c 3) (Hon.withW fun A => Hon.withW fun B => hon_block A B most f c out))
theorem hon_one (most f h at_ : Nat) (out : List UInt8) : Hon at_ (fun L => oneR L most f h at_ out) :=
  Hon.ite (hon_stored most at_ out) (Hon.ite (hon_block _ _ most f at_ out) (Hon.ite (hon_told most f at_ out) (Hon.err at_ 3)))
theorem hon_infl (most g : Nat) : ∀ (f at_ : Nat) (out : List UInt8), Hon at_ (fun L => inflR L most g f at_ out)
  | 0, at_, out => Hon.err at_ 0
  | f + 1, at_, out => (hon_num at_ 3).then fun h a ha => (hon_one most g h a out).then fun o b hb => Hon.ite (Hon.ok b o) (hon_infl most g f b o)
end Go.Proofs.YtgddpjnikgcamaaDoor.Inf

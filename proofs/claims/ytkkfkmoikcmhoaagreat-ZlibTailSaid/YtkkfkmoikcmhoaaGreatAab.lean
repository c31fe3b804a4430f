/- LtM, LtT, LtA: merged. -/
import Derived.Deep.Slices
import Derived.Deep.Fields
import Derived.ChangeSame
import Derived.RegionTactic
import Derived.BigRegion
import Derived.OwnWalk
import Derived.Deep.AppendLies
import Derived.Deep.RegionLaw
import Derived.Test.YtkkfkmoikcmhoaaGreatAaa
set_option linter.unusedVariables false
set_option linter.unusedSimpArgs false
namespace Go.Proofs.YtkkfkmoikcmhoaaGreat.Lzt
structure Tok where
 lit : UInt8
 len : Int
 dist : Int
def Y2g (out : List UInt8) (d : Nat) : Nat → List UInt8
 | 0 => out
 | n + 1 => Y2g (out ++ [out.getD (out.length - d) 0]) d n
theorem Y19 (d : Nat) : ∀ (n : Nat) (out : List UInt8), (Y2g out d n).length = out.length + n
 | 0, out => rfl
 | n + 1, out => by rw [Y2g, Y19 d n]; simp; omega
def Y51 (most : Int) (t : Tok) (out : List UInt8) : Except Nat (List UInt8) :=
 if t.len = 0 then (if most < (out.length : Int) + 1 then .error 8 else .ok (out ++ [t.lit]))
 else if t.len < 3 ∨ 258 < t.len ∨ t.dist < 1 ∨ 32768 < t.dist then .error 1
 else if (out.length : Int) < t.dist then .error 3
 else if most < (out.length : Int) + t.len then .error 8 else .ok (Y2g out t.dist.toNat t.len.toNat)
def Y83 (most : Int) : List Tok → List UInt8 → Except Nat (List UInt8)
 | [], out => .ok out
 | t :: l, out => match Y51 most t out with
  | .ok o => Y83 most l o
  | .error e => .error e
theorem Y93 (most : Int) (t : Tok) (l : List Tok) (out : List UInt8) : Y83 most (t :: l) out = match Y51 most t out with
  | .ok o => Y83 most l o
  | .error e => .error e := rfl
theorem Ya0 {most : Int} {t : Tok} {l : List Tok} {out o : List UInt8} (h : Y51 most t out = .ok o) : Y83 most (t :: l) out = Y83 most l o := by rw [Y93, h]
theorem Y9z {most : Int} {t : Tok} {l : List Tok} {out : List UInt8} {e : Nat} (h : Y51 most t out = .error e) : Y83 most (t :: l) out = .error e := by rw [Y93, h]
theorem Y84 (most : Int) : ∀ (l r : List Tok) (out : List UInt8), Y83 most (l ++ r) out = match Y83 most l out with
  | .ok o => Y83 most r o
  | .error e => .error e
 | [], r, out => rfl
 | t :: l, r, out => by
  rw [List.cons_append, Y93, Y93]
  rcases h : Y51 most t out with e | o
  ·rfl
  ·exact Y84 most l r o
theorem Yia {most : Int} {t : Tok} {out o : List UInt8} (h : Y51 most t out = .ok o) : (o.length : Int) ≤ most ∧ out.length < o.length := by
 unfold Y51 at h
 split at h
 ·split at h
  ·cases h
  ·cases h
   rw [List.length_append]
   simp
   omega
 ·split at h
  ·cases h
  ·split at h
   ·cases h
   ·split at h
    ·cases h
    ·cases h
     rw [Y19]
     omega
theorem Yo6 {m : Int} : ∀ (l : List Tok) (out o : List UInt8), Y83 m l out = .ok o → out.length ≤ o.length
 | [], out, o, h => by cases h; exact Nat.le_refl _
 | t :: l, out, o, h => by
  rcases hs : Y51 m t out with e | o1
  ·rw [Y9z hs] at h; cases h
  ·rw [Ya0 hs] at h
   have h1 := Yo6 l o1 o h
   have h2 := (Yia hs).2
   omega
theorem Y76 {m : Int} : ∀ (l : List Tok) (out o : List UInt8), Y83 m l out = .ok o → out.length + l.length ≤ o.length
 | [], out, o, h => by cases h; simp
 | t :: l, out, o, h => by
  rcases hs : Y51 m t out with e | o1
  ·rw [Y9z hs] at h; cases h
  ·rw [Ya0 hs] at h
   have h1 := Y76 l o1 o h
   have h2 := (Yia hs).2
   simp
   omega
theorem Yuo {m : Int} {l : List Tok} {b : List UInt8} {i : Nat} (h : Y83 m l [] = .ok (b.take i)) (hi : i < b.length) (hm : (i : Int) < m) : Y83 m (l ++ [⟨b[i], 0, 0⟩]) [] = .ok (b.take (i + 1)) := by
 rw [Y84, h]
 show Y83 m [⟨b[i], 0, 0⟩] (b.take i) = _
 have hl : (b.take i).length = i := by rw [List.length_take]; omega
 have hs : Y51 m ⟨b[i], 0, 0⟩ (b.take i) = .ok (b.take i ++ [b[i]]) := by
  unfold Y51
  rw [if_pos rfl, if_neg (by rw [hl]; omega)]
 rw [Ya0 hs, List.take_succ_eq_append_getElem hi]
 rfl
theorem Yew {b : List UInt8} {d : Nat} (hd : 1 ≤ d) : ∀ (n i : Nat), d ≤ i → i + n ≤ b.length → (∀ k, i ≤ k → k < i + n → b[k]? = b[k - d]?) → Y2g (b.take i) d n = b.take (i + n)
 | 0, i, h1, h2, h3 => rfl
 | n + 1, i, h1, h2, h3 => by
  have hl : (b.take i).length = i := by rw [List.length_take]; omega
  have hi : i < b.length := by omega
  have e : (b.take i).getD ((b.take i).length - d) 0 = b[i] := by
   rw [hl, List.getD_eq_getElem?_getD, List.getElem?_take, if_pos (by omega), ← h3 i (Nat.le_refl _) (by omega), List.getElem?_eq_getElem hi]
   rfl
  rw [Y2g, e, ← List.take_succ_eq_append_getElem hi, Yew hd n (i + 1) (by omega) (by omega) (fun k k1 k2 => h3 k (by omega) (by omega))]
  congr 1
  omega
theorem Yr2 {m : Int} {l : List Tok} {b : List UInt8} {i n d : Nat} (h : Y83 m l [] = .ok (b.take i)) (hn : 3 ≤ n) (hn2 : n ≤ 258) (hd : 1 ≤ d) (hd2 : d ≤ 32768) (hdi : d ≤ i) (hin : i + n ≤ b.length) (hm : ((i + n : Nat) : Int) ≤ m)
  (hb : ∀ k, i ≤ k → k < i + n → b[k]? = b[k - d]?) : Y83 m (l ++ [⟨0, (n : Int), (d : Int)⟩]) [] = .ok (b.take (i + n)) := by
 rw [Y84, h]
 show Y83 m [⟨0, (n : Int), (d : Int)⟩] (b.take i) = _
 have hl : (b.take i).length = i := by rw [List.length_take]; omega
 have hs : Y51 m ⟨0, (n : Int), (d : Int)⟩ (b.take i) = .ok (b.take (i + n)) := by
  unfold Y51
  rw [if_neg (by show ¬ (n : Int) = 0; omega), if_neg (by show ¬ ((n : Int) < 3 ∨ 258 < (n : Int) ∨ (d : Int) < 1 ∨ 32768 < (d : Int)); omega), if_neg (by rw [hl]; show ¬ (i : Int) < (d : Int); omega),
   if_neg (by rw [hl]; show ¬ m < (i : Int) + (n : Int); omega)]
  show Except.ok (Y2g (b.take i) ((d : Int).toNat) ((n : Int).toNat)) = _
  rw [Int.toNat_natCast, Int.toNat_natCast, Yew hd n i hdi hin hb]
 rw [Ya0 hs]
 rfl
theorem Yqh {b : List UInt8} {i n d : Nat} (hdi : d ≤ i) (hin : i + n ≤ b.length) (h : ∀ k, k < n → b[i + k]? = b[i - d + k]?) : ∀ k, i ≤ k → k < i + n → b[k]? = b[k - d]? := by
 intro k h1 h2
 have := h (k - i) (by omega)
 rw [show i + (k - i) = k from by omega, show i - d + (k - i) = k - d from by omega] at this
 exact this
def Y2f (c : UInt8) (r : Nat) : List Tok :=
 if r < 3 then List.replicate r ⟨c, 0, 0⟩ else ⟨0, ((min r 258 : Nat) : Int), 1⟩ :: Y2f c (r - min r 258)
termination_by r
decreasing_by omega
def Y0k (c : UInt8) (n : Nat) : List Tok := if n = 0 then [] else ⟨c, 0, 0⟩ :: Y2f c (n - 1)
theorem Y1f (c : UInt8) (r : Nat) (h : r < 3) : Y2f c r = List.replicate r ⟨c, 0, 0⟩ := by rw [Y2f, if_pos h]
theorem Y7s (c : UInt8) (r : Nat) (h : 3 ≤ r) : Y2f c r = ⟨0, ((min r 258 : Nat) : Int), 1⟩ :: Y2f c (r - min r 258) := by rw [Y2f, if_neg (by omega)]
theorem Yc8 (c : UInt8) : ∀ (k r : Nat), r ≤ k → (Y2f c r).length ≤ (r + 257) / 258 + 1
 | 0, r, h => by rw [Y1f c r (by omega)]; simp; omega
 | k + 1, r, h => by
  by_cases h3 : r < 3
  ·rw [Y1f c r h3]; simp; omega
  ·rw [Y7s c r (by omega)]
   have := Yc8 c k (r - min r 258) (by omega)
   simp
   omega
theorem Y9g (c : UInt8) (n : Nat) : (Y0k c n).length ≤ (n + 256) / 258 + 2 := by
 unfold Y0k
 split
 ·simp
 ·have := Yc8 c (n - 1) (n - 1) (Nat.le_refl _)
  simp
  omega
theorem Ygi (c : UInt8) : ∀ (k r : Nat), r ≤ k → ∀ t ∈ Y2f c r, t = ⟨c, 0, 0⟩ ∨ ∃ m : Nat, 3 ≤ m ∧ m ≤ 258 ∧ t = ⟨0, (m : Int), 1⟩
 | 0, r, h, t, ht => by
  rw [Y1f c r (by omega)] at ht
  exact .inl (List.eq_of_mem_replicate ht)
 | k + 1, r, h, t, ht => by
  by_cases h3 : r < 3
  ·rw [Y1f c r h3] at ht
   exact .inl (List.eq_of_mem_replicate ht)
  ·rw [Y7s c r (by omega)] at ht
   rcases List.mem_cons.1 ht with e | e
   ·exact .inr ⟨min r 258, by omega, by omega, e⟩
   ·exact Ygi c k (r - min r 258) (by omega) t e
theorem Ys2 (c : UInt8) (n : Nat) : ∀ t ∈ Y0k c n, t = ⟨c, 0, 0⟩ ∨ ∃ m : Nat, 3 ≤ m ∧ m ≤ 258 ∧ t = ⟨0, (m : Int), 1⟩ := by
 intro t ht
 unfold Y0k at ht
 split at ht
 ·cases ht
 ·rcases List.mem_cons.1 ht with e | e
  ·exact .inl e
  ·exact Ygi c _ _ (Nat.le_refl _) t e
theorem Yk9 (c : UInt8) : ∀ (k r : Nat), r ≤ k → ∃ m : Nat, 3 ≤ m ∧ m ≤ 258 ∧ ∀ t ∈ Y2f c r, t = ⟨c, 0, 0⟩ ∨ t = ⟨0, 258, 1⟩ ∨ t = ⟨0, (m : Int), 1⟩
 | 0, r, h => ⟨3, by omega, by omega, fun t ht => by
  rw [Y1f c r (by omega)] at ht
  exact .inl (List.eq_of_mem_replicate ht)⟩
 | k + 1, r, h => by
  by_cases h3 : r < 3
  ·exact ⟨3, by omega, by omega, fun t ht => by
    rw [Y1f c r h3] at ht
    exact .inl (List.eq_of_mem_replicate ht)⟩
  ·by_cases hb : 258 ≤ r
   ·obtain ⟨m, h1, h2, h4⟩ := Yk9 c k (r - min r 258) (by omega)
    refine ⟨m, h1, h2, fun t ht => ?_⟩
    rw [Y7s c r (by omega)] at ht
    rcases List.mem_cons.1 ht with e | e
    ·right; left
     rw [e, show min r 258 = 258 from by omega]
     rfl
    ·exact h4 t e
   ·refine ⟨r, by omega, by omega, fun t ht => ?_⟩
    rw [Y7s c r (by omega), show min r 258 = r from by omega, Nat.sub_self, Y1f c 0 (by omega)] at ht
    rcases List.mem_cons.1 ht with e | e
    ·exact .inr (.inr e)
    ·cases e
theorem Yvx (c : UInt8) (n : Nat) : ∃ m : Nat, 3 ≤ m ∧ m ≤ 258 ∧ ∀ t ∈ Y0k c n, t = ⟨c, 0, 0⟩ ∨ t = ⟨0, 258, 1⟩ ∨ t = ⟨0, (m : Int), 1⟩ := by
 unfold Y0k
 split
 ·exact ⟨3, by omega, by omega, fun t ht => by cases ht⟩
 ·obtain ⟨m, h1, h2, h3⟩ := Yk9 c (n - 1) (n - 1) (Nat.le_refl _)
  refine ⟨m, h1, h2, fun t ht => ?_⟩
  rcases List.mem_cons.1 ht with e | e
  ·exact .inl e
  ·exact h3 t e
end Go.Proofs.YtkkfkmoikcmhoaaGreat.Lzt
namespace Go.Proofs.YtkkfkmoikcmhoaaGreat.Lzt
open Go.RowKit Oct Go.ChangeShapes Go.WideShapes Go.Deep
set_option maxRecDepth 100000
theorem Tryz.infoToken : (Tryz.prog.info? 134).map (fun i => (i.zero, i.size, i.bytes)) = some (some (.agg #[.int .u8 0, .int .i64 0, .int .i64 0]), 3, 24) := by kernel_rfl
def Yn5 (w : World) (b off i : Nat) (t : Tok) : Prop :=
 w.cell? ⟨b, off + i * 3, none⟩ = some (.int .u8 (t.lit.toNat : Int)) ∧ w.cell? ⟨b, off + i * 3 + 1, none⟩ = some (.int .i64 t.len) ∧ w.cell? ⟨b, off + i * 3 + 2, none⟩ = some (.int .i64 t.dist)
def Yn6 (t : Tok) : Prop := -9223372036854775808 ≤ t.len ∧ t.len ≤ 9223372036854775807 ∧ -9223372036854775808 ≤ t.dist ∧ t.dist ≤ 9223372036854775807
def Toks (w : World) (C : Nat) (a : Option Addr) (l : List Tok) : Prop :=
 (∀ t ∈ l, Yn6 t) ∧ (0 < l.length → ∃ b off, a = some ⟨b, off, none⟩ ∧ b < C ∧ ∀ i (h : i < l.length), Yn5 w b off i l[i])
section
variable {H : Type} {enc : TypeId × Value → H} {w : World} {spare : Nat → Bool} {held : Bool}
end
def encT (t : Tok) : List Value := [.int .u8 (t.lit.toNat : Int), .int .i64 t.len, .int .i64 t.dist]
def tcells (l : List Tok) : List Value := l.flatMap encT
theorem Y52 (l : List Tok) : (tcells l).length = l.length * 3 := by
 induction l with
 | nil => rfl
 | cons z l ih =>
  unfold tcells at ih ⊢
  rw [List.flatMap_cons, List.length_append, ih, List.length_cons]
  show 3 + _ = _
  omega
theorem Ye3 (a b : List Tok) : tcells (a ++ b) = tcells a ++ tcells b := by simp [tcells]
theorem Y8l : ∀ (l : List Tok) (i : Nat) (h : i < l.length), (tcells l)[i * 3]? = some (.int .u8 (l[i].lit.toNat : Int)) ∧ (tcells l)[i * 3 + 1]? = some (.int .i64 l[i].len) ∧ (tcells l)[i * 3 + 2]? = some (.int .i64 l[i].dist)
 | [], i, h => by simp at h
 | z :: l, 0, h => ⟨rfl, rfl, rfl⟩
 | z :: l, i + 1, h => by
  obtain ⟨q1, q2, q3⟩ := Y8l l i (by simpa using h)
  have e : ∀ j, (tcells (z :: l))[j + 3]? = (tcells l)[j]? := fun j => rfl
  rw [show (i + 1) * 3 = i * 3 + 3 by omega, show i * 3 + 3 + 1 = i * 3 + 1 + 3 by omega, show i * 3 + 3 + 2 = i * 3 + 2 + 3 by omega, e, e, e]
  exact ⟨q1, q2, q3⟩
theorem Ymp (l : List Tok) : ∀ u ∈ tcells l, u.oneCell' = true := fun u hu => by
 obtain ⟨z, _, hz⟩ := List.mem_flatMap.1 hu
 simp [encT] at hz
 rcases hz with rfl | rfl | rfl <;> rfl
theorem Ymr {w : World} {b off : Nat} {l : List Tok} (h : ∀ i (h : i < l.length), Yn5 w b off i l[i]) (j : Nat) (u : Value) (hj : (tcells l)[j]? = some u) : w.cell? ⟨b, off + j, none⟩ = some u := by
 have hlt : j < l.length * 3 := by
  rw [← Y52]
  exact (List.getElem?_eq_some_iff.1 hj).1
 have hi : j / 3 < l.length := by omega
 obtain ⟨q1, q2, q3⟩ := Y8l l (j / 3) hi
 obtain ⟨c1, c2, c3⟩ := h (j / 3) hi
 rcases (show j = j / 3 * 3 ∨ j = j / 3 * 3 + 1 ∨ j = j / 3 * 3 + 2 by omega) with e | e | e
 ·rw [← e] at q1 c1
  rw [q1] at hj
  rw [c1, hj]
 ·rw [← e] at q2
  rw [show off + j / 3 * 3 + 1 = off + j from by omega] at c2
  rw [q2] at hj
  rw [c2, hj]
 ·rw [← e] at q3
  rw [show off + j / 3 * 3 + 2 = off + j from by omega] at c3
  rw [q3] at hj
  rw [c3, hj]
theorem Yy7 {w : World} {b off : Nat} {l : List Tok} (h : ∀ j u, (tcells l)[j]? = some u → w.cell? ⟨b, off + j, none⟩ = some u) : ∀ i (h : i < l.length), Yn5 w b off i l[i] := fun i hi =>
 have ⟨q1, q2, q3⟩ := Y8l l i hi
 ⟨h _ _ q1, h _ _ q2, h _ _ q3⟩
def TOwn (w : World) (base : Nat) (v : Value) (l : List Tok) : Prop := w.ownsRow base 134 3 v l.length (tcells l)
theorem TOwn.below {w w' : World} {base : Nat} {v : Value} {l : List Tok} (h : TOwn w base v l) (hb : Below w.heap.size w w') : TOwn w' base v l := by
 refine ⟨h.1, ?_⟩
 rcases h.2 with hn | ⟨g, cap, cur, rfl, hbs, hh, r⟩
 ·exact .inl hn
 ·refine .inr ⟨g, cap, cur, rfl, hbs, ?_, r⟩
  have hlt : g < w.heap.size := by
   rcases Nat.lt_or_ge g w.heap.size with hlt | hge
   ·exact hlt
   ·rw [Array.getElem?_eq_none hge] at hh; cases hh
  rw [hb.block g hlt]
  exact hh
theorem TOwn.shape {w : World} {base : Nat} {v : Value} {l : List Tok} (h : TOwn w base v l) (hok : ∀ t ∈ l, Yn6 t) :
  ∃ q c, v = .slice q l.length c ∧ (q = none → c = 0) ∧ l.length ≤ c ∧ c ≤ maxLen ∧ Toks w w.heap.size q l ∧ ∀ a, q = some a → base ≤ a.block := by
 have hl := fun k hk => h.lt k hk
 have hc := fun g hg => World.ownsRow.cells h (g := g) hg
 rcases h.2 with ⟨rfl, h0⟩ | ⟨g, cap, cur, rfl, hb, hh, h1, h2, _, _⟩
 ·exact ⟨none, 0, by rw [h0], fun _ => rfl, by omega, by simp [maxLen], ⟨hok, fun hp => by omega⟩, fun a h => by cases h⟩
 ·refine ⟨some ⟨g, 0, none⟩, cap, rfl, fun h => (by cases h), h1, h2, ⟨hok, fun hp => ⟨g, 0, rfl, (hl g rfl).2, Yy7 fun j u hj => ?_⟩⟩, fun a h => by injection h with h; subst h; exact hb⟩
  have := hc g rfl j u hj
  rw [Oct.Y08] at this
  exact this
theorem Y7w {w : World} {ops : Array Oper} {rest : List Oper} {o : Oper} {a : Act} {Q : Exit → Act → World → Prop}
  (hgd : o.guard = none) (s x : Operand) (ho : o.op = .call { callee := .builtin .append, args := #[s, x], argTypes := #[89, 89] })
  (base : Nat) (v : Value) (ys : List Tok) (hs : a.eval s = v) (hown : TOwn w base v ys)
  (p : Option Addr) (m c : Nat) (xs : List Tok) (hx : a.eval x = .slice p m c) (hr : Toks w w.heap.size p xs) (hxm : xs.length = m) (hc0 : p = none → c = 0)
  (h47 : ys.length + m ≤ 1000000) (hbase : base ≤ w.heap.size)
  (h : ∀ v' w', TOwn w' base v' (ys ++ xs) → w.grownBy w' v.ownBlock → Below base w w' → wpList Tryz.prog ops Q rest (a.put o.dst v') w') :
  wpList Tryz.prog ops Q (o :: rest) a w := by
 obtain ⟨i0, hi, hz0, hz1, hz2⟩ := info_parts Tryz.infoToken
 have hT := Tryz.underlying89
 rcases p with _ | ad
 ·have hxs : xs = [] := by
   rcases xs with _ | ⟨x, xs⟩
   ·rfl
   ·obtain ⟨b, off, he, _⟩ := hr.2 (by simp)
    cases he
  subst hxs
  simp at hxm
  subst hxm
  have := hc0 rfl
  subst this
  refine wpList_append_own_none hgd s x 89 ho base 134 i0 3 hT hi v ys.length (tcells ys) hs hown hx ?_
  exact h v w (by simpa using hown) (World.grownBy.refl _ _) (Below.refl _ _)
 ·refine wpList_append_own w hgd s x 89 ho base 134 i0 _ 3 24 hT hi hz0 hz1 hz2 (by decide) (by decide) v ys.length (tcells ys) hs hown ad m c (tcells xs) hx (by rw [Y52, hxm]) ?_ (Ymp xs) (by unfold maxLen; omega) (by omega) hbase ?_
  ·intro j u hj
   have hlt := (List.getElem?_eq_some_iff.1 hj).1
   rw [Y52] at hlt
   obtain ⟨b, off, he, _, hc⟩ := hr.2 (by omega)
   injection he with he
   subst he
   rw [Oct.Y08]
   exact Ymr hc j u hj
  ·intro v' w' h2 h3 h4
   refine h v' w' ?_ h3 ((Below.refl _ w).grown h3 hbase (fun k hk => (World.ownsRow.lt hown k hk).1))
   unfold TOwn
   rw [List.length_append, hxm, Ye3]
   exact h2
theorem Yxb (w : World) (t : Tok) (h : Yn6 t) : Toks (w.alloc (.cells #[.int .u8 (t.lit.toNat : Int), .int .i64 t.len, .int .i64 t.dist] 134)) (w.alloc (.cells #[.int .u8 (t.lit.toNat : Int), .int .i64 t.len, .int .i64 t.dist] 134)).heap.size (some ⟨w.heap.size, 0, none⟩) [t] := by
 refine ⟨fun t' ht => by rw [List.mem_singleton.1 ht]; exact h, fun _ => ⟨w.heap.size, 0, rfl, by simp, fun i hi => ?_⟩⟩
 have hi0 : i = 0 := by simpa using hi
 subst hi0
 have hb : (w.alloc (.cells #[.int .u8 (t.lit.toNat : Int), .int .i64 t.len, .int .i64 t.dist] 134)).heap[w.heap.size]? = some (.cells #[.int .u8 (t.lit.toNat : Int), .int .i64 t.len, .int .i64 t.dist] 134 (0, 0)) := Array.getElem?_push_size
 have hc : ∀ i u, (#[Value.int .u8 (t.lit.toNat : Int), .int .i64 t.len, .int .i64 t.dist] : Array Value)[i]? = some u → (w.alloc (.cells #[.int .u8 (t.lit.toNat : Int), .int .i64 t.len, .int .i64 t.dist] 134)).cell? ⟨w.heap.size, i, none⟩ = some u := fun i u hu => by
  rw [cell_of_row _ w.heap.size i _ _ _ hb]
  exact hu
 exact ⟨hc 0 _ rfl, hc 1 _ rfl, hc 2 _ rfl⟩
end Go.Proofs.YtkkfkmoikcmhoaaGreat.Lzt
namespace Go.Proofs.YtkkfkmoikcmhoaaGreat.Lzt
open Go.RowKit Oct
set_option maxRecDepth 20000
def Only (S : Nat → Prop) (w w' : World) : Prop :=
 w'.os = w.os ∧ w'.tape = w.tape ∧ w'.output = w.output ∧ w.heap.size ≤ w'.heap.size ∧ ∀ k, k < w.heap.size → ¬ S k → w'.heap[k]? = w.heap[k]?
theorem Only.refl (S : Nat → Prop) (w : World) : Only S w w := ⟨rfl, rfl, rfl, Nat.le_refl _, fun _ _ _ => rfl⟩
theorem Only.trans {S : Nat → Prop} {a b c : World} (h : Only S a b) (k : Only S b c) : Only S a c :=
 ⟨k.1.trans h.1, k.2.1.trans h.2.1, k.2.2.1.trans h.2.2.1, Nat.le_trans h.2.2.2.1 k.2.2.2.1, fun i hi hs => (k.2.2.2.2 i (by have := h.2.2.2.1; omega) hs).trans (h.2.2.2.2 i hi hs)⟩
theorem Only.below {S : Nat → Prop} {B : Nat} {w w' : World} (h : Only S w w') (hB : B ≤ w.heap.size) (hS : ∀ k, k < B → ¬ S k) : Below B w w' :=
 ⟨h.1, h.2.1, h.2.2.1, h.2.2.2.1, fun k hk => h.2.2.2.2 k (by omega) (hS k hk)⟩
theorem Only.of_below {S : Nat → Prop} {w w' : World} (h : Below w.heap.size w w') : Only S w w' := ⟨h.os, h.tape, h.output, h.size, fun k hk _ => h.block k hk⟩
theorem Only.drawn (S : Nat → Prop) {w w' : World} (h : Drawn w w') : Only S w w' := by
 obtain ⟨n, rfl⟩ := h
 exact ⟨rfl, rfl, rfl, Nat.le_refl _, fun _ _ _ => rfl⟩
theorem Only.setCell {S : Nat → Prop} {w : World} {p : Addr} (hp : S p.block) (u : Value) : Only S w (w.setCell p u) :=
 ⟨rfl, rfl, rfl, by simp [World.setCell], fun k hk hs => Below.heap_setCell _ _ _ _ (fun e => hs (e ▸ hp))⟩
theorem Y4j {w w' : World} {row : Option Nat} (hg : w.grownBy w' row) : Only (fun k => row = some k) w w' :=
 ⟨hg.os, hg.tape, hg.output, hg.size, fun k hk hs => hg.block k hk (fun e => hs e.symm)⟩
end Go.Proofs.YtkkfkmoikcmhoaaGreat.Lzt

/- LpB, LpC, LpD, LpE: merged. -/
import Derived.Lib.BufferMore
import Derived.Test.YtkkfkmoikcmhoaaGreatAat
set_option linter.unusedVariables false
set_option linter.unusedSimpArgs false
namespace Go.Proofs.YtkkfkmoikcmhoaaGreat.Lp
open Go.RowKit Oct Lm
set_option maxRecDepth 100000
def PAt (w : World) (b o : Nat) (p : Pk) : Prop :=
 w.cell? ⟨b, o, none⟩ = some (.int .i64 p.wt) ∧ w.cell? ⟨b, o + 1, none⟩ = some (.int .i64 p.sym) ∧ w.cell? ⟨b, o + 2, none⟩ = some (.slice p.ptr p.len p.cap)
theorem Y9q {w w' : World} {a : Addr} (h : w'.heap[a.block]? = w.heap[a.block]?) : w'.cell? a = w.cell? a := by
 unfold World.cell?
 rw [h]
theorem PAt.keep {w w' : World} {b o : Nat} {p : Pk} (h : PAt w b o p) (hb : w'.heap[b]? = w.heap[b]?) : PAt w' b o p :=
 ⟨(Y9q hb).trans h.1, (Y9q hb).trans h.2.1, (Y9q hb).trans h.2.2⟩
def Mn (w : World) (lo hi : Nat) (ix : Nat → Nat) : Tree → Pk → Prop
 | .leaf wt s, p => p.wt = (wt : Int) ∧ p.sym = (ix s : Int) ∧ p.ptr = none ∧ p.len = 0 ∧ p.cap = 0
 | .node a b, p => p.wt = ((a.wt + b.wt : Nat) : Int) ∧ p.len = 2 ∧ 2 ≤ p.cap ∧ ∃ blk off pa pb, p.ptr = some ⟨blk, off, none⟩ ∧ lo ≤ blk ∧ blk < hi ∧ PAt w blk off pa ∧ PAt w blk (off + 3) pb ∧ Mn w lo hi ix a pa ∧ Mn w lo hi ix b pb
theorem Mn.wt {w : World} {lo hi : Nat} {ix : Nat → Nat} {t : Tree} {p : Pk} (h : Mn w lo hi ix t p) : p.wt = (t.wt : Int) := by
 cases t with
 | leaf wt s => exact h.1
 | node a b => exact h.1
theorem Mn.keep {w w' : World} {lo hi hi' : Nat} {ix : Nat → Nat} : ∀ {t : Tree} {p : Pk}, Mn w lo hi ix t p → hi ≤ hi' → (∀ k, lo ≤ k → k < hi → w'.heap[k]? = w.heap[k]?) → Mn w' lo hi' ix t p
 | .leaf _ _, _, h, _, _ => h
 | .node a b, p, ⟨h1, h2, h3, blk, off, pa, pb, e, l1, l2, q1, q2, m1, m2⟩, hh, hk =>
  ⟨h1, h2, h3, blk, off, pa, pb, e, l1, by omega, q1.keep (hk blk l1 l2), q2.keep (hk blk l1 l2), m1.keep hh hk, m2.keep hh hk⟩
def nats (ls : List Nat) : List Value := ls.map fun n : Nat => .int .i64 (n : Int)
def LRow (w : World) (bl : Nat) (ls : List Nat) : Prop := w.heap[bl]? = some (.cells (nats ls).toArray 3 (0, 0))
def Y6y (ix : Nat → Nat) : Tree → List Nat → List Nat
 | .leaf _ s, ls => ls.set (ix s) (ls.getD (ix s) 0 + 1)
 | .node a b, ls => Y6y ix b (Y6y ix a ls)
def Y34 : Tree → Nat
 | .leaf _ _ => 1
 | .node a b => Y34 a + Y34 b
def InT (ix : Nat → Nat) (n : Nat) : Tree → Prop
 | .leaf _ s => ix s < n
 | .node a b => InT ix n a ∧ InT ix n b
theorem Y1w (ix : Nat → Nat) : ∀ (t : Tree) (ls : List Nat), (Y6y ix t ls).length = ls.length
 | .leaf _ _, ls => by simp [Y6y]
 | .node a b, ls => by simp only [Y6y]; rw [Y1w ix b, Y1w ix a]
theorem Yck (ix : Nat → Nat) {B : Nat} : ∀ (t : Tree) (ls : List Nat), (∀ x ∈ ls, x ≤ B) → ∀ x ∈ Y6y ix t ls, x ≤ B + Y34 t
 | .leaf _ s, ls, h, x, hx => by
  simp only [Y6y] at hx
  rcases List.mem_or_eq_of_mem_set hx with hx | rfl
  ·have := h x hx; simp only [Y34]; omega
  ·simp only [Y34]
   rw [List.getD_eq_getElem?_getD]
   rcases hg : ls[ix s]? with _ | y
   ·simp
   ·have := h y (List.mem_of_getElem? hg)
    simp; omega
 | .node a b, ls, h, x, hx => by
  have := Yck ix (B := B + Y34 a) b (Y6y ix a ls) (Yck ix a ls h) x hx
  simp only [Y34]; omega
theorem Yfl {w : World} {bl : Nat} {ls : List Nat} (h : LRow w bl ls) (i : Nat) (hi : i < ls.length) : w.cell? ⟨bl, i, none⟩ = some (.int .i64 ((ls.getD i 0 : Nat) : Int)) := by
 unfold LRow at h
 rw [List.getD_eq_getElem?_getD, List.getElem?_eq_getElem hi]
 simp [World.cell?, h, nats, hi]
theorem Yjc {w : World} {bl : Nat} {ls : List Nat} (h : LRow w bl ls) (i n : Nat) : LRow (w.setCell ⟨bl, i, none⟩ (.int .i64 (n : Int))) bl (ls.set i n) := by
 have := Y2k h i (.int .i64 (n : Int))
 unfold LRow
 rw [this]
 simp [nats, List.map_set]
theorem LRow.lt {w : World} {bl : Nat} {ls : List Nat} (h : LRow w bl ls) : bl < w.heap.size := by
 rcases Nat.lt_or_ge bl w.heap.size with hlt | hge
 ·exact hlt
 ·unfold LRow at h; rw [Array.getElem?_eq_none hge] at h; cases h
theorem LRow.only {w w' : World} {bl : Nat} {ls : List Nat} {S : Nat → Prop} (h : LRow w bl ls) (ho : Only S w w') (hS : ¬ S bl) : LRow w' bl ls := (ho.2.2.2.2 bl h.lt hS).trans h
theorem Y18 (S : Nat → Prop) (w : World) (o : Obj) : Only S w (w.alloc o) := Only.of_below ((Below.refl _ w).alloc (Nat.le_refl _) o)
theorem Ypi (W : World) : (binOp .eql 218 (.slice none 0 0) (.slice none 0 0)).run Tryz.prog W = .ok (.bool true) W := Lib.run_eql_slice_nil_nil W 0 0 Tryz.underlying218
theorem Yjy (W : World) (a : Addr) (n c : Nat) : (binOp .eql 218 (.slice (some a) n c) (.slice none 0 0)).run Tryz.prog W = .ok (.bool false) W := Lib.run_eql_slice_some_nil W a n c Tryz.underlying218
def Long (w : World) (bl : Nat) (ls : List Nat) (e : Ending) (w' : World) : Prop := e = .returned (.tuple #[]) ∧ LRow w' bl ls ∧ Only (· = bl) w w'
set_option maxHeartbeats 4000000 in
theorem Yd3 (wt s : Nat) (p : Pk) (ls : List Nat) (w : World) (lo hi bl cap n : Nat) (ix : Nat → Nat) (hn : n = ls.length) (h : Mn w lo hi ix (.leaf wt s) p) (hl : LRow w bl ls) (hi' : InT ix ls.length (.leaf wt s)) (hb : ∀ x ∈ ls, x + 1 ≤ 4611686018427387904) :
  Calls Tryz.prog 147 #[.agg #[.int .i64 p.wt, .int .i64 p.sym, .slice p.ptr p.len p.cap], .slice (some ⟨bl, 0, none⟩) n cap] w (Long w bl (Y6y ix (.leaf wt s) ls)) := by
 obtain ⟨h1, h2, h3, h4, h5⟩ := h
 rw [h1, h2, h3, h4, h5]
 have hi2 : ix s < ls.length := hi'
 have hcell := Yfl hl (ix s) hi2
 have hfr := Y23 hl (ix s)
 have hx : ls.getD (ix s) 0 + 1 ≤ 4611686018427387904 := by
  rw [List.getD_eq_getElem?_getD, List.getElem?_eq_getElem hi2]
  exact hb _ (List.getElem_mem hi2)
 have hblt := hl.lt
 have HL := Lib.hid hl
 have HF : Hid (Y6y ix (.leaf wt s) ls = ls.set (ix s) (ls.getD (ix s) 0 + 1)) := rfl
 generalize Y6y ix (.leaf wt s) ls = res at HF ⊢
 generalize ls.getD (ix s) 0 = c at hcell hx HF
 generalize ix s = k at hcell hfr hi2 HF
 have hk1 : (0 : Int) ≤ (k : Int) := by omega
 have hk2 : (k : Int) < (n : Int) := by omega
 have HC : Hid (((c + 1 : Nat) : Int) = (c : Int) + 1) := by show _ = _; omega
 have hwr : IntKind.i64.wrap ((c : Int) + 1) = (c : Int) + 1 := by rw [IntKind.wrap_i64]; omega
 have hne : ¬ w.heap.size = bl := by omega
 have hne2 : ¬ bl = w.heap.size := by omega
 clear h1 h2 h3 h4 h5 hi' hb hl hn
 have hnil := Ypi
 have hsome := Yjy
 go_enter Tryz.func147, Tryz.ntmps147
 go_wp2
 (try simp only [Exit.inBlock, Exit.then]); refine bodyPost_ret (results_none rfl _ _ _) rfl ?_
 have hl3 := (Yjc HL.out k (c + 1)).only (S := fun _ => False) (Y18 _ _ (.cells #[.int .i64 wt, .int .i64 k, .slice none 0 0] 221)) (fun h => h)
 rw [HC.out] at hl3
 rw [HF.out]
 exact ⟨rfl, hl3, (Only.setCell (S := (· = bl)) rfl _).trans (Y18 _ _ _)⟩
def Ybb (lo hi bl cap n : Nat) (ix : Nat → Nat) (t : Tree) : Prop :=
 ∀ (p : Pk) (ls : List Nat) (w : World), n = ls.length → Mn w lo hi ix t p → LRow w bl ls → hi ≤ w.heap.size → InT ix n t → (∀ x ∈ ls, x + Y34 t ≤ 4611686018427387904) →
  Calls Tryz.prog 147 #[.agg #[.int .i64 p.wt, .int .i64 p.sym, .slice p.ptr p.len p.cap], .slice (some ⟨bl, 0, none⟩) n cap] w (Long w bl (Y6y ix t ls))
def Stage (ix : Nat → Nat) (a b : Tree) (ls : List Nat) (k : Nat) (lk : List Nat) : Prop := (k = 0 ∧ lk = ls) ∨ (k = 1 ∧ lk = Y6y ix a ls) ∨ (k = 2 ∧ lk = Y6y ix b (Y6y ix a ls))
theorem Ymh {lo hi bl cap n : Nat} {ix : Nat → Nat} {a b : Tree} {ls lk : List Nat} {k blk off : Nat} {w : World} {pa pb : Pk} (h : Stage ix a b ls k lk) (hk : k < 2) (q1 : PAt w blk off pa) (q2 : PAt w blk (off + 3) pb) (m1 : Mn w lo hi ix a pa) (m2 : Mn w lo hi ix b pb)
  (ha : Ybb lo hi bl cap n ix a) (hb : Ybb lo hi bl cap n ix b) (hi1 : InT ix n (.node a b)) (hbd : ∀ x ∈ ls, x + Y34 (.node a b) ≤ 4611686018427387904) (hn : n = ls.length) :
  ∃ t p, PAt w blk (off + k * 3) p ∧ Mn w lo hi ix t p ∧ Ybb lo hi bl cap n ix t ∧ InT ix n t ∧ (∀ x ∈ lk, x + Y34 t ≤ 4611686018427387904) ∧ Stage ix a b ls (k + 1) (Y6y ix t lk) ∧ n = lk.length := by
 rcases h with ⟨rfl, rfl⟩ | ⟨rfl, rfl⟩ | ⟨rfl, rfl⟩
 ·exact ⟨a, pa, by simpa using q1, m1, ha, hi1.1, fun x hx => by have := hbd x hx; simp only [Y34] at this; omega, .inr (.inl ⟨rfl, rfl⟩), hn⟩
 ·refine ⟨b, pb, by simpa using q2, m2, hb, hi1.2, fun x hx => ?_, .inr (.inr ⟨rfl, rfl⟩), by rw [Y1w]; exact hn⟩
  have := Yck ix (B := 4611686018427387904 - Y34 (.node a b)) a ls (fun y hy => by have := hbd y hy; omega) x hx
  have h9 : Y34 (.node a b) = Y34 a + Y34 b := rfl
  rcases ls with _ | ⟨y, ls⟩
  ·have := List.length_pos_of_mem hx
   rw [Y1w] at this
   simp at this
  ·have := hbd y (List.mem_cons_self ..)
   omega
 ·omega
set_option maxHeartbeats 4000000 in
theorem Yd4 (a b : Tree) (lo hi bl cap n : Nat) (ix : Nat → Nat) (hbl : bl < lo) (ha : Ybb lo hi bl cap n ix a) (hb : Ybb lo hi bl cap n ix b) : Ybb lo hi bl cap n ix (.node a b) := by
 intro p ls w hn h hl hhi hin hbd
 obtain ⟨h1, h2, h2c, blk, off, pa, pb, h3, h4, h5, q1, q2, m1, m2⟩ := h
 rw [h2, h3]
 generalize p.cap = pc at h2c ⊢
 generalize p.wt = pw
 generalize p.sym = py
 have H0 : Hid (n = ls.length ∧ LRow w bl ls ∧ hi ≤ w.heap.size ∧ PAt w blk off pa ∧ PAt w blk (off + 3) pb ∧ Mn w lo hi ix a pa ∧ Mn w lo hi ix b pb) := ⟨hn, hl, hhi, q1, q2, m1, m2⟩
 have HI : Hid (Ybb lo hi bl cap n ix a ∧ Ybb lo hi bl cap n ix b ∧ InT ix n (.node a b) ∧ ∀ x ∈ ls, x + Y34 (.node a b) ≤ 4611686018427387904) := ⟨ha, hb, hin, hbd⟩
 have hb2 : blk < w.heap.size := by omega
 clear h1 h2 h3 hn hl q1 q2 m1 m2 hin hbd ha hb
 have hnil := Ypi
 have hsome := Yjy
 go_enter Tryz.func147, Tryz.ntmps147
 go_wp2
 go_loopg [19] 2 (fun kx s19 wr => ∃ (k : Nat) (lk : List Nat), s19 = .int .i64 (k : Int) ∧ k ≤ 2 ∧ 2 - k ≤ kx ∧ Hid (Stage ix a b ls k lk ∧ LRow wr bl lk ∧ Only (· = bl) w wr))
 case atStart => exact ⟨0, ls, rfl, by omega, by omega, ⟨.inl ⟨rfl, rfl⟩, H0.out.2.1.only (Y18 (· = w.heap.size) _ _) (by have := H0.out.2.1.lt; omega), Y18 _ _ _⟩⟩
 case round =>
  obtain ⟨k, lk, rfl, hk2, hkx, HR⟩ := hrel
  by_cases hlt : k < 2
  ·obtain ⟨e1, e2, e3, e4, e5, e6, e7⟩ := H0.out
   obtain ⟨i1, i2, i3, i4⟩ := HI.out
   obtain ⟨t, pk, s1, s2, s3, s4, s5, s6, s7⟩ := Ymh HR.out.1 hlt e4 e5 e6 e7 i1 i2 i3 i4 e1
   have hsz := HR.out.2.2.2.2.2.1
   have same : ∀ j, lo ≤ j → j < hi → wr.heap[j]? = w.heap[j]? := fun j h1 h2 => HR.out.2.2.2.2.2.2 j (by omega) (by omega)
   have s1' := s1.keep (same blk h4 h5)
   obtain ⟨c1, c2, c3⟩ := s1'
   have HS : Hid (Mn wr lo hi ix t pk ∧ Ybb lo hi bl cap n ix t ∧ InT ix n t ∧ (∀ x ∈ lk, x + Y34 t ≤ 4611686018427387904) ∧ Stage ix a b ls (k + 1) (Y6y ix t lk) ∧ n = lk.length) := ⟨s2.keep (Nat.le_refl _) same, s3, s4, s5, s6, s7⟩
   have hkz : (k : Int) < 2 := by omega
   have hk0 : (0 : Int) ≤ (k : Int) := by omega
   have hblr : bl < wr.heap.size := HR.out.2.1.lt
   have HSZ : Hid (w.heap.size ≤ wr.heap.size ∧ hi ≤ w.heap.size) := ⟨hsz, e3⟩
   clear e1 e2 e3 e4 e5 e6 e7 i1 i2 i3 i4 s1 s2 s3 s4 s5 s6 s7 same hhi
   go_wp2_with fail
   have hsame : ∀ j, lo ≤ j → j < hi → (wr.alloc (.cells #[.int .i64 pk.wt, .int .i64 pk.sym, .slice pk.ptr pk.len pk.cap] 221)).heap[j]? = wr.heap[j]? := fun j h1 h2 => (Y18 (fun _ => False) wr _).2.2.2.2 j (by have := HSZ.out; omega) (fun h => h)
   have hl1 := HR.out.2.1.only (S := fun _ => False) (Y18 _ wr (.cells #[.int .i64 pk.wt, .int .i64 pk.sym, .slice pk.ptr pk.len pk.cap] 221)) (fun h => h)
   have hc := HS.out.2.1 pk lk _ HS.out.2.2.2.2.2 (HS.out.1.keep (Nat.le_refl _) hsame) hl1 (by have := HSZ.out; simp; omega) HS.out.2.2.1 HS.out.2.2.2.1
   refine hc.mono ?_
   rintro e w' ⟨rfl, l1, o1⟩
   have HN : Hid (LRow w' bl (Y6y ix t lk) ∧ Only (· = bl) w w') := ⟨l1, HR.out.2.2.trans ((Y18 _ _ _).trans o1)⟩
   clear hc l1 o1 hl1 hsame
   go_wp2
   go_roundg (2 - (k + 1))
   case measure => omega
   case rel => exact ⟨k + 1, Y6y ix t lk, by go_num, by omega, Nat.le_refl _, ⟨HS.out.2.2.2.2.1, HN.out⟩⟩
  ·have hkz : ¬ (k : Int) < 2 := by omega
   have hk : k = 2 := by omega
   go_wp2
   go_end0
   obtain ⟨e1, e2, e3⟩ := HR.out
   rcases e1 with ⟨h, _⟩ | ⟨h, _⟩ | ⟨_, rfl⟩
   ·omega
   ·omega
   ·exact ⟨rfl, e2, e3⟩
theorem Y6k (lo hi bl cap n : Nat) (ix : Nat → Nat) (hbl : bl < lo) : ∀ t : Tree, Ybb lo hi bl cap n ix t
 | .leaf wt s => fun p ls w hn h hl hhi hin hbd => Yd3 wt s p ls w lo hi bl cap n ix hn h hl (by rw [← hn]; exact hin) hbd
 | .node a b => Yd4 a b lo hi bl cap n ix hbl (Y6k lo hi bl cap n ix hbl a) (Y6k lo hi bl cap n ix hbl b)
end Go.Proofs.YtkkfkmoikcmhoaaGreat.Lp
namespace Go.Proofs.YtkkfkmoikcmhoaaGreat.Lp
open Go.RowKit Oct Lm
set_option maxRecDepth 100000
def PRow (w : World) (b : Nat) (zs : List Pk) : Prop := ∀ i (h : i < zs.length), PAt w b (i * 3) zs[i]
theorem PRow.keep {w w' : World} {b : Nat} {zs : List Pk} (h : PRow w b zs) (hb : w'.heap[b]? = w.heap[b]?) : PRow w' b zs := fun i hi => (h i hi).keep hb
def BRow (w : World) (b n k : Nat) (f : Nat → Pk) : Prop :=
 ∃ cs, w.heap[b]? = some (.cells cs 221 (0, 0)) ∧ cs.size = n * 3 ∧ ∀ i, i < k → cs[i * 3]? = some (.int .i64 (f i).wt) ∧ cs[i * 3 + 1]? = some (.int .i64 (f i).sym) ∧ cs[i * 3 + 2]? = some (.slice (f i).ptr (f i).len (f i).cap)
theorem BRow.lt {w : World} {b n k : Nat} {f : Nat → Pk} (h : BRow w b n k f) : b < w.heap.size := by
 obtain ⟨cs, h, _⟩ := h
 rcases Nat.lt_or_ge b w.heap.size with hlt | hge
 ·exact hlt
 ·rw [Array.getElem?_eq_none hge] at h; cases h
theorem BRow.fz {w : World} {b n k : Nat} {f : Nat → Pk} (h : BRow w b n k f) (i : Nat) : w.frozen? ⟨b, i, none⟩ = false := by
 obtain ⟨cs, h, _⟩ := h
 simp [World.frozen?, h]
theorem BRow.cells {w : World} {b n k : Nat} {f : Nat → Pk} (h : BRow w b n k f) (i : Nat) (hi : i < n * 3) : ∃ v, w.cell? ⟨b, i, none⟩ = some v := by
 obtain ⟨cs, h, h2, _⟩ := h
 exact ⟨cs[i], by simp [World.cell?, h, h2, hi]⟩
theorem BRow.put {w : World} {b n k : Nat} {f : Nat → Pk} (h : BRow w b n k f) (hk : k < n) :
  BRow (((w.setCell ⟨b, k * 3, none⟩ (.int .i64 (f k).wt)).setCell ⟨b, k * 3 + 1, none⟩ (.int .i64 (f k).sym)).setCell ⟨b, k * 3 + 2, none⟩ (.slice (f k).ptr (f k).len (f k).cap)) b n (k + 1) f := by
 obtain ⟨cs, h, h2, h3⟩ := h
 have e1 := Y2k h (k * 3) (.int .i64 (f k).wt)
 have e2 := Y2k e1 (k * 3 + 1) (.int .i64 (f k).sym)
 have e3 := Y2k e2 (k * 3 + 2) (.slice (f k).ptr (f k).len (f k).cap)
 refine ⟨_, e3, by simp [h2], fun i hi => ?_⟩
 simp only [Array.getElem?_setIfInBounds, Array.size_setIfInBounds, h2]
 by_cases hik : i = k
 ·subst hik
  refine ⟨?_, ?_, ?_⟩
  ·rw [if_neg (by omega), if_neg (by omega), if_pos rfl, if_pos (by omega)]
  ·rw [if_neg (by omega), if_pos rfl, if_pos (by omega)]
  ·rw [if_pos rfl, if_pos (by omega)]
 ·obtain ⟨q1, q2, q3⟩ := h3 i (by omega)
  refine ⟨?_, ?_, ?_⟩
  ·rw [if_neg (by omega), if_neg (by omega), if_neg (by omega)]; exact q1
  ·rw [if_neg (by omega), if_neg (by omega), if_neg (by omega)]; exact q2
  ·rw [if_neg (by omega), if_neg (by omega), if_neg (by omega)]; exact q3
theorem BRow.row {w : World} {b n k : Nat} {f : Nat → Pk} (h : BRow w b n k f) : PRow w b ((List.range k).map f) := by
 obtain ⟨cs, h, h2, h3⟩ := h
 intro i hi
 simp only [List.length_map, List.length_range] at hi
 obtain ⟨q1, q2, q3⟩ := h3 i hi
 simp only [List.getElem_map, List.getElem_range]
 exact ⟨by simp [World.cell?, h, q1], by simp [World.cell?, h, q2], by simp [World.cell?, h, q3]⟩
theorem Tryz.infoPack : (Tryz.prog.info? 221).map (fun i => (i.zero, i.size, i.bytes)) = some (some (.agg #[.int .i64 0, .int .i64 0, .slice none 0 0]), 3, 40) := by kernel_rfl
theorem Y1q {w : World} {ops : Array Oper} {rest : List Oper} {o : Oper} {a : Act} {Q : Exit → Act → World → Prop} {t e : TypeId} {z : Value} {size bytes : Nat}
  (hg : o.guard = none) (l c : Operand) (hop : o.op = Op.makeSlice t l c) (h1 : Tryz.prog.underlying t = some (.slice e)) (h2 : (Tryz.prog.info? e).map (fun i => (i.zero, i.size, i.bytes)) = some (some z, size, bytes))
  (n : Nat) (hl : a.eval l = .int .i64 (n : Int)) (hc : a.eval c = .int .i64 (n : Int)) (b2 : n * bytes ≤ 281474976710656) (b3 : n ≤ 9223372036854775807)
  (hK : wpList Tryz.prog ops Q rest (a.put o.dst (.slice (some ⟨w.heap.size, 0, none⟩) n n)) (w.alloc (.cells (madeCells z.cells (n * size)) e))) :
  wpList Tryz.prog ops Q (o :: rest) a w := by
 refine wpList_plain hg fun K hK' => ?_
 obtain ⟨i, q1, q2, q3, q4⟩ := info_parts h2
 subst q3; subst q4
 have hrun := run_make (P := Tryz.prog) w t e i z h1 q1 q2 .i64 .i64 (n : Int) (n : Int) (by omega) (by omega) (by rw [← Int.natCast_mul, Nat.mul_comm]; omega) (by omega)
 simp only [Int.toNat_natCast] at hrun
 unfold Oper.wp
 simp [execOp, hop, hl, hc, hrun, Result.andThen]
 exact hK' _ _ hK
theorem Ynp (w : World) (n : Nat) (z : Array Value) (f : Nat → Pk) : BRow (w.alloc (.cells (madeCells z (n * 3)) 221)) w.heap.size n 0 f :=
 ⟨_, heap_alloc_last w _, size_madeCells _ _, fun i h => by omega⟩
def Y7e (lb cap : Nat) (zs : List Pk) (i : Nat) : Pk := ⟨(zs.getD (2 * i) default).wt + (zs.getD (2 * i + 1) default).wt, 0, some ⟨lb, 2 * i * 3, none⟩, 2, cap - 2 * i⟩
def Yyw (w : World) (lb cap : Nat) (zs : List Pk) (e : Ending) (w' : World) : Prop :=
 e = .returned (.slice (some ⟨w.heap.size, 0, none⟩) (zs.length / 2) (zs.length / 2)) ∧ PRow w' w.heap.size ((List.range (zs.length / 2)).map (Y7e lb cap zs)) ∧ w.heap.size < w'.heap.size ∧ Below w.heap.size w w'
theorem Yqk (W : World) (lb len cap i : Nat) (h : 2 * i + 2 ≤ len) (hc : len ≤ cap) :
  (Instr.slice 218 (.slice (some ⟨lb, 0, none⟩) len cap) (some (.int .i64 (2 * (i : Int)))) (some (.int .i64 (2 * (i : Int) + 2))) none).run Tryz.prog W = .ok (.slice (some ⟨lb, 2 * i * 3, none⟩) 2 (cap - 2 * i)) W := by
 have ht' : Tryz.prog.underlying 218 = some (.slice (Tryz.prog.elem 218)) := by kernel_rfl
 have he : Tryz.prog.elem 218 = 221 := by kernel_rfl
 rw [run_slice_lh W 218 (some ⟨lb, 0, none⟩) len cap ht' .i64 .i64 _ _ (by omega) (by omega) (by omega), he, Sm.Yu8]
 have e1 : (2 * (i : Int)).toNat = 2 * i := by omega
 have e2 : (2 * (i : Int) + 2).toNat = 2 * i + 2 := by omega
 simp only [Result.andThen_ok, sliced, e1, e2]
 rw [if_neg (by omega), show 2 * i + 2 - 2 * i = 2 by omega]
 simp [Y08]
set_option maxHeartbeats 4000000 in
theorem Yq4 (p : Option Addr) (lb len cap : Nat) (zs : List Pk) (w : World) (hp : len ≠ 0 → p = some ⟨lb, 0, none⟩) (hlen : len = zs.length) (hr : PRow w lb zs) (hlb : len ≠ 0 → lb < w.heap.size) (hl : len ≤ 100000) (hc : len ≤ cap) (hw : ∀ x ∈ zs, 0 ≤ x.wt ∧ x.wt ≤ 2305843009213693952) :
  Calls Tryz.prog 160 #[.slice p len cap] w (Yyw w lb cap zs) := by
 have H0 : Hid ((len ≠ 0 → p = some ⟨lb, 0, none⟩) ∧ len = zs.length ∧ PRow w lb zs ∧ (len ≠ 0 → lb < w.heap.size) ∧ ∀ x ∈ zs, 0 ≤ x.wt ∧ x.wt ≤ 2305843009213693952) := ⟨hp, hlen, hr, hlb, hw⟩
 obtain ⟨n, hn⟩ : ∃ n, n = len / 2 := ⟨_, rfl⟩
 have hq : (len : Int).tdiv 2 = (n : Int) := by rw [hn, Int.tdiv_eq_ediv_of_nonneg (by omega)]; omega
 have hwn : IntKind.i64.wrap (n : Int) = (n : Int) := by rw [IntKind.wrap_i64]; omega
 have HN : Hid (n = len / 2) := hn
 have hnl : n ≤ 100000 := by omega
 have HB0 := Ynp w n (Value.agg #[.int .i64 0, .int .i64 0, .slice none 0 0]).cells (Y7e lb cap zs)
 have HM : Hid (BRow _ _ _ _ _) := HB0
 have HBL : Hid (Below w.heap.size w (w.alloc (.cells (madeCells (Value.agg #[.int .i64 0, .int .i64 0, .slice none 0 0]).cells (n * 3)) 221))) := (Below.refl _ w).alloc (Nat.le_refl _) _
 clear hp hlen hr hlb hw hn HB0
 go_enter Tryz.func160, Tryz.ntmps160
 go_wp2_with (at_make; refine Y1q rfl _ _ rfl Tryz.underlying218 Tryz.infoPack n rfl rfl (by omega) (by omega) ?_)
 go_loopg [12] n (fun kx s12 wr => ∃ (k : Nat), s12 = .int .i64 (k : Int) ∧ k ≤ n ∧ n - k ≤ kx ∧ Hid (BRow wr w.heap.size n k (Y7e lb cap zs) ∧ Below w.heap.size w wr))
 case atStart => exact ⟨0, rfl, by omega, by omega, ⟨HM.out, HBL.out⟩⟩
 case round =>
  clear HM HBL
  obtain ⟨k, rfl, hkn, hkx, HR⟩ := hrel
  by_cases hlt : k < n
  ·have hnn := HN.out
   obtain ⟨e1, e2, e3, e4, e5⟩ := H0.out
   have hp := e1 (by omega)
   subst hp
   have hlbw := e4 (by omega)
   have hz0 : 2 * k < zs.length := by omega
   have hz1 : 2 * k + 1 < zs.length := by omega
   have g0 : zs.getD (2 * k) default = zs[2 * k] := by rw [List.getD_eq_getElem?_getD, List.getElem?_eq_getElem hz0]; rfl
   have g1 : zs.getD (2 * k + 1) default = zs[2 * k + 1] := by rw [List.getD_eq_getElem?_getD, List.getElem?_eq_getElem hz1]; rfl
   have hsame := HR.out.2.block lb hlbw
   have c0 := ((e3 (2 * k) hz0).keep hsame).1
   have c1 := ((e3 (2 * k + 1) hz1).keep hsame).1
   rw [show (2 * k + 1) * 3 = 2 * k * 3 + 3 by omega] at c1
   have b0 := e5 _ (List.getElem_mem hz0)
   have b1 := e5 _ (List.getElem_mem hz1)
   have HPK : Hid (Y7e lb cap zs k = ⟨zs[2 * k].wt + zs[2 * k + 1].wt, 0, some ⟨lb, 2 * k * 3, none⟩, 2, cap - 2 * k⟩) := by show _ = _; unfold Y7e; rw [g0, g1]
   generalize zs[2 * k].wt = x0 at c0 b0 HPK
   generalize zs[2 * k + 1].wt = x1 at c1 b1 HPK
   obtain ⟨v0, f0⟩ := HR.out.1.cells (k * 3) (by omega)
   obtain ⟨v1, f1⟩ := HR.out.1.cells (k * 3 + 1) (by omega)
   obtain ⟨v2, f2⟩ := HR.out.1.cells (k * 3 + 2) (by omega)
   have fz := HR.out.1.fz
   have hsl := fun W => Yqk W lb len cap k (by omega) hc
   have hne : ¬ lb = w.heap.size := by omega
   have w1 : IntKind.i64.wrap (2 * (k : Int)) = 2 * (k : Int) := by rw [IntKind.wrap_i64]; omega
   have w2 : IntKind.i64.wrap (2 * (k : Int) + 2) = 2 * (k : Int) + 2 := by rw [IntKind.wrap_i64]; omega
   have w3 : IntKind.i64.wrap (x0 + x1) = x0 + x1 := by rw [IntKind.wrap_i64]; omega
   have hkz : (k : Int) < (n : Int) := by omega
   have hk0 : (0 : Int) ≤ (k : Int) := by omega
   clear hnn e1 e2 e3 e4 e5 hz0 hz1 g0 g1 hsame hlbw
   go_wp2_with fail
   go_big_region
   have hput := BRow.put HR.out.1 hlt
   rw [HPK.out] at hput
   have hbl : Below w.heap.size w ((((wr.setCell ⟨w.heap.size, k * 3, none⟩ (.int .i64 (x0 + x1))).setCell ⟨w.heap.size, k * 3 + 1, none⟩ (.int .i64 0)).setCell ⟨w.heap.size, k * 3 + 2, none⟩ (.slice (some ⟨lb, 2 * k * 3, none⟩) 2 (cap - 2 * k)))) := ((HR.out.2.setCell (p := ⟨w.heap.size, k * 3, none⟩) (Nat.le_refl _) _).setCell (p := ⟨w.heap.size, k * 3 + 1, none⟩) (Nat.le_refl _) _).setCell (p := ⟨w.heap.size, k * 3 + 2, none⟩) (Nat.le_refl _) _
   have HQ : Hid (BRow ((((wr.setCell ⟨w.heap.size, k * 3, none⟩ (.int .i64 (x0 + x1))).setCell ⟨w.heap.size, k * 3 + 1, none⟩ (.int .i64 0)).setCell ⟨w.heap.size, k * 3 + 2, none⟩ (.slice (some ⟨lb, 2 * k * 3, none⟩) 2 (cap - 2 * k)))).drew w.heap.size n (k + 1) (Y7e lb cap zs) ∧ Below w.heap.size w ((((wr.setCell ⟨w.heap.size, k * 3, none⟩ (.int .i64 (x0 + x1))).setCell ⟨w.heap.size, k * 3 + 1, none⟩ (.int .i64 0)).setCell ⟨w.heap.size, k * 3 + 2, none⟩ (.slice (some ⟨lb, 2 * k * 3, none⟩) 2 (cap - 2 * k)))).drew) := ⟨hput, hbl.drew⟩
   clear hput hbl f0 f1 f2 fz c0 c1
   generalize ((((wr.setCell ⟨w.heap.size, k * 3, none⟩ (.int .i64 (x0 + x1))).setCell ⟨w.heap.size, k * 3 + 1, none⟩ (.int .i64 0)).setCell ⟨w.heap.size, k * 3 + 2, none⟩ (.slice (some ⟨lb, 2 * k * 3, none⟩) 2 (cap - 2 * k)))).drew = w2 at HQ ⊢
   go_wp2
   go_roundg (n - (k + 1))
   case measure => omega
   case rel => exact ⟨k + 1, by go_num, by omega, Nat.le_refl _, HQ⟩
  ·have hkz : ¬ (k : Int) < (n : Int) := by omega
   have hk : k = n := by omega
   subst hk
   go_wp2
   go_ret
   have hnn := HN.out
   have hll := H0.out.2.1
   subst hll
   subst hnn
   exact ⟨rfl, HR.out.1.row, HR.out.1.lt, HR.out.2⟩
end Go.Proofs.YtkkfkmoikcmhoaaGreat.Lp
namespace Go.Proofs.YtkkfkmoikcmhoaaGreat.Lp
open Go.RowKit Go.Shelf Oct Lm
set_option maxRecDepth 100000
def pcells (zs : List Pk) : List Value := zs.flatMap Yha
theorem Y50 (zs : List Pk) : (pcells zs).length = zs.length * 3 := by
 induction zs with
 | nil => rfl
 | cons z zs ih =>
  unfold pcells at ih ⊢
  rw [List.flatMap_cons, List.length_append, ih, Yiy, List.length_cons]
  omega
theorem Ydq (a b : List Pk) : pcells (a ++ b) = pcells a ++ pcells b := by simp [pcells]
theorem Y8a : ∀ (zs : List Pk) (i : Nat) (h : i < zs.length), (pcells zs)[i * 3]? = some (.int .i64 zs[i].wt) ∧ (pcells zs)[i * 3 + 1]? = some (.int .i64 zs[i].sym) ∧ (pcells zs)[i * 3 + 2]? = some (.slice zs[i].ptr zs[i].len zs[i].cap)
 | [], i, h => by simp at h
 | z :: zs, 0, h => ⟨rfl, rfl, rfl⟩
 | z :: zs, i + 1, h => by
  obtain ⟨q1, q2, q3⟩ := Y8a zs i (by simpa using h)
  have e : ∀ j, (pcells (z :: zs))[j + 3]? = (pcells zs)[j]? := fun j => rfl
  rw [show (i + 1) * 3 = i * 3 + 3 by omega, show i * 3 + 3 + 1 = i * 3 + 1 + 3 by omega, show i * 3 + 3 + 2 = i * 3 + 2 + 3 by omega, e, e, e]
  exact ⟨q1, q2, q3⟩
theorem PRow.cells {w : World} {b : Nat} {zs : List Pk} (h : PRow w b zs) (j : Nat) (u : Value) (hj : (pcells zs)[j]? = some u) : w.cell? ⟨b, j, none⟩ = some u := by
 have hlt : j < zs.length * 3 := by
  rw [← Y50]
  exact (List.getElem?_eq_some_iff.1 hj).1
 have hi : j / 3 < zs.length := by omega
 obtain ⟨q1, q2, q3⟩ := Y8a zs (j / 3) hi
 obtain ⟨c1, c2, c3⟩ := h (j / 3) hi
 rcases (show j = j / 3 * 3 ∨ j = j / 3 * 3 + 1 ∨ j = j / 3 * 3 + 2 by omega) with e | e | e
 ·rw [← e] at q1 c1
  rw [q1] at hj
  rw [c1, hj]
 ·rw [← e] at q2 c2
  rw [q2] at hj
  rw [c2, hj]
 ·rw [← e] at q3 c3
  rw [q3] at hj
  rw [c3, hj]
theorem Yxo {w : World} {b : Nat} {zs : List Pk} (h : ∀ j u, (pcells zs)[j]? = some u → w.cell? ⟨b, j, none⟩ = some u) : PRow w b zs := fun i hi =>
 have ⟨q1, q2, q3⟩ := Y8a zs i hi
 ⟨h _ _ q1, h _ _ q2, h _ _ q3⟩
theorem Ym8 (zs : List Pk) : ∀ u ∈ pcells zs, u.oneCell' = true := fun u hu => by
 obtain ⟨z, _, hz⟩ := List.mem_flatMap.1 hu
 exact Yiz z u hz
def PV (w : World) (C : Nat) (p : Option Addr) (zs : List Pk) : Prop := 0 < zs.length → ∃ b, p = some ⟨b, 0, none⟩ ∧ b < C ∧ PRow w b zs
theorem PV.below {w w' : World} {C B : Nat} {p : Option Addr} {zs : List Pk} (h : PV w C p zs) (hb : Below B w w') (hC : C ≤ B) : PV w' C p zs := by
 intro hp
 obtain ⟨b, rfl, hlt, hr⟩ := h hp
 exact ⟨b, rfl, hlt, hr.keep (hb.block b (by omega))⟩
theorem PV.mono {w : World} {C D : Nat} {p : Option Addr} {zs : List Pk} (h : PV w C p zs) (hC : C ≤ D) : PV w D p zs := by
 intro hp
 obtain ⟨b, rfl, hlt, hr⟩ := h hp
 exact ⟨b, rfl, by omega, hr⟩
def POwn (w : World) (base : Nat) (v : Value) (zs : List Pk) : Prop := w.ownsRow base 221 3 v zs.length (pcells zs)
theorem POwn.below {w w' : World} {base : Nat} {v : Value} {zs : List Pk} (h : POwn w base v zs) (hb : Below w.heap.size w w') : POwn w' base v zs := by
 refine ⟨h.1, ?_⟩
 rcases h.2 with hn | ⟨g, cap, cur, rfl, hbs, hh, r⟩
 ·exact .inl hn
 ·refine .inr ⟨g, cap, cur, rfl, hbs, ?_, r⟩
  have hlt : g < w.heap.size := by
   rcases Nat.lt_or_ge g w.heap.size with hlt | hge
   ·exact hlt
   ·rw [Array.getElem?_eq_none hge] at hh; cases hh
  rw [hb.block g hlt]
  exact hh
theorem POwn.shape {w : World} {base : Nat} {v : Value} {zs : List Pk} (h : POwn w base v zs) :
  ∃ q c, v = .slice q zs.length c ∧ (q = none → c = 0) ∧ zs.length ≤ c ∧ c ≤ maxLen ∧ PV w w.heap.size q zs ∧ ∀ a, q = some a → base ≤ a.block := by
 have hl := fun k hk => h.lt k hk
 have hc := fun g hg => World.ownsRow.cells h (g := g) hg
 rcases h.2 with ⟨rfl, h0⟩ | ⟨g, cap, cur, rfl, hb, hh, h1, h2, _, _⟩
 ·exact ⟨none, 0, by rw [h0], fun _ => rfl, by omega, by simp [maxLen], fun hp => by omega, fun a h => by cases h⟩
 ·refine ⟨some ⟨g, 0, none⟩, cap, rfl, fun h => (by cases h), h1, h2, fun hp => ⟨g, rfl, (hl g rfl).2, Yxo fun j u hj => ?_⟩, fun a h => by injection h with h; subst h; exact hb⟩
  have := hc g rfl j u hj
  rw [Y08, Nat.zero_add] at this
  exact this
theorem Y3r {w : World} {ops : Array Oper} {rest : List Oper} {o : Oper} {a : Act} {Q : Exit → Act → World → Prop}
  (hgd : o.guard = none) (s x : Operand) (ho : o.op = .call { callee := .builtin .append, args := #[s, x], argTypes := #[218, 218] })
  (base : Nat) (v : Value) (ys : List Pk) (hs : a.eval s = v) (hown : POwn w base v ys)
  (p : Option Addr) (m c : Nat) (xs : List Pk) (hx : a.eval x = .slice p m c) (hr : PV w w.heap.size p xs) (hxm : xs.length = m) (hc0 : p = none → c = 0)
  (h47 : ys.length + m ≤ 1000000) (hbase : base ≤ w.heap.size)
  (h : ∀ v' w', POwn w' base v' (ys ++ xs) → Below base w w' → wpList Tryz.prog ops Q rest (a.put o.dst v') w') :
  wpList Tryz.prog ops Q (o :: rest) a w := by
 obtain ⟨i0, hi, hz0, hz1, hz2⟩ := info_parts Tryz.infoPack
 have hT := Tryz.underlying218
 rcases p with _ | ad
 ·have hxs : xs = [] := by
   rcases xs with _ | ⟨x, xs⟩
   ·rfl
   ·obtain ⟨b, he, _⟩ := hr (by simp)
    cases he
  subst hxs
  simp at hxm
  subst hxm
  have := hc0 rfl
  subst this
  refine wpList_append_own_none hgd s x 218 ho base 221 i0 3 hT hi v ys.length (pcells ys) hs hown hx ?_
  exact h v w (by simpa using hown) (Below.refl _ _)
 ·refine wpList_append_own w hgd s x 218 ho base 221 i0 _ 3 40 hT hi hz0 hz1 hz2 (by decide) (by decide) v ys.length (pcells ys) hs hown ad m c (pcells xs) hx (by rw [Y50, hxm]) ?_ (Ym8 xs) (by unfold maxLen; omega) (by omega) hbase ?_
  ·intro j u hj
   have hlt := (List.getElem?_eq_some_iff.1 hj).1
   rw [Y50] at hlt
   obtain ⟨b, he, _, hc⟩ := hr (by omega)
   injection he with he
   subst he
   rw [Y08, Nat.zero_add]
   exact hc.cells j u hj
  ·intro v' w' h2 h3 h4
   refine h v' w' ?_ ((Below.refl _ w).grown h3 hbase (fun k hk => (World.ownsRow.lt hown k hk).1))
   unfold POwn
   rw [List.length_append, hxm, Ydq]
   exact h2
def renG : Ren := ⟨fun n => if n = 4 then 169 else n, fun n => if n = 22 then 218 else if n = 25 then 221 else if n = 3 then 3 else if n = 4 then 4 else if n = 9 then 9 else if n = 20 then 20 else n, fun n => n⟩
theorem Yz6 : Lays8.n4 Tryz.prog renG where
 mixed := by kernel_rfl
 f4 := ⟨ "slices.Grow[[]mezzotint/limit.pack,mezzotint/limit.pack]", by kernel_rfl, by kernel_rfl⟩
 t0 := by kernel_rfl
 a0 _ := by kernel_rfl
 z0 _ := by kernel_rfl
 v0 _ := by kernel_rfl
 t3 := by kernel_rfl
 a3 _ := by kernel_rfl
 z3 _ := by kernel_rfl
 v3 _ := by kernel_rfl
 t4 := by kernel_rfl
 a4 _ := by kernel_rfl
 z4 _ := by kernel_rfl
 v4 _ := by kernel_rfl
 t9 := by kernel_rfl
 a9 _ := by kernel_rfl
 z9 _ := by kernel_rfl
 v9 _ := by kernel_rfl
 t20 := by kernel_rfl
 a20 _ := by kernel_rfl
 z20 _ := by kernel_rfl
 v20 _ := by kernel_rfl
 t22 := by kernel_rfl
 a22 _ := by kernel_rfl
 z22 _ := by kernel_rfl
 v22 _ := by kernel_rfl
def GrowP (w : World) (e : Ending) (w' : World) : Prop := ∃ v, e = .returned v ∧ POwn w' w.heap.size v [] ∧ Below w.heap.size w w'
theorem Ycu (n : Nat) (w : World) (hn : n ≤ 1000000) : Calls Tryz.prog 169 #[.slice none 0 0, .int .i64 (n : Int)] w (GrowP w) := by
 obtain ⟨i0, hi, hz0, hz1, hz2⟩ := info_parts Tryz.infoPack
 have e : renG.f 4 = 169 := rfl
 rcases Nat.eq_zero_or_pos n with h0 | h0
 ·have h := Any8.slices_Grow_room Yz6 none 0 0 n w (by omega) (by omega) (by omega) (by omega)
  rw [e] at h
  refine h.mono ?_
  rintro e w' ⟨rfl, rfl⟩
  exact ⟨_, rfl, ⟨rfl, .inl ⟨rfl, rfl⟩⟩, Below.refl _ _⟩
 ·have h := Any8.slices_Grow_grow Yz6 i0 _ hi hz0 (by omega) none 0 0 n [] w (by omega) (by omega) (by rw [hz2]; omega) (by omega) (by simp) (fun _ => rfl) (fun a h => by cases h)
  rw [e] at h
  refine h.mono ?_
  rintro e w' ⟨rfl, rfl⟩
  refine ⟨_, rfl, ?_, ((Below.refl _ w).drew).alloc (Nat.le_refl _) _⟩
  have hm := World.ownsRow_made (size := 3) (w := w.drew) (base := w.heap.size) (e := 221) (([] : List Value).toArray ++ Builtin.zeroCells (Value.agg #[.int .i64 0, .int .i64 0, .slice none 0 0]).cells (0 + n - 0) ++ Builtin.zeroCells (Value.agg #[.int .i64 0, .int .i64 0, .slice none 0 0]).cells (grownCap w (0 + n) 0 221 - (0 + n))) (grownCap w (0 + n) 0 221) (Nat.le_refl _) (grownCap_le_maxLen _ _ _ _ (by unfold maxLen; omega)) ?_
  ·exact hm
  ·have hge := grownCap_ge w (0 + n) 0 221
   rw [Nat.zero_add] at hge
   simp [Builtin.zeroCells, Value.cells]
   omega
def CatP (w : World) (zs : List Pk) (e : Ending) (w' : World) : Prop := ∃ v, e = .returned v ∧ POwn w' w.heap.size v zs ∧ Below w.heap.size w w'
def SzS (n1 n2 k s : Nat) : Prop := (k = 0 ∧ s = 0) ∨ (k = 1 ∧ s = n1) ∨ (k = 2 ∧ s = n1 + n2)
def RwS (z1 z2 : List Pk) (k : Nat) (zs : List Pk) : Prop := (k = 0 ∧ zs = []) ∨ (k = 1 ∧ zs = z1) ∨ (k = 2 ∧ zs = z1 ++ z2)
set_option maxHeartbeats 4000000 in
theorem Y82 (sb c : Nat) (p1 p2 : Option Addr) (c1 c2 : Nat) (z1 z2 : List Pk) (w : World) (hsb : sb < w.heap.size) (h1 : w.cell? ⟨sb, 0, none⟩ = some (.slice p1 z1.length c1)) (h2 : w.cell? ⟨sb, 1, none⟩ = some (.slice p2 z2.length c2))
  (r1 : PV w w.heap.size p1 z1) (r2 : PV w w.heap.size p2 z2) (n1 : p1 = none → c1 = 0) (n2 : p2 = none → c2 = 0) (hl : z1.length ≤ 100000 ∧ z2.length ≤ 100000) :
  Calls Tryz.prog 159 #[.slice (some ⟨sb, 0, none⟩) 2 c] w (CatP w (z1 ++ z2)) := by
 have H0 : Hid (w.cell? ⟨sb, 0, none⟩ = some (.slice p1 z1.length c1) ∧ w.cell? ⟨sb, 1, none⟩ = some (.slice p2 z2.length c2) ∧ PV w w.heap.size p1 z1 ∧ PV w w.heap.size p2 z2 ∧ (p1 = none → c1 = 0) ∧ (p2 = none → c2 = 0)) := ⟨h1, h2, r1, r2, n1, n2⟩
 have hl1 := hl.1
 have hl2 := hl.2
 clear h1 h2 r1 r2 n1 n2 hl
 go_enter Tryz.func159, Tryz.ntmps159
 go_wp2
 go_loopg [3, 11] 2 (fun kx s3 s11 wr => ∃ (k s : Nat), s11 = .int .i64 (k : Int) ∧ s3 = .int .i64 (s : Int) ∧ k ≤ 2 ∧ 2 - k ≤ kx ∧ Hid (SzS z1.length z2.length k s) ∧ s ≤ 200000 ∧ w = wr)
 case atStart => exact ⟨0, 0, rfl, rfl, by omega, by omega, .inl ⟨rfl, rfl⟩, by omega, rfl⟩
 case round =>
  obtain ⟨k, s, rfl, rfl, hk, hkx, HS, hs, rfl⟩ := hrel
  by_cases hlt : k < 2
  ·have hkz : (k : Int) < 2 := by omega
   have hk0 : (0 : Int) ≤ (k : Int) := by omega
   have hcell : ∃ p n cc, w.cell? ⟨sb, k, none⟩ = some (.slice p n cc) ∧ n ≤ 100000 ∧ SzS z1.length z2.length (k + 1) (s + n) := by
    rcases HS.out with ⟨rfl, rfl⟩ | ⟨rfl, rfl⟩ | ⟨rfl, rfl⟩
    ·exact ⟨_, _, _, H0.out.1, hl1, .inr (.inl ⟨rfl, by omega⟩)⟩
    ·exact ⟨_, _, _, H0.out.2.1, hl2, .inr (.inr ⟨rfl, rfl⟩)⟩
    ·omega
   obtain ⟨p, n, cc, hc, hn, hss⟩ := hcell
   have HSS : Hid (SzS z1.length z2.length (k + 1) (s + n)) := hss
   have hs2 : s + n ≤ 200000 := by
    rcases hss with ⟨h, _⟩ | ⟨_, h⟩ | ⟨_, h⟩ <;> omega
   have ws : IntKind.i64.wrap ((s : Int) + (n : Int)) = ((s + n : Nat) : Int) := by rw [IntKind.wrap_i64]; omega
   obtain ⟨sn, hsn⟩ : ∃ sn, sn = s + n := ⟨_, rfl⟩
   rw [← hsn] at ws HSS hs2
   have hneg : ¬ (sn : Int) < 0 := by omega
   clear hss hsn
   go_wp2
   go_roundg (2 - (k + 1))
   case measure => omega
   case rel => exact ⟨k + 1, sn, by go_num, rfl, by omega, Nat.le_refl _, HSS, hs2, rfl⟩
  ·have hkz : ¬ (k : Int) < 2 := by omega
   have hk2 : k = 2 := by omega
   have hg := Ycu s w (by omega)
   go_wp2_with (go_at_call 169; refine hg.mono ?_; rintro e w' ⟨v, rfl, ho, hb⟩)
   go_loopg [6, 27] 2 (fun kx s6 s27 wr => ∃ (k : Nat) (zs : List Pk), s27 = .int .i64 (k : Int) ∧ k ≤ 2 ∧ 2 - k ≤ kx ∧ Hid (RwS z1 z2 k zs ∧ POwn wr w.heap.size s6 zs ∧ Below w.heap.size w wr))
   case atStart => exact ⟨0, [], rfl, by omega, by omega, ⟨.inl ⟨rfl, rfl⟩, ho, hb⟩⟩
   case round =>
    clear ho hb
    obtain ⟨k', zs, rfl, hk', hkx', HR⟩ := hrel
    by_cases hlt' : k' < 2
    ·have hkz' : (k' : Int) < 2 := by omega
     have hk0' : (0 : Int) ≤ (k' : Int) := by omega
     have hcell : ∃ p z cc, w.cell? ⟨sb, k', none⟩ = some (.slice p z.length cc) ∧ z.length ≤ 100000 ∧ PV w w.heap.size p z ∧ (p = none → cc = 0) ∧ RwS z1 z2 (k' + 1) (zs ++ z) ∧ zs.length ≤ 100000 := by
      rcases HR.out.1 with ⟨rfl, rfl⟩ | ⟨rfl, rfl⟩ | ⟨rfl, rfl⟩
      ·exact ⟨_, z1, _, H0.out.1, hl1, H0.out.2.2.1, H0.out.2.2.2.2.1, .inr (.inl ⟨rfl, rfl⟩), by simp⟩
      ·exact ⟨_, z2, _, H0.out.2.1, hl2, H0.out.2.2.2.1, H0.out.2.2.2.2.2, .inr (.inr ⟨rfl, rfl⟩), hl1⟩
      ·omega
     obtain ⟨p, z, cc, hc, hn, hpv, hpn, hss, hzl⟩ := hcell
     have hcw : _ = some (Value.slice p z.length cc) := (HR.out.2.2.cell (p := ⟨sb, k', none⟩) hsb).trans hc
     have HSS : Hid (RwS z1 z2 (k' + 1) (zs ++ z) ∧ PV w w.heap.size p z ∧ (p = none → cc = 0)) := ⟨hss, hpv, hpn⟩
     clear hc hss hpv hpn
     go_wp2_with (at_builtin; refine Y3r rfl _ _ rfl w.heap.size _ zs rfl HR.out.2.1 p z.length cc z rfl ((HSS.out.2.1.below HR.out.2.2 (Nat.le_refl _)).mono HR.out.2.2.size) rfl HSS.out.2.2 (by omega) HR.out.2.2.size ?_; intro v2 w2 ho2 hb2)
     have HN : Hid (RwS z1 z2 (k' + 1) (zs ++ z) ∧ POwn w2 w.heap.size v2 (zs ++ z) ∧ Below w.heap.size w w2) := ⟨HSS.out.1, ho2, HR.out.2.2.trans hb2⟩
     clear ho2 hb2
     go_roundg (2 - (k' + 1))
     case measure => omega
     case rel => exact ⟨k' + 1, zs ++ z, by go_num, by omega, Nat.le_refl _, HN⟩
    ·have hkz' : ¬ (k' : Int) < 2 := by omega
     have hk2' : k' = 2 := by omega
     go_wp2
     go_ret
     rcases HR.out.1 with ⟨h, _⟩ | ⟨h, _⟩ | ⟨_, rfl⟩
     ·omega
     ·omega
     ·exact ⟨_, rfl, HR.out.2⟩
end Go.Proofs.YtkkfkmoikcmhoaaGreat.Lp
namespace Go.Proofs.YtkkfkmoikcmhoaaGreat.Lp
open Go.RowKit Oct Lm
set_option maxRecDepth 100000
def syms (zs : List Int) : Nat → List Pk
 | 0 => []
 | k + 1 => syms zs k ++ if 0 < zs.getD k 0 then [⟨zs.getD k 0, (k : Int), none, 0, 0⟩] else []
theorem Yy2 (zs : List Int) (k : Nat) : (syms zs k).length ≤ k := by
 induction k with
 | zero => simp [syms]
 | succ k ih => simp only [syms, List.length_append]; split <;> simp <;> omega
def SymP (w : World) (zs : List Int) (e : Ending) (w' : World) : Prop := ∃ v, e = .returned v ∧ POwn w' w.heap.size v (syms zs zs.length) ∧ Below w.heap.size w w'
theorem Yzh (w : World) (x : Pk) : PV (w.alloc (.cells #[.int .i64 x.wt, .int .i64 x.sym, .slice x.ptr x.len x.cap] 221)) (w.alloc (.cells #[.int .i64 x.wt, .int .i64 x.sym, .slice x.ptr x.len x.cap] 221)).heap.size (some ⟨w.heap.size, 0, none⟩) [x] := by
 intro _
 refine ⟨w.heap.size, rfl, by simp, ?_⟩
 intro i hi
 have hi0 : i = 0 := by simp at hi; omega
 subst hi0
 have h := heap_alloc_last w (.cells #[.int .i64 x.wt, .int .i64 x.sym, .slice x.ptr x.len x.cap] 221)
 exact ⟨by unfold World.cell?; dsimp only; rw [h]; rfl, by unfold World.cell?; dsimp only; rw [h]; rfl, by unfold World.cell?; dsimp only; rw [h]; rfl⟩
set_option maxHeartbeats 4000000 in
theorem Yid (p : Option Addr) (len cap : Nat) (zs : List Int) (w : World) (hr : VRow w w.heap.size p (ints zs)) (hx : zs.length = len) (hl : len ≤ 100000) : Calls Tryz.prog 145 #[.slice p len cap] w (SymP w zs) := by
 have HR := Lib.hid hr
 have HX := Lib.hid hx
 have H00 : Hid (POwn w w.heap.size (.slice none 0 0) [] ∧ Below w.heap.size w w) := ⟨⟨rfl, .inl ⟨rfl, rfl⟩⟩, Below.refl _ _⟩
 clear hr hx
 go_enter Tryz.func145, Tryz.ntmps145
 go_wp2
 go_loopg [3, 8] len (fun kx s3 s8 wr => ∃ (k : Nat), s8 = .int .i64 (k : Int) ∧ k ≤ len ∧ len - k ≤ kx ∧ Hid (POwn wr w.heap.size s3 (syms zs k) ∧ Below w.heap.size w wr))
 case atStart => exact ⟨0, rfl, by omega, by omega, H00⟩
 case round =>
  obtain ⟨k, rfl, hk, hkx, H⟩ := hrel
  by_cases hlt : k < len
  ·have hkz : (k : Int) < (len : Int) := by omega
   have hk0 : (0 : Int) ≤ (k : Int) := by omega
   have hkl : k < zs.length := by rw [HX.out]; exact hlt
   obtain ⟨b, off, hp, hbl⟩ := HR.out.addr (by rw [Y06]; omega)
   subst hp
   have hc := (H.out.2.cell (p := ⟨b, off + k, none⟩) hbl).trans (HR.out.int k hkl)
   have hg : zs.getD k 0 = zs[k] := by rw [List.getD_eq_getElem?_getD, List.getElem?_eq_getElem hkl]; rfl
   have hS : syms zs (k + 1) = syms zs k ++ if 0 < zs[k] then [⟨zs[k], (k : Int), none, 0, 0⟩] else [] := by simp only [syms]; rw [hg]
   have HS := Lib.hid hS
   generalize zs[k] = z at hc HS
   clear hg hS
   by_cases hz : 0 < z
   ·have HS2 : Hid (syms zs (k + 1) = syms zs k ++ [⟨z, (k : Int), none, 0, 0⟩]) := by have := HS.out; rw [if_pos hz] at this; exact this
    have hle := Yy2 zs k
    go_wp2_with (at_builtin; refine Y3r rfl _ _ rfl w.heap.size _ (syms zs k) rfl (H.out.1.below ((Below.refl _ _).alloc (Nat.le_refl _) _)) _ 1 1 [⟨z, (k : Int), none, 0, 0⟩] rfl (Yzh _ ⟨z, (k : Int), none, 0, 0⟩) rfl (fun h => by cases h) (by omega) (by have := H.out.2.size; simp; omega) ?_; intro v2 w2 ho2 hb2)
    have HN : Hid (POwn w2 w.heap.size v2 (syms zs (k + 1)) ∧ Below w.heap.size w w2) := by rw [HS2.out]; exact ⟨ho2, (H.out.2.alloc (Nat.le_trans (Nat.le_refl _) H.out.2.size) _).trans hb2⟩
    clear ho2 hb2
    go_roundg (len - (k + 1))
    case measure => omega
    case rel => exact ⟨k + 1, by go_num, by omega, Nat.le_refl _, HN⟩
   ·have HS2 : Hid (syms zs (k + 1) = syms zs k) := by have := HS.out; rw [if_neg hz, List.append_nil] at this; exact this
    go_wp2
    have HN : Hid (POwn wr w.heap.size u3 (syms zs (k + 1)) ∧ Below w.heap.size w wr) := by rw [HS2.out]; exact H
    go_roundg (len - (k + 1))
    case measure => omega
    case rel => exact ⟨k + 1, by go_num, by omega, Nat.le_refl _, HN⟩
  ·have hkz : ¬ (k : Int) < (len : Int) := by omega
   have hk : k = len := by omega
   subst hk
   go_wp2
   go_ret
   have h2 := HX.out
   have h3 := H.out
   rw [← h2] at h3
   exact ⟨_, rfl, h3⟩
end Go.Proofs.YtkkfkmoikcmhoaaGreat.Lp

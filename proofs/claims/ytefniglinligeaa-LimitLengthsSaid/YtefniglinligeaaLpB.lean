
/- What a pack in memory stands for; lengthen. -/
import Derived.Test.YtefniglinligeaaLpA
import Derived.Test.YtefniglinligeaaLpR
import Derived.Lib.BufferMore
namespace Go.Proofs.Ytefniglinligeaa.Lp
open Go.RowKit Go.Proofs.Ytefniglinligeaa.Oct Go.Proofs.Ytefniglinligeaa.Lm
set_option linter.unusedVariables false
set_option linter.unusedSimpArgs false
set_option maxRecDepth 100000

/-- a pack at a place -/
def PAt (w : World) (b o : Nat) (p : Pk) : Prop :=
  w.cell? ⟨b, o, none⟩ = some (.int .i64 p.wt) ∧ w.cell? ⟨b, o + 1, none⟩ = some (.int .i64 p.sym) ∧ w.cell? ⟨b, o + 2, none⟩ = some (.slice p.ptr p.len p.cap)
theorem cell_same {w w' : World} {a : Addr} (h : w'.heap[a.block]? = w.heap[a.block]?) : w'.cell? a = w.cell? a := by
  unfold World.cell?
  rw [h]
theorem PAt.keep {w w' : World} {b o : Nat} {p : Pk} (h : PAt w b o p) (hb : w'.heap[b]? = w.heap[b]?) : PAt w' b o p :=
  ⟨(cell_same hb).trans h.1, (cell_same hb).trans h.2.1, (cell_same hb).trans h.2.2⟩
/-- a pack stands for a tree; what it looks at lies between two bounds -/
def Mn (w : World) (lo hi : Nat) (ix : Nat → Nat) : Tree → Pk → Prop
  | .leaf wt s, p => p.wt = (wt : Int) ∧ p.sym = (ix s : Int) ∧ p.ptr = none ∧ p.len = 0 ∧ p.cap = 0
  | .node a b, p => p.wt = ((a.wt + b.wt : Nat) : Int) ∧ p.len = 2 ∧ 2 ≤ p.cap ∧ ∃ blk off pa pb, p.ptr = some ⟨blk, off, none⟩ ∧ lo ≤ blk ∧ blk < hi ∧ PAt w blk off pa ∧ PAt w blk (off + 3) pb ∧ Mn w lo hi ix a pa ∧ Mn w lo hi ix b pb
theorem Mn.wt {w : World} {lo hi : Nat} {ix : Nat → Nat} {t : Tree} {p : Pk} (h : Mn w lo hi ix t p) : p.wt = (t.wt : Int) := by
  cases t with
  | leaf wt s => exact h.1
  | node a b => exact h.1
theorem Mn.keep {w w' : World} {lo hi hi' : Nat} {ix : Nat → Nat} : ∀ {t : Tree} {p : Pk}, Mn w lo hi ix t p → hi ≤ hi' → (∀ k, lo ≤ k → k < hi → w'.heap[k]? = w.heap[k]?) → Mn w' lo hi' ix t p
  | .leaf _ _, _, h, _, _ => h
  | .node a b, p, ⟨h1, h2, h3, blk, off, pa, pb, e, l1, l2, q1, q2, m1, m2⟩, hh, hk =>
    ⟨h1, h2, h3, blk, off, pa, pb, e, l1, by omega, q1.keep (hk blk l1 l2), q2.keep (hk blk l1 l2), m1.keep hh hk, m2.keep hh hk⟩
/-- the numbers of a row -/
def nats (ls : List Nat) : List Value := ls.map fun n : Nat => .int .i64 (n : Int)
theorem nats_length (ls : List Nat) : (nats ls).length = ls.length := by simp [nats]
/-- the lengths' row -/
def LRow (w : World) (bl : Nat) (ls : List Nat) : Prop := w.heap[bl]? = some (.cells (nats ls).toArray 3 (0, 0))
/-- each thing's length grown by how often it is in a tree -/
def addL (ix : Nat → Nat) : Tree → List Nat → List Nat
  | .leaf _ s, ls => ls.set (ix s) (ls.getD (ix s) 0 + 1)
  | .node a b, ls => addL ix b (addL ix a ls)
def sizeT : Tree → Nat
  | .leaf _ _ => 1
  | .node a b => sizeT a + sizeT b
/-- each thing has a place -/
def InT (ix : Nat → Nat) (n : Nat) : Tree → Prop
  | .leaf _ s => ix s < n
  | .node a b => InT ix n a ∧ InT ix n b
theorem addL_length (ix : Nat → Nat) : ∀ (t : Tree) (ls : List Nat), (addL ix t ls).length = ls.length
  | .leaf _ _, ls => by simp [addL]
  | .node a b, ls => by simp only [addL]; rw [addL_length ix b, addL_length ix a]
theorem addL_le (ix : Nat → Nat) {B : Nat} : ∀ (t : Tree) (ls : List Nat), (∀ x ∈ ls, x ≤ B) → ∀ x ∈ addL ix t ls, x ≤ B + sizeT t
  | .leaf _ s, ls, h, x, hx => by
    simp only [addL] at hx
    rcases List.mem_or_eq_of_mem_set hx with hx | rfl
    · have := h x hx; simp only [sizeT]; omega
    · simp only [sizeT]
      rw [List.getD_eq_getElem?_getD]
      rcases hg : ls[ix s]? with _ | y
      · simp
      · have := h y (List.mem_of_getElem? hg)
        simp; omega
  | .node a b, ls, h, x, hx => by
    have := addL_le ix (B := B + sizeT a) b (addL ix a ls) (addL_le ix a ls h) x hx
    simp only [sizeT]; omega
theorem lrow_cell {w : World} {bl : Nat} {ls : List Nat} (h : LRow w bl ls) (i : Nat) (hi : i < ls.length) : w.cell? ⟨bl, i, none⟩ = some (.int .i64 ((ls.getD i 0 : Nat) : Int)) := by
  unfold LRow at h
  rw [List.getD_eq_getElem?_getD, List.getElem?_eq_getElem hi]
  simp [World.cell?, h, nats, hi]
theorem lrow_set {w : World} {bl : Nat} {ls : List Nat} (h : LRow w bl ls) (i n : Nat) : LRow (w.setCell ⟨bl, i, none⟩ (.int .i64 (n : Int))) bl (ls.set i n) := by
  have := blk_set h i (.int .i64 (n : Int))
  unfold LRow
  rw [this]
  simp [nats, List.map_set]
theorem LRow.lt {w : World} {bl : Nat} {ls : List Nat} (h : LRow w bl ls) : bl < w.heap.size := by
  rcases Nat.lt_or_ge bl w.heap.size with hlt | hge
  · exact hlt
  · unfold LRow at h; rw [Array.getElem?_eq_none hge] at h; cases h
theorem LRow.only {w w' : World} {bl : Nat} {ls : List Nat} {S : Nat → Prop} (h : LRow w bl ls) (ho : Only S w w') (hS : ¬ S bl) : LRow w' bl ls := (ho.2.2.2.2 bl h.lt hS).trans h
theorem only_alloc (S : Nat → Prop) (w : World) (o : Obj) : Only S w (w.alloc o) := Only.of_below ((Below.refl _ w).alloc (Nat.le_refl _) o)
theorem only_new {S : Nat → Prop} {w w1 : World} (h : Only S w w1) {p : Addr} (hp : w.heap.size ≤ p.block) (u : Value) : Only S w (w1.setCell p u) :=
  ⟨h.1, h.2.1, h.2.2.1, by simpa [World.setCell] using h.2.2.2.1, fun k hk hs => (Below.heap_setCell _ _ _ _ (fun e => by rw [e] at hk; omega)).trans (h.2.2.2.2 k hk hs)⟩
theorem nil_nil (W : World) : (binOp .eql 36 (.slice none 0 0) (.slice none 0 0)).run Try.prog W = .ok (.bool true) W := Lib.run_eql_slice_nil_nil W 0 0 Try.underlying36
theorem some_nil (W : World) (a : Addr) (n c : Nat) : (binOp .eql 36 (.slice (some a) n c) (.slice none 0 0)).run Try.prog W = .ok (.bool false) W := Lib.run_eql_slice_some_nil W a n c Try.underlying36
/-- what lengthen does -/
def Long (w : World) (bl : Nat) (ls : List Nat) (e : Ending) (w' : World) : Prop := e = .returned (.tuple #[]) ∧ LRow w' bl ls ∧ Only (· = bl) w w'

set_option maxHeartbeats 4000000 in
theorem lengthen_leaf (wt s : Nat) (p : Pk) (ls : List Nat) (w : World) (lo hi bl cap n : Nat) (ix : Nat → Nat) (hn : n = ls.length) (h : Mn w lo hi ix (.leaf wt s) p) (hl : LRow w bl ls) (hi' : InT ix ls.length (.leaf wt s)) (hb : ∀ x ∈ ls, x + 1 ≤ 4611686018427387904) :
    Calls Try.prog 17 #[.agg #[.int .i64 p.wt, .int .i64 p.sym, .slice p.ptr p.len p.cap], .slice (some ⟨bl, 0, none⟩) n cap] w (Long w bl (addL ix (.leaf wt s) ls)) := by
  obtain ⟨h1, h2, h3, h4, h5⟩ := h
  rw [h1, h2, h3, h4, h5]
  have hi2 : ix s < ls.length := hi'
  have hcell := lrow_cell hl (ix s) hi2
  have hfr := blk_frozen hl (ix s)
  have hx : ls.getD (ix s) 0 + 1 ≤ 4611686018427387904 := by
    rw [List.getD_eq_getElem?_getD, List.getElem?_eq_getElem hi2]
    exact hb _ (List.getElem_mem hi2)
  have hblt := hl.lt
  have HL := Lib.hid hl
  have HF : Hid (addL ix (.leaf wt s) ls = ls.set (ix s) (ls.getD (ix s) 0 + 1)) := rfl
  generalize addL ix (.leaf wt s) ls = res at HF ⊢
  generalize ls.getD (ix s) 0 = c at hcell hx HF
  generalize ix s = k at hcell hfr hi2 HF
  have hk1 : (0 : Int) ≤ (k : Int) := by omega
  have hk2 : (k : Int) < (n : Int) := by omega
  have HC : Hid (((c + 1 : Nat) : Int) = (c : Int) + 1) := by show _ = _; omega
  have hwr : IntKind.i64.wrap ((c : Int) + 1) = (c : Int) + 1 := by rw [IntKind.wrap_i64]; omega
  have hne : ¬ w.heap.size = bl := by omega
  have hne2 : ¬ bl = w.heap.size := by omega
  clear h1 h2 h3 h4 h5 hi' hb hl hn
  have hnil := nil_nil
  have hsome := some_nil
  go_enter Try.func17, Try.ntmps17
  go_wp2
  (try simp only [Exit.inBlock, Exit.then]); refine bodyPost_ret (results_none rfl _ _ _) rfl ?_
  have hl3 := (lrow_set HL.out k (c + 1)).only (S := fun _ => False) (only_alloc _ _ (.cells #[.int .i64 wt, .int .i64 k, .slice none 0 0] 39)) (fun h => h)
  rw [HC.out] at hl3
  rw [HF.out]
  exact ⟨rfl, hl3, (Only.setCell (S := (· = bl)) rfl _).trans (only_alloc _ _ _)⟩
/-- lengthen, at a tree -/
def LenOk (lo hi bl cap n : Nat) (ix : Nat → Nat) (t : Tree) : Prop :=
  ∀ (p : Pk) (ls : List Nat) (w : World), n = ls.length → Mn w lo hi ix t p → LRow w bl ls → hi ≤ w.heap.size → InT ix n t → (∀ x ∈ ls, x + sizeT t ≤ 4611686018427387904) →
    Calls Try.prog 17 #[.agg #[.int .i64 p.wt, .int .i64 p.sym, .slice p.ptr p.len p.cap], .slice (some ⟨bl, 0, none⟩) n cap] w (Long w bl (addL ix t ls))
def Stage (ix : Nat → Nat) (a b : Tree) (ls : List Nat) (k : Nat) (lk : List Nat) : Prop := (k = 0 ∧ lk = ls) ∨ (k = 1 ∧ lk = addL ix a ls) ∨ (k = 2 ∧ lk = addL ix b (addL ix a ls))
theorem stage_step {lo hi bl cap n : Nat} {ix : Nat → Nat} {a b : Tree} {ls lk : List Nat} {k blk off : Nat} {w : World} {pa pb : Pk} (h : Stage ix a b ls k lk) (hk : k < 2) (q1 : PAt w blk off pa) (q2 : PAt w blk (off + 3) pb) (m1 : Mn w lo hi ix a pa) (m2 : Mn w lo hi ix b pb)
    (ha : LenOk lo hi bl cap n ix a) (hb : LenOk lo hi bl cap n ix b) (hi1 : InT ix n (.node a b)) (hbd : ∀ x ∈ ls, x + sizeT (.node a b) ≤ 4611686018427387904) (hn : n = ls.length) :
    ∃ t p, PAt w blk (off + k * 3) p ∧ Mn w lo hi ix t p ∧ LenOk lo hi bl cap n ix t ∧ InT ix n t ∧ (∀ x ∈ lk, x + sizeT t ≤ 4611686018427387904) ∧ Stage ix a b ls (k + 1) (addL ix t lk) ∧ n = lk.length := by
  rcases h with ⟨rfl, rfl⟩ | ⟨rfl, rfl⟩ | ⟨rfl, rfl⟩
  · exact ⟨a, pa, by simpa using q1, m1, ha, hi1.1, fun x hx => by have := hbd x hx; simp only [sizeT] at this; omega, .inr (.inl ⟨rfl, rfl⟩), hn⟩
  · refine ⟨b, pb, by simpa using q2, m2, hb, hi1.2, fun x hx => ?_, .inr (.inr ⟨rfl, rfl⟩), by rw [addL_length]; exact hn⟩
    have := addL_le ix (B := 4611686018427387904 - sizeT (.node a b)) a ls (fun y hy => by have := hbd y hy; omega) x hx
    have h9 : sizeT (.node a b) = sizeT a + sizeT b := rfl
    rcases ls with _ | ⟨y, ls⟩
    · have := List.length_pos_of_mem hx
      rw [addL_length] at this
      simp at this
    · have := hbd y (List.mem_cons_self ..)
      omega
  · omega

set_option maxHeartbeats 4000000 in
theorem lengthen_node (a b : Tree) (lo hi bl cap n : Nat) (ix : Nat → Nat) (hbl : bl < lo) (ha : LenOk lo hi bl cap n ix a) (hb : LenOk lo hi bl cap n ix b) : LenOk lo hi bl cap n ix (.node a b) := by
  intro p ls w hn h hl hhi hin hbd
  obtain ⟨h1, h2, h2c, blk, off, pa, pb, h3, h4, h5, q1, q2, m1, m2⟩ := h
  rw [h2, h3]
  generalize p.cap = pc at h2c ⊢
  generalize p.wt = pw
  generalize p.sym = py
  have H0 : Hid (n = ls.length ∧ LRow w bl ls ∧ hi ≤ w.heap.size ∧ PAt w blk off pa ∧ PAt w blk (off + 3) pb ∧ Mn w lo hi ix a pa ∧ Mn w lo hi ix b pb) := ⟨hn, hl, hhi, q1, q2, m1, m2⟩
  have HI : Hid (LenOk lo hi bl cap n ix a ∧ LenOk lo hi bl cap n ix b ∧ InT ix n (.node a b) ∧ ∀ x ∈ ls, x + sizeT (.node a b) ≤ 4611686018427387904) := ⟨ha, hb, hin, hbd⟩
  have hb2 : blk < w.heap.size := by omega
  clear h1 h2 h3 hn hl q1 q2 m1 m2 hin hbd ha hb
  have hnil := nil_nil
  have hsome := some_nil
  go_enter Try.func17, Try.ntmps17
  go_wp2
  go_loopg [19] 2 (fun kx s19 wr => ∃ (k : Nat) (lk : List Nat), s19 = .int .i64 (k : Int) ∧ k ≤ 2 ∧ 2 - k ≤ kx ∧ Hid (Stage ix a b ls k lk ∧ LRow wr bl lk ∧ Only (· = bl) w wr))
  case atStart => exact ⟨0, ls, rfl, by omega, by omega, ⟨.inl ⟨rfl, rfl⟩, H0.out.2.1.only (only_alloc (· = w.heap.size) _ _) (by have := H0.out.2.1.lt; omega), only_alloc _ _ _⟩⟩
  case round =>
    obtain ⟨k, lk, rfl, hk2, hkx, HR⟩ := hrel
    by_cases hlt : k < 2
    · obtain ⟨e1, e2, e3, e4, e5, e6, e7⟩ := H0.out
      obtain ⟨i1, i2, i3, i4⟩ := HI.out
      obtain ⟨t, pk, s1, s2, s3, s4, s5, s6, s7⟩ := stage_step HR.out.1 hlt e4 e5 e6 e7 i1 i2 i3 i4 e1
      have hsz := HR.out.2.2.2.2.2.1
      have same : ∀ j, lo ≤ j → j < hi → wr.heap[j]? = w.heap[j]? := fun j h1 h2 => HR.out.2.2.2.2.2.2 j (by omega) (by omega)
      have s1' := s1.keep (same blk h4 h5)
      obtain ⟨c1, c2, c3⟩ := s1'
      have HS : Hid (Mn wr lo hi ix t pk ∧ LenOk lo hi bl cap n ix t ∧ InT ix n t ∧ (∀ x ∈ lk, x + sizeT t ≤ 4611686018427387904) ∧ Stage ix a b ls (k + 1) (addL ix t lk) ∧ n = lk.length) := ⟨s2.keep (Nat.le_refl _) same, s3, s4, s5, s6, s7⟩
      have hkz : (k : Int) < 2 := by omega
      have hk0 : (0 : Int) ≤ (k : Int) := by omega
      have hblr : bl < wr.heap.size := HR.out.2.1.lt
      have HSZ : Hid (w.heap.size ≤ wr.heap.size ∧ hi ≤ w.heap.size) := ⟨hsz, e3⟩
      clear e1 e2 e3 e4 e5 e6 e7 i1 i2 i3 i4 s1 s2 s3 s4 s5 s6 s7 same hhi
      go_wp2_with fail
      have hsame : ∀ j, lo ≤ j → j < hi → (wr.alloc (.cells #[.int .i64 pk.wt, .int .i64 pk.sym, .slice pk.ptr pk.len pk.cap] 39)).heap[j]? = wr.heap[j]? := fun j h1 h2 => (only_alloc (fun _ => False) wr _).2.2.2.2 j (by have := HSZ.out; omega) (fun h => h)
      have hl1 := HR.out.2.1.only (S := fun _ => False) (only_alloc _ wr (.cells #[.int .i64 pk.wt, .int .i64 pk.sym, .slice pk.ptr pk.len pk.cap] 39)) (fun h => h)
      have hc := HS.out.2.1 pk lk _ HS.out.2.2.2.2.2 (HS.out.1.keep (Nat.le_refl _) hsame) hl1 (by have := HSZ.out; simp; omega) HS.out.2.2.1 HS.out.2.2.2.1
      refine hc.mono ?_
      rintro e w' ⟨rfl, l1, o1⟩
      have HN : Hid (LRow w' bl (addL ix t lk) ∧ Only (· = bl) w w') := ⟨l1, HR.out.2.2.trans ((only_alloc _ _ _).trans o1)⟩
      clear hc l1 o1 hl1 hsame
      go_wp2
      go_roundg (2 - (k + 1))
      case measure => omega
      case rel => exact ⟨k + 1, addL ix t lk, by go_num, by omega, Nat.le_refl _, ⟨HS.out.2.2.2.2.1, HN.out⟩⟩
    · have hkz : ¬ (k : Int) < 2 := by omega
      have hk : k = 2 := by omega
      go_wp2
      go_end0
      obtain ⟨e1, e2, e3⟩ := HR.out
      rcases e1 with ⟨h, _⟩ | ⟨h, _⟩ | ⟨_, rfl⟩
      · omega
      · omega
      · exact ⟨rfl, e2, e3⟩
theorem lengthen_ok (lo hi bl cap n : Nat) (ix : Nat → Nat) (hbl : bl < lo) : ∀ t : Tree, LenOk lo hi bl cap n ix t
  | .leaf wt s => fun p ls w hn h hl hhi hin hbd => lengthen_leaf wt s p ls w lo hi bl cap n ix hn h hl (by rw [← hn]; exact hin) hbd
  | .node a b => lengthen_node a b lo hi bl cap n ix hbl (lengthen_ok lo hi bl cap n ix hbl a) (lengthen_ok lo hi bl cap n ix hbl b)
end Go.Proofs.Ytefniglinligeaa.Lp

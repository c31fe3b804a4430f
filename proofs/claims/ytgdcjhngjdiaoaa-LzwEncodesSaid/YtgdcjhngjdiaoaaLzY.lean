
/- The document's Code, in plain words and its contract. -/
import Derived.Test.YtgdcjhngjdiaoaaLzX
import Derived.Test.YtgdcjhngjdiaoaaBitF
import Derived.Test.YtgdcjhngjdiaoaaLzA
import Derived.Test.YtgdcjhngjdiaoaaLzR
import Derived.Deep.RegionLaw
import Derived.Deep.AppendLies
import Derived.BigRegion
import Derived.RegionTactic
namespace Go.Proofs.Ytgdcjhngjdiaoaa.Lz
open Go.RowKit Go.Proofs.Ytgdcjhngjdiaoaa.Oct Go.Proofs.Ytgdcjhngjdiaoaa.Bit
set_option linter.unusedVariables false
set_option linter.unusedSimpArgs false
set_option maxRecDepth 100000

/-- strings that are there, none longer than B -/
structure Good (s : St) (B : Nat) : Prop where
  ne : ∀ x ∈ s.tab, x ≠ []
  len : ∀ x ∈ s.tab, x.length ≤ B
  ah : s.ahead.length ≤ B
  top : 258 + s.tab.length ≤ 4096
theorem Good.start (B : Nat) : Good s0 B := ⟨by simp [s0], by simp [s0], by simp [s0], by simp [s0]⟩
theorem Good.text {s : St} {B c : Nat} {t : List UInt8} (h : Good s B) (hB : 1 ≤ B) (ht : textOf s c = some t) : t ≠ [] ∧ t.length ≤ B + 1 := by
  unfold textOf at ht
  split at ht
  · split at ht
    · injection ht with ht
      subst ht
      exact ⟨by simp, by simp⟩
    · cases ht
  · rename_i ha
    split at ht
    · injection ht with ht
      subst ht
      have := h.ah
      refine ⟨by simp [ha], ?_⟩
      rw [List.length_append, List.length_take]
      omega
    · unfold look at ht
      split at ht
      · injection ht with ht
        subst ht
        exact ⟨by simp, by simp⟩
      · split at ht
        · cases ht
        · have hm := List.mem_of_getElem? ht
          exact ⟨h.ne t hm, by have := h.len t hm; omega⟩
theorem Good.step {s s' : St} {B c : Nat} {t : List UInt8} (h : Good s B) (hB : 1 ≤ B) (hs : step s c = some (s', t)) : Good s' (B + 1) ∧ t.length ≤ B + 1 ∧ (c ≠ 256 → t ≠ []) := by
  unfold Lz.step at hs
  split at hs
  · injection hs with hs
    injection hs with e1 e2
    subst e1; subst e2
    exact ⟨Good.start _, by simp, fun h => by omega⟩
  · rcases ht : textOf s c with _ | t'
    · rw [ht] at hs; cases hs
    · rw [ht] at hs
      injection hs with hs
      injection hs with e1 e2
      subst e1; subst e2
      obtain ⟨h1, h2⟩ := h.text hB ht
      refine ⟨?_, h2, fun _ => h1⟩
      unfold nxt
      split
      · rename_i hc
        refine ⟨?_, ?_, h2, by simp; omega⟩
        · intro x hx
          simp at hx
          rcases hx with hx | rfl
          · exact h.ne x hx
          · simp [hc.1]
        · intro x hx
          simp at hx
          rcases hx with hx | rfl
          · have := h.len x hx; omega
          · have := h.ah
            simp
            omega
      · exact ⟨h.ne, fun x hx => by have := h.len x hx; omega, h2, h.top⟩
/-- the table as the document has it -/
def tabD (s : St) : List (List UInt8) := startK 258 ++ s.tab
theorem tabD_length (s : St) : (tabD s).length = 258 + s.tab.length := by simp [tabD, startK_length]
theorem tabD_look {s : St} {c : Nat} (h6 : c ≠ 256) (h7 : c ≠ 257) : look s.tab c = (tabD s)[c]? := by
  unfold look tabD
  rcases Nat.lt_or_ge c 258 with hlt | hge
  · rw [if_pos (by omega), List.getElem?_append_left (by rw [startK_length]; omega), List.getElem?_eq_getElem (by rw [startK_length]; omega)]
    simp [startK]
  · rw [if_neg (by omega), if_neg (by omega), List.getElem?_append_right (by rw [startK_length]; omega), startK_length]
theorem rd_code (old : Bool) (bits : List Bool) (a wd : Nat) (h : a + wd ≤ bits.length) (hw : wd ≤ 12) : rrV (wd : Int) old bits a = ((codeAt old bits a wd : Nat) : Int) := by
  have ho : okR (wd : Int) bits.length a = true := by unfold okR cntB; simp; omega
  unfold rrV
  rw [ho, if_pos rfl, Int.toNat_natCast]
  unfold peekV codeAt
  rw [List.take_append_of_le_length (by rw [List.length_drop]; omega)]
/-- what Code answers; wd: the width of the code -/
def CodeW (w : World) (bits : List Bool) (s : St) (a : Nat) (old : Bool) (wd : Nat) (e : Ending) (w' : World) : Prop :=
  Below w.heap.size w w' ∧
  (bits.length < a + wd → ∃ q l c b z, e = .returned (.tuple #[.agg #[.slice q l c, .string b, .int .i64 z], .string ⟨#[]⟩, .bool false, .int .i64 2])) ∧
  (a + wd ≤ bits.length →
    (codeAt old bits a wd = 257 → ∃ q l c b, e = .returned (.tuple #[.agg #[.slice q l c, .string b, .int .i64 ((a + wd : Nat) : Int)], .string (bs []), .bool true, .int .i64 0])) ∧
    (codeAt old bits a wd ≠ 257 →
      (step s (codeAt old bits a wd) = none → ∃ q l c b z, e = .returned (.tuple #[.agg #[.slice q l c, .string b, .int .i64 z], .string ⟨#[]⟩, .bool false, .int .i64 6])) ∧
      (∀ s' t, step s (codeAt old bits a wd) = some (s', t) → ∃ g c, StrRow w' (some ⟨g, 0, none⟩) (tabD s') ∧ 258 + s'.tab.length ≤ c ∧ c ≤ maxLen ∧
        e = .returned (.tuple #[.agg #[.slice (some ⟨g, 0, none⟩) (258 + s'.tab.length) c, .string (bs s'.ahead), .int .i64 ((a + wd : Nat) : Int)], .string (bs t), .bool false, .int .i64 0]))))
def CodeV (w : World) (bits : List Bool) (s : St) (a : Nat) (old : Bool) (e : Ending) (w' : World) : Prop := CodeW w bits s a old (widN (258 + s.tab.length) old) e w'
theorem CodeW.cut {w w' : World} {bits : List Bool} {s : St} {a : Nat} {old : Bool} {wd : Nat} (hb : Below w.heap.size w w') (h : bits.length < a + wd) (q : Option Addr) (l c : Nat) (b : ByteArray) (z : Int) :
    CodeW w bits s a old wd (.returned (.tuple #[.agg #[.slice q l c, .string b, .int .i64 z], .string ⟨#[]⟩, .bool false, .int .i64 2])) w' :=
  ⟨hb, fun _ => ⟨q, l, c, b, z, rfl⟩, fun h2 => by omega⟩
theorem CodeW.end_ {w w' : World} {bits : List Bool} {s : St} {a : Nat} {old : Bool} {wd : Nat} (hb : Below w.heap.size w w') (h : a + wd ≤ bits.length) (hc : codeAt old bits a wd = 257) (q : Option Addr) (l c : Nat) (b : ByteArray) :
    CodeW w bits s a old wd (.returned (.tuple #[.agg #[.slice q l c, .string b, .int .i64 ((a + wd : Nat) : Int)], .string (bs []), .bool true, .int .i64 0])) w' :=
  ⟨hb, fun h2 => by omega, fun _ => ⟨fun _ => ⟨q, l, c, b, rfl⟩, fun h7 => absurd hc h7⟩⟩
theorem CodeW.bad {w w' : World} {bits : List Bool} {s : St} {a : Nat} {old : Bool} {wd : Nat} (hb : Below w.heap.size w w') (h : a + wd ≤ bits.length) (hc : codeAt old bits a wd ≠ 257) (hs : step s (codeAt old bits a wd) = none) (q : Option Addr) (l c : Nat) (b : ByteArray) (z : Int) :
    CodeW w bits s a old wd (.returned (.tuple #[.agg #[.slice q l c, .string b, .int .i64 z], .string ⟨#[]⟩, .bool false, .int .i64 6])) w' :=
  ⟨hb, fun h2 => by omega, fun _ => ⟨fun h7 => absurd h7 hc, fun _ => ⟨fun _ => ⟨q, l, c, b, z, rfl⟩, (fun s' t e => by rw [hs] at e; cases e)⟩⟩⟩
theorem CodeW.good {w w' : World} {bits : List Bool} {s s' : St} {t : List UInt8} {a : Nat} {old : Bool} {wd : Nat} (hb : Below w.heap.size w w') (h : a + wd ≤ bits.length) (hc : codeAt old bits a wd ≠ 257)
    (hs : step s (codeAt old bits a wd) = some (s', t)) {g c : Nat} (hr : StrRow w' (some ⟨g, 0, none⟩) (tabD s')) (h1 : 258 + s'.tab.length ≤ c) (h2 : c ≤ maxLen) :
    CodeW w bits s a old wd (.returned (.tuple #[.agg #[.slice (some ⟨g, 0, none⟩) (258 + s'.tab.length) c, .string (bs s'.ahead), .int .i64 ((a + wd : Nat) : Int)], .string (bs t), .bool false, .int .i64 0])) w' :=
  ⟨hb, fun h2 => by omega, fun _ => ⟨fun h7 => absurd h7 hc, fun _ => ⟨(fun e => by rw [hs] at e; cases e), (fun s2 t2 e => by
    rw [hs] at e
    injection e with e
    injection e with e1 e2
    subst e1; subst e2
    exact ⟨g, c, hr, h1, h2, rfl⟩)⟩⟩⟩

theorem blk_set {W : World} {d : Nat} {cs : Array Value} {T : TypeId} (h : W.heap[d]? = some (.cells cs T (0, 0))) (i : Nat) (v : Value) : (W.setCell ⟨d, i, none⟩ v).heap[d]? = some (.cells (cs.setIfInBounds i v) T (0, 0)) := by
  simp [World.setCell, Array.getElem?_modify, h]
theorem blk_far {W : World} {d e : Nat} {x : Option Obj} (h : W.heap[d]? = x) (hne : e ≠ d) (i : Nat) (v : Value) : (W.setCell ⟨e, i, none⟩ v).heap[d]? = x := by
  rw [← h]
  exact Below.heap_setCell _ _ _ _ (fun e' => hne e'.symm)
theorem blk_drawn {W : World} {d : Nat} {x : Option Obj} (h : W.heap[d]? = x) (n : Nat) : (W.drewN n).heap[d]? = x := h
theorem code_ret {Q : Ending → World → Prop} {act : Act} {F : World} {d : Nat} (x0 x1 x2 t b e : Value) (hb : F.heap[d]? = some (.cells #[x0, x1, x2] 47 (0, 0)))
    (h6 : act.tmps[6]?.getD undef = .pointer (some ⟨d, 0, none⟩)) (h7 : act.tmps[7]?.getD undef = t) (h8 : act.tmps[8]?.getD undef = b) (h9 : act.tmps[9]?.getD undef = e) (hd : act.defers = [])
    (h : Q (.returned (.tuple #[.agg #[x0, x1, x2], t, b, e])) F) : bodyPost Try.prog Try.f21 Q .ret act F := by
  have q0 : F.cell? ⟨d, 0, none⟩ = some x0 := by simp [World.cell?, hb]
  have q1 : F.cell? ⟨d, 1, none⟩ = some x1 := by simp [World.cell?, hb]
  have q2 : F.cell? ⟨d, 2, none⟩ = some x2 := by simp [World.cell?, hb]
  refine bodyPost_ret (v := .tuple #[.agg #[x0, x1, x2], t, b, e]) ?_ hd h
  simp [results, Try.results21, go_sem, h6, h7, h8, h9, q0, q1, q2]
structure Two (V : World) (n : Nat) (x0 x1 x2 y0 y1 y2 : Value) : Prop where
  b0 : V.heap[n]? = some (.cells #[x0, x1, x2] 47 (0, 0))
  b1 : V.heap[n + 1]? = some (.cells #[y0, y1, y2] 47 (0, 0))
section
variable {V V' : World} {n : Nat} {x0 x1 x2 y0 y1 y2 : Value}
theorem Two.k0 (h : Two V n x0 x1 x2 y0 y1 y2) : V.cell? ⟨n, 0, none⟩ = some x0 := by simp [World.cell?, h.b0]
theorem Two.k1 (h : Two V n x0 x1 x2 y0 y1 y2) : V.cell? ⟨n, 1, none⟩ = some x1 := by simp [World.cell?, h.b0]
theorem Two.k2 (h : Two V n x0 x1 x2 y0 y1 y2) : V.cell? ⟨n, 2, none⟩ = some x2 := by simp [World.cell?, h.b0]
theorem Two.j0 (h : Two V n x0 x1 x2 y0 y1 y2) : V.cell? ⟨n + 1, 0, none⟩ = some y0 := by simp [World.cell?, h.b1]
theorem Two.j1 (h : Two V n x0 x1 x2 y0 y1 y2) : V.cell? ⟨n + 1, 1, none⟩ = some y1 := by simp [World.cell?, h.b1]
theorem Two.j2 (h : Two V n x0 x1 x2 y0 y1 y2) : V.cell? ⟨n + 1, 2, none⟩ = some y2 := by simp [World.cell?, h.b1]
theorem Two.f0 (h : Two V n x0 x1 x2 y0 y1 y2) (i : Nat) : V.frozen? ⟨n, i, none⟩ = false := by simp [World.frozen?, h.b0]
theorem Two.f1 (h : Two V n x0 x1 x2 y0 y1 y2) (i : Nat) : V.frozen? ⟨n + 1, i, none⟩ = false := by simp [World.frozen?, h.b1]
theorem Two.below {B : Nat} (h : Two V n x0 x1 x2 y0 y1 y2) (hb : Below B V V') (hn : n + 1 < B) : Two V' n x0 x1 x2 y0 y1 y2 := ⟨(hb.block n (by omega)).trans h.b0, (hb.block (n + 1) hn).trans h.b1⟩
theorem Two.drawn (h : Two V n x0 x1 x2 y0 y1 y2) (j : Nat) : Two (V.drewN j) n x0 x1 x2 y0 y1 y2 := ⟨h.b0, h.b1⟩
theorem Two.s0 (h : Two V n x0 x1 x2 y0 y1 y2) (v : Value) : Two (V.setCell ⟨n, 0, none⟩ v) n v x1 x2 y0 y1 y2 := ⟨blk_set h.b0 0 v, blk_far h.b1 (by omega) 0 v⟩
theorem Two.s1 (h : Two V n x0 x1 x2 y0 y1 y2) (v : Value) : Two (V.setCell ⟨n, 1, none⟩ v) n x0 v x2 y0 y1 y2 := ⟨blk_set h.b0 1 v, blk_far h.b1 (by omega) 1 v⟩
theorem Two.s2 (h : Two V n x0 x1 x2 y0 y1 y2) (v : Value) : Two (V.setCell ⟨n, 2, none⟩ v) n x0 x1 v y0 y1 y2 := ⟨blk_set h.b0 2 v, blk_far h.b1 (by omega) 2 v⟩
theorem Two.out (h : Two V n x0 x1 x2 y0 y1 y2) (u v w : Value) : (((V.setCell ⟨n + 1, 0, none⟩ u).setCell ⟨n + 1, 1, none⟩ v).setCell ⟨n + 1, 2, none⟩ w).heap[n + 1]? = some (.cells #[u, v, w] 47 (0, 0)) :=
  blk_set (blk_set (blk_set h.b1 0 u) 1 v) 2 w
theorem below_out {B : Nat} (hb : Below B V V') (hn : B ≤ n) (u v w : Value) : Below B V (((V'.setCell ⟨n + 1, 0, none⟩ u).setCell ⟨n + 1, 1, none⟩ v).setCell ⟨n + 1, 2, none⟩ w) :=
  ((hb.setCell (p := ⟨n + 1, 0, none⟩) (by show B ≤ n + 1; omega) u).setCell (p := ⟨n + 1, 1, none⟩) (by show B ≤ n + 1; omega) v).setCell (p := ⟨n + 1, 2, none⟩) (by show B ≤ n + 1; omega) w
end
theorem StrRow.set {V : World} {p : Option Addr} {L : List (List UInt8)} (h : StrRow V p L) {e : Nat} (hn : ∀ a, p = some a → a.block ≠ e) (i : Nat) (x : Value) : StrRow (V.setCell ⟨e, i, none⟩ x) p L := by
  obtain ⟨b, rfl, hb, hc⟩ := h
  have hbn := hn _ rfl
  have hbn' : b ≠ e := hbn
  refine ⟨b, rfl, by simp [World.setCell]; exact hb, fun j hj => ?_⟩
  rw [← hc j hj]
  exact World.cell?_of_block (Below.heap_setCell _ _ _ _ hbn')

theorem row_out {V : World} {n : Nat} {p : Option Addr} {L : List (List UInt8)} (h : StrRow V p L) (hn : ∀ a, p = some a → a.block ≠ n + 1) (u v w : Value) : StrRow (((V.setCell ⟨n + 1, 0, none⟩ u).setCell ⟨n + 1, 1, none⟩ v).setCell ⟨n + 1, 2, none⟩ w) p L :=
  ((h.set hn 0 u).set hn 1 v).set hn 2 w

set_option maxHeartbeats 4000000 in
theorem rcode_any (g cp : Nat) (s : St) (a B : Nat) (bits : List Bool) (old : Bool) (w : World) (hrow : StrRow w (some ⟨g, 0, none⟩) (tabD s)) (hcp : 258 + s.tab.length ≤ cp) (hcm : cp ≤ maxLen) (hG : Good s B) (hB : 1 ≤ B) (hB2 : B ≤ 1000000) (ha : a ≤ bits.length) (hl : bits.length ≤ 100000) :
    Calls Try.prog 21 #[.agg #[.slice (some ⟨g, 0, none⟩) (258 + s.tab.length) cp, .string (bs s.ahead), .int .i64 (a : Int)], .string (ds bits), .bool old] w (CodeV w bits s a old) := by
  have htop := hG.top
  have HCM := Lib.hid hcm
  obtain ⟨wd, hwd⟩ : ∃ wd, wd = widN (258 + s.tab.length) old := ⟨_, rfl⟩
  obtain ⟨hw9, hw12⟩ := widN_bd (258 + s.tab.length) old
  rw [← hwd] at hw9 hw12
  obtain ⟨K, hK⟩ : ∃ K, K = 258 + s.tab.length := ⟨_, rfl⟩
  have hwi := fun W => rwidth_any (258 + s.tab.length) old W (by omega)
  rw [← hwd] at hwi
  rw [← hK] at hwi hcp htop ⊢
  have HK := Lib.hid hK
  have hK8 : 258 ≤ K := by omega
  have hrd := fun W => rread_any bits a (wd : Int) old W ha hl
  have HWI := Lib.hid hwi
  have HRD := Lib.hid hrd
  have HROW := Lib.hid hrow
  have HG := Lib.hid hG
  have hgl : g < w.heap.size := by
    obtain ⟨b, e, hb, _⟩ := hrow
    injection e with e
    injection e with e
    omega
  obtain ⟨W, hW⟩ : ∃ W, W = (w.alloc (.cells #[.slice (some ⟨g, 0, none⟩) K cp, .string (bs s.ahead), .int .i64 (a : Int)] 47)).alloc (.cells #[.slice none 0 0, .string ⟨#[]⟩, .int .i64 0] 47) := ⟨_, rfl⟩
  have HW := Lib.hid hW
  have hpost : CodeV w bits s a old = CodeW w bits s a old wd := by unfold CodeV; rw [← hwd]
  rw [hpost]
  clear hwi hrd hwd hW hrow hG hpost hK
  unfold maxLen at hcm
  go_enter Try.func21, Try.ntmps21
  go_wp2_with fail
  rw [← HW.out]
  have hz : W.heap.size = w.heap.size + 2 := by rw [HW.out]; simp
  have hbW : Below w.heap.size w W := by rw [HW.out]; exact ((Below.refl _ w).alloc (Nat.le_refl _) _).alloc (by simp) _
  have hb0 : W.heap[w.heap.size]? = some (.cells #[.slice (some ⟨g, 0, none⟩) K cp, .string (bs s.ahead), .int .i64 (a : Int)] 47 (0, 0)) := by
    rw [HW.out]
    show ((w.heap.push _).push _)[w.heap.size]? = _
    rw [Array.getElem?_push, if_neg (by simp), Array.getElem?_push_size]
  have hb1 : W.heap[w.heap.size + 1]? = some (.cells #[.slice none 0 0, .string ⟨#[]⟩, .int .i64 0] 47 (0, 0)) := by
    rw [HW.out]
    show ((w.heap.push _).push _)[w.heap.size + 1]? = _
    have e : w.heap.size + 1 = (w.heap.push (Obj.cells #[.slice (some ⟨g, 0, none⟩) K cp, .string (bs s.ahead), .int .i64 (a : Int)] 47)).size := by simp
    rw [e, Array.getElem?_push_size]
  obtain ⟨n, hn⟩ : ∃ n, n = w.heap.size := ⟨_, rfl⟩
  have hN : w.heap.size ≤ n := by omega
  have hgn : g < n := by omega
  rw [← hn] at hz hb0 hb1 ⊢
  have HBW := Lib.hid hbW
  have HTW := Lib.hid (Two.mk hb0 hb1)
  clear hn hbW hb0 hb1 HW
  have f0 := HTW.out.f0
  have f1 := HTW.out.f1
  have k0 := HTW.out.k0
  have k1 := HTW.out.k1
  have k2 := HTW.out.k2
  have j0 := HTW.out.j0
  have j1 := HTW.out.j1
  have j2 := HTW.out.j2
  by_cases hok : bits.length < a + wd
  · have ho : okR (wd : Int) bits.length a = false := okR_no hok
    have e1 : rrV (wd : Int) old bits a = 0 := by unfold rrV; rw [ho]; rfl
    have e2 : readE (wd : Int) bits.length a = 2 := by unfold readE cntB; rw [ho, if_neg (by decide), if_pos (by simp; omega)]
    have e3 : readA (wd : Int) bits.length a = a := by unfold readA; rw [ho]; rfl
    have hrd := HRD.out
    rw [e1, e2, e3] at hrd
    have HRD2 := Lib.hid hrd
    clear hrd e1 e2 e3 ho
    go_quiet (first | (go_at_call 38; exact quietly (HWI.out _)) | (go_at_call 37; exact quietly (HRD2.out _)))
    go_wp2_with fail
    refine code_ret (d := n + 1) _ _ _ _ _ _ (((HTW.out.drawn nq).s2 _).out _ _ _) rfl rfl rfl rfl rfl ?_
    exact CodeW.cut (below_out ((HBW.out.trans ((show Drawn W (W.drewN nq) from ⟨nq, rfl⟩).below _)).setCell (p := ⟨n, 2, none⟩) hN _) hN _ _ _) hok _ _ _ _ _
  · have hok2 : a + wd ≤ bits.length := by omega
    have ho : okR (wd : Int) bits.length a = true := okR_yes hw12 hok2
    have e1 := rd_code old bits a wd hok2 hw12
    have e2 : readE (wd : Int) bits.length a = 0 := by unfold readE; rw [ho]; rfl
    have e3 : ((readA (wd : Int) bits.length a : Nat) : Int) = ((a + wd : Nat) : Int) := by unfold readA; rw [ho]; rfl
    have hc4 := codeAt_lt old bits a wd hw12
    obtain ⟨c, hc⟩ : ∃ c, c = codeAt old bits a wd := ⟨_, rfl⟩
    obtain ⟨a', ha'⟩ : ∃ a', a' = a + wd := ⟨_, rfl⟩
    have hrd := HRD.out
    rw [e1, e2, e3, ← hc, ← ha'] at hrd
    rw [← hc] at hc4
    have HRD2 := Lib.hid hrd
    have HC := Lib.hid hc
    have HA := Lib.hid ha'
    clear hrd e1 e2 e3 ho hc ha' hok
    have haz : bs [] = ⟨#[]⟩ := rfl
    have HAZ := Lib.hid haz
    have hTF := fun nq => (HTW.out.drawn nq).s2 (.int .i64 (a' : Int))
    have hBF := fun nq : Nat => (HBW.out.trans ((show Drawn W (W.drewN nq) from ⟨nq, rfl⟩).below _)).setCell (p := ⟨n, 2, none⟩) hN (.int .i64 (a' : Int))
    have hZF : ∀ nq : Nat, ((W.drewN nq).setCell ⟨n, 2, none⟩ (.int .i64 (a' : Int))).heap.size = n + 2 := fun nq => by simp [World.setCell]; exact hz
    have hRF : ∀ nq : Nat, StrRow ((W.drewN nq).setCell ⟨n, 2, none⟩ (.int .i64 (a' : Int))) (some ⟨g, 0, none⟩) (tabD s) := fun nq => HROW.out.below (hBF nq)
    have HTF := Lib.hid hTF
    have HBF := Lib.hid hBF
    have HZF := Lib.hid hZF
    have HRF := Lib.hid hRF
    clear haz hTF hBF hZF hRF HRD
    by_cases h6 : c = 256
    · have q6 : ((c : Int) == 256) = true := by simp; omega
      go_quiet (first | (go_at_call 38; exact quietly (HWI.out _)) | (go_at_call 37; exact quietly (HRD2.out _)))
      go_wp2_with fail
      refine (rstart_any _).mono ?_
      rintro e w2 ⟨g2, c2, rfl, hc21, hc22, hs2, hb2, hg2⟩
      clear f0 f1 k0 k1 k2 j0 j1 j2
      have hT2 := (HTF.out nq).below hb2 (by rw [HZF.out]; omega)
      have HB2 := Lib.hid ((HBF.out nq).trans (hb2.mono (by rw [HZF.out]; omega)))
      have hgb : ∀ x, (some (⟨g2, 0, none⟩ : Addr)) = some x → x.block ≠ n ∧ x.block ≠ n + 1 := by
        intro x hx
        injection hx with hx
        subst hx
        rw [HZF.out] at hg2
        exact ⟨by show g2 ≠ n; omega, by show g2 ≠ n + 1; omega⟩
      have f0 := hT2.f0
      have f1 := hT2.f1
      have k0 := hT2.k0
      have k1 := hT2.k1
      have k2 := hT2.k2
      have j0 := hT2.j0
      have j1 := hT2.j1
      have j2 := hT2.j2
      have HT2 := Lib.hid hT2
      have HS2 := Lib.hid hs2
      have HC22 := Lib.hid hc22
      have HGB := Lib.hid hgb
      unfold maxLen at hc22
      clear hT2 hs2 hb2 hgb
      go_wp2_with fail
      refine code_ret (d := n + 1) _ _ _ _ _ _ ((((HT2.out.s0 _).s1 _)).out _ _ _) rfl rfl rfl rfl rfl ?_
      rw [← HAZ.out, HA.out]
      refine CodeW.good (s' := s0) (t := []) (below_out ((HB2.out.setCell (p := ⟨n, 0, none⟩) hN _).setCell (p := ⟨n, 1, none⟩) hN _) hN _ _ _) hok2 (by rw [← HC.out]; omega) (by rw [← HC.out, h6]; exact step_clear s) ?_ ?_ ?_
      · have h := row_out (n := n) (((HS2.out.set (fun x hx => (HGB.out x hx).1) 0 (.slice (some ⟨g2, 0, none⟩) 258 c2)).set (fun x hx => (HGB.out x hx).1) 1 (.string ⟨#[]⟩))) (fun x hx => (HGB.out x hx).2) (.slice (some ⟨g2, 0, none⟩) 258 c2) (.string ⟨#[]⟩) (.int .i64 (a' : Int))
        rw [HA.out, ← HAZ.out] at h
        have e : tabD s0 = startK 258 := by simp [tabD, s0]
        rw [e]
        exact h
      · simp [s0]; omega
      · exact HC22.out
    · have q6 : ((c : Int) == 256) = false := by simp; omega
      by_cases h7 : c = 257
      · have q7 : ((c : Int) == 257) = true := by simp; omega
        go_quiet (first | (go_at_call 38; exact quietly (HWI.out _)) | (go_at_call 37; exact quietly (HRD2.out _)))
        go_wp2_with fail
        refine code_ret (d := n + 1) _ _ _ _ _ _ ((HTF.out nq).out _ _ _) rfl rfl rfl rfl rfl ?_
        rw [← HAZ.out]
        have h := CodeW.end_ (w := w) (s := s) (old := old) (below_out (HBF.out nq) hN (.slice (some ⟨g, 0, none⟩) K cp) (.string (bs s.ahead)) (.int .i64 (a' : Int))) hok2 (by rw [← HC.out]; exact h7) (some ⟨g, 0, none⟩) K cp (bs s.ahead)
        rw [← HA.out] at h
        exact h
      · have q7 : ((c : Int) == 257) = false := by simp; omega
        by_cases hae : s.ahead = []
        · have hA : (bs s.ahead).toList.isEmpty = true := by rw [bs_toList, hae]; rfl
          have HAE := Lib.hid hae
          clear hae
          by_cases h255 : 255 < c
          · have d5 : decide (255 < (c : Int)) = true := by simp; omega
            have hst : step s c = none := step_none h6 (by unfold textOf; rw [if_pos HAE.out, if_neg (by omega)])
            have HST := Lib.hid hst
            clear hst
            go_quiet (first | (go_at_call 38; exact quietly (HWI.out _)) | (go_at_call 37; exact quietly (HRD2.out _)))
            go_wp2_with fail
            refine code_ret (d := n + 1) _ _ _ _ _ _ ((HTF.out nq).out _ _ _) rfl rfl rfl rfl rfl ?_
            exact CodeW.bad (below_out (HBF.out nq) hN _ _ _) hok2 (by rw [← HC.out]; exact h7) (by rw [← HC.out]; exact HST.out) _ _ _ _ _
          · have d5 : decide (255 < (c : Int)) = false := by simp; omega
            have hcl : c < K := by omega
            have hck : c < 258 + s.tab.length := by rw [← HK.out]; exact hcl
            obtain ⟨t, ht⟩ : ∃ t, t = [UInt8.ofNat c] := ⟨_, rfl⟩
            have hst : step s c = some (nxt s t, t) := by rw [ht]; exact step_text h6 (by unfold textOf; rw [if_pos HAE.out, if_pos (by omega)])
            have hcell : W.cell? ⟨g, c, none⟩ = some (.string (bs t)) := by
              obtain ⟨b, e, hb, hcs⟩ := HROW.out.below HBW.out
              injection e with e
              injection e with e
              subst e
              have h1 := hcs c (by rw [tabD_length]; exact hck)
              rw [h1]
              have h2 := tabD_look (s := s) h6 h7
              rw [List.getElem?_eq_getElem (by rw [tabD_length]; exact hck)] at h2
              unfold look at h2
              rw [if_pos (by omega)] at h2
              injection h2 with h2
              rw [← h2, ht]
            have hntab : (nxt s t).tab = s.tab := nxt_tab0 HAE.out
            have HSTEP := Lib.hid hst
            have HNT := Lib.hid hntab
            clear hst hntab ht
            go_quiet (first | (go_at_call 38; exact quietly (HWI.out _)) | (go_at_call 37; exact quietly (HRD2.out _)))
            go_wp2_with fail
            go_region
            all_goals
              go_wp2_with fail
              refine code_ret (d := n + 1) (.slice (some ⟨g, 0, none⟩) K cp) (.string (bs t)) (.int .i64 (a' : Int)) _ _ _ (by exact (blk_drawn (((HTF.out nq).s1 (.string (bs t))).out (.slice (some ⟨g, 0, none⟩) K cp) (.string (bs t)) (.int .i64 (a' : Int))) 1)) rfl rfl rfl rfl rfl ?_
              have hr := row_out (n := n) ((HROW.out.below (HBF.out nq)).set (fun x hx => by injection hx with hx; subst hx; show g ≠ n; omega) 1 (.string (bs t))) (fun x hx => by injection hx with hx; subst hx; show g ≠ n + 1; omega)
                (.slice (some ⟨g, 0, none⟩) K cp) (.string (bs t)) (.int .i64 (a' : Int))
              have htD : tabD s = tabD (nxt s t) := by unfold tabD; rw [HNT.out]
              rw [htD] at hr
              have hlen : 258 + (nxt s t).tab.length = K := by rw [HNT.out, HK.out]
              have hbo := below_out ((HBF.out nq).setCell (p := ⟨n, 1, none⟩) hN (.string (bs t))) hN (.slice (some ⟨g, 0, none⟩) K cp) (.string (bs t)) (.int .i64 (a' : Int))
              have hgood := CodeW.good (w := w) (old := old) (s' := nxt s t) (t := t) (hbo.trans ((show Drawn _ (World.drew _) from ⟨1, rfl⟩).below _)) hok2 (by rw [← HC.out]; exact h7) (by rw [← HC.out]; exact HSTEP.out) (hr.below ((show Drawn _ (World.drew _) from ⟨1, rfl⟩).below _)) (by rw [hlen]; exact hcp) HCM.out
              rw [hlen, ← HA.out, nxt_ahead] at hgood
              exact hgood
        · have hA : (bs s.ahead).toList.isEmpty = false := by
            rw [bs_toList]
            rcases hs : s.ahead with _ | ⟨x, r⟩
            · exact absurd hs hae
            · rfl
          rcases Nat.lt_trichotomy c K with hcl | hcl | hcl
          · have dc : decide ((c : Int) < (K : Int)) = true := by simp; omega
            have dc' : decide (c < K) = true := by simp; omega
            have hck : c < 258 + s.tab.length := by rw [← HK.out]; exact hcl
            obtain ⟨t, ht⟩ : ∃ t, t = (tabD s)[c]'(by rw [tabD_length]; exact hck) := ⟨_, rfl⟩
            have hlk : look s.tab c = some t := by rw [tabD_look h6 h7, List.getElem?_eq_getElem (by rw [tabD_length]; exact hck), ht]
            have htx : textOf s c = some t := by
              unfold textOf
              rw [if_neg hae, if_neg (fun e => by rw [← HK.out] at e; omega)]
              exact hlk
            obtain ⟨htn, htl⟩ := HG.out.text hB htx
            have hst : step s c = some (nxt s t, t) := step_text h6 htx
            have hcell : W.cell? ⟨g, c, none⟩ = some (.string (bs t)) := by
              obtain ⟨b, e, hb, hcs⟩ := HROW.out.below HBW.out
              injection e with e
              injection e with e
              subst e
              rw [ht]
              exact hcs c (by rw [tabD_length]; exact hck)
            have ht1 : 1 ≤ t.length := by
              rcases hs : t with _ | ⟨x, r⟩
              · exact absurd hs htn
              · simp
            have HSTEP := Lib.hid hst
            clear hst ht hlk htx htn hck
            go_quiet (first | (go_at_call 38; exact quietly (HWI.out _)) | (go_at_call 37; exact quietly (HRD2.out _)))
            have hVz : ((W.drewN nq).setCell ⟨n, 2, none⟩ (.int .i64 (a' : Int))).heap.size = W.heap.size := by simp [World.setCell]
            have hVT : Two ((W.drewN nq).setCell ⟨n, 2, none⟩ (.int .i64 (a' : Int))) n (.slice (some ⟨g, 0, none⟩) K cp) (.string (bs s.ahead)) (.int .i64 (a' : Int)) (.slice none 0 0) (.string ⟨#[]⟩) (.int .i64 0) := HTF.out nq
            have hVB : Below w.heap.size w ((W.drewN nq).setCell ⟨n, 2, none⟩ (.int .i64 (a' : Int))) := HBF.out nq
            have hVR : StrRow ((W.drewN nq).setCell ⟨n, 2, none⟩ (.int .i64 (a' : Int))) (some ⟨g, 0, none⟩) (tabD s) := HROW.out.below hVB
            have hzV : ((W.drewN nq).setCell ⟨n, 2, none⟩ (.int .i64 (a' : Int))).heap.size = n + 2 := HZF.out nq
            have hbx : (bs t).size = t.length := bs_size t
            have hax : (bs s.ahead).size = s.ahead.length := bs_size s.ahead
            have hx1 : (bs t).extract 0 1 = bs (t.take 1) := by rw [bs_extract]; simp
            have hx2 : bs s.ahead ++ bs (t.take 1) = bs (s.ahead ++ t.take 1) := bs_append _ _
            have hxs : (bs (t.take 1)).size = 1 := by rw [bs_size, List.length_take]; omega
            have hi1 : (1 : Int) ≤ (t.length : Int) := by omega
            have hahl2 := HG.out.ah
            have hnb : ¬ (9223372036854775807 < s.ahead.length + 1) := by omega
            have hi2 : (1 : Int) ≤ ((bs t).size : Int) := by rw [bs_size]; omega
            have hahl := HG.out.ah
            by_cases hk : K < 4096
            · have dk : decide ((K : Int) < 4096) = true := by simp; omega
              have hntab : (nxt s t).tab = s.tab ++ [s.ahead ++ t.take 1] := nxt_tab hae (by rw [← HK.out]; exact hk)
              have hown : World.ownsRow (((W.drewN nq).setCell ⟨n, 2, none⟩ (.int .i64 (a' : Int))).alloc (.cells #[] 9)) W.heap.size 9 1 (.slice (some ⟨W.heap.size, 0, none⟩) 0 0) 0 (strCells []) := by
                have h := World.ownsRow_made (base := ((W.drewN nq).setCell ⟨n, 2, none⟩ (.int .i64 (a' : Int))).heap.size) (e := 9) (size := 1) ((W.drewN nq).setCell ⟨n, 2, none⟩ (.int .i64 (a' : Int))) #[] 0 (Nat.le_refl _) (by simp [maxLen]) rfl
                rw [hVz] at h
                exact h
              have hbA : Below ((W.drewN nq).setCell ⟨n, 2, none⟩ (.int .i64 (a' : Int))).heap.size ((W.drewN nq).setCell ⟨n, 2, none⟩ (.int .i64 (a' : Int))) (((W.drewN nq).setCell ⟨n, 2, none⟩ (.int .i64 (a' : Int))).alloc (.cells #[] 9)) := (Below.refl _ _).alloc (Nat.le_refl _) _
              have hsA := hVR.below hbA
              have hTA := hVT.below hbA (by rw [hzV]; omega)
              have hBA := hVB.trans (hbA.mono (by rw [hzV]; omega))
              have hzA : W.heap.size ≤ (((W.drewN nq).setCell ⟨n, 2, none⟩ (.int .i64 (a' : Int))).alloc (.cells #[] 9)).heap.size := by rw [← hVz]; exact hbA.size
              have hSZn : W.heap.size = n + 2 := by rw [← hVz]; exact hzV
              have HTA := Lib.hid hTA
              have HBA := Lib.hid hBA
              have HZA := Lib.hid hzA
              have HSA := Lib.hid hsA
              have HOWN := Lib.hid hown
              have HNT := Lib.hid hntab
              have HSZN := Lib.hid hSZn
              have HLN : Hid ((tabD s).length = K) := Lib.hid (by rw [tabD_length, HK.out])
              clear hVz hVT hVB hVR hzV hown hbA hsA hTA hBA hzA hSZn hntab hz
              go_wp2_with (at_builtin; refine wpList_append_strs rfl _ _ rfl (W.heap.size) _ 0 [] rfl HOWN.out (some ⟨g, 0, none⟩) K cp (tabD s) rfl HSA.out HLN.out (by omega) HZA.out ?_)
              intro v3 w3 hown3 hb3
              try simp only [Nat.zero_add, List.nil_append] at hown3
              obtain ⟨g3, c3, rfl, hc31, hc32, hg3, hs3⟩ := own_strs hown3 (by omega)
              have hT3 := HTA.out.below hb3 (by rw [HSZN.out]; omega)
              have hB3 := HBA.out.trans (hb3.mono (by rw [HSZN.out]; omega))
              have hz3 := hb3.size
              obtain ⟨i0, hi, hz0, hz1, hz2⟩ := info_parts Try.infoStr
              obtain ⟨xx, hxx⟩ : ∃ xx, xx = s.ahead ++ t.take 1 := ⟨_, rfl⟩
              rw [← hxx] at hx2 HNT
              obtain ⟨wE, hwE⟩ : ∃ wE, wE = (w3.alloc (.cells #[.string (bs xx)] 9)).drew := ⟨_, rfl⟩
              have hbE : Below w3.heap.size w3 wE := by rw [hwE]; exact ((Below.refl _ w3).alloc (Nat.le_refl _) _).trans ((show Drawn _ (World.drew _) from ⟨1, rfl⟩).below _)
              have hsE : wE.heap.size = w3.heap.size + 1 := by rw [hwE]; exact Array.size_push _
              have hownE := own_below hown3 hbE
              have hsz3 : W.heap.size ≤ w3.heap.size := by have := HZA.out; omega
              have hnw : ∀ j u, (strCells [xx])[j]? = some u → wE.cell? ((⟨w3.heap.size, 0, none⟩ : Addr).add j) = some u := by
                intro j u hj
                obtain ⟨hj', rfl⟩ := strCells_get hj
                have : j = 0 := by simpa using hj'
                subst this
                rw [hwE, add_plain]
                exact cell_one w3 _ _
              have hTE := hT3.below hbE (by have := HSZN.out; omega)
              have hBE := hB3.trans (hbE.mono hB3.size)
              have FRZ := Lib.hid (show ∀ w4 g1 cap1, w4.ownsRow (W.heap.size) 9 1 (.slice (some ⟨g1, 0, none⟩) (K + 1) cap1) (K + 1) (strCells (tabD s) ++ strCells [xx]) → wE.grownBy w4 (Value.slice (some ⟨g3, 0, none⟩) K c3).ownBlock →
                  Two w4 n (.slice (some ⟨g, 0, none⟩) K cp) (.string (bs s.ahead)) (.int .i64 (a' : Int)) (.slice none 0 0) (.string ⟨#[]⟩) (.int .i64 0) ∧ Below w.heap.size w w4 ∧ StrRow w4 (some ⟨g1, 0, none⟩) (tabD (nxt s t)) ∧ K + 1 ≤ cap1 ∧ cap1 ≤ maxLen ∧ g1 ≠ n ∧ g1 ≠ n + 1 from by
                intro w4 g1 cap1 ho hg
                have hb4 := grown_below hownE hg (by omega)
                obtain ⟨g', c', e, h1, h2, h3, h4⟩ := own_strs (L := tabD s ++ [xx]) (by rw [strCells_append]; exact ho) (by omega)
                injection e with e1 e2 e3
                injection e1 with e1
                injection e1 with e1
                subst e1; subst e3
                have hnn := HSZN.out
                refine ⟨hTE.below hb4 (by omega), hBE.trans (hb4.mono (by omega)), ?_, h1, h2, by omega, by omega⟩
                unfold tabD
                rw [HNT.out, ← List.append_assoc]
                exact h4)
              have k0' := hT3.k0
              have k1' := hT3.k1
              have k2' := hT3.k2
              have f0' := hT3.f0
              have HOWNE := Lib.hid hownE
              have HNW := Lib.hid hnw
              have HWE := Lib.hid hwE
              have HSE := Lib.hid hsE
              have HXX := Lib.hid hxx
              have HC32 := Lib.hid hc32
              unfold maxLen at hc32
              clear f0 f1 k0 k1 k2 j0 j1 j2 hT3 hB3 hTE hBE hownE hnw hwE hsE hown3 hb3 hs3 hxx hbE HOWN HSA
              go_wp2_with fail
              go_region_law (rw [← HWE.out]; refine step_append_lies _ rfl _ _ 44 rfl (W.heap.size) 9 i0 (.string ByteArray.empty) 1 16 Try.underlying44 hi hz0 hz1 hz2 rfl (by decide) (.slice (some ⟨g3, 0, none⟩) K c3) K (strCells (tabD s)) (by simp [Act.eval, Act.put]) HOWNE.out ⟨w3.heap.size, 0, none⟩ 1 1 (strCells [xx]) (by simp [Act.eval, Act.put]) rfl HNW.out strCells_one (by omega) (by unfold maxLen; omega) (by omega) (by rw [HSE.out]; omega) (w3.heap.size + 1) HSE.out ?_; intro g1 cap1 w4 hown4 hgrow4 hat4 hlt4; have HF4 := Lib.hid (FRZ.out w4 g1 cap1 hown4 hgrow4); have f0 := HF4.out.1.f0; have f1 := HF4.out.1.f1; have k0 := HF4.out.1.k0; have k1 := HF4.out.1.k1; have k2 := HF4.out.1.k2; have j0 := HF4.out.1.j0; have j1 := HF4.out.1.j1; have j2 := HF4.out.1.j2)
              clear k0' k1' k2' f0'
              have hc4 := HF4.out.2.2.2.1
              go_wp2_with fail
              refine code_ret (d := n + 1) _ _ _ _ _ _ (((HF4.out.1.s0 _).s1 _).out _ _ _) rfl rfl rfl rfl rfl ?_
              have hr := row_out (n := n) ((HF4.out.2.2.1.set (fun x hx => by injection hx with hx; subst hx; exact HF4.out.2.2.2.2.2.1) 0 (.slice (some ⟨g1, 0, none⟩) (K + 1) cap1)).set (fun x hx => by injection hx with hx; subst hx; exact HF4.out.2.2.2.2.2.1) 1 (.string (bs t))) (fun x hx => by injection hx with hx; subst hx; exact HF4.out.2.2.2.2.2.2)
                (.slice (some ⟨g1, 0, none⟩) (K + 1) cap1) (.string (bs t)) (.int .i64 (a' : Int))
              have hlen : 258 + (nxt s t).tab.length = K + 1 := by rw [HNT.out, List.length_append, HK.out]; simp; omega
              have hgood := CodeW.good (w := w) (old := old) (s' := nxt s t) (t := t) (below_out ((HF4.out.2.1.setCell (p := ⟨n, 0, none⟩) hN (.slice (some ⟨g1, 0, none⟩) (K + 1) cap1)).setCell (p := ⟨n, 1, none⟩) hN (.string (bs t))) hN (.slice (some ⟨g1, 0, none⟩) (K + 1) cap1) (.string (bs t)) (.int .i64 (a' : Int))) hok2 (by rw [← HC.out]; exact h7) (by rw [← HC.out]; exact HSTEP.out) hr (by rw [hlen]; exact hc4) HF4.out.2.2.2.2.1
              rw [hlen, ← HA.out, nxt_ahead] at hgood
              exact hgood
            · have dk : decide ((K : Int) < 4096) = false := by simp; omega
              have hntab : (nxt s t).tab = s.tab := nxt_full (by rw [← HK.out]; exact hk)
              have HVT := Lib.hid hVT
              have HVB := Lib.hid hVB
              have HVR := Lib.hid hVR
              have HNT := Lib.hid hntab
              clear hVz hVT hVB hVR hzV hntab
              go_wp2_with fail
              refine code_ret (d := n + 1) _ _ _ _ _ _ ((HVT.out.s1 _).out _ _ _) rfl rfl rfl rfl rfl ?_
              have hr := row_out (n := n) (HVR.out.set (fun x hx => by injection hx with hx; subst hx; show g ≠ n; omega) 1 (.string (bs t))) (fun x hx => by injection hx with hx; subst hx; show g ≠ n + 1; omega)
                (.slice (some ⟨g, 0, none⟩) K cp) (.string (bs t)) (.int .i64 (a' : Int))
              have htD : tabD s = tabD (nxt s t) := by unfold tabD; rw [HNT.out]
              rw [htD] at hr
              have hlen : 258 + (nxt s t).tab.length = K := by rw [HNT.out, HK.out]
              have hgood := CodeW.good (w := w) (old := old) (s' := nxt s t) (t := t) (below_out (HVB.out.setCell (p := ⟨n, 1, none⟩) hN (.string (bs t))) hN (.slice (some ⟨g, 0, none⟩) K cp) (.string (bs t)) (.int .i64 (a' : Int))) hok2 (by rw [← HC.out]; exact h7) (by rw [← HC.out]; exact HSTEP.out) hr (by rw [hlen]; exact hcp) HCM.out
              rw [hlen, ← HA.out, nxt_ahead] at hgood
              exact hgood
          · have dc : decide ((c : Int) < (K : Int)) = false := by simp; omega
            have dc' : decide (c < K) = false := by simp; omega
            have dq : ((c : Int) == (K : Int)) = true := by simp; omega
            have dq' : (c == K) = true := by simp; omega
            have dk4 : decide ((K : Int) < 4096) = true := by simp; omega
            obtain ⟨t, ht⟩ : ∃ t, t = s.ahead ++ s.ahead.take 1 := ⟨_, rfl⟩
            have htx : textOf s c = some t := by
              unfold textOf
              rw [if_neg hae, if_pos ⟨by rw [← HK.out]; omega, hc4⟩, ht]
            obtain ⟨htn, htl⟩ := HG.out.text hB htx
            have hst : step s c = some (nxt s t, t) := step_text h6 htx
            have ht1 : 1 ≤ t.length := by
              rcases hs : t with _ | ⟨x, r⟩
              · exact absurd hs htn
              · simp
            have hal1 : 1 ≤ s.ahead.length := by
              rcases hs : s.ahead with _ | ⟨x, r⟩
              · exact absurd hs hae
              · simp
            have hahl := HG.out.ah
            have hax : (bs s.ahead).size = s.ahead.length := bs_size s.ahead
            have ha1 : (bs s.ahead).extract 0 1 = bs (s.ahead.take 1) := by rw [bs_extract]; simp
            have ha2 : bs s.ahead ++ bs (s.ahead.take 1) = bs t := by rw [ht]; exact bs_append _ _
            have ha3 : (bs (s.ahead.take 1)).size = 1 := by rw [bs_size, List.length_take]; omega
            have HSTEP := Lib.hid hst
            clear hst ht htx htn
            go_quiet (first | (go_at_call 38; exact quietly (HWI.out _)) | (go_at_call 37; exact quietly (HRD2.out _)))
            go_wp2_with fail
            obtain ⟨F, hF⟩ : ∃ F, F = (W.drewN nq).setCell ⟨n, 2, none⟩ (.int .i64 (a' : Int)) := ⟨_, rfl⟩
            rw [← hF]
            have HTF2 := Lib.hid (HTF.out nq)
            have HBF2 := Lib.hid (HBF.out nq)
            have HZF2 := Lib.hid (HZF.out nq)
            rw [← hF] at HTF2 HBF2 HZF2
            clear hF f0 f1 k0 k1 k2 j0 j1 j2 hz
            have f0 := HTF2.out.f0
            have f1 := HTF2.out.f1
            have k0 := HTF2.out.k0
            have k1 := HTF2.out.k1
            have k2 := HTF2.out.k2
            have j0 := HTF2.out.j0
            have j1 := HTF2.out.j1
            have j2 := HTF2.out.j2
            have hz : True := trivial
            go_quiet (fail)
            clear ha1 ha2 ha3 hax hahl
            have hVz : (F.drewN nq).heap.size = F.heap.size := by rfl
            have hVT : Two (F.drewN nq) n (.slice (some ⟨g, 0, none⟩) K cp) (.string (bs s.ahead)) (.int .i64 (a' : Int)) (.slice none 0 0) (.string ⟨#[]⟩) (.int .i64 0) := HTF2.out.drawn nq
            have hVB : Below w.heap.size w (F.drewN nq) := HBF2.out.trans ((show Drawn F (F.drewN nq) from ⟨nq, rfl⟩).below _)
            have hVR : StrRow (F.drewN nq) (some ⟨g, 0, none⟩) (tabD s) := HROW.out.below hVB
            have hzV : (F.drewN nq).heap.size = n + 2 := HZF2.out
            have hbx : (bs t).size = t.length := bs_size t
            have hax : (bs s.ahead).size = s.ahead.length := bs_size s.ahead
            have hx1 : (bs t).extract 0 1 = bs (t.take 1) := by rw [bs_extract]; simp
            have hx2 : bs s.ahead ++ bs (t.take 1) = bs (s.ahead ++ t.take 1) := bs_append _ _
            have hxs : (bs (t.take 1)).size = 1 := by rw [bs_size, List.length_take]; omega
            have hi1 : (1 : Int) ≤ (t.length : Int) := by omega
            have hahl2 := HG.out.ah
            have hnb : ¬ (9223372036854775807 < s.ahead.length + 1) := by omega
            have hi2 : (1 : Int) ≤ ((bs t).size : Int) := by rw [bs_size]; omega
            have hahl := HG.out.ah
            by_cases hk : K < 4096
            · have dk : decide ((K : Int) < 4096) = true := by simp; omega
              have hntab : (nxt s t).tab = s.tab ++ [s.ahead ++ t.take 1] := nxt_tab hae (by rw [← HK.out]; exact hk)
              have hown : World.ownsRow ((F.drewN nq).alloc (.cells #[] 9)) F.heap.size 9 1 (.slice (some ⟨F.heap.size, 0, none⟩) 0 0) 0 (strCells []) := by
                have h := World.ownsRow_made (base := (F.drewN nq).heap.size) (e := 9) (size := 1) (F.drewN nq) #[] 0 (Nat.le_refl _) (by simp [maxLen]) rfl
                rw [hVz] at h
                exact h
              have hbA : Below (F.drewN nq).heap.size (F.drewN nq) ((F.drewN nq).alloc (.cells #[] 9)) := (Below.refl _ _).alloc (Nat.le_refl _) _
              have hsA := hVR.below hbA
              have hTA := hVT.below hbA (by rw [hzV]; omega)
              have hBA := hVB.trans (hbA.mono (by rw [hzV]; omega))
              have hzA : F.heap.size ≤ ((F.drewN nq).alloc (.cells #[] 9)).heap.size := by rw [← hVz]; exact hbA.size
              have hSZn : F.heap.size = n + 2 := by rw [← hVz]; exact hzV
              have HTA := Lib.hid hTA
              have HBA := Lib.hid hBA
              have HZA := Lib.hid hzA
              have HSA := Lib.hid hsA
              have HOWN := Lib.hid hown
              have HNT := Lib.hid hntab
              have HSZN := Lib.hid hSZn
              have HLN : Hid ((tabD s).length = K) := Lib.hid (by rw [tabD_length, HK.out])
              clear hVz hVT hVB hVR hzV hown hbA hsA hTA hBA hzA hSZn hntab hz
              go_wp2_with (at_builtin; refine wpList_append_strs rfl _ _ rfl (F.heap.size) _ 0 [] rfl HOWN.out (some ⟨g, 0, none⟩) K cp (tabD s) rfl HSA.out HLN.out (by omega) HZA.out ?_)
              intro v3 w3 hown3 hb3
              try simp only [Nat.zero_add, List.nil_append] at hown3
              obtain ⟨g3, c3, rfl, hc31, hc32, hg3, hs3⟩ := own_strs hown3 (by omega)
              have hT3 := HTA.out.below hb3 (by rw [HSZN.out]; omega)
              have hB3 := HBA.out.trans (hb3.mono (by rw [HSZN.out]; omega))
              have hz3 := hb3.size
              obtain ⟨i0, hi, hz0, hz1, hz2⟩ := info_parts Try.infoStr
              obtain ⟨xx, hxx⟩ : ∃ xx, xx = s.ahead ++ t.take 1 := ⟨_, rfl⟩
              rw [← hxx] at hx2 HNT
              obtain ⟨wE, hwE⟩ : ∃ wE, wE = (w3.alloc (.cells #[.string (bs xx)] 9)).drew := ⟨_, rfl⟩
              have hbE : Below w3.heap.size w3 wE := by rw [hwE]; exact ((Below.refl _ w3).alloc (Nat.le_refl _) _).trans ((show Drawn _ (World.drew _) from ⟨1, rfl⟩).below _)
              have hsE : wE.heap.size = w3.heap.size + 1 := by rw [hwE]; exact Array.size_push _
              have hownE := own_below hown3 hbE
              have hsz3 : F.heap.size ≤ w3.heap.size := by have := HZA.out; omega
              have hnw : ∀ j u, (strCells [xx])[j]? = some u → wE.cell? ((⟨w3.heap.size, 0, none⟩ : Addr).add j) = some u := by
                intro j u hj
                obtain ⟨hj', rfl⟩ := strCells_get hj
                have : j = 0 := by simpa using hj'
                subst this
                rw [hwE, add_plain]
                exact cell_one w3 _ _
              have hTE := hT3.below hbE (by have := HSZN.out; omega)
              have hBE := hB3.trans (hbE.mono hB3.size)
              have FRZ := Lib.hid (show ∀ w4 g1 cap1, w4.ownsRow (F.heap.size) 9 1 (.slice (some ⟨g1, 0, none⟩) (K + 1) cap1) (K + 1) (strCells (tabD s) ++ strCells [xx]) → wE.grownBy w4 (Value.slice (some ⟨g3, 0, none⟩) K c3).ownBlock →
                  Two w4 n (.slice (some ⟨g, 0, none⟩) K cp) (.string (bs s.ahead)) (.int .i64 (a' : Int)) (.slice none 0 0) (.string ⟨#[]⟩) (.int .i64 0) ∧ Below w.heap.size w w4 ∧ StrRow w4 (some ⟨g1, 0, none⟩) (tabD (nxt s t)) ∧ K + 1 ≤ cap1 ∧ cap1 ≤ maxLen ∧ g1 ≠ n ∧ g1 ≠ n + 1 from by
                intro w4 g1 cap1 ho hg
                have hb4 := grown_below hownE hg (by omega)
                obtain ⟨g', c', e, h1, h2, h3, h4⟩ := own_strs (L := tabD s ++ [xx]) (by rw [strCells_append]; exact ho) (by omega)
                injection e with e1 e2 e3
                injection e1 with e1
                injection e1 with e1
                subst e1; subst e3
                have hnn := HSZN.out
                refine ⟨hTE.below hb4 (by omega), hBE.trans (hb4.mono (by omega)), ?_, h1, h2, by omega, by omega⟩
                unfold tabD
                rw [HNT.out, ← List.append_assoc]
                exact h4)
              have k0' := hT3.k0
              have k1' := hT3.k1
              have k2' := hT3.k2
              have f0' := hT3.f0
              have HOWNE := Lib.hid hownE
              have HNW := Lib.hid hnw
              have HWE := Lib.hid hwE
              have HSE := Lib.hid hsE
              have HXX := Lib.hid hxx
              have HC32 := Lib.hid hc32
              unfold maxLen at hc32
              clear f0 f1 k0 k1 k2 j0 j1 j2 hT3 hB3 hTE hBE hownE hnw hwE hsE hown3 hb3 hs3 hxx hbE HOWN HSA
              go_wp2_with fail
              go_region_law (rw [← HWE.out]; refine step_append_lies _ rfl _ _ 44 rfl (F.heap.size) 9 i0 (.string ByteArray.empty) 1 16 Try.underlying44 hi hz0 hz1 hz2 rfl (by decide) (.slice (some ⟨g3, 0, none⟩) K c3) K (strCells (tabD s)) (by simp [Act.eval, Act.put]) HOWNE.out ⟨w3.heap.size, 0, none⟩ 1 1 (strCells [xx]) (by simp [Act.eval, Act.put]) rfl HNW.out strCells_one (by omega) (by unfold maxLen; omega) (by omega) (by rw [HSE.out]; omega) (w3.heap.size + 1) HSE.out ?_; intro g1 cap1 w4 hown4 hgrow4 hat4 hlt4; have HF4 := Lib.hid (FRZ.out w4 g1 cap1 hown4 hgrow4); have f0 := HF4.out.1.f0; have f1 := HF4.out.1.f1; have k0 := HF4.out.1.k0; have k1 := HF4.out.1.k1; have k2 := HF4.out.1.k2; have j0 := HF4.out.1.j0; have j1 := HF4.out.1.j1; have j2 := HF4.out.1.j2)
              clear k0' k1' k2' f0'
              have hc4 := HF4.out.2.2.2.1
              go_wp2_with fail
              refine code_ret (d := n + 1) _ _ _ _ _ _ (((HF4.out.1.s0 _).s1 _).out _ _ _) rfl rfl rfl rfl rfl ?_
              have hr := row_out (n := n) ((HF4.out.2.2.1.set (fun x hx => by injection hx with hx; subst hx; exact HF4.out.2.2.2.2.2.1) 0 (.slice (some ⟨g1, 0, none⟩) (K + 1) cap1)).set (fun x hx => by injection hx with hx; subst hx; exact HF4.out.2.2.2.2.2.1) 1 (.string (bs t))) (fun x hx => by injection hx with hx; subst hx; exact HF4.out.2.2.2.2.2.2)
                (.slice (some ⟨g1, 0, none⟩) (K + 1) cap1) (.string (bs t)) (.int .i64 (a' : Int))
              have hlen : 258 + (nxt s t).tab.length = K + 1 := by rw [HNT.out, List.length_append, HK.out]; simp; omega
              have hgood := CodeW.good (w := w) (old := old) (s' := nxt s t) (t := t) (below_out ((HF4.out.2.1.setCell (p := ⟨n, 0, none⟩) hN (.slice (some ⟨g1, 0, none⟩) (K + 1) cap1)).setCell (p := ⟨n, 1, none⟩) hN (.string (bs t))) hN (.slice (some ⟨g1, 0, none⟩) (K + 1) cap1) (.string (bs t)) (.int .i64 (a' : Int))) hok2 (by rw [← HC.out]; exact h7) (by rw [← HC.out]; exact HSTEP.out) hr (by rw [hlen]; exact hc4) HF4.out.2.2.2.2.1
              rw [hlen, ← HA.out, nxt_ahead] at hgood
              exact hgood
            · exfalso; omega
          · have dc : decide ((c : Int) < (K : Int)) = false := by simp; omega
            have dc' : decide (c < K) = false := by simp; omega
            have dq : ((c : Int) == (K : Int)) = false := by simp; omega
            have dq' : (c == K) = false := by simp; omega
            have hst : step s c = none := step_none h6 (by
              unfold textOf
              rw [if_neg hae, if_neg (fun e => by rw [← HK.out] at e; omega)]
              unfold look
              rw [if_neg (by omega), if_neg (by omega), List.getElem?_eq_none (by rw [HK.out] at hcl; omega)])
            have HST := Lib.hid hst
            clear hst
            go_quiet (first | (go_at_call 38; exact quietly (HWI.out _)) | (go_at_call 37; exact quietly (HRD2.out _)))
            go_wp2_with fail
            refine code_ret (d := n + 1) _ _ _ _ _ _ ((HTF.out nq).out _ _ _) rfl rfl rfl rfl rfl ?_
            exact CodeW.bad (below_out (HBF.out nq) hN _ _ _) hok2 (by rw [← HC.out]; exact h7) (by rw [← HC.out]; exact HST.out) _ _ _ _ _
end Go.Proofs.Ytgdcjhngjdiaoaa.Lz

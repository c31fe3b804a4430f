
/- The chapter's example holds. -/
import Derived.Test.YtmbfgejephgojaaDoorMiG
import Derived.Test.YtmbfgejephgojaaDoorRnK
import Derived.Test.YtmbfgejephgojaaDoorFyK
import Derived.Test.YtmbfgejephgojaaDoorBitD
namespace Go.Proofs.YtmbfgejephgojaaDoor.Mh
open Go.RowKit Go.Proofs.YtmbfgejephgojaaDoor.Oct Go.Proofs.YtmbfgejephgojaaDoor.Bit
open Go.Proofs.YtmbfgejephgojaaDoor.Fx (Tab Cd Out OutW WrP CW codes_any TrueT)
open Go.Proofs.YtmbfgejephgojaaDoor.Rn (changes zl zl_length ints_new rsame_any)
open Go.Proofs.YtmbfgejephgojaaDoor.Lp (VRow ints ints_length)
set_option linter.unusedVariables false
set_option linter.unusedSimpArgs false
set_option maxRecDepth 100000

theorem ex_len : (rowC [2, 4, 7] 8).length = 13 := by kernel_rfl
theorem ex_pack : packB false (rowC [2, 4, 7] 8) = [126, 16] := by kernel_rfl
theorem ex_read : (readRowA (bitsOf false [126, 16]) 8 0 [] false).1 = 13 ∧ rowL (readRowA (bitsOf false [126, 16]) 8 0 [] false).2 = [2, 4, 7] ∧ rowE (readRowA (bitsOf false [126, 16]) 8 0 [] false).2 = 0 := by
  refine ⟨by kernel_rfl, by kernel_rfl, by kernel_rfl⟩
theorem ex_valid : Rn.Valid [2, 4, 7] 8 := by
  refine ⟨by simp, fun x hx => ?_⟩
  simp at hx
  omega
end Go.Proofs.YtmbfgejephgojaaDoor.Mh
/- Rows and widths that can't be, and what is nil; the walk of MhArgs. -/
namespace Go.Proofs.YtmbfgejephgojaaDoor.Mh
open Go.RowKit Go.Proofs.YtmbfgejephgojaaDoor.Oct Go.Proofs.YtmbfgejephgojaaDoor.Bit
open Go.Proofs.YtmbfgejephgojaaDoor.Fx (Tab Cd Out OutW WrP CW codes_any TrueT lenA lenA_eq rd_only)
open Go.Proofs.YtmbfgejephgojaaDoor.Rn (changes zl zl_length Valid rightB)
open Go.Proofs.YtmbfgejephgojaaDoor.Lp (VRow ints ints_length IsInts)
set_option linter.unusedVariables false
set_option linter.unusedSimpArgs false
set_option maxRecDepth 100000

def ArgP (w : World) (e : Ending) (w' : World) : Prop := e = .returned (.int .i64 1) ∧ w = w'
theorem writeAgainst_nw (w : World) (cv : Option Addr) (p p2 : Option Addr) (len cap len2 cap2 : Nat) (z : Int) : Calls Tryd.prog 19 #[.pointer none, .pointer cv, .slice p len cap, .slice p2 len2 cap2, .int .i64 z] w (ArgP w) := by
  go_enter Tryd.func19, Tryd.ntmps19
  go_wp2_with fail
  go_ret
  exact ⟨rfl, rfl⟩
theorem writeAgainst_nc (w : World) (gw : Addr) (p p2 : Option Addr) (len cap len2 cap2 : Nat) (z : Int) : Calls Tryd.prog 19 #[.pointer (some gw), .pointer none, .slice p len cap, .slice p2 len2 cap2, .int .i64 z] w (ArgP w) := by
  go_enter Tryd.func19, Tryd.ntmps19
  go_wp2_with fail
  go_ret
  exact ⟨rfl, rfl⟩
theorem writeAgainst_bad (w : World) (gw c : Addr) (p p2 : Option Addr) (len cap len2 cap2 : Nat) (zs ys : List Int) (z : Int) (C C2 : Nat) (h : VRow w C p (ints zs)) (hx : zs.length = len) (hl : len ≤ maxLen) (h2 : VRow w C2 p2 (ints ys)) (hy : ys.length = len2) (hl2 : len2 ≤ maxLen) (hb : (rowB zs z && rowB ys z) = false) :
    Calls Tryd.prog 19 #[.pointer (some gw), .pointer (some c), .slice p len cap, .slice p2 len2 cap2, .int .i64 z] w (ArgP w) := by
  have hok := mrow_any p len cap zs z w C h hx hl
  have hok2 := mrow_any p2 len2 cap2 ys z w C2 h2 hy hl2
  by_cases h1 : rowB zs z = true
  · rw [h1, Bool.true_and] at hb
    rw [h1] at hok
    rw [hb] at hok2
    have HOK := Lib.hid hok
    have HOK2 := Lib.hid hok2
    clear hok hok2 h hx hl h2 hy hl2 hb h1
    go_enter Tryd.func19, Tryd.ntmps19
    go_wp2_with fail
    refine HOK.out.mono ?_
    rintro e w' ⟨rfl, rfl⟩
    go_wp2_with fail
    refine HOK2.out.mono ?_
    rintro e w' ⟨rfl, rfl⟩
    go_wp2_with fail
    go_ret
    exact ⟨rfl, rfl⟩
  · have h1' : rowB zs z = false := by simpa using h1
    rw [h1'] at hok
    have HOK := Lib.hid hok
    clear hok hok2 h hx hl h2 hy hl2 hb h1 h1'
    go_enter Tryd.func19, Tryd.ntmps19
    go_wp2_with fail
    refine HOK.out.mono ?_
    rintro e w' ⟨rfl, rfl⟩
    go_wp2_with fail
    go_ret
    exact ⟨rfl, rfl⟩
def ArgR (w : World) (e : Ending) (w' : World) : Prop := e = .returned (.tuple #[.slice none 0 0, .int .i64 1]) ∧ w = w'
theorem readAgainst_bad (w : World) (rv : Option Addr) (c : Addr) (p2 : Option Addr) (len2 cap2 : Nat) (ys : List Int) (z : Int) (C2 : Nat) (h2 : VRow w C2 p2 (ints ys)) (hy : ys.length = len2) (hl2 : len2 ≤ maxLen) (hb : rowB ys z = false) : Calls Tryd.prog 47 #[.pointer rv, .pointer (some c), .slice p2 len2 cap2, .int .i64 z] w (ArgR w) := by
  have hok := mrow_any p2 len2 cap2 ys z w C2 h2 hy hl2
  rw [hb] at hok
  have HOK := Lib.hid hok
  clear hok hb h2 hy hl2
  go_enter Tryd.func47, Tryd.ntmps47
  go_wp2_with fail
  refine HOK.out.mono ?_
  rintro e w' ⟨rfl, rfl⟩
  go_wp2_with fail
  go_ret2
  exact ⟨rfl, rfl⟩
/-- a row is written, or it can't be one -/
def GenP (w : World) (gw : Nat) (v : Value) (l : List Bool) (K : Nat) (er : Int) (e : Ending) (w' : World) : Prop := e = .returned (.int .i64 er) ∧ ∃ m, m.length ≤ K ∧ WsT w gw v (l ++ m) false w'
theorem GenP.arg {w w' : World} {gw : Nat} {v : Value} {l : List Bool} {K : Nat} {e : Ending} (hW : Ws w gw v l false) (h : ArgP w e w') : GenP w gw v l K 1 e w' := by
  obtain ⟨rfl, rfl⟩ := h
  exact ⟨rfl, [], Nat.zero_le _, by rw [List.append_nil]; exact WrT.refl hW⟩
theorem rowC_len {c : List Nat} {n : Nat} (hv : Valid c n) (hn : n ≤ 32768) : (rowC c n).length ≤ 200 * (c.length + 1) := by
  obtain ⟨h1, h2⟩ := lens_le hv
  unfold rowC
  have key : ∀ (ns : List Nat) (b : Bool), (∀ x ∈ ns, x ≤ 32768) → (tellR b ns).length ≤ 200 * ns.length := by
    intro ns
    induction ns with
    | nil => intro b h; simp [tellR]
    | cons x ns ih =>
      intro b h
      rw [tellR, List.length_append, List.length_cons]
      have := tellF_len b x (h x (by simp))
      have := ih (!b) (fun y hy => h y (by simp [hy]))
      omega
  have := key (Rn.lensL 0 c n) false (fun x hx => Nat.le_trans (h1 x hx) hn)
  rw [h2] at this
  exact this
theorem writeAgainst_gen (w : World) (B C c gw : Nat) (v : Value) (l : List Bool) (p p2 : Option Addr) (len cap len2 cap2 : Nat) (zs ys : List Int) (z : Int) (hC : Cd w B C c) (hW : Ws w gw v l false) (hO : OutW B C gw v) (hr : VRow w w.heap.size p (ints zs)) (hx : zs.length = len) (hc : len ≤ cap) (hp : ∀ a, p = some a → 0 < len → ¬ Mine gw v a.block)
    (hr2 : VRow w w.heap.size p2 (ints ys)) (hy : ys.length = len2) (hc2 : len2 ≤ cap2) (hp2 : ∀ a, p2 = some a → 0 < len2 → ¬ Mine gw v a.block) (hll : len ≤ 1000) (hll2 : len2 ≤ 1000) (hl : l.length ≤ 800000) :
    Calls Tryd.prog 19 #[.pointer (some ⟨gw, 0, none⟩), .pointer (some ⟨c, 0, none⟩), .slice p len cap, .slice p2 len2 cap2, .int .i64 z] w (GenP w gw v l (407 * 2001) (if (rowB zs z && rowB ys z) then 0 else 1)) := by
  by_cases hb : (rowB zs z && rowB ys z) = true
  · rw [if_pos hb]
    rw [Bool.and_eq_true] at hb
    obtain ⟨d, n, rfl, rfl, h1, hn, hv⟩ := rowB_valid hb.1
    obtain ⟨d2, n2, rfl, hn2, h12, _, hv2⟩ := rowB_valid hb.2
    have : n2 = n := by omega
    subst this
    rw [zl_length] at hx hy
    have hal := against_len0 hv hv2 (T := 200) (fun b x hx => tellF_len b x (by omega))
    have := Nat.mul_le_mul_left (2 * 200 + 7) (show d.length + d2.length + 1 ≤ 2001 by omega)
    refine (writeAgainst_any w B C c gw v l false p len cap d p2 len2 cap2 d2 n2 hC hW hO hr hx (by omega) hc (by rw [hx]; exact hp) hv hr2 hy (by omega) hc2 (by rw [hy]; exact hp2) hv2 h1 hn (by omega)).mono ?_
    rintro e w' ⟨rfl, ht⟩
    exact ⟨rfl, _, by omega, ht⟩
  · rw [if_neg hb]
    exact (writeAgainst_bad w _ _ p p2 len cap len2 cap2 zs ys z _ _ hr hx (by unfold maxLen; omega) hr2 hy (by unfold maxLen; omega) (by simpa using hb)).mono fun e w' h => GenP.arg hW h
/-- reading of no bits -/
def NoneP (w : World) (gr : Nat) (er : Int) (e : Ending) (w' : World) : Prop := Only (· = gr) w w' ∧ ∃ q n c, e = .returned (.tuple #[.slice q n c, .int .i64 er])
theorem row_none (n : Nat) : rowE (readRowA [] n 0 [] false).2 = 2 := by
  rw [readRowA_eq [] n 0 [] false (Nat.le_refl _), lenA_eq false [] _ 0 0 (Nat.le_refl _)]
  rfl
theorem against_none (top : List Nat) (n : Nat) : rowE (readGA [] top n 0 0 [] false).2 = 2 := by
  rw [readGA_eq [] top n 0 0 [] false (Nat.le_refl _), if_neg (by omega)]
  rfl
theorem readAgainst_gen (w : World) (B C c gr : Nat) (p : Option Addr) (cap : Nat) (p2 : Option Addr) (len2 cap2 : Nat) (ys : List Int) (z : Int) (hC : Cd w B C c) (hO : Out B C gr) (hR : Rd w gr p cap [] 0 false) (hr2 : VRow w w.heap.size p2 (ints ys)) (hy : ys.length = len2) (hl2 : len2 ≤ 1000) (hc2 : len2 ≤ cap2) (hp2 : ∀ a, p2 = some a → 0 < len2 → a.block ≠ gr) :
    Calls Tryd.prog 47 #[.pointer (some ⟨gr, 0, none⟩), .pointer (some ⟨c, 0, none⟩), .slice p2 len2 cap2, .int .i64 z] w (NoneP w gr (if rowB ys z then 2 else 1)) := by
  by_cases hb : rowB ys z = true
  · rw [if_pos hb]
    obtain ⟨d, n, rfl, rfl, h1, hn, hv⟩ := rowB_valid hb
    rw [zl_length] at hy
    refine (readAgainst_any w B C c gr p cap [] 0 false p2 len2 cap2 d n hC hO hR hr2 hy (by omega) hc2 (by rw [hy]; exact hp2) hv h1 hn).mono ?_
    rintro e w' ⟨_, ho, q, c2, rfl, _⟩
    refine ⟨ho, q, (rowL (readGA (bitsOf false []) d n 0 0 [] false).2).length, c2, ?_⟩
    rw [show bitsOf false [] = [] from rfl, against_none]
  · rw [if_neg hb]
    refine (readAgainst_bad w _ _ p2 len2 cap2 ys z _ hr2 hy (by unfold maxLen; omega) (by simpa using hb)).mono ?_
    rintro e w' ⟨rfl, rfl⟩
    exact ⟨Only.refl _ _, none, 0, 0, rfl⟩
end Go.Proofs.YtmbfgejephgojaaDoor.Mh
/- Rows of rows in memory; the contracts of Encode and Decode. -/
namespace Go.Proofs.YtmbfgejephgojaaDoor.Mh
open Go.RowKit Go.Proofs.YtmbfgejephgojaaDoor.Oct Go.Proofs.YtmbfgejephgojaaDoor.Bit
open Go.Proofs.YtmbfgejephgojaaDoor.Fx (Tab Cd Out OutW WrP CW codes_any rd_only)
open Go.Proofs.YtmbfgejephgojaaDoor.Rn (changes zl zl_length Valid)
open Go.Proofs.YtmbfgejephgojaaDoor.Lp (VRow ints ints_length vrow_own)
open Go.Proofs.YtmbfgejephgojaaDoor.Hf (rdAt rdAt_of)
set_option linter.unusedVariables false
set_option linter.unusedSimpArgs false
set_option maxRecDepth 100000

/-- a row of rows of places, in blocks below C -/
def Tbl (w : World) (C : Nat) (q : Option Addr) (R : List (List Nat)) : Prop := ∃ vs : List Value, vs.length = R.length ∧ VRow w C q vs ∧ ∀ k (h : k < R.length), ∃ qk ck, vs[k]? = some (.slice qk R[k].length ck) ∧ VRow w C qk (ints (zl R[k])) ∧ R[k].length ≤ ck
theorem Tbl.below {w w' : World} {C : Nat} {q : Option Addr} {R : List (List Nat)} (h : Tbl w C q R) (hb : Below C w w') : Tbl w' C q R := by
  obtain ⟨vs, h1, h2, h3⟩ := h
  refine ⟨vs, h1, h2.below hb (Nat.le_refl _), fun k hk => ?_⟩
  obtain ⟨qk, ck, h4, h5, h6⟩ := h3 k hk
  exact ⟨qk, ck, h4, h5.below hb (Nat.le_refl _), h6⟩
theorem Tbl.mono {w : World} {C C2 : Nat} {q : Option Addr} {R : List (List Nat)} (h : Tbl w C q R) (hC : C ≤ C2) : Tbl w C2 q R := by
  obtain ⟨vs, h1, h2, h3⟩ := h
  refine ⟨vs, h1, h2.mono hC, fun k hk => ?_⟩
  obtain ⟨qk, ck, h4, h5, h6⟩ := h3 k hk
  exact ⟨qk, ck, h4, h5.mono hC, h6⟩
theorem Tbl.get {w : World} {C : Nat} {q : Option Addr} {R : List (List Nat)} (h : Tbl w C q R) {k : Nat} (hk : k < R.length) : ∃ b off, q = some ⟨b, off, none⟩ ∧ ∃ qk ck, w.cell? ⟨b, off + k, none⟩ = some (.slice qk R[k].length ck) ∧ VRow w C qk (ints (zl R[k])) ∧ R[k].length ≤ ck := by
  obtain ⟨vs, h1, h2, h3⟩ := h
  obtain ⟨b, off, e, hb, hc⟩ := h2 (by omega)
  obtain ⟨qk, ck, h4, h5, h6⟩ := h3 k hk
  refine ⟨b, off, e, qk, ck, ?_, h5, h6⟩
  have h7 := hc k (by omega)
  rw [List.getElem?_eq_getElem (by omega)] at h4
  injection h4 with h4
  rw [h7, h4]
theorem Tbl.nil (w : World) (C : Nat) (q : Option Addr) : Tbl w C q [] := ⟨[], rfl, fun h => absurd h (by simp), fun k h => absurd h (by simp)⟩
/-- rows of rows, an own row while it grows; all of it in blocks from base on, in none of N -/
def Rws (w : World) (base : Nat) (N : Nat → Prop) (v : Value) (R : List (List Nat)) : Prop := ∃ vs : List Value, w.ownsRow base 41 1 v R.length vs ∧ (∀ k, v.ownBlock = some k → ¬ N k) ∧ ∀ k (h : k < R.length), ∃ q c, vs[k]? = some (.slice q R[k].length c) ∧ VRow w w.heap.size q (ints (zl R[k])) ∧ R[k].length ≤ c ∧ ∀ a, q = some a → 0 < R[k].length → base ≤ a.block ∧ v.ownBlock ≠ some a.block ∧ ¬ N a.block
theorem Rws.nil (w : World) (base : Nat) (N : Nat → Prop) : Rws w base N (.slice none 0 0) [] := ⟨[], World.ownsRow_nil _ _ _ _, (fun _ h => (by cases h)), fun k h => absurd h (by simp)⟩
theorem Rws.only {S N : Nat → Prop} {w w' : World} {base : Nat} {v : Value} {R : List (List Nat)} (h : Rws w base N v R) (ho : Only S w w') (hS : ∀ k, base ≤ k → k < w.heap.size → ¬ N k → ¬ S k) : Rws w' base N v R := by
  obtain ⟨vs, h1, hN, h2⟩ := h
  refine ⟨vs, ⟨h1.1, ?_⟩, hN, fun k hk => ?_⟩
  · rcases h1.2 with hn | ⟨g, cap, cur, rfl, hb, hh, r⟩
    · exact .inl hn
    · refine .inr ⟨g, cap, cur, rfl, hb, ?_, r⟩
      have hlt : g < w.heap.size := by
        rcases Nat.lt_or_ge g w.heap.size with hlt | hge
        · exact hlt
        · rw [Array.getElem?_eq_none hge] at hh; cases hh
      rw [ho.2.2.2.2 g hlt (hS g hb hlt (hN g rfl))]
      exact hh
  · obtain ⟨q, c, h3, h4, h5, h6⟩ := h2 k hk
    refine ⟨q, c, h3, (fun h0 => ?_), h5, h6⟩
    obtain ⟨b, off, e, hb, hc⟩ := h4 h0
    refine ⟨b, off, e, Nat.lt_of_lt_of_le hb ho.2.2.2.1, fun i hi => ?_⟩
    rw [← hc i hi]
    have h7 := h6 _ e (by rwa [ints_length, zl_length] at h0)
    exact World.cell?_of_block (w := w) (ho.2.2.2.2 b hb (hS b h7.1 hb h7.2.2))
/-- other blocks are forbidden -/
theorem Rws.none {N N' : Nat → Prop} {w : World} {base : Nat} {v : Value} {R : List (List Nat)} (h : Rws w base N v R) (hN : ∀ k, k < w.heap.size → ¬ N k → ¬ N' k) : Rws w base N' v R := by
  obtain ⟨vs, h1, h0, h2⟩ := h
  refine ⟨vs, h1, fun k hk => hN k (h1.lt k hk).2 (h0 k hk), fun k hk => ?_⟩
  obtain ⟨q, c, h3, h4, h5, h6⟩ := h2 k hk
  refine ⟨q, c, h3, h4, h5, fun a ha hl => ?_⟩
  obtain ⟨h7, h8, h9⟩ := h6 a ha hl
  obtain ⟨b, off, e, hb, _⟩ := h4 (by rw [ints_length, zl_length]; exact hl)
  rw [ha] at e
  injection e with e
  exact ⟨h7, h8, hN _ (by rw [e]; exact hb) h9⟩
theorem Rws.tbl {w : World} {base : Nat} {N : Nat → Prop} {v : Value} {R : List (List Nat)} (h : Rws w base N v R) : ∃ q c, v = .slice q R.length c ∧ Tbl w w.heap.size q R ∧ R.length ≤ c ∧ c ≤ maxLen := by
  obtain ⟨vs, h1, _, h2⟩ := h
  have hl : vs.length = R.length := by have := h1.1; omega
  obtain ⟨q, c, h3, h4, h5, h6, h7, _⟩ := vrow_own h1 hl
  refine ⟨q, c, h3, ⟨vs, hl, h7, fun k hk => ?_⟩, h5, h6⟩
  obtain ⟨qk, ck, h8, h9, h10, _⟩ := h2 k hk
  exact ⟨qk, ck, h8, h9, h10⟩
theorem Tryd.infoIntsH : (Tryd.prog.info? 41).map (fun i => (i.zero, i.size, i.bytes)) = some (some (.slice none 0 0), 1, 24) := by kernel_rfl
/-- a row appended to rows -/
theorem wpList_append_rws {w w0 : World} {ops : Array Oper} {rest : List Oper} {o : Oper} {a : Act} {Q : Exit → Act → World → Prop}
    (hgd : o.guard = none) (s x : Operand) (ho : o.op = .call { callee := .builtin .append, args := #[s, x], argTypes := #[25, 25] })
    (base : Nat) (N : Nat → Prop) (v : Value) (R : List (List Nat)) (n : Nat) (hn : R.length = n) (hs : a.eval s = v) (h0 : Rws w0 base N v R) (d : List Nat) (q : Option Addr) (m c : Nat) (hm : d.length = m) (hr : VRow w0 w0.heap.size q (ints (zl d))) (hc : m ≤ c) (hf : ∀ ad, q = some ad → 0 < d.length → base ≤ ad.block ∧ v.ownBlock ≠ some ad.block ∧ ¬ N ad.block) (hNew : ∀ k, w0.heap.size ≤ k → ¬ N k)
    (hw : w = w0.alloc (.cells #[.slice q m c] 41)) (hx : a.eval x = .slice (some ⟨w0.heap.size, 0, none⟩) 1 1) (hl : n ≤ 1000) (hbase : base ≤ w0.heap.size)
    (h : ∀ v' w', Rws w' base N v' (R ++ [d]) → Below base w0 w' → (∀ k, v'.ownBlock = some k → v.ownBlock = some k ∨ w0.heap.size ≤ k) → Only (fun k => v.ownBlock = some k) w0 w' → wpList Tryd.prog ops Q rest (a.put o.dst v') w') :
    wpList Tryd.prog ops Q (o :: rest) a w := by
  obtain ⟨i0, hi, hz0, hz1, hz2⟩ := info_parts Tryd.infoIntsH
  subst hw
  subst hm
  subst hn
  have hb1 : Below w0.heap.size w0 (w0.alloc (.cells #[.slice q d.length c] 41)) := (Below.refl _ w0).alloc (Nat.le_refl _) _
  have hT := h0.only (Only.of_below hb1 : Only (fun _ => False) _ _) (fun _ _ _ _ e => e)
  obtain ⟨vs, h1, hN0, h2⟩ := hT
  have hr1 := (hr.below hb1 (Nat.le_refl _)).mono hb1.size
  have hlt : ∀ ad, q = some ad → 0 < d.length → ad.block < w0.heap.size := fun ad ha h0 => by
    obtain ⟨b, off, e, hb, _⟩ := hr (by rw [ints_length, zl_length]; exact h0)
    rw [ha] at e
    injection e with e
    rw [e]
    exact hb
  have hvl : vs.length = R.length := by have := h1.1; omega
  refine wpList_append_lies _ hgd s x 25 ho base 41 i0 (.slice none 0 0) 1 24 Tryd.underlying25 hi hz0 hz1 hz2 rfl (by decide) v R.length vs hs h1 ⟨w0.heap.size, 0, none⟩ 1 1 [.slice q d.length c] hx rfl ?_ (fun u hu => by simp at hu; subst hu; rfl) (by decide) (by unfold maxLen; omega) (by omega) (Nat.le_trans hbase hb1.size) _ rfl ?_
  · intro j u hj
    have hj0 : j = 0 := by
      have := (List.getElem?_eq_some_iff.1 hj).1
      simp at this
      omega
    subst hj0
    have hq : u = .slice q d.length c := by simpa using hj.symm
    subst hq
    rw [add_plain]
    simp
  · intro g' cap w' k1 k2 k3 k4
    have hon : Only (fun k => v.ownBlock = some k) (w0.alloc (.cells #[.slice q d.length c] 41)) w' := ⟨k2.os, k2.tape, k2.output, k2.size, fun k hk hs => k2.block k hk (fun e => hs e.symm)⟩
    have hold : ∀ k, (Value.slice (some ⟨g', 0, none⟩) (R.length + 1) cap).ownBlock = some k → v.ownBlock = some k ∨ w0.heap.size ≤ k := fun k e => by
      injection e with e
      simp only at e
      rcases k3 with h3 | h3
      · left; rw [h3, e]
      · right; have := hb1.size; omega
    refine h _ w' ⟨vs ++ [.slice q d.length c], by rw [List.length_append]; exact k1, fun k hk => ?_, fun k hk => ?_⟩ ((hb1.mono hbase).trans ((Below.refl _ _).grown k2 (Nat.le_trans hbase hb1.size) (fun k hk => (World.ownsRow.lt h1 k hk).1))) hold ((Only.of_below hb1 : Only (fun k => v.ownBlock = some k) _ _).trans hon)
    · rcases hold k hk with h3 | h3
      · exact hN0 k h3
      · exact hNew k h3
    have hkk := hk
    rw [List.length_append, List.length_singleton] at hk
    have far : ∀ {qq : Option Addr} {dd : List Nat}, VRow (w0.alloc (.cells #[.slice q d.length c] 41)) (w0.alloc (.cells #[.slice q d.length c] 41)).heap.size qq (ints (zl dd)) → (∀ ad, qq = some ad → 0 < dd.length → v.ownBlock ≠ some ad.block) → VRow w' w'.heap.size qq (ints (zl dd)) := fun {qq dd} hv hne =>
      (vrow_far hv hon (Nat.le_refl _) (fun ad ha h0 e => hne ad ha (by rwa [ints_length, zl_length] at h0) e)).mono k2.size
    have new : ∀ {ad : Addr}, v.ownBlock ≠ some ad.block → ad.block < (w0.alloc (.cells #[.slice q d.length c] 41)).heap.size → (Value.slice (some ⟨g', 0, none⟩) (R.length + 1) cap).ownBlock ≠ some ad.block := fun {ad} h1 h2 e => by
      injection e with e
      rcases k3 with h3 | h3
      · exact h1 (by rw [h3, ← e])
      · simp only at e; omega
    by_cases hkl : k < R.length
    · obtain ⟨qk, ck, h3, h4, h5, h6⟩ := h2 k hkl
      rw [List.getElem_append_left hkl, List.getElem?_append_left (by omega)]
      refine ⟨qk, ck, h3, far h4 (fun ad ha h0 => (h6 ad ha h0).2.1), h5, fun ad ha h0 => ⟨(h6 ad ha h0).1, new (h6 ad ha h0).2.1 ?_, (h6 ad ha h0).2.2⟩⟩
      obtain ⟨b, off, e, hb, _⟩ := h4 (by rw [ints_length, zl_length]; exact h0)
      rw [ha] at e
      injection e with e
      rw [e]
      exact hb
    · have hke : k = R.length := by omega
      subst hke
      rw [List.getElem_append_right (Nat.le_refl _), List.getElem?_append_right (by omega)]
      simp only [Nat.sub_self, List.getElem_cons_zero, hvl, List.getElem?_cons_zero]
      exact ⟨q, c, rfl, far hr1 (fun ad ha h0 => (hf ad ha h0).2.1), hc, fun ad ha h0 => ⟨(hf ad ha h0).1, new (hf ad ha h0).2.1 (by have := hlt ad ha h0; have := hb1.size; omega), (hf ad ha h0).2.2⟩⟩
end Go.Proofs.YtmbfgejephgojaaDoor.Mh
/- The contracts of Encode and Decode. -/
namespace Go.Proofs.YtmbfgejephgojaaDoor.Mh
open Go.RowKit Go.Proofs.YtmbfgejephgojaaDoor.Oct Go.Proofs.YtmbfgejephgojaaDoor.Bit
open Go.Proofs.YtmbfgejephgojaaDoor.Fx (Tab Cd Out OutW WrP CW codes_any rd_only)
open Go.Proofs.YtmbfgejephgojaaDoor.Rn (changes zl zl_length Valid)
open Go.Proofs.YtmbfgejephgojaaDoor.Lp (VRow ints ints_length vrow_own)
open Go.Proofs.YtmbfgejephgojaaDoor.Hf (rdAt rdAt_of)
set_option linter.unusedVariables false
set_option linter.unusedSimpArgs false
set_option maxRecDepth 100000

/-- rows, one behind the other, each from a whole byte on -/
def pageP : List Bool → List (List Bool) → List Bool
  | l, [] => l
  | l, r :: rs => pageP (padL l ++ r) rs
theorem padL_le (l : List Bool) : l.length ≤ (padL l).length := by
  unfold padL
  rw [List.length_append]
  omega
theorem pageP_le : ∀ (rs : List (List Bool)) (l : List Bool), l.length ≤ (pageP l rs).length
  | [], l => Nat.le_refl _
  | r :: rs, l => by
    rw [pageP]
    have h1 := pageP_le rs (padL l ++ r)
    rw [List.length_append] at h1
    have := padL_le l
    omega
def EncP (w : World) (T : List Bool) (e : Ending) (w' : World) : Prop := Below w.heap.size w w' ∧ ∃ q c, e = .returned (.tuple #[.slice q (packB false T).length c, .int .i64 0]) ∧ Row w' q (packB false T) ∧ (q = none → c = 0) ∧ (packB false T).length ≤ c
/-- so many rows, each from a whole byte on -/
def decB (L : List Bool) (wd : Nat) : Nat → Nat → List (List Bool) → Except Nat (List (List Bool))
  | 0, _, acc => .ok acc
  | j + 1, t, acc => match (readRowA L wd (8 * ((t + 7) / 8)) [] false).2 with
    | .error e => .error e
    | .ok X => decB L wd j (readRowA L wd (8 * ((t + 7) / 8)) [] false).1 (acc ++ [X])
def DecP (w : World) (r : Except Nat (List (List Bool))) (e : Ending) (w' : World) : Prop := Below w.heap.size w w' ∧ match r with
  | .error ce => e = .returned (.tuple #[.slice none 0 0, .int .i64 (ce : Int)])
  | .ok Xs => ∃ q c, e = .returned (.tuple #[.slice q Xs.length c, .int .i64 0]) ∧ Tbl w' w'.heap.size q (Xs.map changes)
theorem lenA_ne0 {L : List Bool} {wd : Nat} {e : Nat} : ∀ (f t : Nat) (P : List Bool) (b : Bool), L.length + 1 ≤ f + t → t ≤ L.length → (readRowA L wd t P b).2 = .error e → ((e : Int) != 0) = true
  | 0, t, P, b, hf, ht, h => by omega
  | f + 1, t, P, b, hf, ht, h => by
    rw [readRowA_eq L wd t P b ht] at h
    have h1 := lenA_lt b (L := L) (most := wd - P.length) (n := 0) ht
    rcases hy : Fx.lenA b L (wd - P.length) t 0 with ⟨t1, c | m⟩
    · rw [hy] at h
      simp only at h
      injection h with h
      subst h
      exact lenA_ne ht (by rw [hy])
    · rw [hy] at h h1
      simp only at h h1
      split at h
      · cases h
      · exact lenA_ne0 f t1 _ _ (by have := (h1.2.2 m rfl).1; omega) h1.1 h
end Go.Proofs.YtmbfgejephgojaaDoor.Mh

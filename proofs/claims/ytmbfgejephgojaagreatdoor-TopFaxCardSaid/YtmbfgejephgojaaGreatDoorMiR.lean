
/- The chapter's example holds. -/
import Derived.Test.YtmbfgejephgojaaGreatDoorMiG
import Derived.Test.YtmbfgejephgojaaGreatDoorRnK
import Derived.Test.YtmbfgejephgojaaGreatDoorFyK
import Derived.Test.YtmbfgejephgojaaGreatDoorBitD
namespace Go.Proofs.YtmbfgejephgojaaGreatDoor.Mh
open Go.RowKit Go.Proofs.YtmbfgejephgojaaGreatDoor.Oct Go.Proofs.YtmbfgejephgojaaGreatDoor.Bit
open Go.Proofs.YtmbfgejephgojaaGreatDoor.Fx (Tab Cd Out OutW WrP CW codes_any TrueT)
open Go.Proofs.YtmbfgejephgojaaGreatDoor.Rn (changes zl zl_length ints_new)
open Go.Proofs.YtmbfgejephgojaaGreatDoor.Lp (VRow ints ints_length)
set_option linter.unusedVariables false
set_option linter.unusedSimpArgs false
set_option maxRecDepth 100000

theorem ex_len : (rowC [2, 4, 7] 8).length = 13 := by kernel_rfl
theorem ex_pack : packB false (rowC [2, 4, 7] 8) = [126, 16] := by kernel_rfl
theorem ex_read : (readRowA (bitsOf false [126, 16]) 8 0 [] false).1 = 13 ∧ rowL (readRowA (bitsOf false [126, 16]) 8 0 [] false).2 = [2, 4, 7] ∧ rowE (readRowA (bitsOf false [126, 16]) 8 0 [] false).2 = 0 := by
  refine ⟨by kernel_rfl, by kernel_rfl, by kernel_rfl⟩
theorem ex_valid : Rn.Valid [2, 4, 7] 8 := by
  refine ⟨by simp, fun x hx => ?_⟩
  simp at hx
  omega
end Go.Proofs.YtmbfgejephgojaaGreatDoor.Mh
/- Rows and widths that can't be, and what is nil; the walk of MhArgs. -/
namespace Go.Proofs.YtmbfgejephgojaaGreatDoor.Mh
open Go.RowKit Go.Proofs.YtmbfgejephgojaaGreatDoor.Oct Go.Proofs.YtmbfgejephgojaaGreatDoor.Bit
open Go.Proofs.YtmbfgejephgojaaGreatDoor.Fx (Tab Cd Out OutW WrP CW codes_any TrueT lenA lenA_eq rd_only)
open Go.Proofs.YtmbfgejephgojaaGreatDoor.Rn (changes zl zl_length Valid rightB)
open Go.Proofs.YtmbfgejephgojaaGreatDoor.Lp (VRow ints ints_length IsInts)
set_option linter.unusedVariables false
set_option linter.unusedSimpArgs false
set_option maxRecDepth 100000

def ArgP (w : World) (e : Ending) (w' : World) : Prop := e = .returned (.int .i64 1) ∧ w = w'
theorem writeRow_nw (w : World) (cv : Option Addr) (p : Option Addr) (len cap : Nat) (z : Int) : Calls Tryz.prog 18 #[.pointer none, .pointer cv, .slice p len cap, .int .i64 z] w (ArgP w) := by
  go_enter Tryz.func18, Tryz.ntmps18
  go_wp2_with fail
  go_ret
  exact ⟨rfl, rfl⟩
theorem writeRow_nc (w : World) (gw : Addr) (p : Option Addr) (len cap : Nat) (z : Int) : Calls Tryz.prog 18 #[.pointer (some gw), .pointer none, .slice p len cap, .int .i64 z] w (ArgP w) := by
  go_enter Tryz.func18, Tryz.ntmps18
  go_wp2_with fail
  go_ret
  exact ⟨rfl, rfl⟩
theorem writeRow_bad (w : World) (gw c : Addr) (p : Option Addr) (len cap : Nat) (zs : List Int) (z : Int) (C : Nat) (h : VRow w C p (ints zs)) (hx : zs.length = len) (hl : len ≤ maxLen) (hb : rowB zs z = false) : Calls Tryz.prog 18 #[.pointer (some gw), .pointer (some c), .slice p len cap, .int .i64 z] w (ArgP w) := by
  have hok := mrow_any p len cap zs z w C h hx hl
  rw [hb] at hok
  have HOK := Lib.hid hok
  clear hok h hx hl hb
  go_enter Tryz.func18, Tryz.ntmps18
  go_wp2_with fail
  refine HOK.out.mono ?_
  rintro e w' ⟨rfl, rfl⟩
  go_wp2_with fail
  go_ret
  exact ⟨rfl, rfl⟩
theorem writeAgainst_nw (w : World) (cv : Option Addr) (p p2 : Option Addr) (len cap len2 cap2 : Nat) (z : Int) : Calls Tryz.prog 24 #[.pointer none, .pointer cv, .slice p len cap, .slice p2 len2 cap2, .int .i64 z] w (ArgP w) := by
  go_enter Tryz.func24, Tryz.ntmps24
  go_wp2_with fail
  go_ret
  exact ⟨rfl, rfl⟩
theorem writeAgainst_nc (w : World) (gw : Addr) (p p2 : Option Addr) (len cap len2 cap2 : Nat) (z : Int) : Calls Tryz.prog 24 #[.pointer (some gw), .pointer none, .slice p len cap, .slice p2 len2 cap2, .int .i64 z] w (ArgP w) := by
  go_enter Tryz.func24, Tryz.ntmps24
  go_wp2_with fail
  go_ret
  exact ⟨rfl, rfl⟩
theorem writeAgainst_bad (w : World) (gw c : Addr) (p p2 : Option Addr) (len cap len2 cap2 : Nat) (zs ys : List Int) (z : Int) (C C2 : Nat) (h : VRow w C p (ints zs)) (hx : zs.length = len) (hl : len ≤ maxLen) (h2 : VRow w C2 p2 (ints ys)) (hy : ys.length = len2) (hl2 : len2 ≤ maxLen) (hb : (rowB zs z && rowB ys z) = false) :
    Calls Tryz.prog 24 #[.pointer (some gw), .pointer (some c), .slice p len cap, .slice p2 len2 cap2, .int .i64 z] w (ArgP w) := by
  have hok := mrow_any p len cap zs z w C h hx hl
  have hok2 := mrow_any p2 len2 cap2 ys z w C2 h2 hy hl2
  by_cases h1 : rowB zs z = true
  · rw [h1, Bool.true_and] at hb
    rw [h1] at hok
    rw [hb] at hok2
    have HOK := Lib.hid hok
    have HOK2 := Lib.hid hok2
    clear hok hok2 h hx hl h2 hy hl2 hb h1
    go_enter Tryz.func24, Tryz.ntmps24
    go_wp2_with fail
    refine HOK.out.mono ?_
    rintro e w' ⟨rfl, rfl⟩
    go_wp2_with fail
    refine HOK2.out.mono ?_
    rintro e w' ⟨rfl, rfl⟩
    go_wp2_with fail
    go_ret
    exact ⟨rfl, rfl⟩
  · have h1' : rowB zs z = false := by simpa using h1
    rw [h1'] at hok
    have HOK := Lib.hid hok
    clear hok hok2 h hx hl h2 hy hl2 hb h1 h1'
    go_enter Tryz.func24, Tryz.ntmps24
    go_wp2_with fail
    refine HOK.out.mono ?_
    rintro e w' ⟨rfl, rfl⟩
    go_wp2_with fail
    go_ret
    exact ⟨rfl, rfl⟩
def ArgR (w : World) (e : Ending) (w' : World) : Prop := e = .returned (.tuple #[.slice none 0 0, .int .i64 1]) ∧ w = w'
theorem readRow_bad (w : World) (rv : Option Addr) (c : Addr) (z : Int) (hb : wideM z = false) : Calls Tryz.prog 28 #[.pointer rv, .pointer (some c), .int .i64 z] w (ArgR w) := by
  have hok := mwidth_any z w
  rw [hb] at hok
  have HOK := Lib.hid hok
  clear hok hb
  go_enter Tryz.func28, Tryz.ntmps28
  go_wp2_with fail
  refine HOK.out.mono ?_
  rintro e w' ⟨rfl, rfl⟩
  go_wp2_with fail
  go_ret2
  exact ⟨rfl, rfl⟩
theorem readAgainst_bad (w : World) (rv : Option Addr) (c : Addr) (p2 : Option Addr) (len2 cap2 : Nat) (ys : List Int) (z : Int) (C2 : Nat) (h2 : VRow w C2 p2 (ints ys)) (hy : ys.length = len2) (hl2 : len2 ≤ maxLen) (hb : rowB ys z = false) : Calls Tryz.prog 52 #[.pointer rv, .pointer (some c), .slice p2 len2 cap2, .int .i64 z] w (ArgR w) := by
  have hok := mrow_any p2 len2 cap2 ys z w C2 h2 hy hl2
  rw [hb] at hok
  have HOK := Lib.hid hok
  clear hok hb h2 hy hl2
  go_enter Tryz.func52, Tryz.ntmps52
  go_wp2_with fail
  refine HOK.out.mono ?_
  rintro e w' ⟨rfl, rfl⟩
  go_wp2_with fail
  go_ret2
  exact ⟨rfl, rfl⟩
/-- a row is written, or it can't be one -/
def GenP (w : World) (gw : Nat) (v : Value) (l : List Bool) (K : Nat) (er : Int) (e : Ending) (w' : World) : Prop := e = .returned (.int .i64 er) ∧ ∃ m, m.length ≤ K ∧ WsT w gw v (l ++ m) false w'
theorem GenP.arg {w w' : World} {gw : Nat} {v : Value} {l : List Bool} {K : Nat} {e : Ending} (hW : Ws w gw v l false) (h : ArgP w e w') : GenP w gw v l K 1 e w' := by
  obtain ⟨rfl, rfl⟩ := h
  exact ⟨rfl, [], Nat.zero_le _, by rw [List.append_nil]; exact WrT.refl hW⟩
theorem rowC_len {c : List Nat} {n : Nat} (hv : Valid c n) (hn : n ≤ 32768) : (rowC c n).length ≤ 200 * (c.length + 1) := by
  obtain ⟨h1, h2⟩ := lens_le hv
  unfold rowC
  have key : ∀ (ns : List Nat) (b : Bool), (∀ x ∈ ns, x ≤ 32768) → (tellR b ns).length ≤ 200 * ns.length := by
    intro ns
    induction ns with
    | nil => intro b h; simp [tellR]
    | cons x ns ih =>
      intro b h
      rw [tellR, List.length_append, List.length_cons]
      have := tellF_len b x (h x (by simp))
      have := ih (!b) (fun y hy => h y (by simp [hy]))
      omega
  have := key (Rn.lensL 0 c n) false (fun x hx => Nat.le_trans (h1 x hx) hn)
  rw [h2] at this
  exact this
theorem writeRow_gen (w : World) (B C c gw : Nat) (v : Value) (l : List Bool) (p : Option Addr) (len cap : Nat) (zs : List Int) (z : Int) (hC : Cd w B C c) (hW : Ws w gw v l false) (hO : OutW B C gw v) (hr : VRow w w.heap.size p (ints zs)) (hx : zs.length = len) (hl : l.length + 200 * (len + 1) ≤ 1800000) :
    Calls Tryz.prog 18 #[.pointer (some ⟨gw, 0, none⟩), .pointer (some ⟨c, 0, none⟩), .slice p len cap, .int .i64 z] w (GenP w gw v l (200 * (len + 1)) (if rowB zs z then 0 else 1)) := by
  by_cases hb : rowB zs z = true
  · rw [if_pos hb]
    obtain ⟨d, n, rfl, rfl, h1, hn, hv⟩ := rowB_valid hb
    rw [zl_length] at hx
    refine (writeRow_any w B C c gw v l false p len cap d n hC hW hO hr hx hv h1 hn hl).mono ?_
    rintro e w' ⟨rfl, ht⟩
    exact ⟨rfl, _, by rw [← hx]; exact rowC_len hv hn, ht⟩
  · rw [if_neg hb]
    exact (writeRow_bad w _ _ p len cap zs z _ hr hx (by unfold maxLen; omega) (by simpa using hb)).mono fun e w' h => GenP.arg hW h
theorem writeAgainst_gen (w : World) (B C c gw : Nat) (v : Value) (l : List Bool) (p p2 : Option Addr) (len cap len2 cap2 : Nat) (zs ys : List Int) (z : Int) (hC : Cd w B C c) (hW : Ws w gw v l false) (hO : OutW B C gw v) (hr : VRow w w.heap.size p (ints zs)) (hx : zs.length = len) (hc : len ≤ cap) (hp : ∀ a, p = some a → 0 < len → ¬ Mine gw v a.block)
    (hr2 : VRow w w.heap.size p2 (ints ys)) (hy : ys.length = len2) (hc2 : len2 ≤ cap2) (hp2 : ∀ a, p2 = some a → 0 < len2 → ¬ Mine gw v a.block) (hll : len ≤ 1000) (hll2 : len2 ≤ 1000) (hl : l.length ≤ 800000) :
    Calls Tryz.prog 24 #[.pointer (some ⟨gw, 0, none⟩), .pointer (some ⟨c, 0, none⟩), .slice p len cap, .slice p2 len2 cap2, .int .i64 z] w (GenP w gw v l (407 * 2001) (if (rowB zs z && rowB ys z) then 0 else 1)) := by
  by_cases hb : (rowB zs z && rowB ys z) = true
  · rw [if_pos hb]
    rw [Bool.and_eq_true] at hb
    obtain ⟨d, n, rfl, rfl, h1, hn, hv⟩ := rowB_valid hb.1
    obtain ⟨d2, n2, rfl, hn2, h12, _, hv2⟩ := rowB_valid hb.2
    have : n2 = n := by omega
    subst this
    rw [zl_length] at hx hy
    have hal := against_len0 hv hv2 (T := 200) (fun b x hx => tellF_len b x (by omega))
    have := Nat.mul_le_mul_left (2 * 200 + 7) (show d.length + d2.length + 1 ≤ 2001 by omega)
    refine (writeAgainst_any w B C c gw v l false p len cap d p2 len2 cap2 d2 n2 hC hW hO hr hx (by omega) hc (by rw [hx]; exact hp) hv hr2 hy (by omega) hc2 (by rw [hy]; exact hp2) hv2 h1 hn (by omega)).mono ?_
    rintro e w' ⟨rfl, ht⟩
    exact ⟨rfl, _, by omega, ht⟩
  · rw [if_neg hb]
    exact (writeAgainst_bad w _ _ p p2 len cap len2 cap2 zs ys z _ _ hr hx (by unfold maxLen; omega) hr2 hy (by unfold maxLen; omega) (by simpa using hb)).mono fun e w' h => GenP.arg hW h
/-- reading of no bits -/
def NoneP (w : World) (gr : Nat) (er : Int) (e : Ending) (w' : World) : Prop := Only (· = gr) w w' ∧ ∃ q n c, e = .returned (.tuple #[.slice q n c, .int .i64 er])
theorem row_none (n : Nat) : rowE (readRowA [] n 0 [] false).2 = 2 := by
  rw [readRowA_eq [] n 0 [] false (Nat.le_refl _), lenA_eq false [] _ 0 0 (Nat.le_refl _)]
  rfl
theorem against_none (top : List Nat) (n : Nat) : rowE (readGA [] top n 0 0 [] false).2 = 2 := by
  rw [readGA_eq [] top n 0 0 [] false (Nat.le_refl _), if_neg (by omega)]
  rfl
theorem readRow_gen (w : World) (B C c gr : Nat) (p : Option Addr) (cap : Nat) (z : Int) (hC : Cd w B C c) (hO : Out B C gr) (hR : Rd w gr p cap [] 0 false) :
    Calls Tryz.prog 28 #[.pointer (some ⟨gr, 0, none⟩), .pointer (some ⟨c, 0, none⟩), .int .i64 z] w (NoneP w gr (if wideM z then 2 else 1)) := by
  by_cases hb : wideM z = true
  · rw [if_pos hb]
    have h0 := of_decide_eq_true hb
    obtain ⟨n, rfl⟩ : ∃ n : Nat, z = (n : Int) := ⟨z.toNat, by omega⟩
    refine (readRow_any w B C c gr p cap [] 0 false n hC hO hR (by omega) (by omega)).mono ?_
    rintro e w' ⟨_, ho, q, c2, rfl, _⟩
    refine ⟨ho, q, (rowL (readRowA (bitsOf false []) n 0 [] false).2).length, c2, ?_⟩
    rw [show bitsOf false [] = [] from rfl, row_none]
  · rw [if_neg hb]
    refine (readRow_bad w _ _ z (by simpa using hb)).mono ?_
    rintro e w' ⟨rfl, rfl⟩
    exact ⟨Only.refl _ _, none, 0, 0, rfl⟩
theorem readAgainst_gen (w : World) (B C c gr : Nat) (p : Option Addr) (cap : Nat) (p2 : Option Addr) (len2 cap2 : Nat) (ys : List Int) (z : Int) (hC : Cd w B C c) (hO : Out B C gr) (hR : Rd w gr p cap [] 0 false) (hr2 : VRow w w.heap.size p2 (ints ys)) (hy : ys.length = len2) (hl2 : len2 ≤ 1000) (hc2 : len2 ≤ cap2) (hp2 : ∀ a, p2 = some a → 0 < len2 → a.block ≠ gr) :
    Calls Tryz.prog 52 #[.pointer (some ⟨gr, 0, none⟩), .pointer (some ⟨c, 0, none⟩), .slice p2 len2 cap2, .int .i64 z] w (NoneP w gr (if rowB ys z then 2 else 1)) := by
  by_cases hb : rowB ys z = true
  · rw [if_pos hb]
    obtain ⟨d, n, rfl, rfl, h1, hn, hv⟩ := rowB_valid hb
    rw [zl_length] at hy
    refine (readAgainst_any w B C c gr p cap [] 0 false p2 len2 cap2 d n hC hO hR hr2 hy (by omega) hc2 (by rw [hy]; exact hp2) hv h1 hn).mono ?_
    rintro e w' ⟨_, ho, q, c2, rfl, _⟩
    refine ⟨ho, q, (rowL (readGA (bitsOf false []) d n 0 0 [] false).2).length, c2, ?_⟩
    rw [show bitsOf false [] = [] from rfl, against_none]
  · rw [if_neg hb]
    refine (readAgainst_bad w _ _ p2 len2 cap2 ys z _ hr2 hy (by unfold maxLen; omega) (by simpa using hb)).mono ?_
    rintro e w' ⟨rfl, rfl⟩
    exact ⟨Only.refl _ _, none, 0, 0, rfl⟩
end Go.Proofs.YtmbfgejephgojaaGreatDoor.Mh
/- Rows of rows in memory; the contracts of Encode and Decode. -/
namespace Go.Proofs.YtmbfgejephgojaaGreatDoor.Mh
open Go.RowKit Go.Proofs.YtmbfgejephgojaaGreatDoor.Oct Go.Proofs.YtmbfgejephgojaaGreatDoor.Bit
open Go.Proofs.YtmbfgejephgojaaGreatDoor.Fx (Tab Cd Out OutW WrP CW codes_any rd_only)
open Go.Proofs.YtmbfgejephgojaaGreatDoor.Rn (changes zl zl_length Valid)
open Go.Proofs.YtmbfgejephgojaaGreatDoor.Lp (VRow ints ints_length vrow_own)
open Go.Proofs.YtmbfgejephgojaaGreatDoor.Hf (rdAt rdAt_of)
set_option linter.unusedVariables false
set_option linter.unusedSimpArgs false
set_option maxRecDepth 100000

/-- a row of rows of places, in blocks below C -/
def Tbl (w : World) (C : Nat) (q : Option Addr) (R : List (List Nat)) : Prop := ∃ vs : List Value, vs.length = R.length ∧ VRow w C q vs ∧ ∀ k (h : k < R.length), ∃ qk ck, vs[k]? = some (.slice qk R[k].length ck) ∧ VRow w C qk (ints (zl R[k])) ∧ R[k].length ≤ ck
theorem Tbl.below {w w' : World} {C : Nat} {q : Option Addr} {R : List (List Nat)} (h : Tbl w C q R) (hb : Below C w w') : Tbl w' C q R := by
  obtain ⟨vs, h1, h2, h3⟩ := h
  refine ⟨vs, h1, h2.below hb (Nat.le_refl _), fun k hk => ?_⟩
  obtain ⟨qk, ck, h4, h5, h6⟩ := h3 k hk
  exact ⟨qk, ck, h4, h5.below hb (Nat.le_refl _), h6⟩
theorem Tbl.mono {w : World} {C C2 : Nat} {q : Option Addr} {R : List (List Nat)} (h : Tbl w C q R) (hC : C ≤ C2) : Tbl w C2 q R := by
  obtain ⟨vs, h1, h2, h3⟩ := h
  refine ⟨vs, h1, h2.mono hC, fun k hk => ?_⟩
  obtain ⟨qk, ck, h4, h5, h6⟩ := h3 k hk
  exact ⟨qk, ck, h4, h5.mono hC, h6⟩
theorem Tbl.get {w : World} {C : Nat} {q : Option Addr} {R : List (List Nat)} (h : Tbl w C q R) {k : Nat} (hk : k < R.length) : ∃ b off, q = some ⟨b, off, none⟩ ∧ ∃ qk ck, w.cell? ⟨b, off + k, none⟩ = some (.slice qk R[k].length ck) ∧ VRow w C qk (ints (zl R[k])) ∧ R[k].length ≤ ck := by
  obtain ⟨vs, h1, h2, h3⟩ := h
  obtain ⟨b, off, e, hb, hc⟩ := h2 (by omega)
  obtain ⟨qk, ck, h4, h5, h6⟩ := h3 k hk
  refine ⟨b, off, e, qk, ck, ?_, h5, h6⟩
  have h7 := hc k (by omega)
  rw [List.getElem?_eq_getElem (by omega)] at h4
  injection h4 with h4
  rw [h7, h4]
theorem Tbl.nil (w : World) (C : Nat) (q : Option Addr) : Tbl w C q [] := ⟨[], rfl, fun h => absurd h (by simp), fun k h => absurd h (by simp)⟩
/-- rows of rows, an own row while it grows; all of it in blocks from base on, in none of N -/
def Rws (w : World) (base : Nat) (N : Nat → Prop) (v : Value) (R : List (List Nat)) : Prop := ∃ vs : List Value, w.ownsRow base 38 1 v R.length vs ∧ (∀ k, v.ownBlock = some k → ¬ N k) ∧ ∀ k (h : k < R.length), ∃ q c, vs[k]? = some (.slice q R[k].length c) ∧ VRow w w.heap.size q (ints (zl R[k])) ∧ R[k].length ≤ c ∧ ∀ a, q = some a → 0 < R[k].length → base ≤ a.block ∧ v.ownBlock ≠ some a.block ∧ ¬ N a.block
theorem Rws.nil (w : World) (base : Nat) (N : Nat → Prop) : Rws w base N (.slice none 0 0) [] := ⟨[], World.ownsRow_nil _ _ _ _, (fun _ h => (by cases h)), fun k h => absurd h (by simp)⟩
theorem Rws.only {S N : Nat → Prop} {w w' : World} {base : Nat} {v : Value} {R : List (List Nat)} (h : Rws w base N v R) (ho : Only S w w') (hS : ∀ k, base ≤ k → k < w.heap.size → ¬ N k → ¬ S k) : Rws w' base N v R := by
  obtain ⟨vs, h1, hN, h2⟩ := h
  refine ⟨vs, ⟨h1.1, ?_⟩, hN, fun k hk => ?_⟩
  · rcases h1.2 with hn | ⟨g, cap, cur, rfl, hb, hh, r⟩
    · exact .inl hn
    · refine .inr ⟨g, cap, cur, rfl, hb, ?_, r⟩
      have hlt : g < w.heap.size := by
        rcases Nat.lt_or_ge g w.heap.size with hlt | hge
        · exact hlt
        · rw [Array.getElem?_eq_none hge] at hh; cases hh
      rw [ho.2.2.2.2 g hlt (hS g hb hlt (hN g rfl))]
      exact hh
  · obtain ⟨q, c, h3, h4, h5, h6⟩ := h2 k hk
    refine ⟨q, c, h3, (fun h0 => ?_), h5, h6⟩
    obtain ⟨b, off, e, hb, hc⟩ := h4 h0
    refine ⟨b, off, e, Nat.lt_of_lt_of_le hb ho.2.2.2.1, fun i hi => ?_⟩
    rw [← hc i hi]
    have h7 := h6 _ e (by rwa [ints_length, zl_length] at h0)
    exact World.cell?_of_block (w := w) (ho.2.2.2.2 b hb (hS b h7.1 hb h7.2.2))
/-- other blocks are forbidden -/
theorem Rws.none {N N' : Nat → Prop} {w : World} {base : Nat} {v : Value} {R : List (List Nat)} (h : Rws w base N v R) (hN : ∀ k, k < w.heap.size → ¬ N k → ¬ N' k) : Rws w base N' v R := by
  obtain ⟨vs, h1, h0, h2⟩ := h
  refine ⟨vs, h1, fun k hk => hN k (h1.lt k hk).2 (h0 k hk), fun k hk => ?_⟩
  obtain ⟨q, c, h3, h4, h5, h6⟩ := h2 k hk
  refine ⟨q, c, h3, h4, h5, fun a ha hl => ?_⟩
  obtain ⟨h7, h8, h9⟩ := h6 a ha hl
  obtain ⟨b, off, e, hb, _⟩ := h4 (by rw [ints_length, zl_length]; exact hl)
  rw [ha] at e
  injection e with e
  exact ⟨h7, h8, hN _ (by rw [e]; exact hb) h9⟩
theorem Rws.tbl {w : World} {base : Nat} {N : Nat → Prop} {v : Value} {R : List (List Nat)} (h : Rws w base N v R) : ∃ q c, v = .slice q R.length c ∧ Tbl w w.heap.size q R ∧ R.length ≤ c ∧ c ≤ maxLen := by
  obtain ⟨vs, h1, _, h2⟩ := h
  have hl : vs.length = R.length := by have := h1.1; omega
  obtain ⟨q, c, h3, h4, h5, h6, h7, _⟩ := vrow_own h1 hl
  refine ⟨q, c, h3, ⟨vs, hl, h7, fun k hk => ?_⟩, h5, h6⟩
  obtain ⟨qk, ck, h8, h9, h10, _⟩ := h2 k hk
  exact ⟨qk, ck, h8, h9, h10⟩
theorem Tryz.infoIntsH : (Tryz.prog.info? 38).map (fun i => (i.zero, i.size, i.bytes)) = some (some (.slice none 0 0), 1, 24) := by kernel_rfl
/-- a row appended to rows -/
theorem wpList_append_rws {w w0 : World} {ops : Array Oper} {rest : List Oper} {o : Oper} {a : Act} {Q : Exit → Act → World → Prop}
    (hgd : o.guard = none) (s x : Operand) (ho : o.op = .call { callee := .builtin .append, args := #[s, x], argTypes := #[26, 26] })
    (base : Nat) (N : Nat → Prop) (v : Value) (R : List (List Nat)) (n : Nat) (hn : R.length = n) (hs : a.eval s = v) (h0 : Rws w0 base N v R) (d : List Nat) (q : Option Addr) (m c : Nat) (hm : d.length = m) (hr : VRow w0 w0.heap.size q (ints (zl d))) (hc : m ≤ c) (hf : ∀ ad, q = some ad → 0 < d.length → base ≤ ad.block ∧ v.ownBlock ≠ some ad.block ∧ ¬ N ad.block) (hNew : ∀ k, w0.heap.size ≤ k → ¬ N k)
    (hw : w = w0.alloc (.cells #[.slice q m c] 38)) (hx : a.eval x = .slice (some ⟨w0.heap.size, 0, none⟩) 1 1) (hl : n ≤ 1000) (hbase : base ≤ w0.heap.size)
    (h : ∀ v' w', Rws w' base N v' (R ++ [d]) → Below base w0 w' → (∀ k, v'.ownBlock = some k → v.ownBlock = some k ∨ w0.heap.size ≤ k) → Only (fun k => v.ownBlock = some k) w0 w' → wpList Tryz.prog ops Q rest (a.put o.dst v') w') :
    wpList Tryz.prog ops Q (o :: rest) a w := by
  obtain ⟨i0, hi, hz0, hz1, hz2⟩ := info_parts Tryz.infoIntsH
  subst hw
  subst hm
  subst hn
  have hb1 : Below w0.heap.size w0 (w0.alloc (.cells #[.slice q d.length c] 38)) := (Below.refl _ w0).alloc (Nat.le_refl _) _
  have hT := h0.only (Only.of_below hb1 : Only (fun _ => False) _ _) (fun _ _ _ _ e => e)
  obtain ⟨vs, h1, hN0, h2⟩ := hT
  have hr1 := (hr.below hb1 (Nat.le_refl _)).mono hb1.size
  have hlt : ∀ ad, q = some ad → 0 < d.length → ad.block < w0.heap.size := fun ad ha h0 => by
    obtain ⟨b, off, e, hb, _⟩ := hr (by rw [ints_length, zl_length]; exact h0)
    rw [ha] at e
    injection e with e
    rw [e]
    exact hb
  have hvl : vs.length = R.length := by have := h1.1; omega
  refine wpList_append_lies _ hgd s x 26 ho base 38 i0 (.slice none 0 0) 1 24 Tryz.underlying26 hi hz0 hz1 hz2 rfl (by decide) v R.length vs hs h1 ⟨w0.heap.size, 0, none⟩ 1 1 [.slice q d.length c] hx rfl ?_ (fun u hu => by simp at hu; subst hu; rfl) (by decide) (by unfold maxLen; omega) (by omega) (Nat.le_trans hbase hb1.size) _ rfl ?_
  · intro j u hj
    have hj0 : j = 0 := by
      have := (List.getElem?_eq_some_iff.1 hj).1
      simp at this
      omega
    subst hj0
    have hq : u = .slice q d.length c := by simpa using hj.symm
    subst hq
    rw [add_plain]
    simp
  · intro g' cap w' k1 k2 k3 k4
    have hon : Only (fun k => v.ownBlock = some k) (w0.alloc (.cells #[.slice q d.length c] 38)) w' := ⟨k2.os, k2.tape, k2.output, k2.size, fun k hk hs => k2.block k hk (fun e => hs e.symm)⟩
    have hold : ∀ k, (Value.slice (some ⟨g', 0, none⟩) (R.length + 1) cap).ownBlock = some k → v.ownBlock = some k ∨ w0.heap.size ≤ k := fun k e => by
      injection e with e
      simp only at e
      rcases k3 with h3 | h3
      · left; rw [h3, e]
      · right; have := hb1.size; omega
    refine h _ w' ⟨vs ++ [.slice q d.length c], by rw [List.length_append]; exact k1, fun k hk => ?_, fun k hk => ?_⟩ ((hb1.mono hbase).trans ((Below.refl _ _).grown k2 (Nat.le_trans hbase hb1.size) (fun k hk => (World.ownsRow.lt h1 k hk).1))) hold ((Only.of_below hb1 : Only (fun k => v.ownBlock = some k) _ _).trans hon)
    · rcases hold k hk with h3 | h3
      · exact hN0 k h3
      · exact hNew k h3
    have hkk := hk
    rw [List.length_append, List.length_singleton] at hk
    have far : ∀ {qq : Option Addr} {dd : List Nat}, VRow (w0.alloc (.cells #[.slice q d.length c] 38)) (w0.alloc (.cells #[.slice q d.length c] 38)).heap.size qq (ints (zl dd)) → (∀ ad, qq = some ad → 0 < dd.length → v.ownBlock ≠ some ad.block) → VRow w' w'.heap.size qq (ints (zl dd)) := fun {qq dd} hv hne =>
      (vrow_far hv hon (Nat.le_refl _) (fun ad ha h0 e => hne ad ha (by rwa [ints_length, zl_length] at h0) e)).mono k2.size
    have new : ∀ {ad : Addr}, v.ownBlock ≠ some ad.block → ad.block < (w0.alloc (.cells #[.slice q d.length c] 38)).heap.size → (Value.slice (some ⟨g', 0, none⟩) (R.length + 1) cap).ownBlock ≠ some ad.block := fun {ad} h1 h2 e => by
      injection e with e
      rcases k3 with h3 | h3
      · exact h1 (by rw [h3, ← e])
      · simp only at e; omega
    by_cases hkl : k < R.length
    · obtain ⟨qk, ck, h3, h4, h5, h6⟩ := h2 k hkl
      rw [List.getElem_append_left hkl, List.getElem?_append_left (by omega)]
      refine ⟨qk, ck, h3, far h4 (fun ad ha h0 => (h6 ad ha h0).2.1), h5, fun ad ha h0 => ⟨(h6 ad ha h0).1, new (h6 ad ha h0).2.1 ?_, (h6 ad ha h0).2.2⟩⟩
      obtain ⟨b, off, e, hb, _⟩ := h4 (by rw [ints_length, zl_length]; exact h0)
      rw [ha] at e
      injection e with e
      rw [e]
      exact hb
    · have hke : k = R.length := by omega
      subst hke
      rw [List.getElem_append_right (Nat.le_refl _), List.getElem?_append_right (by omega)]
      simp only [Nat.sub_self, List.getElem_cons_zero, hvl, List.getElem?_cons_zero]
      exact ⟨q, c, rfl, far hr1 (fun ad ha h0 => (hf ad ha h0).2.1), hc, fun ad ha h0 => ⟨(hf ad ha h0).1, new (hf ad ha h0).2.1 (by have := hlt ad ha h0; have := hb1.size; omega), (hf ad ha h0).2.2⟩⟩
end Go.Proofs.YtmbfgejephgojaaGreatDoor.Mh
/- The contracts of Encode and Decode. -/
namespace Go.Proofs.YtmbfgejephgojaaGreatDoor.Mh
open Go.RowKit Go.Proofs.YtmbfgejephgojaaGreatDoor.Oct Go.Proofs.YtmbfgejephgojaaGreatDoor.Bit
open Go.Proofs.YtmbfgejephgojaaGreatDoor.Fx (Tab Cd Out OutW WrP CW codes_any rd_only)
open Go.Proofs.YtmbfgejephgojaaGreatDoor.Rn (changes zl zl_length Valid)
open Go.Proofs.YtmbfgejephgojaaGreatDoor.Lp (VRow ints ints_length vrow_own)
open Go.Proofs.YtmbfgejephgojaaGreatDoor.Hf (rdAt rdAt_of)
set_option linter.unusedVariables false
set_option linter.unusedSimpArgs false
set_option maxRecDepth 100000

/-- rows, one behind the other, each from a whole byte on -/
def pageP : List Bool → List (List Bool) → List Bool
  | l, [] => l
  | l, r :: rs => pageP (padL l ++ r) rs
theorem padL_le (l : List Bool) : l.length ≤ (padL l).length := by
  unfold padL
  rw [List.length_append]
  omega
theorem pageP_le : ∀ (rs : List (List Bool)) (l : List Bool), l.length ≤ (pageP l rs).length
  | [], l => Nat.le_refl _
  | r :: rs, l => by
    rw [pageP]
    have h1 := pageP_le rs (padL l ++ r)
    rw [List.length_append] at h1
    have := padL_le l
    omega
def EncP (w : World) (T : List Bool) (e : Ending) (w' : World) : Prop := Below w.heap.size w w' ∧ ∃ q c, e = .returned (.tuple #[.slice q (packB false T).length c, .int .i64 0]) ∧ Row w' q (packB false T) ∧ (q = none → c = 0) ∧ (packB false T).length ≤ c
theorem encode_bad (w : World) (q : Option Addr) (n cap : Nat) (z : Int) (hb : wideM z = false) : Calls Tryz.prog 6 #[.slice q n cap, .int .i64 z] w (ArgR w) := by
  have hok := mwidth_any z w
  rw [hb] at hok
  have HOK := Lib.hid hok
  clear hok hb
  go_enter Tryz.func6, Tryz.ntmps6
  go_wp2_with fail
  refine HOK.out.mono ?_
  rintro e w' ⟨rfl, rfl⟩
  go_wp2_with fail
  go_ret2
  exact ⟨rfl, rfl⟩
set_option maxHeartbeats 4000000 in
theorem encode_any (w : World) (hT : Tab w) (q : Option Addr) (n cap : Nat) (R : List (List Nat)) (wd : Nat) (hR : Tbl w w.heap.size q R) (hn : R.length = n) (hn2 : n ≤ 1000) (hv : ∀ d ∈ R, Valid d wd) (hl : ∀ d ∈ R, d.length ≤ 1000) (h1 : 1 ≤ wd) (hw : wd ≤ 32768) (hb : (pageP [] (R.map (rowC · wd))).length ≤ 1500000) :
    Calls Tryz.prog 6 #[.slice q n cap, .int .i64 (wd : Int)] w (EncP w (pageP [] (R.map (rowC · wd)))) := by
  have hwd : wideM (wd : Int) = true := by unfold wideM; simp; omega
  have hok := mwidth_any (wd : Int) w
  rw [hwd] at hok
  have HOK := Lib.hid hok
  have HT := Lib.hid hT
  have HR := Lib.hid hR
  have HN := Lib.hid hn
  have HV := Lib.hid hv
  have HL := Lib.hid hl
  obtain ⟨T, hTd⟩ : ∃ T, T = pageP [] (R.map (rowC · wd)) := ⟨_, rfl⟩
  have HTD := Lib.hid hTd.symm
  rw [← hTd] at hb ⊢
  clear hok hwd hT hR hn hv hl hTd
  go_enter Tryz.func6, Tryz.ntmps6
  go_wp2_with fail
  refine HOK.out.mono ?_
  rintro e w' ⟨rfl, rfl⟩
  go_wp2_with fail
  refine (newWriter_any false w).mono ?_
  rintro e w1 ⟨hb1, rfl, hw1⟩
  have HB1 := Lib.hid hb1
  have HW1 := Lib.hid hw1
  clear hb1 hw1
  go_wp2_with fail
  refine (codes_any w1 (HT.out.below HB1.out HT.out.lt)).mono ?_
  rintro e w2 ⟨hb2, c, rfl, hc⟩
  have HCW := Lib.hid (CW.first HW1.out rfl HB1.out hb2 hc)
  generalize hgwe : w.heap.size = gw at *
  have HGWE := Lib.hid hgwe
  generalize w1.heap.size = B at *
  generalize w2.heap.size = C at *
  clear hb2 hc HW1 hgwe HOK
  go_wp2_with fail
  go_loopw [9, 10, 18] (fun _ _ s18 wr => ∃ (k : Nat) (v : Value) (l : List Bool), k ≤ n ∧ s18 = .int .i64 (k : Int) ∧ Hid (CW gw w B C c gw v l false wr) ∧ Hid (pageP l ((R.drop k).map (rowC · wd)) = T)) (fun _ _ s18 _ => n - (intOf s18).toNat)
  case atStart => exact ⟨0, _, [], by omega, rfl, HCW, HTD⟩
  case round =>
    obtain ⟨k, v, l, hk, rfl, HS, HP⟩ := hrel
    have hlT : l.length ≤ T.length := by rw [← HP.out]; exact pageP_le _ _
    by_cases hlt : k < n
    · have hkl : k < R.length := by rw [HN.out]; exact hlt
      obtain ⟨bb, off, hq, qk, ck, hcell, hvk, hck⟩ := (HR.out.below HS.out.bel).get hkl
      have hvv := HV.out R[k] (List.getElem_mem hkl)
      have hll := HL.out R[k] (List.getElem_mem hkl)
      have hp := HP.out
      rw [List.drop_eq_getElem_cons hkl, List.map_cons, pageP] at hp
      generalize R[k] = d at *
      subst hq
      have hd : decide ((k : Int) < (n : Int)) = true := by simp; omega
      have i1 : (0 : Int) ≤ (k : Int) := by omega
      have i2 : (k : Int) < (n : Int) := by omega
      have HAL := Lib.hid (walign_any wr gw v l false HS.out.ws (by omega))
      have hpl : (padL l ++ rowC d wd).length ≤ T.length := by rw [← hp]; exact pageP_le _ _
      rw [List.length_append] at hpl
      obtain ⟨m, hm⟩ : ∃ m, m = d.length := ⟨_, rfl⟩
      rw [← hm] at hcell hck hll
      have HM := Lib.hid hm.symm
      have HVK := Lib.hid hvk
      have HVV := Lib.hid hvv
      have HP2 := Lib.hid hp
      clear hvk hvv hp hm hkl
      go_wp2_with fail
      refine HAL.out.mono ?_
      rintro e w3 ⟨rfl, hws3⟩
      have hpd : padL l = l ++ zs (8 * ((l.length + 7) / 8) - l.length) := rfl
      rw [hpd] at hws3
      obtain ⟨v3, h3⟩ := HS.out.wrote hws3
      rw [← hpd] at h3
      have H3 := Lib.hid h3
      have hbb : Below gw wr w3 := by
        have := hws3
        obtain ⟨_, _, ho, _⟩ := hws3
        exact ho.below HS.out.dz (fun kk hkk hm => by have := HS.out.mine kk hm; omega)
      have HWR := Lib.hid (writeRow_any w3 B C c gw v3 (padL l) false qk m ck d wd H3.out.cd H3.out.ws H3.out.out ((HVK.out.below hbb (Nat.le_refl _)).mono H3.out.dz) HM.out HVV.out h1 hw (by omega))
      clear hws3 h3 hpd hbb HAL
      go_wp2_with fail
      refine HWR.out.mono ?_
      rintro e w4 ⟨rfl, hws4⟩
      obtain ⟨v4, h4⟩ := H3.out.wrote hws4
      have H4 := Lib.hid h4
      clear hws4 h4 HWR
      go_wp2_with fail
      go_roundw
      case rel => exact ⟨k + 1, v4, padL l ++ rowC d wd, by omega, by go_num, H4, HP2⟩
      case measure => simp [intOf]; omega
    · have hke : k = n := by omega
      subst hke
      have hd : decide ((k : Int) < (k : Int)) = false := by simp
      have hlT2 : l = T := by
        have h2 := HP.out
        rw [List.drop_of_length_le (by rw [HN.out]; exact Nat.le_refl _), List.map_nil, pageP] at h2
        exact h2
      subst hlT2
      have HBY := Lib.hid (bytes_any wr gw v l false HS.out.ws (by omega))
      go_wp2_with fail
      refine HBY.out.mono ?_
      rintro e w5 ⟨hb5, q5, c5, rfl, hr5, hc5, hm5, hn5, ha5⟩
      have HBF := Lib.hid (HS.out.bel.trans (hb5.mono HS.out.dz))
      have HR5 := Lib.hid hr5
      have HN5 := Lib.hid hn5
      have HC5 := Lib.hid hc5
      clear hb5 hr5 hn5 hc5 hm5 ha5
      go_wp2_with fail
      go_ret2
      exact ⟨by rw [HGWE.out]; exact HBF.out, q5, c5, rfl, HR5.out, HN5.out, HC5.out⟩
/-- so many rows, each from a whole byte on -/
def decB (L : List Bool) (wd : Nat) : Nat → Nat → List (List Bool) → Except Nat (List (List Bool))
  | 0, _, acc => .ok acc
  | j + 1, t, acc => match (readRowA L wd (8 * ((t + 7) / 8)) [] false).2 with
    | .error e => .error e
    | .ok X => decB L wd j (readRowA L wd (8 * ((t + 7) / 8)) [] false).1 (acc ++ [X])
def DecP (w : World) (r : Except Nat (List (List Bool))) (e : Ending) (w' : World) : Prop := Below w.heap.size w w' ∧ match r with
  | .error ce => e = .returned (.tuple #[.slice none 0 0, .int .i64 (ce : Int)])
  | .ok Xs => ∃ q c, e = .returned (.tuple #[.slice q Xs.length c, .int .i64 0]) ∧ Tbl w' w'.heap.size q (Xs.map changes)
theorem decode_bad (w : World) (p : Option Addr) (len cap : Nat) (z n : Int) (hb : wideM z = false ∨ n < 0) : Calls Tryz.prog 9 #[.slice p len cap, .int .i64 z, .int .i64 n] w (ArgR w) := by
  have hok := mwidth_any z w
  by_cases hz : wideM z = true
  · rw [hz] at hok
    have HOK := Lib.hid hok
    have hd : decide (n < 0) = true := by
      rcases hb with h | h
      · rw [hz] at h; cases h
      · simpa using h
    clear hok hb hz
    go_enter Tryz.func9, Tryz.ntmps9
    go_wp2_with fail
    refine HOK.out.mono ?_
    rintro e w' ⟨rfl, rfl⟩
    go_wp2_with fail
    go_ret2
    exact ⟨rfl, rfl⟩
  · have hz' : wideM z = false := by simpa using hz
    rw [hz'] at hok
    have HOK := Lib.hid hok
    clear hok hb hz hz'
    go_enter Tryz.func9, Tryz.ntmps9
    go_wp2_with fail
    refine HOK.out.mono ?_
    rintro e w' ⟨rfl, rfl⟩
    go_wp2_with fail
    go_ret2
    exact ⟨rfl, rfl⟩
theorem lenA_ne0 {L : List Bool} {wd : Nat} {e : Nat} : ∀ (f t : Nat) (P : List Bool) (b : Bool), L.length + 1 ≤ f + t → t ≤ L.length → (readRowA L wd t P b).2 = .error e → ((e : Int) != 0) = true
  | 0, t, P, b, hf, ht, h => by omega
  | f + 1, t, P, b, hf, ht, h => by
    rw [readRowA_eq L wd t P b ht] at h
    have h1 := lenA_lt b (L := L) (most := wd - P.length) (n := 0) ht
    rcases hy : Fx.lenA b L (wd - P.length) t 0 with ⟨t1, c | m⟩
    · rw [hy] at h
      simp only at h
      injection h with h
      subst h
      exact lenA_ne ht (by rw [hy])
    · rw [hy] at h h1
      simp only at h h1
      split at h
      · cases h
      · exact lenA_ne0 f t1 _ _ (by have := (h1.2.2 m rfl).1; omega) h1.1 h
set_option maxHeartbeats 8000000 in
theorem decode_any (w : World) (hT : Tab w) (p : Option Addr) (len cap : Nat) (xs : List UInt8) (wd n : Nat) (hr : Row w p xs) (hx : xs.length = len) (hnil : p = none → cap = 0) (hl : len ≤ 1000000) (h1 : 1 ≤ wd) (hw : wd ≤ 32768) (hn : n ≤ 1000) :
    Calls Tryz.prog 9 #[.slice p len cap, .int .i64 (wd : Int), .int .i64 (n : Int)] w (DecP w (decB (bitsOf false xs) wd n 0 [])) := by
  have hwd : wideM (wd : Int) = true := by unfold wideM; simp; omega
  have hok := mwidth_any (wd : Int) w
  rw [hwd] at hok
  have HOK := Lib.hid hok
  have HT := Lib.hid hT
  obtain ⟨r, hrd⟩ : ∃ r, r = decB (bitsOf false xs) wd n 0 [] := ⟨_, rfl⟩
  have HRD := Lib.hid hrd.symm
  rw [← hrd]
  have HNR := Lib.hid (newReader_any p len cap xs false w hr hx hnil (by omega))
  clear hok hwd hT hr hx hnil hrd
  go_enter Tryz.func9, Tryz.ntmps9
  go_wp2_with fail
  refine HOK.out.mono ?_
  rintro e w' ⟨rfl, rfl⟩
  go_wp2_with fail
  refine HNR.out.mono ?_
  rintro e w1 ⟨hb1, gr, q1, c1, rfl, hg1, hr1, _⟩
  have HB1 := Lib.hid hb1
  have HR1 := Lib.hid hr1
  have HG1 := Lib.hid hg1
  clear hb1 hr1 hg1 HNR
  go_wp2_with fail
  refine (codes_any w1 (HT.out.below HB1.out HT.out.lt)).mono ?_
  rintro e w2 ⟨hb2, c, rfl, hc⟩
  have HB2 := Lib.hid (HB1.out.trans (hb2.mono HB1.out.size))
  have hlt1 := HR1.out.lt
  have HR2 := Lib.hid (HR1.out.below hb2 hlt1)
  have HC2 := Lib.hid hc
  have hz12 := hb2.size
  obtain ⟨B, hB⟩ : ∃ B, B = w1.heap.size := ⟨_, rfl⟩
  obtain ⟨C, hC⟩ : ∃ C, C = w2.heap.size := ⟨_, rfl⟩
  rw [← hB, ← hC] at HC2
  have HGB : Hid (gr < B ∧ B ≤ C ∧ w.heap.size ≤ gr ∧ w.heap.size ≤ C) := Lib.hid ⟨by omega, by omega, HG1.out, by have := HB1.out.size; omega⟩
  have HCZ : Hid (C ≤ w2.heap.size) := Lib.hid (by omega)
  clear hb2 hc hB hC hlt1 hz12 HOK
  go_wp2_with fail
  go_loopw [10, 11, 12, 24] (fun sv _ _ sk wr => ∃ (k t : Nat) (acc : List (List Bool)), k ≤ n ∧ sk = .int .i64 (k : Int) ∧ acc.length = k ∧ Hid (Rd wr gr q1 c1 xs t false) ∧ Hid (Cd wr B C c) ∧ Hid (Rws wr C (fun _ => False) sv (acc.map changes)) ∧ Hid (Below w.heap.size w wr) ∧ Hid (decB (bitsOf false xs) wd (n - k) t acc = r)) (fun _ _ _ sk _ => n - (intOf sk).toNat)
  case atStart => exact ⟨0, 0, [], by omega, rfl, rfl, HR2, HC2, Lib.hid (Rws.nil _ _ _), HB2, HRD⟩
  case round =>
    obtain ⟨k, t, acc, hk, rfl, hak, HRr, HCr, HWr, HBr, HE⟩ := hrel
    by_cases hlt : k < n
    · have hd : decide ((k : Int) < (n : Int)) = true := by simp; omega
      have HAL := Lib.hid (align_any gr q1 c1 xs t false wr HRr.out)
      have HQ : Hid (r = match (readRowA (bitsOf false xs) wd (8 * ((t + 7) / 8)) [] false).2 with
          | .error e => .error e
          | .ok X => decB (bitsOf false xs) wd (n - (k + 1)) (readRowA (bitsOf false xs) wd (8 * ((t + 7) / 8)) [] false).1 (acc ++ [X])) := Lib.hid (by
        rw [← HE.out, show n - k = (n - (k + 1)) + 1 from by omega]
        rfl)
      clear HE
      go_wp2_with fail
      refine HAL.out.mono ?_
      rintro e w3 ⟨rfl, hr3, ho3, hz3⟩
      have HR3 := Lib.hid hr3
      have HC3 := Lib.hid (HCr.out.only ho3 (fun kk hkk => .inl (by have := HGB.out; omega)))
      have HW3 := Lib.hid (HWr.out.only ho3 (fun kk hkk _ _ e => by have := HGB.out; omega))
      have HB3 := Lib.hid (HBr.out.trans (ho3.below HBr.out.size (fun kk hkk e => by have := HGB.out; omega)))
      have hat : 8 * ((t + 7) / 8) ≤ (bitsOf false xs).length := by rw [bitsOf_length]; exact hr3.2.2.1
      have HRR := Lib.hid (readRow_any w3 B C c gr q1 c1 xs (8 * ((t + 7) / 8)) false wd HC3.out (.inl (by have := HGB.out; omega)) HR3.out h1 hw)
      have HNE := Lib.hid (fun e h => lenA_ne0 (L := bitsOf false xs) (wd := wd) (e := e) ((bitsOf false xs).length + 1) (8 * ((t + 7) / 8)) [] false (by omega) hat h)
      generalize readRowA (bitsOf false xs) wd (8 * ((t + 7) / 8)) [] false = ra at *
      obtain ⟨t4, x⟩ := ra
      clear hr3 ho3 hz3 HAL hat
      go_wp2_with fail
      refine HRR.out.mono ?_
      rintro e w4 ⟨hr4, ho4, q4, c4, rfl, hv4, hn4, hl4, hm4, hf4⟩
      have HR4 := Lib.hid hr4
      have HC4 := Lib.hid (HC3.out.only ho4 (fun kk hkk => .inl (by have := HGB.out; omega)))
      have HW4 := Lib.hid (HW3.out.only ho4 (fun kk hkk _ _ e => by have := HGB.out; omega))
      have HB4 := Lib.hid (HB3.out.trans (ho4.below HB3.out.size (fun kk hkk e => by have := HGB.out; omega)))
      have hq := HQ.out
      try simp only at hq
      rcases x with ce | X
      · have hce := HNE.out ce rfl
        have HQ2 := Lib.hid hq
        simp only [rowE, rowL, List.length_nil]
        clear hq hr4 ho4 hv4 hn4 hl4 hm4 hf4 HRR
        go_wp2_with fail
        go_ret2
        rw [HQ2.out]
        exact ⟨HB4.out, rfl⟩
      · have HQ2 := Lib.hid hq.symm
        simp only [rowE, rowL] at hv4 hl4 ⊢
        obtain ⟨m, hm⟩ : ∃ m, m = (changes X).length := ⟨_, rfl⟩
        rw [← hm] at hl4 ⊢
        have hcz : C ≤ w4.heap.size := HC4.out.1
        have hfr : ∀ ad, q4 = some ad → 0 < (changes X).length → C ≤ ad.block ∧ u10.ownBlock ≠ some ad.block ∧ ¬ False := fun ad ha h0 => by
          have h3 := hf4 ad ha
          have h5 := HC3.out.1
          refine ⟨by omega, fun e => ?_, fun e => e⟩
          obtain ⟨vs, h6, _⟩ := HW3.out
          have := (h6.lt _ e).2
          omega
        have HV4 := Lib.hid hv4
        have HFR := Lib.hid hfr
        have HM := Lib.hid hm.symm
        have hkk : (acc.map changes).length = k := by rw [List.length_map]; exact hak
        have HKK := Lib.hid hkk
        have hk1000 : k ≤ 1000 := by omega
        have HAK := Lib.hid hak
        have HL4 := Lib.hid hl4
        clear hq hr4 ho4 hv4 hn4 hl4 hm4 hf4 HRR hfr hm hkk HW3 HB3 HC3 HR3 hak
        go_wp2_with (at_builtin; refine wpList_append_rws rfl _ _ rfl C (fun _ => False) _ (acc.map changes) k HKK.out rfl HW4.out (changes X) q4 m c4 HM.out HV4.out HL4.out HFR.out (fun _ _ e => e) rfl rfl hk1000 hcz ?_)
        intro v5 w5 hw5 hb5 _ _
        have HW5 : Hid (Rws w5 C (fun _ => False) v5 ((acc ++ [X]).map changes)) := Lib.hid (by rw [List.map_append]; exact hw5)
        have HR5 := Lib.hid (rd_only HR4.out (⟨hb5.os, hb5.tape, hb5.output, hb5.size, fun kk hkk hn => hb5.block kk (by omega)⟩ : Only (fun kk => C ≤ kk) w4 w5) (by have := HGB.out; omega) (fun ad _ hlt e => by have := HGB.out; omega))
        have HC5 := Lib.hid (HC4.out.below hb5 (Nat.le_refl _))
        have HB5 := Lib.hid (HB4.out.trans (hb5.mono HGB.out.2.2.2))
        clear hw5 hb5
        go_wp2_with fail
        go_roundw
        case rel => exact ⟨k + 1, t4, acc ++ [X], by omega, by go_num, by rw [List.length_append, HAK.out]; rfl, HR5, HC5, HW5, HB5, HQ2⟩
        case measure => simp [intOf]; omega
    · have hke : k = n := by omega
      have hd : decide ((k : Int) < (n : Int)) = false := by simp; omega
      have HQ : Hid (r = .ok acc) := Lib.hid (by
        rw [← HE.out, show n - k = 0 from by omega]
        rfl)
      obtain ⟨q5, c5, hv5, ht5, _⟩ := HWr.out.tbl
      rw [List.length_map] at hv5
      have HV5 := Lib.hid hv5
      have HT5 := Lib.hid ht5
      clear hv5 ht5
      go_wp2_with fail
      go_ret2
      rw [HQ.out]
      exact ⟨HBr.out, q5, c5, by rw [HV5.out]; rfl, HT5.out⟩
end Go.Proofs.YtmbfgejephgojaaGreatDoor.Mh

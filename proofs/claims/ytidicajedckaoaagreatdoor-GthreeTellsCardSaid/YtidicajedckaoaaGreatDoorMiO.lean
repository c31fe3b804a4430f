
/- Rows and widths that can't be, and what is nil; the walk of MhArgs. -/
import Derived.Test.YtidicajedckaoaaGreatDoorMiJ
namespace Go.Proofs.YtidicajedckaoaaGreatDoor.Mh
open Go.RowKit Go.Proofs.YtidicajedckaoaaGreatDoor.Oct Go.Proofs.YtidicajedckaoaaGreatDoor.Bit
open Go.Proofs.YtidicajedckaoaaGreatDoor.Fx (Tab Cd Out OutW WrP CW codes_any TrueT lenA lenA_eq rd_only)
open Go.Proofs.YtidicajedckaoaaGreatDoor.Rn (changes zl zl_length Valid rightB)
open Go.Proofs.YtidicajedckaoaaGreatDoor.Lp (VRow ints ints_length IsInts)
set_option linter.unusedVariables false
set_option linter.unusedSimpArgs false
set_option maxRecDepth 100000

def ArgP (w : World) (e : Ending) (w' : World) : Prop := e = .returned (.int .i64 1) ∧ w = w'
theorem writeRow_nw (w : World) (cv : Option Addr) (p : Option Addr) (len cap : Nat) (z : Int) : Calls Tryz.prog 37 #[.pointer none, .pointer cv, .slice p len cap, .int .i64 z] w (ArgP w) := by
  go_enter Tryz.func37, Tryz.ntmps37
  go_wp2_with fail
  go_ret
  exact ⟨rfl, rfl⟩
theorem writeRow_nc (w : World) (gw : Addr) (p : Option Addr) (len cap : Nat) (z : Int) : Calls Tryz.prog 37 #[.pointer (some gw), .pointer none, .slice p len cap, .int .i64 z] w (ArgP w) := by
  go_enter Tryz.func37, Tryz.ntmps37
  go_wp2_with fail
  go_ret
  exact ⟨rfl, rfl⟩
theorem writeRow_bad (w : World) (gw c : Addr) (p : Option Addr) (len cap : Nat) (zs : List Int) (z : Int) (C : Nat) (h : VRow w C p (ints zs)) (hx : zs.length = len) (hl : len ≤ maxLen) (hb : rowB zs z = false) : Calls Tryz.prog 37 #[.pointer (some gw), .pointer (some c), .slice p len cap, .int .i64 z] w (ArgP w) := by
  have hok := mrow_any p len cap zs z w C h hx hl
  rw [hb] at hok
  have HOK := Lib.hid hok
  clear hok h hx hl hb
  go_enter Tryz.func37, Tryz.ntmps37
  go_wp2_with fail
  refine HOK.out.mono ?_
  rintro e w' ⟨rfl, rfl⟩
  go_wp2_with fail
  go_ret
  exact ⟨rfl, rfl⟩
theorem writeAgainst_nw (w : World) (cv : Option Addr) (p p2 : Option Addr) (len cap len2 cap2 : Nat) (z : Int) : Calls Tryz.prog 38 #[.pointer none, .pointer cv, .slice p len cap, .slice p2 len2 cap2, .int .i64 z] w (ArgP w) := by
  go_enter Tryz.func38, Tryz.ntmps38
  go_wp2_with fail
  go_ret
  exact ⟨rfl, rfl⟩
theorem writeAgainst_nc (w : World) (gw : Addr) (p p2 : Option Addr) (len cap len2 cap2 : Nat) (z : Int) : Calls Tryz.prog 38 #[.pointer (some gw), .pointer none, .slice p len cap, .slice p2 len2 cap2, .int .i64 z] w (ArgP w) := by
  go_enter Tryz.func38, Tryz.ntmps38
  go_wp2_with fail
  go_ret
  exact ⟨rfl, rfl⟩
theorem writeAgainst_bad (w : World) (gw c : Addr) (p p2 : Option Addr) (len cap len2 cap2 : Nat) (zs ys : List Int) (z : Int) (C C2 : Nat) (h : VRow w C p (ints zs)) (hx : zs.length = len) (hl : len ≤ maxLen) (h2 : VRow w C2 p2 (ints ys)) (hy : ys.length = len2) (hl2 : len2 ≤ maxLen) (hb : (rowB zs z && rowB ys z) = false) :
    Calls Tryz.prog 38 #[.pointer (some gw), .pointer (some c), .slice p len cap, .slice p2 len2 cap2, .int .i64 z] w (ArgP w) := by
  have hok := mrow_any p len cap zs z w C h hx hl
  have hok2 := mrow_any p2 len2 cap2 ys z w C2 h2 hy hl2
  by_cases h1 : rowB zs z = true
  · rw [h1, Bool.true_and] at hb
    rw [h1] at hok
    rw [hb] at hok2
    have HOK := Lib.hid hok
    have HOK2 := Lib.hid hok2
    clear hok hok2 h hx hl h2 hy hl2 hb h1
    go_enter Tryz.func38, Tryz.ntmps38
    go_wp2_with fail
    refine HOK.out.mono ?_
    rintro e w' ⟨rfl, rfl⟩
    go_wp2_with fail
    refine HOK2.out.mono ?_
    rintro e w' ⟨rfl, rfl⟩
    go_wp2_with fail
    go_ret
    exact ⟨rfl, rfl⟩
  · have h1' : rowB zs z = false := by simpa using h1
    rw [h1'] at hok
    have HOK := Lib.hid hok
    clear hok hok2 h hx hl h2 hy hl2 hb h1 h1'
    go_enter Tryz.func38, Tryz.ntmps38
    go_wp2_with fail
    refine HOK.out.mono ?_
    rintro e w' ⟨rfl, rfl⟩
    go_wp2_with fail
    go_ret
    exact ⟨rfl, rfl⟩
def ArgR (w : World) (e : Ending) (w' : World) : Prop := e = .returned (.tuple #[.slice none 0 0, .int .i64 1]) ∧ w = w'
theorem readRow_bad (w : World) (rv : Option Addr) (c : Addr) (z : Int) (hb : wideM z = false) : Calls Tryz.prog 47 #[.pointer rv, .pointer (some c), .int .i64 z] w (ArgR w) := by
  have hok := mwidth_any z w
  rw [hb] at hok
  have HOK := Lib.hid hok
  clear hok hb
  go_enter Tryz.func47, Tryz.ntmps47
  go_wp2_with fail
  refine HOK.out.mono ?_
  rintro e w' ⟨rfl, rfl⟩
  go_wp2_with fail
  go_ret2
  exact ⟨rfl, rfl⟩
theorem readAgainst_bad (w : World) (rv : Option Addr) (c : Addr) (p2 : Option Addr) (len2 cap2 : Nat) (ys : List Int) (z : Int) (C2 : Nat) (h2 : VRow w C2 p2 (ints ys)) (hy : ys.length = len2) (hl2 : len2 ≤ maxLen) (hb : rowB ys z = false) : Calls Tryz.prog 49 #[.pointer rv, .pointer (some c), .slice p2 len2 cap2, .int .i64 z] w (ArgR w) := by
  have hok := mrow_any p2 len2 cap2 ys z w C2 h2 hy hl2
  rw [hb] at hok
  have HOK := Lib.hid hok
  clear hok hb h2 hy hl2
  go_enter Tryz.func49, Tryz.ntmps49
  go_wp2_with fail
  refine HOK.out.mono ?_
  rintro e w' ⟨rfl, rfl⟩
  go_wp2_with fail
  go_ret2
  exact ⟨rfl, rfl⟩
/-- a row is written, or it can't be one -/
def GenP (w : World) (gw : Nat) (v : Value) (l : List Bool) (K : Nat) (er : Int) (e : Ending) (w' : World) : Prop := e = .returned (.int .i64 er) ∧ ∃ m, m.length ≤ K ∧ WsT w gw v (l ++ m) false w'
theorem GenP.arg {w w' : World} {gw : Nat} {v : Value} {l : List Bool} {K : Nat} {e : Ending} (hW : Ws w gw v l false) (h : ArgP w e w') : GenP w gw v l K 1 e w' := by
  obtain ⟨rfl, rfl⟩ := h
  exact ⟨rfl, [], Nat.zero_le _, by rw [List.append_nil]; exact WrT.refl hW⟩
theorem rowC_len {c : List Nat} {n : Nat} (hv : Valid c n) (hn : n ≤ 32768) : (rowC c n).length ≤ 200 * (c.length + 1) := by
  obtain ⟨h1, h2⟩ := lens_le hv
  unfold rowC
  have key : ∀ (ns : List Nat) (b : Bool), (∀ x ∈ ns, x ≤ 32768) → (tellR b ns).length ≤ 200 * ns.length := by
    intro ns
    induction ns with
    | nil => intro b h; simp [tellR]
    | cons x ns ih =>
      intro b h
      rw [tellR, List.length_append, List.length_cons]
      have := tellF_len b x (h x (by simp))
      have := ih (!b) (fun y hy => h y (by simp [hy]))
      omega
  have := key (Rn.lensL 0 c n) false (fun x hx => Nat.le_trans (h1 x hx) hn)
  rw [h2] at this
  exact this
theorem writeRow_gen (w : World) (B C c gw : Nat) (v : Value) (l : List Bool) (p : Option Addr) (len cap : Nat) (zs : List Int) (z : Int) (hC : Cd w B C c) (hW : Ws w gw v l false) (hO : OutW B C gw v) (hr : VRow w w.heap.size p (ints zs)) (hx : zs.length = len) (hl : l.length + 200 * (len + 1) ≤ 1800000) :
    Calls Tryz.prog 37 #[.pointer (some ⟨gw, 0, none⟩), .pointer (some ⟨c, 0, none⟩), .slice p len cap, .int .i64 z] w (GenP w gw v l (200 * (len + 1)) (if rowB zs z then 0 else 1)) := by
  by_cases hb : rowB zs z = true
  · rw [if_pos hb]
    obtain ⟨d, n, rfl, rfl, h1, hn, hv⟩ := rowB_valid hb
    rw [zl_length] at hx
    refine (writeRow_any w B C c gw v l false p len cap d n hC hW hO hr hx hv h1 hn hl).mono ?_
    rintro e w' ⟨rfl, ht⟩
    exact ⟨rfl, _, by rw [← hx]; exact rowC_len hv hn, ht⟩
  · rw [if_neg hb]
    exact (writeRow_bad w _ _ p len cap zs z _ hr hx (by unfold maxLen; omega) (by simpa using hb)).mono fun e w' h => GenP.arg hW h
theorem writeAgainst_gen (w : World) (B C c gw : Nat) (v : Value) (l : List Bool) (p p2 : Option Addr) (len cap len2 cap2 : Nat) (zs ys : List Int) (z : Int) (hC : Cd w B C c) (hW : Ws w gw v l false) (hO : OutW B C gw v) (hr : VRow w w.heap.size p (ints zs)) (hx : zs.length = len) (hc : len ≤ cap) (hp : ∀ a, p = some a → 0 < len → ¬ Mine gw v a.block)
    (hr2 : VRow w w.heap.size p2 (ints ys)) (hy : ys.length = len2) (hc2 : len2 ≤ cap2) (hp2 : ∀ a, p2 = some a → 0 < len2 → ¬ Mine gw v a.block) (hll : len ≤ 1000) (hll2 : len2 ≤ 1000) (hl : l.length ≤ 800000) :
    Calls Tryz.prog 38 #[.pointer (some ⟨gw, 0, none⟩), .pointer (some ⟨c, 0, none⟩), .slice p len cap, .slice p2 len2 cap2, .int .i64 z] w (GenP w gw v l (407 * 2001) (if (rowB zs z && rowB ys z) then 0 else 1)) := by
  by_cases hb : (rowB zs z && rowB ys z) = true
  · rw [if_pos hb]
    rw [Bool.and_eq_true] at hb
    obtain ⟨d, n, rfl, rfl, h1, hn, hv⟩ := rowB_valid hb.1
    obtain ⟨d2, n2, rfl, hn2, h12, _, hv2⟩ := rowB_valid hb.2
    have : n2 = n := by omega
    subst this
    rw [zl_length] at hx hy
    have hal := against_len0 hv hv2 (T := 200) (fun b x hx => tellF_len b x (by omega))
    have := Nat.mul_le_mul_left (2 * 200 + 7) (show d.length + d2.length + 1 ≤ 2001 by omega)
    refine (writeAgainst_any w B C c gw v l false p len cap d p2 len2 cap2 d2 n2 hC hW hO hr hx (by omega) hc (by rw [hx]; exact hp) hv hr2 hy (by omega) hc2 (by rw [hy]; exact hp2) hv2 h1 hn (by omega)).mono ?_
    rintro e w' ⟨rfl, ht⟩
    exact ⟨rfl, _, by omega, ht⟩
  · rw [if_neg hb]
    exact (writeAgainst_bad w _ _ p p2 len cap len2 cap2 zs ys z _ _ hr hx (by unfold maxLen; omega) hr2 hy (by unfold maxLen; omega) (by simpa using hb)).mono fun e w' h => GenP.arg hW h
/-- reading of no bits -/
def NoneP (w : World) (gr : Nat) (er : Int) (e : Ending) (w' : World) : Prop := Only (· = gr) w w' ∧ ∃ q n c, e = .returned (.tuple #[.slice q n c, .int .i64 er])
theorem row_none (n : Nat) : rowE (readRowA [] n 0 [] false).2 = 2 := by
  rw [readRowA_eq [] n 0 [] false (Nat.le_refl _), lenA_eq false [] _ 0 0 (Nat.le_refl _)]
  rfl
theorem against_none (top : List Nat) (n : Nat) : rowE (readGA [] top n 0 0 [] false).2 = 2 := by
  rw [readGA_eq [] top n 0 0 [] false (Nat.le_refl _), if_neg (by omega)]
  rfl
theorem readRow_gen (w : World) (B C c gr : Nat) (p : Option Addr) (cap : Nat) (z : Int) (hC : Cd w B C c) (hO : Out B C gr) (hR : Rd w gr p cap [] 0 false) :
    Calls Tryz.prog 47 #[.pointer (some ⟨gr, 0, none⟩), .pointer (some ⟨c, 0, none⟩), .int .i64 z] w (NoneP w gr (if wideM z then 2 else 1)) := by
  by_cases hb : wideM z = true
  · rw [if_pos hb]
    have h0 := of_decide_eq_true hb
    obtain ⟨n, rfl⟩ : ∃ n : Nat, z = (n : Int) := ⟨z.toNat, by omega⟩
    refine (readRow_any w B C c gr p cap [] 0 false n hC hO hR (by omega) (by omega)).mono ?_
    rintro e w' ⟨_, ho, q, c2, rfl, _⟩
    refine ⟨ho, q, (rowL (readRowA (bitsOf false []) n 0 [] false).2).length, c2, ?_⟩
    rw [show bitsOf false [] = [] from rfl, row_none]
  · rw [if_neg hb]
    refine (readRow_bad w _ _ z (by simpa using hb)).mono ?_
    rintro e w' ⟨rfl, rfl⟩
    exact ⟨Only.refl _ _, none, 0, 0, rfl⟩
theorem readAgainst_gen (w : World) (B C c gr : Nat) (p : Option Addr) (cap : Nat) (p2 : Option Addr) (len2 cap2 : Nat) (ys : List Int) (z : Int) (hC : Cd w B C c) (hO : Out B C gr) (hR : Rd w gr p cap [] 0 false) (hr2 : VRow w w.heap.size p2 (ints ys)) (hy : ys.length = len2) (hl2 : len2 ≤ 1000) (hc2 : len2 ≤ cap2) (hp2 : ∀ a, p2 = some a → 0 < len2 → a.block ≠ gr) :
    Calls Tryz.prog 49 #[.pointer (some ⟨gr, 0, none⟩), .pointer (some ⟨c, 0, none⟩), .slice p2 len2 cap2, .int .i64 z] w (NoneP w gr (if rowB ys z then 2 else 1)) := by
  by_cases hb : rowB ys z = true
  · rw [if_pos hb]
    obtain ⟨d, n, rfl, rfl, h1, hn, hv⟩ := rowB_valid hb
    rw [zl_length] at hy
    refine (readAgainst_any w B C c gr p cap [] 0 false p2 len2 cap2 d n hC hO hR hr2 hy (by omega) hc2 (by rw [hy]; exact hp2) hv h1 hn).mono ?_
    rintro e w' ⟨_, ho, q, c2, rfl, _⟩
    refine ⟨ho, q, (rowL (readGA (bitsOf false []) d n 0 0 [] false).2).length, c2, ?_⟩
    rw [show bitsOf false [] = [] from rfl, against_none]
  · rw [if_neg hb]
    refine (readAgainst_bad w _ _ p2 len2 cap2 ys z _ hr2 hy (by unfold maxLen; omega) (by simpa using hb)).mono ?_
    rintro e w' ⟨rfl, rfl⟩
    exact ⟨Only.refl _ _, none, 0, 0, rfl⟩
end Go.Proofs.YtidicajedckaoaaGreatDoor.Mh

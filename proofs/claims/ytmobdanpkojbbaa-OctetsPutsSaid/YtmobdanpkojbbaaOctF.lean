/- The contract of octets.Window: a new row with the bytes at the place, or the error; nothing that was there is written. Condition: the slice's length is at most 2^47. -/
import Derived.Test.YtmobdanpkojbbaaOctB
import Derived.Laws.CopyOwn
import Derived.Laws.NewBlocks
namespace Go.Proofs.Ytmobdanpkojbbaa.Oct
open Go.RowKit
set_option linter.unusedVariables false

def cellsOf (xs : List UInt8) : List Value := xs.map fun x => .int .u8 (x.toNat : Int)
/-- block g is just these bytes, none of them frozen -/
def Blk (w : World) (g : Nat) (xs : List UInt8) : Prop := w.heap[g]? = some (.cells (cellsOf xs).toArray 5 (0, 0))

theorem Try.infoByte : (Try.prog.info? 5).map (fun i => (i.zero, i.size, i.bytes)) = some (some (.int .u8 0), 1, 1) := by kernel_rfl
theorem Try.sizeByte : (Try.prog.info? 5).map (fun i => i.size) = some 1 := by kernel_rfl

theorem Blk.lt {w : World} {g : Nat} {xs : List UInt8} (h : Blk w g xs) : g < w.heap.size := by
  rcases Nat.lt_or_ge g w.heap.size with hlt | hge
  · exact hlt
  · unfold Blk at h; rw [Array.getElem?_eq_none hge] at h; cases h
theorem Blk.row {w : World} {g : Nat} {xs : List UInt8} (h : Blk w g xs) : Row w (some ⟨g, 0, none⟩) xs := by
  intro hp
  refine ⟨g, 0, rfl, h.lt, fun i hi => ?_⟩
  unfold Blk at h
  simp [World.cell?, h, cellsOf, hi]
theorem Blk.below {w w' : World} {g B : Nat} {xs : List UInt8} (h : Blk w g xs) (hb : Below B w w') (hg : g < B) : Blk w' g xs := (hb.block g hg).trans h
theorem Row.below {w w' : World} {p : Option Addr} {xs : List UInt8} (h : Row w p xs) (hb : Below w.heap.size w w') : Row w' p xs := by
  intro hp
  obtain ⟨b, off, rfl, hlt, hc⟩ := h hp
  exact ⟨b, off, rfl, Nat.lt_of_lt_of_le hlt hb.size, fun i hi => (hb.cell (p := ⟨b, off + i, none⟩) hlt).trans (hc i hi)⟩
theorem cellsOf_get {xs : List UInt8} {j : Nat} {v : Value} (h : (cellsOf xs)[j]? = some v) : ∃ hj : j < xs.length, v = .int .u8 (xs[j].toNat : Int) := by
  unfold cellsOf at h
  rw [List.getElem?_map] at h
  rcases Nat.lt_or_ge j xs.length with hj | hj
  · rw [List.getElem?_eq_getElem hj] at h
    simp at h
    exact ⟨hj, h.symm⟩
  · rw [List.getElem?_eq_none hj] at h; simp at h
theorem cellsOf_one {xs : List UInt8} : ∀ v ∈ cellsOf xs, v.oneCell' = true := by
  intro v hv
  simp [cellsOf] at hv
  obtain ⟨x, _, rfl⟩ := hv
  rfl

def NewBytes (w : World) (xs : List UInt8) (er : Int) (e : Ending) (w' : World) : Prop :=
  Below w.heap.size w w' ∧ ((er = 0 ∧ e = .returned (.tuple #[.slice (some ⟨w.heap.size, 0, none⟩) xs.length xs.length, .int .i64 0]) ∧ Blk w' w.heap.size xs) ∨ (er ≠ 0 ∧ xs = [] ∧ e = .returned (.tuple #[.slice none 0 0, .int .i64 er])))

theorem window_cut (p : Option Addr) (len cap : Nat) (at_ n : Int) (w : World) (hl : len ≤ maxLen) (ha : 0 ≤ at_) (ha' : at_ ≤ 18446744073709551615) (hn : 0 ≤ n) (hn' : n ≤ 18446744073709551615)
    (hin : withinB len at_ n = false) :
    Calls Try.prog 13 #[.slice p len cap, .int .u64 at_, .int .u64 n] w fun e w' => e = .returned (.tuple #[.slice none 0 0, .int .i64 2]) ∧ w = w' := by
  go_enter Try.func13, Try.ntmps13
  go_wp2_with fail
  refine (within_any _ _ _ _ _ _ hl ha ha' hn hn').mono ?_
  rintro e w' ⟨rfl, rfl⟩
  rw [hin]
  go_wp2_with fail
  go_ret2
  exact ⟨rfl, rfl⟩

theorem blk_of_own {w : World} {B T n g : Nat} {xs : List Value} (h : w.ownsRow B T 1 (.slice (some ⟨g, 0, none⟩) n n) n xs) : w.heap[g]? = some (.cells xs.toArray T (0, 0)) := by
  rcases h.2 with ⟨hv, _⟩ | ⟨g', cap, cur, hv, _, hh, _, _, hs, ht⟩
  · cases hv
  · injection hv with e1 _ e3
    injection e1 with e1
    injection e1 with e1
    subst e1
    subst e3
    have e : cur = xs.toArray := by
      rw [← ht, List.take_of_length_le (by simp [hs])]
    rw [hh, e]
theorem add_plain (b off n : Nat) : (⟨b, off, none⟩ : Addr).add n = ⟨b, off + n, none⟩ := by unfold Addr.add; split <;> simp_all
theorem cellsOf_length (xs : List UInt8) : (cellsOf xs).length = xs.length := by simp [cellsOf]
theorem splice_all (L cs : List Value) (h : cs.length = L.length) : splice L 0 cs = cs := by simp [splice, h]

theorem window_in (b off len cap a n : Nat) (w : World) (ys : List UInt8) (hy : ys.length = n) (hl : len ≤ cap) (hcap : len ≤ 140737488355328) (hw : a + n ≤ len)
    (hp : Option Addr) (hpos : 0 < n → hp = some ⟨b, off, none⟩ ∧ ∀ i (h : i < ys.length), w.cell? ⟨b, off + (a + i), none⟩ = some (.int .u8 (ys[i].toNat : Int))) (hb : 0 < n → b < w.heap.size)
    (hin : withinB len (a : Int) (n : Int) = true) :
    Calls Try.prog 13 #[.slice hp len cap, .int .u64 (a : Int), .int .u64 (n : Int)] w
      fun e w' => Below w.heap.size w w' ∧ e = .returned (.tuple #[.slice (some ⟨w.heap.size, 0, none⟩) n n, .int .i64 0]) ∧ Blk w' w.heap.size ys := by
  obtain ⟨i0, hi, hz0, hz1, hz2⟩ := info_parts Try.infoByte
  have hm : len ≤ maxLen := by unfold maxLen; omega
  go_enter Try.func13, Try.ntmps13
  go_wp2_with fail
  refine (within_any _ _ _ _ _ _ hm (by omega) (by omega) (by omega) (by omega)).mono ?_
  rintro e w' ⟨rfl, rfl⟩
  rw [hin]
  have HP := Lib.hid hpos
  have HY := Lib.hid hy
  clear hin hpos hy
  go_wp2_with (at_make; refine wpList_make_full _ rfl _ _ 30 rfl w.heap.size 5 i0 (.int .u8 0) 1 Try.underlying30 hi hz0 hz1 .u64 .u64 (n : Int) (n : Int) n rfl rfl rfl rfl ?c2 ?c3 ?c4 ?_)
  case c2 => rw [hz2]; omega
  case c3 => unfold maxLen; omega
  case c4 => omega
  intro w1 hown hgrow
  have hg0 := blk_of_own hown
  have HG := Lib.hid hg0
  have hb1 : Below w.heap.size w w1 := (Below.refl _ _).grown hgrow (Nat.le_refl _) (fun k hk => by cases hk)
  have hlen : (madeCells #[Value.int IntKind.u8 0] n).toList.length = n := by simp [size_madeCells]
  have HL := Lib.hid hlen
  clear hown hgrow hg0 hlen
  generalize (madeCells #[Value.int IntKind.u8 0] n).toList = cur at HG HL
  go_wp2_with (with_reducible refine wpList_copy_splice rfl (.tmp 16) (.tmp 19) 30 30 rfl 5 Try.underlying30 Try.sizeByte _ _ _ _ _ _ rfl rfl w.heap.size 0 cur 5 HG.out (cellsOf ys) ?d1 ?d2 ?d3 cellsOf_one w.heap.size w hb1 (Nat.le_refl _) ?_)
  case d1 => rw [cellsOf_length, HY.out]; exact (Nat.min_eq_right (by omega)).symm
  case d2.inl =>
    intro h0
    rw [cellsOf_length, HY.out] at h0
    omega
  case d2.inr =>
    intro h0
    rw [cellsOf_length, HY.out] at h0
    obtain ⟨e, hc⟩ := HP.out h0
    refine ⟨_, ⟨_, e, rfl⟩, fun j v hj => ?_⟩
    obtain ⟨hj', rfl⟩ := cellsOf_get hj
    rw [add_plain, add_plain, hb1.cell (by exact hb h0), Nat.add_assoc]
    exact hc j hj'
  case d3 => rw [cellsOf_length, HY.out, HL.out]; omega
  all_goals
    intro w2 HG2 hB2
    go_wp2_with fail
    go_ret2
    refine ⟨hB2, rfl, ?_⟩
    have := HG2.out
    rwa [splice_all _ _ (by rw [cellsOf_length, HY.out, HL.out])] at this
theorem window_any (p : Option Addr) (len cap : Nat) (at_ n : Int) (xs : List UInt8) (w : World) (hr : Row w p xs) (hx : xs.length = len) (hl : len ≤ cap) (hcap : len ≤ 140737488355328)
    (ha : 0 ≤ at_) (ha' : at_ ≤ 18446744073709551615) (hn : 0 ≤ n) (hn' : n ≤ 18446744073709551615) :
    Calls Try.prog 13 #[.slice p len cap, .int .u64 at_, .int .u64 n] w (NewBytes w (winV xs at_ n) (winE xs at_ n)) := by
  have hm : len ≤ maxLen := by unfold maxLen; omega
  by_cases hin : withinB len at_ n = true
  · obtain ⟨a, rfl⟩ : ∃ a : Nat, at_ = (a : Int) := ⟨at_.toNat, by omega⟩
    obtain ⟨k, rfl⟩ : ∃ a : Nat, n = (a : Int) := ⟨n.toNat, by omega⟩
    have hw : a + k ≤ len := by have := of_decide_eq_true hin; omega
    have e1 : winV xs (a : Int) (k : Int) = (xs.drop a).take k := by unfold winV; rw [hx, hin]; simp
    have e2 : winE xs (a : Int) (k : Int) = 0 := by unfold winE; rw [hx, hin]; simp
    rw [e1, e2]
    have hlen : ((xs.drop a).take k).length = k := by simp; omega
    by_cases h0 : 0 < xs.length
    · obtain ⟨b, off, rfl, hb, hc⟩ := hr h0
      refine (window_in b off len cap a k w _ hlen hl hcap hw _ (fun _ => ⟨rfl, fun i h => ?_⟩) (fun _ => hb) hin).mono fun e w' ⟨h1, h2, h3⟩ => ⟨h1, .inl ⟨rfl, by rw [hlen]; exact h2, h3⟩⟩
      have h' : a + i < xs.length := by simp at h; omega
      rw [hc (a + i) h']
      simp
    · have hk : k = 0 := by omega
      subst hk
      exact (window_in 0 0 len cap a 0 w _ hlen hl hcap hw p (fun h => by omega) (fun h => by omega) hin).mono fun e w' ⟨h1, h2, h3⟩ => ⟨h1, .inl ⟨rfl, by rw [hlen]; exact h2, h3⟩⟩
  · have hin' : withinB len at_ n = false := by simpa using hin
    have e1 : winV xs at_ n = [] := by unfold winV; rw [hx, hin']; simp
    have e2 : winE xs at_ n = 2 := by unfold winE; rw [hx, hin']; simp
    rw [e1, e2]
    exact (window_cut p len cap at_ n w hm ha ha' hn hn' hin').mono fun e w' ⟨h1, h2⟩ => ⟨by subst h2; exact Below.refl _ _, .inr ⟨by decide, rfl, h1⟩⟩
end Go.Proofs.Ytmobdanpkojbbaa.Oct


/- symbols: a pack of each thing that comes. -/
import Derived.Test.YtefniglinligeaaLpD
namespace Go.Proofs.Ytefniglinligeaa.Lp
open Go.RowKit Go.Proofs.Ytefniglinligeaa.Oct Go.Proofs.Ytefniglinligeaa.Lm
set_option linter.unusedVariables false
set_option linter.unusedSimpArgs false
set_option maxRecDepth 100000

/-- the packs of the things up to a place -/
def syms (zs : List Int) : Nat → List Pk
  | 0 => []
  | k + 1 => syms zs k ++ if 0 < zs.getD k 0 then [⟨zs.getD k 0, (k : Int), none, 0, 0⟩] else []
theorem syms_le (zs : List Int) (k : Nat) : (syms zs k).length ≤ k := by
  induction k with
  | zero => simp [syms]
  | succ k ih => simp only [syms, List.length_append]; split <;> simp <;> omega
def SymP (w : World) (zs : List Int) (e : Ending) (w' : World) : Prop := ∃ v, e = .returned v ∧ POwn w' w.heap.size v (syms zs zs.length) ∧ Below w.heap.size w w'
theorem pv_new (w : World) (x : Pk) : PV (w.alloc (.cells #[.int .i64 x.wt, .int .i64 x.sym, .slice x.ptr x.len x.cap] 39)) (w.alloc (.cells #[.int .i64 x.wt, .int .i64 x.sym, .slice x.ptr x.len x.cap] 39)).heap.size (some ⟨w.heap.size, 0, none⟩) [x] := by
  intro _
  refine ⟨w.heap.size, rfl, by simp, ?_⟩
  intro i hi
  have hi0 : i = 0 := by simp at hi; omega
  subst hi0
  have h := heap_alloc_last w (.cells #[.int .i64 x.wt, .int .i64 x.sym, .slice x.ptr x.len x.cap] 39)
  exact ⟨by unfold World.cell?; dsimp only; rw [h]; rfl, by unfold World.cell?; dsimp only; rw [h]; rfl, by unfold World.cell?; dsimp only; rw [h]; rfl⟩
set_option maxHeartbeats 4000000 in
theorem symbols_any (p : Option Addr) (len cap : Nat) (zs : List Int) (w : World) (hr : VRow w w.heap.size p (ints zs)) (hx : zs.length = len) (hl : len ≤ 100000) : Calls Try.prog 15 #[.slice p len cap] w (SymP w zs) := by
  have HR := Lib.hid hr
  have HX := Lib.hid hx
  have H00 : Hid (POwn w w.heap.size (.slice none 0 0) [] ∧ Below w.heap.size w w) := ⟨⟨rfl, .inl ⟨rfl, rfl⟩⟩, Below.refl _ _⟩
  clear hr hx
  go_enter Try.func15, Try.ntmps15
  go_wp2
  go_loopg [3, 8] len (fun kx s3 s8 wr => ∃ (k : Nat), s8 = .int .i64 (k : Int) ∧ k ≤ len ∧ len - k ≤ kx ∧ Hid (POwn wr w.heap.size s3 (syms zs k) ∧ Below w.heap.size w wr))
  case atStart => exact ⟨0, rfl, by omega, by omega, H00⟩
  case round =>
    obtain ⟨k, rfl, hk, hkx, H⟩ := hrel
    by_cases hlt : k < len
    · have hkz : (k : Int) < (len : Int) := by omega
      have hk0 : (0 : Int) ≤ (k : Int) := by omega
      have hkl : k < zs.length := by rw [HX.out]; exact hlt
      obtain ⟨b, off, hp, hbl⟩ := HR.out.addr (by rw [ints_length]; omega)
      subst hp
      have hc := (H.out.2.cell (p := ⟨b, off + k, none⟩) hbl).trans (HR.out.int k hkl)
      have hg : zs.getD k 0 = zs[k] := by rw [List.getD_eq_getElem?_getD, List.getElem?_eq_getElem hkl]; rfl
      have hS : syms zs (k + 1) = syms zs k ++ if 0 < zs[k] then [⟨zs[k], (k : Int), none, 0, 0⟩] else [] := by simp only [syms]; rw [hg]
      have HS := Lib.hid hS
      generalize zs[k] = z at hc HS
      clear hg hS
      by_cases hz : 0 < z
      · have HS2 : Hid (syms zs (k + 1) = syms zs k ++ [⟨z, (k : Int), none, 0, 0⟩]) := by have := HS.out; rw [if_pos hz] at this; exact this
        have hle := syms_le zs k
        go_wp2_with (at_builtin; refine wpList_append_packs rfl _ _ rfl w.heap.size _ (syms zs k) rfl (H.out.1.below ((Below.refl _ _).alloc (Nat.le_refl _) _)) _ 1 1 [⟨z, (k : Int), none, 0, 0⟩] rfl (pv_new _ ⟨z, (k : Int), none, 0, 0⟩) rfl (fun h => by cases h) (by omega) (by have := H.out.2.size; simp; omega) ?_; intro v2 w2 ho2 hb2)
        have HN : Hid (POwn w2 w.heap.size v2 (syms zs (k + 1)) ∧ Below w.heap.size w w2) := by rw [HS2.out]; exact ⟨ho2, (H.out.2.alloc (Nat.le_trans (Nat.le_refl _) H.out.2.size) _).trans hb2⟩
        clear ho2 hb2
        go_roundg (len - (k + 1))
        case measure => omega
        case rel => exact ⟨k + 1, by go_num, by omega, Nat.le_refl _, HN⟩
      · have HS2 : Hid (syms zs (k + 1) = syms zs k) := by have := HS.out; rw [if_neg hz, List.append_nil] at this; exact this
        go_wp2
        have HN : Hid (POwn wr w.heap.size u3 (syms zs (k + 1)) ∧ Below w.heap.size w wr) := by rw [HS2.out]; exact H
        go_roundg (len - (k + 1))
        case measure => omega
        case rel => exact ⟨k + 1, by go_num, by omega, Nat.le_refl _, HN⟩
    · have hkz : ¬ (k : Int) < (len : Int) := by omega
      have hk : k = len := by omega
      subst hk
      go_wp2
      go_ret
      have h2 := HX.out
      have h3 := H.out
      rw [← h2] at h3
      exact ⟨_, rfl, h3⟩
end Go.Proofs.Ytefniglinligeaa.Lp

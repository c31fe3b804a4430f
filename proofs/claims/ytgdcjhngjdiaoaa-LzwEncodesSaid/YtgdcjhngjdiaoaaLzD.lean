
/- A decoder in memory; the contracts of codes, reset, add. -/
import Derived.Test.YtgdcjhngjdiaoaaLzW
import Derived.Test.YtgdcjhngjdiaoaaBitY
namespace Go.Proofs.Ytgdcjhngjdiaoaa.Lz
open Go.RowKit Go.Proofs.Ytgdcjhngjdiaoaa.Oct Go.Proofs.Ytgdcjhngjdiaoaa.Bit
set_option linter.unusedVariables false

/-- a decoder in memory: its bytes a row of its own, its table a map of its own -/
structure Dc (w : World) (d m : Nat) (v : Value) (out : List UInt8) (sp : List (Nat × Nat)) (la ll : Nat) : Prop where
  blk : w.heap[d]? = some (.cells #[v, .map (some m), .int .i64 (la : Int), .int .i64 (ll : Int)] 68 (0, 0))
  own : w.ownsRow 0 5 1 v out.length (cellsOf out)
  tbl : MapS w m sp
  vd : v.ownBlock ≠ some d
  vm : v.ownBlock ≠ some m
  md : m ≠ d
section
variable {w w' : World} {d m : Nat} {v : Value} {out : List UInt8} {sp : List (Nat × Nat)} {la ll : Nat}
theorem Dc.c0 (h : Dc w d m v out sp la ll) : w.cell? ⟨d, 0, none⟩ = some v := by simp [World.cell?, h.blk]
theorem Dc.c1 (h : Dc w d m v out sp la ll) : w.cell? ⟨d, 1, none⟩ = some (.map (some m)) := by simp [World.cell?, h.blk]
theorem Dc.c2 (h : Dc w d m v out sp la ll) : w.cell? ⟨d, 2, none⟩ = some (.int .i64 (la : Int)) := by simp [World.cell?, h.blk]
theorem Dc.c3 (h : Dc w d m v out sp la ll) : w.cell? ⟨d, 3, none⟩ = some (.int .i64 (ll : Int)) := by simp [World.cell?, h.blk]
theorem Dc.fz (h : Dc w d m v out sp la ll) (i : Nat) : w.frozen? ⟨d, i, none⟩ = false := by simp [World.frozen?, h.blk]
theorem Dc.lt (h : Dc w d m v out sp la ll) : d < w.heap.size := by
  rcases Nat.lt_or_ge d w.heap.size with hlt | hge
  · exact hlt
  · have := h.blk; rw [Array.getElem?_eq_none hge] at this; cases this
theorem Dc.only {S : Nat → Prop} (h : Dc w d m v out sp la ll) (ho : Only S w w') (hd : ¬ S d) (hm : ¬ S m) (hv : ∀ k, v.ownBlock = some k → ¬ S k) : Dc w' d m v out sp la ll :=
  ⟨(ho.2.2.2.2 d h.lt hd).trans h.blk, own_only h.own ho hv, h.tbl.only ho hm, h.vd, h.vm, h.md⟩
theorem Dc.drawn (h : Dc w d m v out sp la ll) (hd : Drawn w w') : Dc w' d m v out sp la ll := by
  obtain ⟨n, rfl⟩ := hd
  exact ⟨h.blk, h.own, h.tbl, h.vd, h.vm, h.md⟩
theorem Dc.form (h : Dc w d m v out sp la ll) : ∃ p cap, v = .slice p out.length cap ∧ out.length ≤ cap ∧ cap ≤ maxLen ∧ (p = none → cap = 0) ∧ Row w p out := by
  by_cases hv : v = .slice none 0 0
  · rcases h.own.2 with ⟨_, h0⟩ | ⟨r, cap, cur, he, _⟩
    · have : out = [] := List.eq_nil_of_length_eq_zero h0
      subst this
      exact ⟨none, 0, hv, by simp, by simp [maxLen], fun _ => rfl, fun h => absurd h (by simp)⟩
    · rw [hv] at he; cases he
  · obtain ⟨r, cap, rfl, h1, h2, _, h4, h5⟩ := own_form h.own hv
    exact ⟨_, cap, rfl, h1, h2, (fun e => by cases e), h5⟩
theorem Dc.last (h : Dc w d m v out sp la ll) (a l : Nat) : Dc ((w.setCell ⟨d, 2, none⟩ (.int .i64 (a : Int))).setCell ⟨d, 3, none⟩ (.int .i64 (l : Int))) d m v out sp a l := by
  have ho : Only (· = d) w ((w.setCell ⟨d, 2, none⟩ (.int .i64 (a : Int))).setCell ⟨d, 3, none⟩ (.int .i64 (l : Int))) :=
    (Only.setCell (S := (· = d)) (p := ⟨d, 2, none⟩) (by rfl) _).trans (Only.setCell (S := (· = d)) (p := ⟨d, 3, none⟩) (by rfl) _)
  refine ⟨?_, own_only h.own ho (fun k hk e => h.vd (by rw [hk, e])), h.tbl.only ho h.md, h.vd, h.vm, h.md⟩
  have := h.blk
  simp [World.setCell, Array.getElem?_modify, this]
theorem Dc.table (h : Dc w d m v out sp la ll) (ho : Only (· = m) w w') {sp' : List (Nat × Nat)} (ht : MapS w' m sp') : Dc w' d m v out sp' la ll :=
  ⟨(ho.2.2.2.2 d h.lt (fun e => h.md e.symm)).trans h.blk, own_only h.own ho (fun k hk e => h.vm (by rw [hk, e])), ht, h.vd, h.vm, h.md⟩
end
/-- which blocks a call on a decoder may turn -/
def MineD (d m : Nat) (v : Value) (k : Nat) : Prop := k = d ∨ k = m ∨ v.ownBlock = some k
/-- a decoder behind calls on it: but for its own blocks nothing has turned -/
def DcT (w : World) (d m : Nat) (v : Value) (out : List UInt8) (sp : List (Nat × Nat)) (la ll : Nat) (w' : World) : Prop :=
  ∃ v', Dc w' d m v' out sp la ll ∧ Only (MineD d m v) w w' ∧ ∀ k, v'.ownBlock = some k → v.ownBlock = some k ∨ w.heap.size ≤ k
theorem DcT.more {w w1 w2 : World} {d m : Nat} {v v1 : Value} {out : List UInt8} {sp : List (Nat × Nat)} {la ll : Nat} (ho : Only (MineD d m v) w w1) (hd : ∀ k, v1.ownBlock = some k → v.ownBlock = some k ∨ w.heap.size ≤ k)
    (h : DcT w1 d m v1 out sp la ll w2) : DcT w d m v out sp la ll w2 := by
  obtain ⟨v2, hW, ho2, hd2⟩ := h
  have hz := ho.2.2.2.1
  refine ⟨v2, hW, ⟨ho2.1.trans ho.1, ho2.2.1.trans ho.2.1, ho2.2.2.1.trans ho.2.2.1, Nat.le_trans hz ho2.2.2.2.1, fun k hk hn => ?_⟩, fun k hk => ?_⟩
  · refine (ho2.2.2.2.2 k (by omega) (fun hm => hn ?_)).trans (ho.2.2.2.2 k hk hn)
    rcases hm with h | h | h
    · exact .inl h
    · exact .inr (.inl h)
    · rcases hd k h with h | h
      · exact .inr (.inr h)
      · omega
  · rcases hd2 k hk with h | h
    · exact hd k h
    · exact .inr (by omega)
theorem codes_any (w : World) (d m : Nat) (v : Value) (out : List UInt8) (sp : List (Nat × Nat)) (la ll : Nat) (h : Dc w d m v out sp la ll) (hs : sp.length ≤ 10000) :
    Calls Try.prog 34 #[.pointer (some ⟨d, 0, none⟩)] w fun e w' => e = .returned (.int .i64 ((258 + sp.length : Nat) : Int)) ∧ w = w' := by
  have c1 := h.c1
  have hl := fun ty => h.tbl.len ty
  have e : ((258 + sp.length : Nat) : Int) = 258 + (sp.length : Int) := by omega
  rw [e]
  clear h e
  go_enter Try.func34, Try.ntmps34
  go_wp2_with fail
  go_ret
  exact ⟨rfl, rfl⟩
theorem reset_any (w : World) (d m : Nat) (v : Value) (out : List UInt8) (sp : List (Nat × Nat)) (la ll : Nat) (h : Dc w d m v out sp la ll) :
    Calls Try.prog 35 #[.pointer (some ⟨d, 0, none⟩)] w fun e w' => e = .returned (.tuple #[]) ∧ DcT w d m v out [] 0 0 w' := by
  have c1 := h.c1
  obtain ⟨w1, hcl, hm, ho, hz⟩ : ∃ w1, (∀ ty, (Builtin.clear_ #[64] ty #[.map (some m)]).run Try.prog w = .ok (.tuple #[]) w1) ∧ MapS w1 m [] ∧ Only (· = m) w w1 ∧ w1.heap.size = w.heap.size := by
    obtain ⟨w1, h1, h2, h3, h4⟩ := h.tbl.clear_ 0
    exact ⟨w1, fun ty => h1, h2, h3, h4⟩
  have hb : w1.heap[d]? = some (.cells #[v, .map (some m), .int .i64 (la : Int), .int .i64 (ll : Int)] 68 (0, 0)) := (ho.2.2.2.2 d h.lt (fun e => h.md e.symm)).trans h.blk
  have f2 : w1.frozen? ⟨d, 2, none⟩ = false := by simp [World.frozen?, hb]
  have f3 : w1.frozen? ⟨d, 3, none⟩ = false := by simp [World.frozen?, hb]
  have k2 : w1.cell? ⟨d, 2, none⟩ = some (.int .i64 (la : Int)) := by simp [World.cell?, hb]
  have k3 : w1.cell? ⟨d, 3, none⟩ = some (.int .i64 (ll : Int)) := by simp [World.cell?, hb]
  have H := Lib.hid h
  have HM := Lib.hid hm
  have HO := Lib.hid ho
  have HB := Lib.hid hb
  have HZ := Lib.hid hz
  clear h hm ho hb hz
  go_enter Try.func35, Try.ntmps35
  go_wp2_with fail
  go_end0
  have h1 := H.out.table HO.out HM.out
  refine ⟨rfl, v, h1.last 0 0, ?_, fun k hk => .inl hk⟩
  exact ((HO.out.mono (fun k _ e => .inr (.inl e))).trans (Only.setCell (p := ⟨d, 2, none⟩) (.inl rfl) _)).trans (Only.setCell (p := ⟨d, 3, none⟩) (.inl rfl) _)
end Go.Proofs.Ytgdcjhngjdiaoaa.Lz

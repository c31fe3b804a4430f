
/- A finder in memory; the contracts of mark, last, enter, equals. -/
import Derived.Test.YtboknaakcbjkiaaLtB
import Derived.BigQuiet
import Derived.RegionTactic
import Derived.BigRegion
import Derived.Lib.MinMax
import Derived.LoopTactic
namespace Go.Proofs.Ytboknaakcbjkiaa.Lzt
open Go.RowKit Go.Proofs.Ytboknaakcbjkiaa.Oct
set_option linter.unusedVariables false
set_option linter.unusedSimpArgs false
set_option maxRecDepth 100000

/-- what of a finder never turns: its bytes, where they lie, where it and its two rows lie, how many bits a mark has; what is below C is not its own -/
structure Fdr where
  xs : List UInt8
  p : Option Addr
  cap : Nat
  C : Nat
  d : Nat
  g : Nat
  h : Nat
  m : Nat
/-- a place that is too far, or one that came -/
def PlaceOk (z : Int) (a : Nat) : Prop := z = -32769 ∨ (0 ≤ z ∧ z < (a : Int))
structure Fi (w : World) (K : Fdr) (a : Nat) : Prop where
  blk : w.heap[K.d]? = some (.cells #[.slice K.p K.xs.length K.cap, .int .i64 (K.m : Int), .slice (some ⟨K.g, 0, none⟩) (2 ^ K.m) (2 ^ K.m), .slice (some ⟨K.h, 0, none⟩) K.xs.length K.xs.length] 48 (0, 0))
  row : 0 < K.xs.length → ∃ b off, K.p = some ⟨b, off, none⟩ ∧ b < K.C ∧ ∀ i (h : i < K.xs.length), w.cell? ⟨b, off + i, none⟩ = some (.int .u8 (K.xs[i].toNat : Int))
  lat : ∀ j, j < 2 ^ K.m → (∃ z, w.cell? ⟨K.g, j, none⟩ = some (.int .i64 z) ∧ PlaceOk z a) ∧ w.frozen? ⟨K.g, j, none⟩ = false
  bef : ∀ j, j < K.xs.length → (∃ z, w.cell? ⟨K.h, j, none⟩ = some (.int .i64 z) ∧ PlaceOk z (max a 1)) ∧ w.frozen? ⟨K.h, j, none⟩ = false
  gd : K.g ≠ K.d
  hd : K.h ≠ K.d
  gh : K.g ≠ K.h
  Cd : K.C ≤ K.d
  Cg : K.C ≤ K.g
  Ch : K.C ≤ K.h
  m15 : K.m ≤ 15
  n2 : K.xs.length ≤ 2000
  cap : K.xs.length ≤ K.cap ∧ K.cap ≤ maxLen
def MineF (K : Fdr) (k : Nat) : Prop := k = K.d ∨ k = K.g ∨ k = K.h
section
variable {w w' : World} {K : Fdr} {a : Nat}
theorem frozen_of {w w' : World} {p : Addr} (h : w'.heap[p.block]? = w.heap[p.block]?) : w'.frozen? p = w.frozen? p := by simp [World.frozen?, h]
theorem Fi.c0 (h : Fi w K a) : w.cell? ⟨K.d, 0, none⟩ = some (.slice K.p K.xs.length K.cap) := by simp [World.cell?, h.blk]
theorem Fi.c1 (h : Fi w K a) : w.cell? ⟨K.d, 1, none⟩ = some (.int .i64 (K.m : Int)) := by simp [World.cell?, h.blk]
theorem Fi.c2 (h : Fi w K a) : w.cell? ⟨K.d, 2, none⟩ = some (.slice (some ⟨K.g, 0, none⟩) (2 ^ K.m) (2 ^ K.m)) := by simp [World.cell?, h.blk]
theorem Fi.c3 (h : Fi w K a) : w.cell? ⟨K.d, 3, none⟩ = some (.slice (some ⟨K.h, 0, none⟩) K.xs.length K.xs.length) := by simp [World.cell?, h.blk]
theorem Fi.dlt (h : Fi w K a) : K.d < w.heap.size := by
  rcases Nat.lt_or_ge K.d w.heap.size with hlt | hge
  · exact hlt
  · have := h.blk; rw [Array.getElem?_eq_none hge] at this; cases this
theorem Fi.only {S : Nat → Prop} (h : Fi w K a) (ho : Only S w w') (hd : ¬ S K.d) (hg : ¬ S K.g) (hh : ¬ S K.h) (hC : ∀ k, k < K.C → ¬ S k) : Fi w' K a := by
  refine ⟨(ho.2.2.2.2 _ h.dlt hd).trans h.blk, fun hp => ?_, fun j hj => ?_, fun j hj => ?_, h.gd, h.hd, h.gh, h.Cd, h.Cg, h.Ch, h.m15, h.n2, h.cap⟩
  · obtain ⟨b, off, e, hlt, hc⟩ := h.row hp
    exact ⟨b, off, e, hlt, fun i hi => (World.cell?_of_block (ho.2.2.2.2 b (lt_of_cell (hc i hi)) (hC b hlt))).trans (hc i hi)⟩
  · obtain ⟨⟨z, hz, hp⟩, hf⟩ := h.lat j hj
    have hb := ho.2.2.2.2 K.g (lt_of_cell hz) hg
    exact ⟨⟨z, (World.cell?_of_block hb).trans hz, hp⟩, (frozen_of hb).trans hf⟩
  · obtain ⟨⟨z, hz, hp⟩, hf⟩ := h.bef j hj
    have hb := ho.2.2.2.2 K.h (lt_of_cell hz) hh
    exact ⟨⟨z, (World.cell?_of_block hb).trans hz, hp⟩, (frozen_of hb).trans hf⟩
theorem Fi.drawn (h : Fi w K a) (hd : Drawn w w') : Fi w' K a :=
  h.only (S := fun _ => False) (Only.drawn _ hd) (fun e => e) (fun e => e) (fun e => e) (fun _ _ e => e)
theorem Fi.below (h : Fi w K a) (hb : Below w.heap.size w w') : Fi w' K a :=
  h.only (S := fun _ => False) (Only.of_below hb) (fun e => e) (fun e => e) (fun e => e) (fun _ _ e => e)
end
/-- the mark of three bytes -/
def markZ (x0 x1 x2 : UInt8) (m : Nat) : Int := bits BinOp.or IntKind.u32 (bits BinOp.or IntKind.u32 (x0.toNat : Int) ((x1.toNat : Int) * 256)) ((x2.toNat : Int) * 65536) * 2654435761 % 4294967296 / 2 ^ (32 - m)
theorem shr_lt (Y : Int) (m : Nat) (h0 : 0 ≤ Y) (h1 : Y < 4294967296) (hm : m ≤ 15) : 0 ≤ Y / 2 ^ (32 - m) ∧ Y / 2 ^ (32 - m) < ((2 ^ m : Nat) : Int) := by
  obtain ⟨y, rfl⟩ : ∃ y : Nat, Y = (y : Int) := ⟨Y.toNat, by omega⟩
  have e : (y : Int) / 2 ^ (32 - m) = ((y / 2 ^ (32 - m) : Nat) : Int) := by push_cast; rfl
  rw [e]
  have h2 : y < 2 ^ (32 - m) * 2 ^ m := by rw [← Nat.pow_add, show 32 - m + m = 32 by omega]; omega
  have h3 := Nat.div_lt_of_lt_mul h2
  exact ⟨Int.natCast_nonneg _, Int.ofNat_lt.2 h3⟩
theorem markZ_lt (x0 x1 x2 : UInt8) (m : Nat) (hm : m ≤ 15) : 0 ≤ markZ x0 x1 x2 m ∧ markZ x0 x1 x2 m < ((2 ^ m : Nat) : Int) :=
  shr_lt _ m (Int.emod_nonneg _ (by decide)) (Int.emod_lt_of_pos _ (by decide)) hm
def markK (K : Fdr) (i : Nat) : Nat := (markZ (K.xs.getD i 0) (K.xs.getD (i + 1) 0) (K.xs.getD (i + 2) 0) K.m).toNat
theorem markK_lt (K : Fdr) (i : Nat) (hm : K.m ≤ 15) : markK K i < 2 ^ K.m := by
  have h := markZ_lt (K.xs.getD i 0) (K.xs.getD (i + 1) 0) (K.xs.getD (i + 2) 0) K.m hm
  unfold markK
  omega
theorem getD_at {xs : List UInt8} {i : Nat} (h : i < xs.length) : xs.getD i 0 = xs[i] := by
  rw [List.getD_eq_getElem?_getD, List.getElem?_eq_getElem h]
  rfl
theorem mark_any (K : Fdr) (a : Nat) (at_ : Nat) (w : World) (hF : Fi w K a) (h3 : at_ + 3 ≤ K.xs.length) :
    Calls Try.prog 20 #[.pointer (some ⟨K.d, 0, none⟩), .int .i64 (at_ : Int)] w fun e w' => e = .returned (.int .u32 (markK K at_ : Int)) ∧ Drawn w w' := by
  have c0 := hF.c0
  have c1 := hF.c1
  obtain ⟨b, off, hp, hlt, hc⟩ := hF.row (by omega)
  have n2 := hF.n2
  have m15 := hF.m15
  rw [hp] at c0
  have d0 := hc at_ (by omega)
  have d1 := hc (at_ + 1) (by omega)
  have d2 := hc (at_ + 2) (by omega)
  have hmk : ((markK K at_ : Nat) : Int) = markZ K.xs[at_] K.xs[at_ + 1] K.xs[at_ + 2] K.m := by
    have h := markZ_lt (K.xs.getD at_ 0) (K.xs.getD (at_ + 1) 0) (K.xs.getD (at_ + 2) 0) K.m m15
    rw [← getD_at (show at_ < K.xs.length by omega), ← getD_at (show at_ + 1 < K.xs.length by omega), ← getD_at (show at_ + 2 < K.xs.length by omega)]
    unfold markK
    omega
  rw [hmk]
  generalize K.xs[at_]'(by omega) = x0 at d0 ⊢
  generalize K.xs[at_ + 1]'(by omega) = x1 at d1 ⊢
  generalize K.xs[at_ + 2]'(by omega) = x2 at d2 ⊢
  obtain ⟨n, hn⟩ : ∃ n, n = K.xs.length := ⟨_, rfl⟩
  obtain ⟨m, hm⟩ : ∃ m, m = K.m := ⟨_, rfl⟩
  rw [← hn] at c0 h3 n2
  rw [← hm] at c1 m15 ⊢
  have y0 := x0.toNat_lt
  have y1 := x1.toNat_lt
  have y2 := x2.toNat_lt
  clear hc hF hlt hp hn hm hmk
  have i0 : (0 : Int) ≤ (at_ : Int) := by omega
  have i1 : (at_ : Int) < (n : Int) := by omega
  have i2 : (at_ : Int) + 1 < (n : Int) := by omega
  have i3 : (at_ : Int) + 2 < (n : Int) := by omega
  have i4 : ((at_ + 1 : Nat) : Int) < (n : Int) := by omega
  have i5 : ((at_ + 2 : Nat) : Int) < (n : Int) := by omega
  unfold markZ
  obtain ⟨Z, hZ⟩ : ∃ Z, bits BinOp.or IntKind.u32 (bits BinOp.or IntKind.u32 (x0.toNat : Int) ((x1.toNat : Int) * 256)) ((x2.toNat : Int) * 65536) = Z := ⟨_, rfl⟩
  rw [hZ]
  have HZ := Lib.hid hZ
  clear hZ
  go_enter Try.func20, Try.ntmps20
  go_wp2_with fail
  go_quiet (fail)
  rw [HZ.out]
  have j1 : (0 : Int) ≤ 32 - (m : Int) := by omega
  have j2 : ((32 : Int) - (m : Int)).toNat = 32 - m := by omega
  go_wp2_with fail
  go_ret
  exact ⟨rfl, _, rfl⟩
theorem last_any (K : Fdr) (a : Nat) (at_ : Nat) (w : World) (hF : Fi w K a) (h3 : at_ ≤ K.xs.length) :
    Calls Try.prog 18 #[.pointer (some ⟨K.d, 0, none⟩), .int .i64 (at_ : Int)] w fun e w' => (∃ z : Int, PlaceOk z a ∧ e = .returned (.int .i64 z)) ∧ Drawn w w' := by
  have c0 := hF.c0
  have c2 := hF.c2
  have n2 := hF.n2
  have m15 := hF.m15
  obtain ⟨n, hn⟩ : ∃ n, n = K.xs.length := ⟨_, rfl⟩
  rw [← hn] at c0 h3 n2
  by_cases hlt : n < at_ + 3
  · have q : decide ((n : Int) - (at_ : Int) < 3) = true := by rw [decide_eq_true_eq]; omega
    clear hF c2 hn
    go_enter Try.func18, Try.ntmps18
    go_wp2_with fail
    go_ret
    exact ⟨⟨-32769, .inl rfl, rfl⟩, 0, rfl⟩
  · have q : decide ((n : Int) - (at_ : Int) < 3) = false := by rw [decide_eq_false_iff_not]; omega
    have hk := markK_lt K at_ m15
    have HM : Hid (∀ N, Calls Try.prog 20 #[.pointer (some ⟨K.d, 0, none⟩), .int .i64 (at_ : Int)] (w.drewN N) fun e w' => e = .returned (.int .u32 (markK K at_ : Int)) ∧ ∃ M, w' = w.drewN M) :=
      Lib.hid fun N => (mark_any K a at_ (w.drewN N) (hF.drawn ⟨N, rfl⟩) (by rw [← hn]; omega)).mono fun e w' ⟨h, M, hM⟩ => ⟨h, N + M, by rw [hM, World.drewN_drewN]⟩
    obtain ⟨⟨z, hz, hp⟩, _⟩ := hF.lat _ hk
    obtain ⟨L, hL⟩ : ∃ L, L = 2 ^ K.m := ⟨_, rfl⟩
    rw [← hL] at hk c2
    obtain ⟨k, hkk⟩ : ∃ k, k = markK K at_ := ⟨_, rfl⟩
    rw [← hkk] at hk hz HM
    have HP := Lib.hid hp
    have i0 : (0 : Int) ≤ (k : Int) := by omega
    have i1 : (k : Int) < (L : Int) := by omega
    clear hF hn hL hkk hp
    go_enter Try.func18, Try.ntmps18
    go_wp2_with fail
    go_quiet ((go_at_call 20; exact HM.out _))
    go_wp2_with fail
    go_ret
    exact ⟨⟨z, HP.out, rfl⟩, _, rfl⟩
end Go.Proofs.Ytboknaakcbjkiaa.Lzt


/- Turning two neighbouring stretches about, in memory. -/
import Derived.Test.YtefniglinligeaaSmA
namespace Go.Proofs.Ytefniglinligeaa.Sm
open Go.Shelf Go.RowKit Go.Lib Go.Sort
set_option linter.unusedVariables false
set_option linter.unusedSimpArgs false
variable {α : Type} [Inhabited α] {P : Program}

/-- where a turning stands -/
structure Rt (enc : α → List Value) (k : Nat) (w0 : World) (blk off a m b i j : Nat) (d dk : Array α) (wr : World) : Prop where
  S : SWK enc k w0 blk off dk wr
  i0 : 0 < i
  j0 : 0 < j
  hi : i ≤ m - a
  hj : j ≤ b - m
  hs : dk.size = d.size
  pm : PermIn a b d dk
  rt : ∀ q, rotG (m - i) m (m + j) dk q = rotG a m b d q

set_option maxHeartbeats 4000000 in
set_option maxRecDepth 1000000 in
theorem rotate (L : Lays P) (k : Nat) (zE : ∀ w, (Go.sizeOf 39).run P w = .ok k w) (enc : α → List Value) (blk off cap a m b : Nat) (fv : Value) (d0 d : Array α) (w0 w : World) (R : RowK enc k w0 blk off d0) (hs : d0.size = d.size) (S : SWK enc k w0 blk off d w) (ham : a < m) (hmb : m < b) (hb : b ≤ d.size) (hsz : d.size < 4611686018427387904) :
    Calls P 32 #[.slice (some ⟨blk, off, none⟩) d.size cap, .int .i64 a, .int .i64 m, .int .i64 b, fv] w fun e w' => e = .returned (.tuple #[]) ∧ ∃ d', SWK enc k w0 blk off d' w' ∧ PermIn a b d d' ∧ ∀ q, d'[q]! = rotG a m b d q := by
  have mixed := L.mixed; have t0 := L.t0; have a0 := L.a0; have z0 := L.z0; have v0 := L.v0; have t3 := L.t3; have a3 := L.a3; have z3 := L.z3; have v3 := L.v3; have t4 := L.t4; have a4 := L.a4; have z4 := L.z4; have v4 := L.v4; have t33 := L.t33; have a33 := L.a33; have z33 := L.z33; have v33 := L.v33; have t36 := L.t36; have a36 := L.a36; have z36 := L.z36; have v36 := L.v36; have t49 := L.t49; have a49 := L.a49; have z49 := L.z49; have v49 := L.v49; have aE := L.aE
  have e33 : ∀ args w, (callFunc 33 args).run P w = .ok (.enter 33 args) w := enters_of L.fS (by kernel_rfl) rfl
  have S0 : Hid (Rt enc k w0 blk off a m b (m - a) (b - m) d d w) := ⟨S, by omega, by omega, by omega, by omega, rfl, permIn_refl _ _ _, fun q => by rw [show m - (m - a) = a by omega, show m + (b - m) = b by omega]⟩
  have H0 : Hid (a < m ∧ m < b ∧ b ≤ d.size ∧ d.size < 4611686018427387904 ∧ d0.size = d.size) := ⟨ham, hmb, hb, hsz, hs⟩
  have LL : Hid (Lays P) := L
  have w1 : IntKind.i64.wrap ((m : Int) - (a : Int)) = ((m - a : Nat) : Int) := by rw [IntKind.wrap_i64]; omega
  have w2 : IntKind.i64.wrap ((b : Int) - (m : Int)) = ((b - m : Nat) : Int) := by rw [IntKind.wrap_i64]; omega
  obtain ⟨li, hli⟩ : ∃ li, li = m - a := ⟨_, rfl⟩
  obtain ⟨lj, hlj⟩ : ∃ lj, lj = b - m := ⟨_, rfl⟩
  rw [← hli, ← hlj] at S0
  rw [← hli] at w1
  rw [← hlj] at w2
  have H1 : Hid (li = m - a ∧ lj = b - m) := ⟨hli, hlj⟩
  clear S hli hlj
  go_enter L.fR, Try.ntmps32
  go_wp2
  go_loopg [10, 11] (li + lj) (fun kx s10 s11 wr => ∃ (i j : Nat) (dk : Array α), s10 = .int .i64 i ∧ s11 = .int .i64 j ∧ i + j ≤ kx ∧ Hid (Rt enc k w0 blk off a m b i j d dk wr))
  case atStart => exact ⟨li, lj, d, rfl, rfl, Nat.le_refl _, S0⟩
  case round =>
    clear S0 w1 w2
    obtain ⟨i, j, dk, rfl, rfl, hkx, T⟩ := hrel
    have hT := T.out
    have hi := hT.hi
    have hj := hT.hj
    have hi0 := hT.i0
    have hj0 := hT.j0
    have hds := hT.hs
    have hc := fun x y n hxy h2 => swap_range LL.out k zE enc blk off cap x y n fv d0 dk w0 wr R (by omega) hT.S hxy h2 (by omega)
    rw [hds] at hc
    obtain ⟨x, hx⟩ : ∃ x, x = m - i := ⟨_, rfl⟩
    have wx : IntKind.i64.wrap ((m : Int) - (i : Int)) = (x : Int) := by rw [IntKind.wrap_i64]; omega
    by_cases hij : i = j
    · subst hij
      have hcc := hc x m i (by omega) (by omega)
      have HX : Hid (x = m - i) := hx
      clear hc hT hx
      go_wp2_with (go_at_fn (33); refine hcc.mono ?_; rintro e w' ⟨rfl, S2⟩)
      go_end0
      have hT := T.out
      have hx := HX.out
      refine ⟨rfl, _, S2, permIn_trans _ _ _ _ _ hT.pm (swR_perm (by omega) (by omega) (by omega) (by omega)), fun q => ?_⟩
      rw [hx, rot_same (by omega) (by omega), hT.rt]
    · have hne : ¬ (i : Int) = (j : Int) := by omega
      by_cases hgt : j < i
      · have hgtz : (j : Int) < (i : Int) := by omega
        have hcc := hc x m j (by omega) (by omega)
        have wi : IntKind.i64.wrap ((i : Int) - (j : Int)) = ((i - j : Nat) : Int) := by rw [IntKind.wrap_i64]; omega
        obtain ⟨i', hi'⟩ : ∃ i', i' = i - j := ⟨_, rfl⟩
        rw [← hi'] at wi
        have HX : Hid (x = m - i ∧ i' = i - j) := ⟨hx, hi'⟩
        clear hc hT hx hi'
        go_wp2_with (go_at_fn (33); refine hcc.mono ?_; rintro e w' ⟨rfl, S2⟩)
        have hX := HX.out
        go_roundg (i' + j)
        case measure => omega
        case rel =>
          have hT := T.out
          refine ⟨i', j, _, rfl, rfl, Nat.le_refl _, (⟨S2, by omega, by omega, by omega, by omega, by rw [swR_size]; exact hds, permIn_trans _ _ _ _ _ hT.pm (swR_perm (by omega) (by omega) (by omega) (by omega)), fun q => ?_⟩ : Rt enc k w0 blk off a m b i' j d _ _)⟩
          rw [hX.2, hX.1, rot_more (by omega) (by omega) (by omega), hT.rt]
      · have hgtz : ¬ (j : Int) < (i : Int) := by omega
        obtain ⟨y, hy⟩ : ∃ y, y = m + j - i := ⟨_, rfl⟩
        have wy0 : IntKind.i64.wrap ((m : Int) + (j : Int)) = ((m + j : Nat) : Int) := by rw [IntKind.wrap_i64]; omega
        have wy : IntKind.i64.wrap (((m + j : Nat) : Int) - (i : Int)) = (y : Int) := by rw [IntKind.wrap_i64]; omega
        have wj : IntKind.i64.wrap ((j : Int) - (i : Int)) = ((j - i : Nat) : Int) := by rw [IntKind.wrap_i64]; omega
        have hcc := hc x y i (by omega) (by omega)
        obtain ⟨j', hj'⟩ : ∃ j', j' = j - i := ⟨_, rfl⟩
        obtain ⟨mj, hmj⟩ : ∃ mj, mj = m + j := ⟨_, rfl⟩
        rw [← hj'] at wj
        rw [← hmj] at wy0 wy
        have HX : Hid (x = m - i ∧ y = m + j - i ∧ j' = j - i) := ⟨hx, hy, hj'⟩
        clear hc hT hx hy hj' hmj
        go_wp2_with (go_at_fn (33); refine hcc.mono ?_; rintro e w' ⟨rfl, S2⟩)
        have hX := HX.out
        go_roundg (i + j')
        case measure => omega
        case rel =>
          have hT := T.out
          refine ⟨i, j', _, rfl, rfl, Nat.le_refl _, (⟨S2, by omega, by omega, by omega, by omega, by rw [swR_size]; exact hds, permIn_trans _ _ _ _ _ hT.pm (swR_perm (by omega) (by omega) (by omega) (by omega)), fun q => ?_⟩ : Rt enc k w0 blk off a m b i j' d _ _)⟩
          rw [hX.2.2, hX.1, hX.2.1, rot_less (by omega) (by omega) (by omega), hT.rt]
end Go.Proofs.Ytefniglinligeaa.Sm

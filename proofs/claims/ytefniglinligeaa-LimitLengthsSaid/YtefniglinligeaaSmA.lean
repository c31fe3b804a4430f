
/- Exchanging and turning stretches of a row of packs in memory. -/
import Derived.Test.YtefniglinligeaaSmM
import Derived.Test.YtefniglinligeaaBase
import Derived.Shelf.SlSortCmp.PdqK
namespace Go.Proofs.Ytefniglinligeaa.Sm
open Go.Shelf Go.RowKit Go.Lib Go.Sort
set_option linter.unusedVariables false
set_option linter.unusedSimpArgs false
variable {α : Type} [Inhabited α] {P : Program}

/-- What these functions stand on, of whatever program. -/
structure Lays (P : Program) : Prop where
  mixed : P.follows .mixedOrders = true
  fS : P.funcs[33]? = some Try.f33
  fR : P.funcs[32]? = some Try.f32
  fM : P.funcs[31]? = some Try.f31
  fT : P.funcs[28]? = some Try.f28
  t0 : P.underlying 0 = some (TypeDesc.tuple #[])
  a0 : ∀ w, (isAgg 0).run P w = .ok false w
  z0 : ∀ w, (Go.sizeOf 0).run P w = .ok 1 w
  v0 : ∀ w, (zeroValue 0).run P w = .ok (Value.tuple #[]) w
  t3 : P.underlying 3 = some (TypeDesc.int IntKind.i64)
  a3 : ∀ w, (isAgg 3).run P w = .ok false w
  z3 : ∀ w, (Go.sizeOf 3).run P w = .ok 1 w
  v3 : ∀ w, (zeroValue 3).run P w = .ok (Value.int IntKind.i64 0) w
  t4 : P.underlying 4 = some (TypeDesc.bool)
  a4 : ∀ w, (isAgg 4).run P w = .ok false w
  z4 : ∀ w, (Go.sizeOf 4).run P w = .ok 1 w
  v4 : ∀ w, (zeroValue 4).run P w = .ok (Value.bool false) w
  t33 : P.underlying 33 = some (TypeDesc.int IntKind.u64)
  a33 : ∀ w, (isAgg 33).run P w = .ok false w
  z33 : ∀ w, (Go.sizeOf 33).run P w = .ok 1 w
  v33 : ∀ w, (zeroValue 33).run P w = .ok (Value.int IntKind.u64 0) w
  t36 : P.underlying 36 = some (TypeDesc.slice 39)
  a36 : ∀ w, (isAgg 36).run P w = .ok false w
  z36 : ∀ w, (Go.sizeOf 36).run P w = .ok 1 w
  v36 : ∀ w, (zeroValue 36).run P w = .ok (Value.slice none 0 0) w
  t49 : P.underlying 49 = some (TypeDesc.func #[39, 39] #[3] false)
  a49 : ∀ w, (isAgg 49).run P w = .ok false w
  z49 : ∀ w, (Go.sizeOf 49).run P w = .ok 1 w
  v49 : ∀ w, (zeroValue 49).run P w = .ok (Value.nilFunc) w
  aE : ∀ w, (isAgg 39).run P w = .ok true w

theorem lays : Lays Try.prog where
  mixed := by kernel_rfl
  fS := Try.func33
  fR := Try.func32
  fM := Try.func31
  fT := Try.func28
  t0 := by kernel_rfl
  a0 _ := by kernel_rfl
  z0 _ := by kernel_rfl
  v0 _ := by kernel_rfl
  t3 := by kernel_rfl
  a3 _ := by kernel_rfl
  z3 _ := by kernel_rfl
  v3 _ := by kernel_rfl
  t4 := by kernel_rfl
  a4 _ := by kernel_rfl
  z4 _ := by kernel_rfl
  v4 _ := by kernel_rfl
  t33 := by kernel_rfl
  a33 _ := by kernel_rfl
  z33 _ := by kernel_rfl
  v33 _ := by kernel_rfl
  t36 := by kernel_rfl
  a36 _ := by kernel_rfl
  z36 _ := by kernel_rfl
  v36 _ := by kernel_rfl
  t49 := by kernel_rfl
  a49 _ := by kernel_rfl
  z49 _ := by kernel_rfl
  v49 _ := by kernel_rfl
  aE _ := by kernel_rfl
theorem sizeP (w : World) : (Go.sizeOf 39).run Try.prog w = .ok 3 w := by kernel_rfl

set_option maxHeartbeats 4000000 in
set_option maxRecDepth 1000000 in
theorem swap_range (L : Lays P) (k : Nat) (zE : ∀ w, (Go.sizeOf 39).run P w = .ok k w) (enc : α → List Value) (blk off cap a b n : Nat) (fv : Value) (d0 d : Array α) (w0 w : World) (R : RowK enc k w0 blk off d0) (hs : d0.size = d.size) (S : SWK enc k w0 blk off d w) (hab : a + n ≤ b) (hb : b + n ≤ d.size) (hsz : d.size < 4611686018427387904) :
    Calls P 33 #[.slice (some ⟨blk, off, none⟩) d.size cap, .int .i64 a, .int .i64 b, .int .i64 n, fv] w fun e w' => e = .returned (.tuple #[]) ∧ SWK enc k w0 blk off (swR a b n d) w' := by
  have mixed := L.mixed; have t0 := L.t0; have a0 := L.a0; have z0 := L.z0; have v0 := L.v0; have t3 := L.t3; have a3 := L.a3; have z3 := L.z3; have v3 := L.v3; have t4 := L.t4; have a4 := L.a4; have z4 := L.z4; have v4 := L.v4; have t33 := L.t33; have a33 := L.a33; have z33 := L.z33; have v33 := L.v33; have t36 := L.t36; have a36 := L.a36; have z36 := L.z36; have v36 := L.v36; have t49 := L.t49; have a49 := L.a49; have z49 := L.z49; have v49 := L.v49; have aE := L.aE
  have S0 : Aside (SWK enc k w0 blk off d w) := S
  clear S
  go_enter L.fS, Try.ntmps33
  go_wp2
  go_loopg [10] n (fun kx s10 wr => ∃ (i : Nat), s10 = .int .i64 i ∧ i ≤ n ∧ n - i ≤ kx ∧ Aside (SWK enc k w0 blk off (swR a b i d) wr))
  case atStart => exact ⟨0, rfl, by omega, by omega, S0⟩
  case round =>
    clear S0
    obtain ⟨i, rfl, hin, hkx, S1⟩ := hrel
    by_cases hlt : i < n
    · have hltz : (i : Int) < (n : Int) := by omega
      obtain ⟨dk, hdk⟩ : ∃ dk, dk = swR a b i d := ⟨_, rfl⟩
      have hds : dk.size = d.size := by rw [hdk, swR_size]
      rw [← hdk] at S1
      have hsw : swp dk (a + i) (b + i) = swR a b (i + 1) d := by rw [hdk]; rfl
      have wa : IntKind.i64.wrap ((a : Int) + (i : Int)) = ((a + i : Nat) : Int) := by rw [IntKind.wrap_i64]; omega
      have wb : IntKind.i64.wrap ((b : Int) + (i : Int)) = ((b + i : Nat) : Int) := by rw [IntKind.wrap_i64]; omega
      have ea : (((a + i : Nat) : Int)).toNat = a + i := by omega
      have pa : (0 : Int) ≤ ((a + i : Nat) : Int) := by omega
      have ba : ((a + i : Nat) : Int) < (d.size : Int) := by omega
      have eb : (((b + i : Nat) : Int)).toNat = b + i := by omega
      have pb : (0 : Int) ≤ ((b + i : Nat) : Int) := by omega
      have bb : ((b + i : Nat) : Int) < (d.size : Int) := by omega
      have S2 : Aside (SWK enc k w0 blk off (swp dk (a + i) (b + i)) ((wr.drew.setCells blk (off + (a + i) * k) (enc dk[b + i]!)).setCells blk (off + (b + i) * k) (enc dk[a + i]!))) := S1.out.swapped R _ _ (by omega) (by omega)
      have la := S1.out.ld1 R (by omega) P (a + i) (by omega)
      have lb := S1.out.ld1 R (by omega) P (b + i) (by omega)
      have sa := S1.out.st1 R (by omega) P (a + i) (by omega) dk[b + i]!
      have sb := S1.out.st2 R (by omega) P (a + i) (b + i) (by omega) (by omega) dk[b + i]! dk[a + i]!
      have na : (enc dk[a + i]!).length = k := R.hk _
      have nb : (enc dk[b + i]!).length = k := R.hk _
      generalize enc dk[a + i]! = cI at S2 la sb na
      generalize enc dk[b + i]! = cJ at S2 lb sa sb nb
      rw [hsw] at S2
      have HH : Hid (a + n ≤ b ∧ b + n ≤ d.size ∧ d.size < 4611686018427387904) := ⟨hab, hb, hsz⟩
      generalize ha1 : a + i = ai at *
      generalize hb1 : b + i = bi at *
      have HI : Hid (a + i = ai ∧ b + i = bi) := ⟨ha1, hb1⟩
      clear S1 ha1 hb1 hsw hdk hds
      go_wp2_with fail
      go_big_region_o
      clear la lb sa sb
      generalize (wr.drew.setCells blk (off + ai * k) cJ).setCells blk (off + bi * k) cI = w2 at S2 ⊢
      go_wp2
      go_roundg (n - (i + 1))
      case measure => omega
      case rel => exact ⟨i + 1, by go_num, by omega, Nat.le_refl _, S2⟩
    · have hltz : ¬ (i : Int) < (n : Int) := by omega
      have hin' : i = n := by omega
      go_wp2
      go_end0
      subst hin'
      exact ⟨rfl, S1.out⟩
end Go.Proofs.Ytefniglinligeaa.Sm

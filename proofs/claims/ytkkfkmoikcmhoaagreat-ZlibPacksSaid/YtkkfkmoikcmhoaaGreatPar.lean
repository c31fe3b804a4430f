/- SmB, SmC, SmD: merged. -/
import Derived.Test.YtkkfkmoikcmhoaaGreatPaq
set_option linter.unusedVariables false
set_option linter.unusedSimpArgs false
namespace Go.Proofs.YtkkfkmoikcmhoaaGreat.Sm
open Go.Shelf Go.RowKit Go.Lib Go.Sort
variable {α : Type} [Inhabited α] {P : Program}
structure Rt (enc : α → List Value) (k : Nat) (w0 : World) (blk off a m b i j : Nat) (d dk : Array α) (wr : World) : Prop where
 S : SWK enc k w0 blk off dk wr
 i0 : 0 < i
 j0 : 0 < j
 hi : i ≤ m - a
 hj : j ≤ b - m
 hs : dk.size = d.size
 pm : PermIn a b d dk
 rt : ∀ q, Y6b (m - i) m (m + j) dk q = Y6b a m b d q
set_option maxHeartbeats 4000000 in
set_option maxRecDepth 1000000 in
theorem rotate (L : Lays P) (k : Nat) (zE : ∀ w, (Go.sizeOf 221).run P w = .ok k w) (enc : α → List Value) (blk off cap a m b : Nat) (fv : Value) (d0 d : Array α) (w0 w : World) (R : RowK enc k w0 blk off d0) (hs : d0.size = d.size) (S : SWK enc k w0 blk off d w) (ham : a < m) (hmb : m < b) (hb : b ≤ d.size) (hsz : d.size < 4611686018427387904) :
  Calls P 174 #[.slice (some ⟨blk, off, none⟩) d.size cap, .int .i64 a, .int .i64 m, .int .i64 b, fv] w fun e w' => e = .returned (.tuple #[]) ∧ ∃ d', SWK enc k w0 blk off d' w' ∧ PermIn a b d d' ∧ ∀ q, d'[q]! = Y6b a m b d q := by
 have mixed := L.mixed; have t0 := L.t0; have a0 := L.a0; have z0 := L.z0; have v0 := L.v0; have t3 := L.t3; have a3 := L.a3; have z3 := L.z3; have v3 := L.v3; have t4 := L.t4; have a4 := L.a4; have z4 := L.z4; have v4 := L.v4; have t33 := L.t33; have a33 := L.a33; have z33 := L.z33; have v33 := L.v33; have t36 := L.t36; have a36 := L.a36; have z36 := L.z36; have v36 := L.v36; have t49 := L.t49; have a49 := L.a49; have z49 := L.z49; have v49 := L.v49; have aE := L.aE
 have e33 : ∀ args w, (callFunc 175 args).run P w = .ok (.enter 175 args) w := enters_of L.fS (by kernel_rfl) rfl
 have S0 : Hid (Rt enc k w0 blk off a m b (m - a) (b - m) d d w) := ⟨S, by omega, by omega, by omega, by omega, rfl, permIn_refl _ _ _, fun q => by rw [show m - (m - a) = a by omega, show m + (b - m) = b by omega]⟩
 have H0 : Hid (a < m ∧ m < b ∧ b ≤ d.size ∧ d.size < 4611686018427387904 ∧ d0.size = d.size) := ⟨ham, hmb, hb, hsz, hs⟩
 have LL : Hid (Lays P) := L
 have w1 : IntKind.i64.wrap ((m : Int) - (a : Int)) = ((m - a : Nat) : Int) := by rw [IntKind.wrap_i64]; omega
 have w2 : IntKind.i64.wrap ((b : Int) - (m : Int)) = ((b - m : Nat) : Int) := by rw [IntKind.wrap_i64]; omega
 obtain ⟨li, hli⟩ : ∃ li, li = m - a := ⟨_, rfl⟩
 obtain ⟨lj, hlj⟩ : ∃ lj, lj = b - m := ⟨_, rfl⟩
 rw [← hli, ← hlj] at S0
 rw [← hli] at w1
 rw [← hlj] at w2
 have H1 : Hid (li = m - a ∧ lj = b - m) := ⟨hli, hlj⟩
 clear S hli hlj
 go_enter L.fR, Tryz.ntmps174
 go_wp2
 go_loopg [10, 11] (li + lj) (fun kx s10 s11 wr => ∃ (i j : Nat) (dk : Array α), s10 = .int .i64 i ∧ s11 = .int .i64 j ∧ i + j ≤ kx ∧ Hid (Rt enc k w0 blk off a m b i j d dk wr))
 case atStart => exact ⟨li, lj, d, rfl, rfl, Nat.le_refl _, S0⟩
 case round =>
  clear S0 w1 w2
  obtain ⟨i, j, dk, rfl, rfl, hkx, T⟩ := hrel
  have hT := T.out
  have hi := hT.hi
  have hj := hT.hj
  have hi0 := hT.i0
  have hj0 := hT.j0
  have hds := hT.hs
  have hc := fun x y n hxy h2 => Yn4 LL.out k zE enc blk off cap x y n fv d0 dk w0 wr R (by omega) hT.S hxy h2 (by omega)
  rw [hds] at hc
  obtain ⟨x, hx⟩ : ∃ x, x = m - i := ⟨_, rfl⟩
  have wx : IntKind.i64.wrap ((m : Int) - (i : Int)) = (x : Int) := by rw [IntKind.wrap_i64]; omega
  by_cases hij : i = j
  ·subst hij
   have hcc := hc x m i (by omega) (by omega)
   have HX : Hid (x = m - i) := hx
   clear hc hT hx
   go_wp2_with (go_at_fn (175); refine hcc.mono ?_; rintro e w' ⟨rfl, S2⟩)
   go_end0
   have hT := T.out
   have hx := HX.out
   refine ⟨rfl, _, S2, permIn_trans _ _ _ _ _ hT.pm (Yea (by omega) (by omega) (by omega) (by omega)), fun q => ?_⟩
   rw [hx, Yvj (by omega) (by omega), hT.rt]
  ·have hne : ¬ (i : Int) = (j : Int) := by omega
   by_cases hgt : j < i
   ·have hgtz : (j : Int) < (i : Int) := by omega
    have hcc := hc x m j (by omega) (by omega)
    have wi : IntKind.i64.wrap ((i : Int) - (j : Int)) = ((i - j : Nat) : Int) := by rw [IntKind.wrap_i64]; omega
    obtain ⟨i', hi'⟩ : ∃ i', i' = i - j := ⟨_, rfl⟩
    rw [← hi'] at wi
    have HX : Hid (x = m - i ∧ i' = i - j) := ⟨hx, hi'⟩
    clear hc hT hx hi'
    go_wp2_with (go_at_fn (175); refine hcc.mono ?_; rintro e w' ⟨rfl, S2⟩)
    have hX := HX.out
    go_roundg (i' + j)
    case measure => omega
    case rel =>
     have hT := T.out
     refine ⟨i', j, _, rfl, rfl, Nat.le_refl _, (⟨S2, by omega, by omega, by omega, by omega, by rw [Y86]; exact hds, permIn_trans _ _ _ _ _ hT.pm (Yea (by omega) (by omega) (by omega) (by omega)), fun q => ?_⟩ : Rt enc k w0 blk off a m b i' j d _ _)⟩
     rw [hX.2, hX.1, Yvi (by omega) (by omega) (by omega), hT.rt]
   ·have hgtz : ¬ (j : Int) < (i : Int) := by omega
    obtain ⟨y, hy⟩ : ∃ y, y = m + j - i := ⟨_, rfl⟩
    have wy0 : IntKind.i64.wrap ((m : Int) + (j : Int)) = ((m + j : Nat) : Int) := by rw [IntKind.wrap_i64]; omega
    have wy : IntKind.i64.wrap (((m + j : Nat) : Int) - (i : Int)) = (y : Int) := by rw [IntKind.wrap_i64]; omega
    have wj : IntKind.i64.wrap ((j : Int) - (i : Int)) = ((j - i : Nat) : Int) := by rw [IntKind.wrap_i64]; omega
    have hcc := hc x y i (by omega) (by omega)
    obtain ⟨j', hj'⟩ : ∃ j', j' = j - i := ⟨_, rfl⟩
    obtain ⟨mj, hmj⟩ : ∃ mj, mj = m + j := ⟨_, rfl⟩
    rw [← hj'] at wj
    rw [← hmj] at wy0 wy
    have HX : Hid (x = m - i ∧ y = m + j - i ∧ j' = j - i) := ⟨hx, hy, hj'⟩
    clear hc hT hx hy hj' hmj
    go_wp2_with (go_at_fn (175); refine hcc.mono ?_; rintro e w' ⟨rfl, S2⟩)
    have hX := HX.out
    go_roundg (i + j')
    case measure => omega
    case rel =>
     have hT := T.out
     refine ⟨i, j', _, rfl, rfl, Nat.le_refl _, (⟨S2, by omega, by omega, by omega, by omega, by rw [Y86]; exact hds, permIn_trans _ _ _ _ _ hT.pm (Yea (by omega) (by omega) (by omega) (by omega)), fun q => ?_⟩ : Rt enc k w0 blk off a m b i j' d _ _)⟩
     rw [hX.2.2, hX.1, hX.2.1, Yvh (by omega) (by omega) (by omega), hT.rt]
end Go.Proofs.YtkkfkmoikcmhoaaGreat.Sm
namespace Go.Proofs.YtkkfkmoikcmhoaaGreat.Sm
open Go.Shelf Go.RowKit Go.Lib Go.Sort
variable {α : Type} [Inhabited α] {P : Program}
theorem X11 {a k : Nat} {d e : Array α} (hk : a ≤ k) (hs : k + 1 < e.size) (h : ∀ q, e[q]! = Y6b a (a + 1) (k + 1) d q) (q : Nat) : (swp e k (k + 1))[q]! = Y6b a (a + 1) (k + 1 + 1) d q := by
 rw [swp_get _ (by omega) hs, h, h, h]
 unfold Y6b
 by_cases h1 : q = k + 1
 ·subst h1
  rw [if_pos rfl, if_neg (by omega), if_neg (by omega), if_neg (by omega), if_neg (by omega)]
  congr 1; omega
 ·rw [if_neg h1]
  by_cases h2 : q = k
  ·subst h2
   rw [if_pos rfl, if_pos (by omega), if_neg (by omega), if_pos (by omega)]
   congr 1; omega
  ·rw [if_neg h2]
   by_cases h3 : q < a ∨ k + 1 ≤ q
   ·rw [if_pos h3, if_pos (by omega)]
   ·rw [if_neg h3, if_pos (by omega), if_neg (by omega), if_pos (by omega)]
theorem Yvg {m k : Nat} {d e : Array α} (hk : k + 1 ≤ m) (hs : k + 1 < e.size) (h : ∀ q, e[q]! = Y6b (k + 1) m (m + 1) d q) (q : Nat) : (swp e (k + 1) k)[q]! = Y6b k m (m + 1) d q := by
 rw [swp_get _ (by omega) (by omega), h, h, h]
 unfold Y6b
 by_cases h1 : q = k
 ·subst h1
  rw [if_pos rfl, if_neg (by omega), if_pos (by omega), if_neg (by omega), if_pos (by omega)]
  congr 1; omega
 ·rw [if_neg h1]
  by_cases h2 : q = k + 1
  ·subst h2
   rw [if_pos rfl, if_pos (by omega), if_neg (by omega), if_neg (by omega)]
   congr 1; omega
  ·rw [if_neg h2]
   by_cases h3 : q < k ∨ m + 1 ≤ q
   ·rw [if_pos h3, if_pos (by omega)]
   ·rw [if_neg h3, if_neg (by omega), if_neg (by omega), if_neg (by omega)]
set_option maxHeartbeats 4000000 in
set_option maxRecDepth 1000000 in
theorem Yvz (L : Lays P) (k : Nat) (zE : ∀ w, (Go.sizeOf 221).run P w = .ok k w) (enc : α → List Value) (cf : α → α → Int) (hO : SWO (ltOf cf)) (g : Nat) (cb : Array Value) (blk off cap a m b : Nat) (d0 d : Array α) (w0 w : World) (eg : ∀ args w, (callFunc g args).run P w = .ok (.enter g args) w)
  (hcmp : CmpLays P g cb enc k cf blk off d0.size w0) (R : RowK enc k w0 blk off d0) (hs : d0.size = d.size) (S : SWK enc k w0 blk off d w) (ham : m = a + 1) (hmb : m < b) (hb : b ≤ d.size) (hsz : d.size < 4611686018427387904) (s1 : SortedIn (ltOf cf) a m d) (s2 : SortedIn (ltOf cf) m b d) :
  Calls P 173 #[.slice (some ⟨blk, off, none⟩) d.size cap, .int .i64 a, .int .i64 m, .int .i64 b, .func (.func g) #[] cb] w fun e w' => e = .returned (.tuple #[]) ∧ ∃ d', SWK enc k w0 blk off d' w' ∧ PermIn a b d d' ∧ SortedIn (ltOf cf) a b d' := by
 have mixed := L.mixed; have t0 := L.t0; have a0 := L.a0; have z0 := L.z0; have v0 := L.v0; have t3 := L.t3; have a3 := L.a3; have z3 := L.z3; have v3 := L.v3; have t4 := L.t4; have a4 := L.a4; have z4 := L.z4; have v4 := L.v4; have t33 := L.t33; have a33 := L.a33; have z33 := L.z33; have v33 := L.v33; have t36 := L.t36; have a36 := L.a36; have z36 := L.z36; have v36 := L.v36; have t49 := L.t49; have a49 := L.a49; have z49 := L.z49; have v49 := L.v49; have aE := L.aE
 have S0 : Aside (SWK enc k w0 blk off d w) := S
 have HC : Aside (CmpLays P g cb enc k cf blk off d0.size w0) := hcmp
 have H0 : Hid (m = a + 1 ∧ m < b ∧ b ≤ d.size ∧ d.size < 4611686018427387904 ∧ d0.size = d.size) := ⟨ham, hmb, hb, hsz, hs⟩
 have HS : Hid (SWO (ltOf cf) ∧ SortedIn (ltOf cf) a m d ∧ SortedIn (ltOf cf) m b d) := ⟨hO, s1, s2⟩
 have w1 : IntKind.i64.wrap ((m : Int) - (a : Int)) = 1 := by rw [IntKind.wrap_i64]; omega
 clear S hcmp ham s1 s2 hO hs
 go_enter L.fM, Tryz.ntmps173
 go_wp2
 go_loopg [10, 11] (b - m) (fun kx s10 s11 wr => ∃ (i j : Nat), s10 = .int .i64 i ∧ s11 = .int .i64 j ∧ m ≤ i ∧ i ≤ j ∧ j ≤ b ∧ j - i ≤ kx ∧ Aside (SWK enc k w0 blk off d wr) ∧ Hid ((∀ q, m ≤ q → q < i → ltOf cf d[q]! d[a]! = true) ∧ ∀ q, j ≤ q → q < b → ltOf cf d[q]! d[a]! = false))
 case atStart => exact ⟨m, b, rfl, rfl, by omega, by omega, by omega, by omega, S0, ⟨fun q h1 h2 => by omega, fun q h1 h2 => by omega⟩⟩
 case round =>
  clear S0
  obtain ⟨i, j, rfl, rfl, hmi, hij, hjb, hkx, S1, HB⟩ := hrel
  by_cases hlt : i < j
  ·have hltz : (i : Int) < (j : Int) := by omega
   obtain ⟨h, hh⟩ : ∃ h, h = (i + j) / 2 := ⟨_, rfl⟩
   obtain ⟨ij, hij2⟩ : ∃ ij, ij = i + j := ⟨_, rfl⟩
   have wij : IntKind.i64.wrap ((i : Int) + (j : Int)) = (ij : Int) := by rw [IntKind.wrap_i64]; omega
   have wu : IntKind.u64.wrap (ij : Int) = (ij : Int) := by rw [IntKind.wrap_u64]; omega
   have wh : IntKind.i64.wrap (h : Int) = (h : Int) := by rw [IntKind.wrap_i64]; omega
   have wh2 : IntKind.u64.wrap (h : Int) = (h : Int) := by rw [IntKind.wrap_u64]; omega
   have whs : (ij : Int) / 2 = (h : Int) := by omega
   have hih : i ≤ h ∧ h < j := by omega
   have eh : ((h : Int)).toNat = h := by omega
   have ph : (0 : Int) ≤ (h : Int) := by omega
   have bh : (h : Int) < (d.size : Int) := by omega
   have ea : ((a : Int)).toNat = a := by omega
   have pa : (0 : Int) ≤ (a : Int) := by omega
   have ba : (a : Int) < (d.size : Int) := by have := H0.out.1; omega
   have hX := H0.out
   obtain ⟨xh, hxh⟩ : ∃ x, x = d[h]! := ⟨_, rfl⟩
   obtain ⟨xa, hxa⟩ : ∃ x, x = d[a]! := ⟨_, rfl⟩
   have lh := S1.out.ld R hX.2.2.2.2.symm P h (by omega)
   have la := S1.out.ld R hX.2.2.2.2.symm P a (by omega)
   rw [← hxh] at lh
   rw [← hxa] at la
   have hc := S1.out.cmp HC.out hX.2.2.2.2.symm xh xa
   have HX : Hid (xh = d[h]! ∧ xa = d[a]!) := ⟨hxh, hxa⟩
   have HHh : Hid (h = (i + j) / 2 ∧ ij = i + j) := ⟨hh, hij2⟩
   clear hxh hxa hX hh hij2
   by_cases hlv : cf xh xa < 0
   ·have hd : decide (cf xh xa < 0) = true := decide_eq_true hlv
    go_wp2_with fail
    go_quiet_grown (first | (go_at_fn g; refine Calls.grown_of (hc _ _)))
    have S2 : Aside (SWK enc k w0 blk off d (grow (wr.drewN nq) osq)) := S1.out.grown nq osq
    clear lh la hc S1
    generalize grow (wr.drewN nq) osq = w2 at S2 ⊢
    clear nq osq
    go_wp2
    go_roundg (j - (h + 1))
    case measure => have := HHh.out; omega
    case rel =>
     refine ⟨h + 1, j, by go_num, rfl, by omega, by omega, by omega, Nat.le_refl _, S2, ⟨fun q q1 q2 => ?_, HB.out.2⟩⟩
     have hlt' : ltOf cf d[h]! d[a]! = true := by rw [← HX.out.1, ← HX.out.2]; exact hd
     cases hq : ltOf cf d[q]! d[a]! with
     | true => rfl
     | false =>
      have h9 := SortedIn.le HS.out.1 HS.out.2.2 q1 (show q ≤ h by omega) (by omega)
      rw [HS.out.1.ntrans _ _ _ h9 hq] at hlt'
      cases hlt'
   ·have hd : decide (cf xh xa < 0) = false := decide_eq_false hlv
    go_wp2_with fail
    go_quiet_grown (first | (go_at_fn g; refine Calls.grown_of (hc _ _)))
    have S2 : Aside (SWK enc k w0 blk off d (grow (wr.drewN nq) osq)) := S1.out.grown nq osq
    clear lh la hc S1
    generalize grow (wr.drewN nq) osq = w2 at S2 ⊢
    clear nq osq
    go_wp2
    go_roundg (h - i)
    case measure => have := HHh.out; omega
    case rel =>
     refine ⟨i, h, rfl, rfl, by omega, by omega, by omega, Nat.le_refl _, S2, ⟨HB.out.1, fun q q1 q2 => ?_⟩⟩
     have hlt' : ltOf cf d[h]! d[a]! = false := by rw [← HX.out.1, ← HX.out.2]; exact hd
     have h9 := SortedIn.le HS.out.1 HS.out.2.2 (show m ≤ h by omega) q1 (by omega)
     exact HS.out.1.ntrans _ _ _ h9 hlt'
  ·have hltz : ¬ (i : Int) < (j : Int) := by omega
   have hji : j = i := by omega
   subst hji
   go_wp2
   go_loopg [13] (j - 1 - a) (fun kx s13 wr => ∃ (kk : Nat) (dk : Array α), s13 = .int .i64 kk ∧ a ≤ kk ∧ kk + 1 ≤ j ∧ j - 1 - kk ≤ kx ∧ dk.size = d.size ∧ Aside (SWK enc k w0 blk off dk wr) ∧ Hid (PermIn a b d dk ∧ ∀ q, dk[q]! = Y6b a (a + 1) (kk + 1) d q))
   case atStart => exact ⟨a, d, rfl, by omega, by have := H0.out.1; omega, by omega, rfl, S1, ⟨permIn_refl _ _ _, fun q => (Yck (by omega) q).symm⟩⟩
   case round =>
    clear S1
    obtain ⟨kk, dk, rfl, hak, hkj, hkx2, hds, S1, HR⟩ := hrel
    by_cases hk : kk < j - 1
    ·have hkz : (kk : Int) < (j : Int) - 1 := by omega
     have S2 : Aside (SWK enc k w0 blk off (swp dk kk (kk + 1)) ((wr.drew.setCells blk (off + kk * k) (enc dk[kk + 1]!)).setCells blk (off + (kk + 1) * k) (enc dk[kk]!))) := S1.out.swapped R _ _ (by omega) (by omega)
     have hX := H0.out
     have la := S1.out.ld1 R (by omega) P kk (by omega)
     have lb := S1.out.ld1 R (by omega) P (kk + 1) (by omega)
     have sa := S1.out.st1 R (by omega) P kk (by omega) dk[kk + 1]!
     have sb := S1.out.st2 R (by omega) P kk (kk + 1) (by omega) (by omega) dk[kk + 1]! dk[kk]!
     have na : (enc dk[kk]!).length = k := R.hk _
     have nb : (enc dk[kk + 1]!).length = k := R.hk _
     generalize enc dk[kk]! = cI at S2 la sb na
     generalize enc dk[kk + 1]! = cJ at S2 lb sa sb nb
     obtain ⟨k1, hk1⟩ : ∃ k1, k1 = kk + 1 := ⟨_, rfl⟩
     have wk : IntKind.i64.wrap ((kk : Int) + 1) = (k1 : Int) := by rw [IntKind.wrap_i64]; omega
     have ek : ((kk : Int)).toNat = kk := by omega
     have pk : (0 : Int) ≤ (kk : Int) := by omega
     have bk : (kk : Int) < (d.size : Int) := by omega
     have ek1 : ((k1 : Int)).toNat = k1 := by omega
     have pk1 : (0 : Int) ≤ (k1 : Int) := by omega
     have bk1 : (k1 : Int) < (d.size : Int) := by omega
     rw [← hk1] at S2 lb sb
     have HK1 : Hid (k1 = kk + 1) := hk1
     clear S1 hX hk1
     go_wp2_with fail
     go_big_region_o
     clear la lb sa sb
     generalize (wr.drew.setCells blk (off + kk * k) cJ).setCells blk (off + k1 * k) cI = w2 at S2 ⊢
     go_wp2
     go_roundg (j - 1 - (kk + 1))
     case measure => omega
     case rel =>
      have hk1 := HK1.out
      subst hk1
      exact ⟨kk + 1, swp dk kk (kk + 1), rfl, by omega, by omega, Nat.le_refl _, by rw [size_swp]; exact hds, S2, ⟨permIn_trans _ _ _ _ _ HR.out.1 (swp_permIn _ a b _ _ (by omega) (by omega) (by omega) (by omega) (by omega)), X11 hak (by omega) HR.out.2⟩⟩
    ·have hkz : ¬ (kk : Int) < (j : Int) - 1 := by omega
     have hkd : decide ((kk : Int) < (j : Int) - 1) = false := decide_eq_false hkz
     go_wp2
     (try simp only [Exit.inBlock, Exit.then]); refine bodyPost_ret (results_none rfl _ _ _) rfl ?_
     refine ⟨rfl, dk, S1.out, HR.out.1, ?_⟩
     have e : kk + 1 = j := by omega
     have hr := HR.out.2
     rw [e] at hr
     have hX := H0.out
     refine Ym8 HS.out.1 hX.1 HS.out.2.2 hmi (by omega) HB.out.1 HB.out.2 ?_
     rw [hX.1]
     exact hr
set_option maxHeartbeats 4000000 in
set_option maxRecDepth 1000000 in
theorem Yrx (L : Lays P) (k : Nat) (zE : ∀ w, (Go.sizeOf 221).run P w = .ok k w) (enc : α → List Value) (cf : α → α → Int) (hO : SWO (ltOf cf)) (g : Nat) (cb : Array Value) (blk off cap a m b : Nat) (d0 d : Array α) (w0 w : World) (eg : ∀ args w, (callFunc g args).run P w = .ok (.enter g args) w)
  (hcmp : CmpLays P g cb enc k cf blk off d0.size w0) (R : RowK enc k w0 blk off d0) (hs : d0.size = d.size) (S : SWK enc k w0 blk off d w) (ham : a + 1 < m) (hmb : b = m + 1) (hb : b ≤ d.size) (hsz : d.size < 4611686018427387904) (s1 : SortedIn (ltOf cf) a m d) (s2 : SortedIn (ltOf cf) m b d) :
  Calls P 173 #[.slice (some ⟨blk, off, none⟩) d.size cap, .int .i64 a, .int .i64 m, .int .i64 b, .func (.func g) #[] cb] w fun e w' => e = .returned (.tuple #[]) ∧ ∃ d', SWK enc k w0 blk off d' w' ∧ PermIn a b d d' ∧ SortedIn (ltOf cf) a b d' := by
 have mixed := L.mixed; have t0 := L.t0; have a0 := L.a0; have z0 := L.z0; have v0 := L.v0; have t3 := L.t3; have a3 := L.a3; have z3 := L.z3; have v3 := L.v3; have t4 := L.t4; have a4 := L.a4; have z4 := L.z4; have v4 := L.v4; have t33 := L.t33; have a33 := L.a33; have z33 := L.z33; have v33 := L.v33; have t36 := L.t36; have a36 := L.a36; have z36 := L.z36; have v36 := L.v36; have t49 := L.t49; have a49 := L.a49; have z49 := L.z49; have v49 := L.v49; have aE := L.aE
 have S0 : Aside (SWK enc k w0 blk off d w) := S
 have HC : Aside (CmpLays P g cb enc k cf blk off d0.size w0) := hcmp
 have H0 : Hid (a + 1 < m ∧ b = m + 1 ∧ b ≤ d.size ∧ d.size < 4611686018427387904 ∧ d0.size = d.size) := ⟨ham, hmb, hb, hsz, hs⟩
 have HS : Hid (SWO (ltOf cf) ∧ SortedIn (ltOf cf) a m d ∧ SortedIn (ltOf cf) m b d) := ⟨hO, s1, s2⟩
 obtain ⟨ma, hma⟩ : ∃ ma, ma = m - a := ⟨_, rfl⟩
 have w1 : IntKind.i64.wrap ((m : Int) - (a : Int)) = (ma : Int) := by rw [IntKind.wrap_i64]; omega
 have hma1 : ((ma : Int) == 1) = false := beq_eq_false_iff_ne.2 (by omega)
 have w2 : IntKind.i64.wrap ((b : Int) - (m : Int)) = 1 := by rw [IntKind.wrap_i64]; omega
 have hmd : m < d.size := by omega
 clear S hcmp s1 s2 hO hs hma hmb
 go_enter L.fM, Tryz.ntmps173
 go_wp2
 go_loopg [14, 15] (m - a) (fun kx s10 s11 wr => ∃ (i j : Nat), s10 = .int .i64 i ∧ s11 = .int .i64 j ∧ a ≤ i ∧ i ≤ j ∧ j ≤ m ∧ j - i ≤ kx ∧ Aside (SWK enc k w0 blk off d wr) ∧ Hid ((∀ q, a ≤ q → q < i → ltOf cf d[m]! d[q]! = false) ∧ ∀ q, j ≤ q → q < m → ltOf cf d[m]! d[q]! = true))
 case atStart => exact ⟨a, m, rfl, rfl, by omega, by omega, by omega, by omega, S0, ⟨fun q h1 h2 => by omega, fun q h1 h2 => by omega⟩⟩
 case round =>
  clear S0
  obtain ⟨i, j, rfl, rfl, hmi, hij, hjb, hkx, S1, HB⟩ := hrel
  by_cases hlt : i < j
  ·have hltz : (i : Int) < (j : Int) := by omega
   obtain ⟨h, hh⟩ : ∃ h, h = (i + j) / 2 := ⟨_, rfl⟩
   obtain ⟨ij, hij2⟩ : ∃ ij, ij = i + j := ⟨_, rfl⟩
   have wij : IntKind.i64.wrap ((i : Int) + (j : Int)) = (ij : Int) := by rw [IntKind.wrap_i64]; omega
   have wu : IntKind.u64.wrap (ij : Int) = (ij : Int) := by rw [IntKind.wrap_u64]; omega
   have wh : IntKind.i64.wrap (h : Int) = (h : Int) := by rw [IntKind.wrap_i64]; omega
   have wh2 : IntKind.u64.wrap (h : Int) = (h : Int) := by rw [IntKind.wrap_u64]; omega
   have whs : (ij : Int) / 2 = (h : Int) := by omega
   have hih : i ≤ h ∧ h < j := by omega
   have eh : ((h : Int)).toNat = h := by omega
   have ph : (0 : Int) ≤ (h : Int) := by omega
   have bh : (h : Int) < (d.size : Int) := by omega
   have ea : ((m : Int)).toNat = m := by omega
   have pa : (0 : Int) ≤ (m : Int) := by omega
   have ba : (m : Int) < (d.size : Int) := by have := H0.out.2.1; omega
   have hX := H0.out
   have hX2 := hX.2.1
   obtain ⟨xh, hxh⟩ : ∃ x, x = d[h]! := ⟨_, rfl⟩
   obtain ⟨xa, hxa⟩ : ∃ x, x = d[m]! := ⟨_, rfl⟩
   have lh := S1.out.ld R hX.2.2.2.2.symm P h (by omega)
   have la := S1.out.ld R hX.2.2.2.2.symm P m (by omega)
   rw [← hxh] at lh
   rw [← hxa] at la
   have hc := S1.out.cmp HC.out hX.2.2.2.2.symm xa xh
   have HX : Hid (xh = d[h]! ∧ xa = d[m]!) := ⟨hxh, hxa⟩
   have HHh : Hid (h = (i + j) / 2 ∧ ij = i + j) := ⟨hh, hij2⟩
   clear hxh hxa hX hX2 hh hij2
   by_cases hlv : cf xa xh < 0
   ·have hd : decide (cf xa xh < 0) = true := decide_eq_true hlv
    go_wp2_with fail
    go_quiet_grown (first | (go_at_fn g; refine Calls.grown_of (hc _ _)))
    have S2 : Aside (SWK enc k w0 blk off d (grow (wr.drewN nq) osq)) := S1.out.grown nq osq
    clear lh la hc S1
    generalize grow (wr.drewN nq) osq = w2 at S2 ⊢
    clear nq osq
    go_wp2
    go_roundg (h - i)
    case measure => have := HHh.out; omega
    case rel =>
     refine ⟨i, h, rfl, rfl, by omega, by omega, by omega, Nat.le_refl _, S2, ⟨HB.out.1, fun q q1 q2 => ?_⟩⟩
     have hlt' : ltOf cf d[m]! d[h]! = true := by rw [← HX.out.1, ← HX.out.2]; exact hd
     cases hq : ltOf cf d[m]! d[q]! with
     | true => rfl
     | false =>
      have h9 := SortedIn.le HS.out.1 HS.out.2.1 (show a ≤ h by omega) q1 (by omega)
      rw [HS.out.1.ntrans _ _ _ hq h9] at hlt'
      cases hlt'
   ·have hd : decide (cf xa xh < 0) = false := decide_eq_false hlv
    go_wp2_with fail
    go_quiet_grown (first | (go_at_fn g; refine Calls.grown_of (hc _ _)))
    have S2 : Aside (SWK enc k w0 blk off d (grow (wr.drewN nq) osq)) := S1.out.grown nq osq
    clear lh la hc S1
    generalize grow (wr.drewN nq) osq = w2 at S2 ⊢
    clear nq osq
    go_wp2
    go_roundg (j - (h + 1))
    case measure => have := HHh.out; omega
    case rel =>
     refine ⟨h + 1, j, by go_num, rfl, by omega, by omega, by omega, Nat.le_refl _, S2, ⟨fun q q1 q2 => ?_, HB.out.2⟩⟩
     have hlt' : ltOf cf d[m]! d[h]! = false := by rw [← HX.out.1, ← HX.out.2]; exact hd
     have h9 := SortedIn.le HS.out.1 HS.out.2.1 q1 (show q ≤ h by omega) (by omega)
     exact HS.out.1.ntrans _ _ _ hlt' h9
  ·have hltz : ¬ (i : Int) < (j : Int) := by omega
   have hji : j = i := by omega
   subst hji
   go_wp2
   go_loopg [17] (m - j) (fun kx s13 wr => ∃ (kk : Nat) (dk : Array α), s13 = .int .i64 kk ∧ j ≤ kk ∧ kk ≤ m ∧ kk - j ≤ kx ∧ dk.size = d.size ∧ Aside (SWK enc k w0 blk off dk wr) ∧ Hid (PermIn a b d dk ∧ ∀ q, dk[q]! = Y6b kk m (m + 1) d q))
   case atStart => exact ⟨m, d, rfl, by omega, by omega, by omega, rfl, S1, ⟨permIn_refl _ _ _, fun q => (Ycj q).symm⟩⟩
   case round =>
    clear S1
    obtain ⟨kk, dk, rfl, hjk, hkm, hkx2, hds, S1, HR⟩ := hrel
    by_cases hk : j < kk
    ·have hkz : (j : Int) < (kk : Int) := by omega
     obtain ⟨kp, rfl⟩ : ∃ kp, kk = kp + 1 := ⟨kk - 1, by omega⟩
     have hX := H0.out
     have hX2 := hX.2.1
     have S2 : Aside (SWK enc k w0 blk off (swp dk (kp + 1) kp) ((wr.drew.setCells blk (off + (kp + 1) * k) (enc dk[kp]!)).setCells blk (off + kp * k) (enc dk[kp + 1]!))) := S1.out.swapped R _ _ (by omega) (by omega)
     have la := S1.out.ld1 R (by omega) P (kp + 1) (by omega)
     have lb := S1.out.ld1 R (by omega) P kp (by omega)
     have sa := S1.out.st1 R (by omega) P (kp + 1) (by omega) dk[kp]!
     have sb := S1.out.st2 R (by omega) P (kp + 1) kp (by omega) (by omega) dk[kp]! dk[kp + 1]!
     have na : (enc dk[kp + 1]!).length = k := R.hk _
     have nb : (enc dk[kp]!).length = k := R.hk _
     generalize enc dk[kp + 1]! = cI at S2 la sb na
     generalize enc dk[kp]! = cJ at S2 lb sa sb nb
     obtain ⟨k1, hk1⟩ : ∃ k1, k1 = kp + 1 := ⟨_, rfl⟩
     have wk : IntKind.i64.wrap ((k1 : Int) - 1) = (kp : Int) := by rw [IntKind.wrap_i64]; omega
     have ek : ((kp : Int)).toNat = kp := by omega
     have pk : (0 : Int) ≤ (kp : Int) := by omega
     have bk : (kp : Int) < (d.size : Int) := by omega
     have ek1 : ((k1 : Int)).toNat = k1 := by omega
     have pk1 : (0 : Int) ≤ (k1 : Int) := by omega
     have bk1 : (k1 : Int) < (d.size : Int) := by omega
     rw [← hk1] at S2 la sa sb hkz hk hjk hkm hkx2 ⊢
     have HK1 : Hid (k1 = kp + 1) := hk1
     clear S1 hX hX2
     rw [← hk1] at HR
     clear hk1
     go_wp2_with fail
     go_big_region_o
     clear la lb sa sb
     generalize (wr.drew.setCells blk (off + k1 * k) cJ).setCells blk (off + kp * k) cI = w2 at S2 ⊢
     go_wp2
     go_roundg (kp - j)
     case measure => have := HK1.out; omega
     case rel =>
      have hk1 := HK1.out
      have hX := H0.out
      have hX2 := hX.2.1
      subst hk1
      exact ⟨kp, swp dk (kp + 1) kp, rfl, by omega, by omega, Nat.le_refl _, by rw [size_swp]; exact hds, S2, ⟨permIn_trans _ _ _ _ _ HR.out.1 (swp_permIn _ a b _ _ (by omega) (by omega) (by omega) (by omega) (by omega)), Yvg (by omega) (by omega) HR.out.2⟩⟩
    ·have hkz : ¬ (j : Int) < (kk : Int) := by omega
     go_wp2
     (try simp only [Exit.inBlock, Exit.then]); refine bodyPost_ret (results_none rfl _ _ _) rfl ?_
     refine ⟨rfl, dk, S1.out, HR.out.1, ?_⟩
     have e : kk = j := by omega
     have hr := HR.out.2
     rw [e] at hr
     have hX := H0.out
     refine Yi5 HS.out.1 hX.2.1 HS.out.2.1 hmi (by omega) HB.out.1 HB.out.2 ?_
     rw [hX.2.1]
     exact hr
end Go.Proofs.YtkkfkmoikcmhoaaGreat.Sm
namespace Go.Proofs.YtkkfkmoikcmhoaaGreat.Sm
open Go.Shelf Go.RowKit Go.Lib Go.Sort
variable {α : Type} [Inhabited α] {P : Program}
def Merges (P : Program) (k : Nat) (enc : α → List Value) (cf : α → α → Int) (g : Nat) (cb : Array Value) (blk off cap : Nat) (d0 : Array α) (w0 : World) (N : Nat) : Prop :=
 ∀ (a m b : Nat) (d : Array α) (w : World), b - a < N → d0.size = d.size → SWK enc k w0 blk off d w → a < m → m < b → b ≤ d.size → SortedIn (ltOf cf) a m d → SortedIn (ltOf cf) m b d →
  Calls P 173 #[.slice (some ⟨blk, off, none⟩) d.size cap, .int .i64 a, .int .i64 m, .int .i64 b, .func (.func g) #[] cb] w fun e w' => e = .returned (.tuple #[]) ∧ ∃ d', SWK enc k w0 blk off d' w' ∧ PermIn a b d d' ∧ SortedIn (ltOf cf) a b d'
set_option maxHeartbeats 8000000 in
set_option maxRecDepth 1000000 in
theorem Yw0 (L : Lays P) (k : Nat) (zE : ∀ w, (Go.sizeOf 221).run P w = .ok k w) (enc : α → List Value) (cf : α → α → Int) (hO : SWO (ltOf cf)) (g : Nat) (cb : Array Value) (blk off cap : Nat) (d0 : Array α) (w0 : World) (eg : ∀ args w, (callFunc g args).run P w = .ok (.enter g args) w)
  (hcmp : CmpLays P g cb enc k cf blk off d0.size w0) (R : RowK enc k w0 blk off d0) (N : Nat) (IH : Merges P k enc cf g cb blk off cap d0 w0 N) (a m b : Nat) (d : Array α) (w : World) (hN : b - a < N + 1) (hs : d0.size = d.size) (S : SWK enc k w0 blk off d w) (ham : a + 1 < m) (hmb : m + 1 < b) (hb : b ≤ d.size) (hsz : d.size < 4611686018427387904)
  (s1 : SortedIn (ltOf cf) a m d) (s2 : SortedIn (ltOf cf) m b d) :
  Calls P 173 #[.slice (some ⟨blk, off, none⟩) d.size cap, .int .i64 a, .int .i64 m, .int .i64 b, .func (.func g) #[] cb] w fun e w' => e = .returned (.tuple #[]) ∧ ∃ d', SWK enc k w0 blk off d' w' ∧ PermIn a b d d' ∧ SortedIn (ltOf cf) a b d' := by
 have mixed := L.mixed; have t0 := L.t0; have a0 := L.a0; have z0 := L.z0; have v0 := L.v0; have t3 := L.t3; have a3 := L.a3; have z3 := L.z3; have v3 := L.v3; have t4 := L.t4; have a4 := L.a4; have z4 := L.z4; have v4 := L.v4; have t33 := L.t33; have a33 := L.a33; have z33 := L.z33; have v33 := L.v33; have t36 := L.t36; have a36 := L.a36; have z36 := L.z36; have v36 := L.v36; have t49 := L.t49; have a49 := L.a49; have z49 := L.z49; have v49 := L.v49; have aE := L.aE
 have e32 : ∀ args w, (callFunc 174 args).run P w = .ok (.enter 174 args) w := enters_of L.fR (by kernel_rfl) rfl
 have e31 : ∀ args w, (callFunc 173 args).run P w = .ok (.enter 173 args) w := enters_of L.fM (by kernel_rfl) rfl
 have LL : Hid (Lays P ∧ Merges P k enc cf g cb blk off cap d0 w0 N) := ⟨L, IH⟩
 have S0 : Aside (SWK enc k w0 blk off d w) := S
 have HC : Aside (CmpLays P g cb enc k cf blk off d0.size w0) := hcmp
 have H0 : Hid (a + 1 < m ∧ m + 1 < b ∧ b ≤ d.size ∧ d.size < 4611686018427387904 ∧ d0.size = d.size ∧ b - a < N + 1) := ⟨ham, hmb, hb, hsz, hs, hN⟩
 have HS : Hid (SWO (ltOf cf) ∧ SortedIn (ltOf cf) a m d ∧ SortedIn (ltOf cf) m b d) := ⟨hO, s1, s2⟩
 obtain ⟨ma, hma⟩ : ∃ ma, ma = m - a := ⟨_, rfl⟩
 obtain ⟨bm, hbm⟩ : ∃ bm, bm = b - m := ⟨_, rfl⟩
 have w1 : IntKind.i64.wrap ((m : Int) - (a : Int)) = (ma : Int) := by rw [IntKind.wrap_i64]; omega
 have w2 : IntKind.i64.wrap ((b : Int) - (m : Int)) = (bm : Int) := by rw [IntKind.wrap_i64]; omega
 have hma1 : ((ma : Int) == 1) = false := beq_eq_false_iff_ne.2 (by omega)
 have hbm1 : ((bm : Int) == 1) = false := beq_eq_false_iff_ne.2 (by omega)
 obtain ⟨mid, hmid⟩ : ∃ mid, mid = (a + b) / 2 := ⟨_, rfl⟩
 obtain ⟨ab, hab⟩ : ∃ ab, ab = a + b := ⟨_, rfl⟩
 obtain ⟨n, hn⟩ : ∃ n, n = mid + m := ⟨_, rfl⟩
 obtain ⟨lo, hlo⟩ : ∃ lo, lo = if mid < m then mid + m - b else a := ⟨_, rfl⟩
 obtain ⟨hi, hhi⟩ : ∃ hi, hi = if mid < m then mid else m := ⟨_, rfl⟩
 obtain ⟨p, hp⟩ : ∃ p, p = mid + m - 1 := ⟨_, rfl⟩
 have wij : IntKind.i64.wrap ((a : Int) + (b : Int)) = (ab : Int) := by rw [IntKind.wrap_i64]; omega
 have wu : IntKind.u64.wrap (ab : Int) = (ab : Int) := by rw [IntKind.wrap_u64]; omega
 have wh : IntKind.i64.wrap (mid : Int) = (mid : Int) := by rw [IntKind.wrap_i64]; omega
 have wh2 : IntKind.u64.wrap (mid : Int) = (mid : Int) := by rw [IntKind.wrap_u64]; omega
 have whs : (ab : Int) / 2 = (mid : Int) := by omega
 have wn : IntKind.i64.wrap ((mid : Int) + (m : Int)) = (n : Int) := by rw [IntKind.wrap_i64]; omega
 have wp : IntKind.i64.wrap ((n : Int) - 1) = (p : Int) := by rw [IntKind.wrap_i64]; omega
 have hlh : a ≤ lo ∧ lo ≤ hi ∧ hi ≤ m ∧ hi ≤ mid := by
  by_cases h : mid < m
  ·rw [if_pos h] at hlo hhi; omega
  ·rw [if_neg h] at hlo hhi; omega
 have HM : Hid (mid = (a + b) / 2 ∧ n = mid + m ∧ p = mid + m - 1 ∧ (lo = if mid < m then mid + m - b else a) ∧ (hi = if mid < m then mid else m)) := ⟨hmid, hn, hp, hlo, hhi⟩
 have wlo : mid < m → IntKind.i64.wrap ((n : Int) - (b : Int)) = (lo : Int) := fun h => by rw [if_pos h] at hlo; rw [IntKind.wrap_i64]; omega
 have eqs : (mid < m → hi = mid) ∧ (¬ mid < m → lo = a ∧ hi = m) := ⟨fun h => by rw [hhi, if_pos h], fun h => by rw [hlo, hhi, if_neg h, if_neg h]; exact ⟨rfl, rfl⟩⟩
 have WLO : Hid ((mid < m → IntKind.i64.wrap ((n : Int) - (b : Int)) = (lo : Int)) ∧ (mid < m → hi = mid) ∧ (¬ mid < m → lo = a ∧ hi = m)) := ⟨wlo, eqs⟩
 have HLH : Hid (a ≤ lo ∧ lo ≤ hi ∧ hi ≤ m ∧ hi ≤ mid) := hlh
 clear S hcmp s1 s2 hO hs hma hbm hmid hab hn hlo hhi hp hlh wlo eqs IH hN hmb
 go_enter L.fM, Tryz.ntmps173
 go_upto_if 140 with fail
 go_cut [20, 21] (fun s20 s21 wx => s20 = .int .i64 lo ∧ s21 = .int .i64 hi ∧ wx = w)
 case first =>
  by_cases h : mid < m
  ·have hz : (mid : Int) < (m : Int) := by omega
   have e1 := WLO.out.1 h
   have e2 := WLO.out.2.1 h
   subst e2
   go_wp2_with fail
   go_meet
   exact ⟨rfl, rfl, rfl⟩
  ·have hz : ¬ (mid : Int) < (m : Int) := by omega
   obtain ⟨e1, e2⟩ := WLO.out.2.2 h
   subst e1
   subst e2
   go_wp2_with fail
   go_meet
   exact ⟨rfl, rfl, rfl⟩
 case rest =>
  obtain ⟨rfl, rfl, rfl⟩ := hcut
  go_wp2_with fail
  go_loopg [20, 21] (hi - lo) (fun kx s20 s21 wr => ∃ (i j : Nat), s20 = .int .i64 i ∧ s21 = .int .i64 j ∧ j - i ≤ kx ∧ Aside (SWK enc k w0 blk off d wr) ∧ Hid (Srch (ltOf cf) d p lo hi i j))
  case atStart => exact ⟨lo, hi, rfl, rfl, Nat.le_refl _, S0, ⟨Nat.le_refl _, HLH.out.2.1, Nat.le_refl _, fun h => by omega, fun h => by omega⟩⟩
  case round =>
   clear S0
   obtain ⟨i, j, rfl, rfl, hkx, S1, HB⟩ := hrel
   have hB1 := HB.out.h1
   have hB2 := HB.out.h2
   have hB3 := HB.out.h3
   have hl := HLH.out
   obtain ⟨hM1, hM2, hM3, hM4, hM5⟩ := HM.out
   have hcut := fun h : i = j => Srch.cut (a := a) (b := b) HS.out.1 HS.out.2.1 HS.out.2.2 (by omega) (by have := H0.out; omega) hM1 hM4 hM5 (start := i) (by have := HB.out; rw [hM3, ← h] at this; exact this)
   by_cases hlt : i < j
   ·have hltz : (i : Int) < (j : Int) := by omega
    obtain ⟨h, hh⟩ : ∃ h, h = (i + j) / 2 := ⟨_, rfl⟩
    obtain ⟨ij, hij2⟩ : ∃ ij, ij = i + j := ⟨_, rfl⟩
    have hbd : p - h < b ∧ m ≤ p - h ∧ h ≤ p := by
     have := H0.out
     by_cases h9 : mid < m
     ·rw [if_pos h9] at hM4 hM5; omega
     ·rw [if_neg h9] at hM4 hM5; omega
    obtain ⟨y, hy⟩ : ∃ y, y = p - h := ⟨_, rfl⟩
    have wij : IntKind.i64.wrap ((i : Int) + (j : Int)) = (ij : Int) := by rw [IntKind.wrap_i64]; omega
    have wu : IntKind.u64.wrap (ij : Int) = (ij : Int) := by rw [IntKind.wrap_u64]; omega
    have wh : IntKind.i64.wrap (h : Int) = (h : Int) := by rw [IntKind.wrap_i64]; omega
    have wh2 : IntKind.u64.wrap (h : Int) = (h : Int) := by rw [IntKind.wrap_u64]; omega
    have whs : (ij : Int) / 2 = (h : Int) := by omega
    have wy : IntKind.i64.wrap ((p : Int) - (h : Int)) = (y : Int) := by rw [IntKind.wrap_i64]; omega
    have hih : i ≤ h ∧ h < j := by omega
    have eh : ((h : Int)).toNat = h := by omega
    have ph : (0 : Int) ≤ (h : Int) := by omega
    have bh : (h : Int) < (d.size : Int) := by omega
    have ey : ((y : Int)).toNat = y := by omega
    have py : (0 : Int) ≤ (y : Int) := by omega
    have byy : (y : Int) < (d.size : Int) := by omega
    have hX := H0.out.2.2.2.2.1
    obtain ⟨xh, hxh⟩ : ∃ x, x = d[h]! := ⟨_, rfl⟩
    obtain ⟨xa, hxa⟩ : ∃ x, x = d[y]! := ⟨_, rfl⟩
    have lh := S1.out.ld R hX.symm P h (by omega)
    have la := S1.out.ld R hX.symm P y (by omega)
    rw [← hxh] at lh
    rw [← hxa] at la
    have hc := S1.out.cmp HC.out hX.symm xa xh
    have HX : Hid (xh = d[h]! ∧ xa = d[y]!) := ⟨hxh, hxa⟩
    have HHh : Hid (h = (i + j) / 2 ∧ ij = i + j ∧ y = p - h ∧ lo ≤ i ∧ i ≤ h ∧ h < j ∧ j ≤ hi) := ⟨hh, hij2, hy, hB1, hih.1, hih.2, hB3⟩
    clear hxh hxa hX hh hij2 hy hcut hM1 hM2 hM3 hM4 hM5 hl hB1 hB2 hB3 hbd hih
    by_cases hlv : cf xa xh < 0
    ·have hd : decide (cf xa xh < 0) = true := decide_eq_true hlv
     go_wp2_with fail
     go_quiet_grown (first | (go_at_fn g; refine Calls.grown_of (hc _ _)))
     have S2 : Aside (SWK enc k w0 blk off d (grow (wr.drewN nq) osq)) := S1.out.grown nq osq
     clear lh la hc S1
     generalize grow (wr.drewN nq) osq = w2 at S2 ⊢
     clear nq osq
     go_wp2_with fail
     have hH := HHh.out
     go_roundg (h - i)
     case measure => omega
     case rel =>
      refine ⟨i, h, rfl, rfl, Nat.le_refl _, S2, (⟨by omega, by omega, by omega, HB.out.below, fun _ => ?_⟩ : Srch _ _ _ _ _ _ _)⟩
      rw [← hH.2.2.1, ← HX.out.1, ← HX.out.2]; exact hd
    ·have hd : decide (cf xa xh < 0) = false := decide_eq_false hlv
     go_wp2_with fail
     go_quiet_grown (first | (go_at_fn g; refine Calls.grown_of (hc _ _)))
     have S2 : Aside (SWK enc k w0 blk off d (grow (wr.drewN nq) osq)) := S1.out.grown nq osq
     clear lh la hc S1
     generalize grow (wr.drewN nq) osq = w2 at S2 ⊢
     clear nq osq
     go_wp2_with fail
     have hH := HHh.out
     go_roundg (j - (h + 1))
     case measure => omega
     case rel =>
      refine ⟨h + 1, j, by go_num, rfl, Nat.le_refl _, S2, (⟨by omega, by omega, by omega, fun _ => ?_, HB.out.above⟩ : Srch _ _ _ _ _ _ _)⟩
      simp only [Nat.add_sub_cancel]
      rw [← hH.2.2.1, ← HX.out.1, ← HX.out.2]; exact hd
   ·have hltz : ¬ (i : Int) < (j : Int) := by omega
    have hji : j = i := by omega
    subst hji
    have C := hcut rfl
    have HCt : Hid (Cut (ltOf cf) a j m (n - j) b d) := by rw [hM2]; exact C
    obtain ⟨e, he⟩ : ∃ e, e = n - j := ⟨_, rfl⟩
    have we : IntKind.i64.wrap ((n : Int) - (j : Int)) = (e : Int) := by have := C.hm; have := C.he; have := C.hb; rw [IntKind.wrap_i64]; omega
    rw [← he] at HCt
    have hc1 := HCt.out.hs
    have hc2 := HCt.out.hm
    have hc3 := HCt.out.he
    have hc4 := HCt.out.hb
    have HE : Hid (j + (e - m) = mid ∧ a < mid ∧ mid < b) := by have := H0.out; exact ⟨by omega, by omega, by omega⟩
    clear hcut C he hM1 hM2 hM3 hM4 hM5 hl hB1 hB2 hB3
    obtain ⟨c1, hcc1⟩ : ∃ c : Bool, c = decide (j < m ∧ m < e) := ⟨_, rfl⟩
    have HC1 : Hid (c1 = decide (j < m ∧ m < e)) := hcc1
    clear hcc1
    go_upto_region 39 with fail
    go_cut [185] (fun s wx => s = .bool c1 ∧ wr = wx)
    case first =>
     by_cases h1 : j < m
     ·have h1z : (j : Int) < (m : Int) := by omega
      by_cases h2 : m < e
      ·have h2z : (m : Int) < (e : Int) := by omega
       go_wp2_with fail
       go_meet
       exact ⟨congrArg Value.bool (HC1.out.trans (decide_eq_true ⟨h1, h2⟩)).symm, rfl⟩
      ·have h2z : ¬ (m : Int) < (e : Int) := by omega
       go_wp2_with fail
       go_meet
       exact ⟨congrArg Value.bool (HC1.out.trans (decide_eq_false (fun h => h2 h.2))).symm, rfl⟩
     ·have h1z : ¬ (j : Int) < (m : Int) := by omega
      go_wp2_with fail
      go_meet
      exact ⟨congrArg Value.bool (HC1.out.trans (decide_eq_false (fun h => h1 h.1))).symm, rfl⟩
    case' rest => obtain ⟨rfl, rfl⟩ := hcut
    go_upto_if 185 with fail
    go_cut [24] (fun s24 wx => s24 = .int .i64 e ∧ ∃ d1, Aside (SWK enc k w0 blk off d1 wx) ∧ Hid (PermIn a b d d1 ∧ ∀ q, d1[q]! = Y6b j m e d q))
    case first =>
     have done : ¬ (j < m ∧ m < e) → Hid (PermIn a b d d ∧ ∀ q, d[q]! = Y6b j m e d q) := fun h => ⟨permIn_refl _ _ _, fun q => by
      by_cases h1 : j = m
      ·rw [h1, Ycj]
      ·have h2 : e = m := by omega
       rw [h2, Yck hc2]⟩
     have DONE : Hid (¬ (j < m ∧ m < e) → Hid (PermIn a b d d ∧ ∀ q, d[q]! = Y6b j m e d q)) := done
     clear done
     cases c1 with
     | true =>
      obtain ⟨h1, h2⟩ := of_decide_eq_true HC1.out.symm
      have hcc := rotate LL.out.1 k zE enc blk off cap j m e (.func (.func g) #[] cb) d0 d w0 wr R H0.out.2.2.2.2.1 S1.out h1 h2 (by omega) hsz
      clear h1 h2
      go_wp2_with (go_at_fn (174); refine hcc.mono ?_; rintro e w' ⟨rfl, d1, S2, hp1, hr1⟩)
      go_meet
      exact ⟨rfl, d1, S2, ⟨permIn_mono _ _ _ _ _ _ hc1 hc4 hb hp1, hr1⟩⟩
     | false =>
      have h := of_decide_eq_false HC1.out.symm
      clear HC1
      have DN := DONE.out h
      clear h
      go_wp2_with fail
      go_meet
      exact ⟨rfl, d, S1, DN⟩
    case rest => as_aux_lemma =>
     obtain ⟨rfl, d1, S2, HP1⟩ := hcut
     have hd1 : d1.size = d.size := HP1.out.1.1
     have HT : Hid (SortedIn (ltOf cf) a j d1 ∧ SortedIn (ltOf cf) j mid d1 ∧ SortedIn (ltOf cf) mid e d1 ∧ SortedIn (ltOf cf) e b d1 ∧ ∀ x y, a ≤ x → x < mid → mid ≤ y → y < b → ltOf cf d1[y]! d1[x]! = false) := by
      have hh := HE.out.1
      refine ⟨Yom HS.out.2.1 HCt.out HP1.out.2, ?_, ?_, Yje HS.out.2.2 HCt.out HP1.out.2, ?_⟩
      ·rw [← hh]; exact Yhh HS.out.2.2 HCt.out HP1.out.2
      ·rw [← hh]; exact Yab HS.out.2.1 HCt.out HP1.out.2
      ·rw [← hh]; exact Yaa HS.out.2.1 HS.out.2.2 HCt.out HP1.out.2
     clear S1
     obtain ⟨c2, hcc2⟩ : ∃ c : Bool, c = decide (a < j ∧ j < mid) := ⟨_, rfl⟩
     have HC2 : Hid (c2 = decide (a < j ∧ j < mid)) := hcc2
     clear hcc2
     go_upto_region 41 with fail
     go_cut [199] (fun s wx => s = .bool c2 ∧ wc = wx)
     case first =>
      by_cases h1 : a < j
      ·have h1z : (a : Int) < (j : Int) := by omega
       by_cases h2 : j < mid
       ·have h2z : (j : Int) < (mid : Int) := by omega
        go_wp2_with fail
        go_meet
        exact ⟨congrArg Value.bool (HC2.out.trans (decide_eq_true ⟨h1, h2⟩)).symm, rfl⟩
       ·have h2z : ¬ (j : Int) < (mid : Int) := by omega
        go_wp2_with fail
        go_meet
        exact ⟨congrArg Value.bool (HC2.out.trans (decide_eq_false (fun h => h2 h.2))).symm, rfl⟩
      ·have h1z : ¬ (a : Int) < (j : Int) := by omega
       go_wp2_with fail
       go_meet
       exact ⟨congrArg Value.bool (HC2.out.trans (decide_eq_false (fun h => h1 h.1))).symm, rfl⟩
     case' rest => obtain ⟨rfl, rfl⟩ := hcut
     go_upto_if 199 with fail
     go_cut [24] (fun s24 wx => s24 = .int .i64 e ∧ ∃ d2, Aside (SWK enc k w0 blk off d2 wx) ∧ Hid (PermIn a mid d1 d2 ∧ SortedIn (ltOf cf) a mid d2))
     case first =>
      have hE := HE.out
      have done : ¬ (a < j ∧ j < mid) → Hid (PermIn a mid d1 d1 ∧ SortedIn (ltOf cf) a mid d1) := fun h => ⟨permIn_refl _ _ _, by
       by_cases h1 : a = j
       ·rw [h1]; exact HT.out.2.1
       ·have h2 : mid = j := by omega
        rw [h2]; exact HT.out.1⟩
      have DONE : Hid (¬ (a < j ∧ j < mid) → Hid (PermIn a mid d1 d1 ∧ SortedIn (ltOf cf) a mid d1)) := done
      clear done
      clear hE
      cases c2 with
      | true =>
       obtain ⟨h1, h2⟩ := of_decide_eq_true HC2.out.symm
       have hcc := LL.out.2 a j mid d1 _ (by have := H0.out; have := HE.out; omega) (by have := H0.out; omega) S2.out h1 h2 (by have := HE.out; omega) HT.out.1 HT.out.2.1
       rw [hd1] at hcc
       clear h1 h2
       go_wp2_with (go_at_fn (173); refine hcc.mono ?_; rintro e w' ⟨rfl, d2, S3, hp1, hr1⟩)
       go_meet
       exact ⟨rfl, d2, S3, ⟨hp1, hr1⟩⟩
      | false =>
       have h := of_decide_eq_false HC2.out.symm
       clear HC2
       have DN := DONE.out h
       clear h
       go_wp2_with fail
       go_meet
       exact ⟨rfl, d1, S2, DN⟩
     case rest => as_aux_lemma =>
      obtain ⟨rfl, d2, S3, HP2⟩ := hcut
      have hd2 : d2.size = d.size := by rw [HP2.out.1.1]; exact hd1
      clear S2
      have hE := HE.out
      have fin : Hid (∀ d3, PermIn mid b d2 d3 → SortedIn (ltOf cf) mid b d3 → PermIn a b d d3 ∧ SortedIn (ltOf cf) a b d3) := fun d3 p3 s3 => by
       have h9 := halves (d := d1) (by omega) (by omega) (by omega) HT.out.2.2.2.2 HP2.out.1 HP2.out.2 p3 s3
       exact ⟨permIn_trans _ _ _ _ _ HP1.out.1 h9.1, h9.2⟩
      have done : ¬ (mid < e ∧ e < b) → Hid (SortedIn (ltOf cf) mid b d2) := fun h => by
       by_cases h1 : mid = e
       ·have := Y3m HP2.out.1 HT.out.2.2.2.1 (Or.inr (by omega))
        rw [← h1] at this
        exact this
       ·have h2 : e = b := by omega
        have := Y3m HP2.out.1 HT.out.2.2.1 (Or.inr (by omega))
        rw [h2] at this
        exact this
      have DONE : Hid (¬ (mid < e ∧ e < b) → Hid (SortedIn (ltOf cf) mid b d2)) := done
      clear done
      clear hE
      by_cases h1 : mid < e
      ·have h1z : (mid : Int) < (e : Int) := by omega
       by_cases h2 : e < b
       ·have h2z : (e : Int) < (b : Int) := by omega
        have hcc := LL.out.2 mid e b d2 _ (by have := H0.out; have := HE.out; omega) (by have := H0.out; omega) S3.out h1 h2 (by omega) (Y3m HP2.out.1 HT.out.2.2.1 (Or.inr (by omega))) (Y3m HP2.out.1 HT.out.2.2.2.1 (Or.inr (by omega)))
        rw [hd2] at hcc
        go_wp2_with (go_at_fn (173); refine hcc.mono ?_; rintro e w' ⟨rfl, d3, S4, hp1, hr1⟩)
        go_end0
        obtain ⟨q1, q2⟩ := fin.out d3 hp1 hr1
        exact ⟨rfl, d3, S4, q1, q2⟩
       ·have h2z : ¬ (e : Int) < (b : Int) := by omega
        go_wp2_with fail
        go_end0
        obtain ⟨q1, q2⟩ := fin.out d2 (permIn_refl _ _ _) (DONE.out (fun h => h2 h.2)).out
        exact ⟨rfl, d2, S3.out, q1, q2⟩
      ·have h1z : ¬ (mid : Int) < (e : Int) := by omega
       go_wp2_with fail
       go_end0
       obtain ⟨q1, q2⟩ := fin.out d2 (permIn_refl _ _ _) (DONE.out (fun h => h1 h.1)).out
       exact ⟨rfl, d2, S3.out, q1, q2⟩
theorem Yrw (L : Lays P) (k : Nat) (zE : ∀ w, (Go.sizeOf 221).run P w = .ok k w) (enc : α → List Value) (cf : α → α → Int) (hO : SWO (ltOf cf)) (g : Nat) (cb : Array Value) (blk off cap : Nat) (d0 : Array α) (w0 : World) (eg : ∀ args w, (callFunc g args).run P w = .ok (.enter g args) w)
  (hcmp : CmpLays P g cb enc k cf blk off d0.size w0) (R : RowK enc k w0 blk off d0) (hsz : d0.size < 4611686018427387904) (N : Nat) : Merges P k enc cf g cb blk off cap d0 w0 N := by
 induction N with
 | zero => intro a m b d w hN; omega
 | succ N ih =>
  intro a m b d w hN hs S ham hmb hb s1 s2
  by_cases h1 : m = a + 1
  ·exact Yvz L k zE enc cf hO g cb blk off cap a m b d0 d w0 w eg hcmp R hs S h1 hmb hb (by omega) s1 s2
  ·by_cases h2 : b = m + 1
   ·exact Yrx L k zE enc cf hO g cb blk off cap a m b d0 d w0 w eg hcmp R hs S (by omega) h2 hb (by omega) s1 s2
   ·exact Yw0 L k zE enc cf hO g cb blk off cap d0 w0 eg hcmp R N ih a m b d w hN hs S (by omega) (by omega) hb (by omega) s1 s2
end Go.Proofs.YtkkfkmoikcmhoaaGreat.Sm

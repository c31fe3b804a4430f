/- SmD, SmE, LmM: merged. -/
import Derived.Deep.DeepCutAuto
import Derived.Test.YtkkfkmoikcmhoaaGreatAaf
import Derived.Test.YtkkfkmoikcmhoaaGreatAar
set_option linter.unusedVariables false
set_option linter.unusedSimpArgs false
namespace Go.Proofs.YtkkfkmoikcmhoaaGreat.Sm
open Go.Shelf Go.RowKit Go.Lib Go.Sort
variable {α : Type} [Inhabited α] {P : Program}
def Merges (P : Program) (k : Nat) (enc : α → List Value) (cf : α → α → Int) (g : Nat) (cb : Array Value) (blk off cap : Nat) (d0 : Array α) (w0 : World) (N : Nat) : Prop :=
 ∀ (a m b : Nat) (d : Array α) (w : World), b - a < N → d0.size = d.size → SWK enc k w0 blk off d w → a < m → m < b → b ≤ d.size → SortedIn (ltOf cf) a m d → SortedIn (ltOf cf) m b d →
  Calls P 173 #[.slice (some ⟨blk, off, none⟩) d.size cap, .int .i64 a, .int .i64 m, .int .i64 b, .func (.func g) #[] cb] w fun e w' => e = .returned (.tuple #[]) ∧ ∃ d', SWK enc k w0 blk off d' w' ∧ PermIn a b d d' ∧ SortedIn (ltOf cf) a b d'
set_option maxHeartbeats 8000000 in
set_option maxRecDepth 1000000 in
theorem Yuh (L : Lays P) (k : Nat) (zE : ∀ w, (Go.sizeOf 221).run P w = .ok k w) (enc : α → List Value) (cf : α → α → Int) (hO : SWO (ltOf cf)) (g : Nat) (cb : Array Value) (blk off cap : Nat) (d0 : Array α) (w0 : World) (eg : ∀ args w, (callFunc g args).run P w = .ok (.enter g args) w)
  (hcmp : CmpLays P g cb enc k cf blk off d0.size w0) (R : RowK enc k w0 blk off d0) (N : Nat) (IH : Merges P k enc cf g cb blk off cap d0 w0 N) (a m b : Nat) (d : Array α) (w : World) (hN : b - a < N + 1) (hs : d0.size = d.size) (S : SWK enc k w0 blk off d w) (ham : a + 1 < m) (hmb : m + 1 < b) (hb : b ≤ d.size) (hsz : d.size < 4611686018427387904)
  (s1 : SortedIn (ltOf cf) a m d) (s2 : SortedIn (ltOf cf) m b d) :
  Calls P 173 #[.slice (some ⟨blk, off, none⟩) d.size cap, .int .i64 a, .int .i64 m, .int .i64 b, .func (.func g) #[] cb] w fun e w' => e = .returned (.tuple #[]) ∧ ∃ d', SWK enc k w0 blk off d' w' ∧ PermIn a b d d' ∧ SortedIn (ltOf cf) a b d' := by
 have mixed := L.mixed; have t0 := L.t0; have a0 := L.a0; have z0 := L.z0; have v0 := L.v0; have t3 := L.t3; have a3 := L.a3; have z3 := L.z3; have v3 := L.v3; have t4 := L.t4; have a4 := L.a4; have z4 := L.z4; have v4 := L.v4; have t33 := L.t33; have a33 := L.a33; have z33 := L.z33; have v33 := L.v33; have t36 := L.t36; have a36 := L.a36; have z36 := L.z36; have v36 := L.v36; have t49 := L.t49; have a49 := L.a49; have z49 := L.z49; have v49 := L.v49; have aE := L.aE
 have e32 : ∀ args w, (callFunc 174 args).run P w = .ok (.enter 174 args) w := enters_of L.fR (by kernel_rfl) rfl
 have e31 : ∀ args w, (callFunc 173 args).run P w = .ok (.enter 173 args) w := enters_of L.fM (by kernel_rfl) rfl
 have LL : Hid (Lays P ∧ Merges P k enc cf g cb blk off cap d0 w0 N) := ⟨L, IH⟩
 have S0 : Aside (SWK enc k w0 blk off d w) := S
 have HC : Aside (CmpLays P g cb enc k cf blk off d0.size w0) := hcmp
 have H0 : Hid (a + 1 < m ∧ m + 1 < b ∧ b ≤ d.size ∧ d.size < 4611686018427387904 ∧ d0.size = d.size ∧ b - a < N + 1) := ⟨ham, hmb, hb, hsz, hs, hN⟩
 have HS : Hid (SWO (ltOf cf) ∧ SortedIn (ltOf cf) a m d ∧ SortedIn (ltOf cf) m b d) := ⟨hO, s1, s2⟩
 obtain ⟨ma, hma⟩ : ∃ ma, ma = m - a := ⟨_, rfl⟩
 obtain ⟨bm, hbm⟩ : ∃ bm, bm = b - m := ⟨_, rfl⟩
 have w1 : IntKind.i64.wrap ((m : Int) - (a : Int)) = (ma : Int) := by rw [IntKind.wrap_i64]; omega
 have w2 : IntKind.i64.wrap ((b : Int) - (m : Int)) = (bm : Int) := by rw [IntKind.wrap_i64]; omega
 have hma1 : ((ma : Int) == 1) = false := beq_eq_false_iff_ne.2 (by omega)
 have hbm1 : ((bm : Int) == 1) = false := beq_eq_false_iff_ne.2 (by omega)
 obtain ⟨mid, hmid⟩ : ∃ mid, mid = (a + b) / 2 := ⟨_, rfl⟩
 obtain ⟨ab, hab⟩ : ∃ ab, ab = a + b := ⟨_, rfl⟩
 obtain ⟨n, hn⟩ : ∃ n, n = mid + m := ⟨_, rfl⟩
 obtain ⟨lo, hlo⟩ : ∃ lo, lo = if mid < m then mid + m - b else a := ⟨_, rfl⟩
 obtain ⟨hi, hhi⟩ : ∃ hi, hi = if mid < m then mid else m := ⟨_, rfl⟩
 obtain ⟨p, hp⟩ : ∃ p, p = mid + m - 1 := ⟨_, rfl⟩
 have wij : IntKind.i64.wrap ((a : Int) + (b : Int)) = (ab : Int) := by rw [IntKind.wrap_i64]; omega
 have wu : IntKind.u64.wrap (ab : Int) = (ab : Int) := by rw [IntKind.wrap_u64]; omega
 have wh : IntKind.i64.wrap (mid : Int) = (mid : Int) := by rw [IntKind.wrap_i64]; omega
 have wh2 : IntKind.u64.wrap (mid : Int) = (mid : Int) := by rw [IntKind.wrap_u64]; omega
 have whs : (ab : Int) / 2 = (mid : Int) := by omega
 have wn : IntKind.i64.wrap ((mid : Int) + (m : Int)) = (n : Int) := by rw [IntKind.wrap_i64]; omega
 have wp : IntKind.i64.wrap ((n : Int) - 1) = (p : Int) := by rw [IntKind.wrap_i64]; omega
 have hlh : a ≤ lo ∧ lo ≤ hi ∧ hi ≤ m ∧ hi ≤ mid := by
  by_cases h : mid < m
  ·rw [if_pos h] at hlo hhi; omega
  ·rw [if_neg h] at hlo hhi; omega
 have HM : Hid (mid = (a + b) / 2 ∧ n = mid + m ∧ p = mid + m - 1 ∧ (lo = if mid < m then mid + m - b else a) ∧ (hi = if mid < m then mid else m)) := ⟨hmid, hn, hp, hlo, hhi⟩
 have wlo : mid < m → IntKind.i64.wrap ((n : Int) - (b : Int)) = (lo : Int) := fun h => by rw [if_pos h] at hlo; rw [IntKind.wrap_i64]; omega
 have eqs : (mid < m → hi = mid) ∧ (¬ mid < m → lo = a ∧ hi = m) := ⟨fun h => by rw [hhi, if_pos h], fun h => by rw [hlo, hhi, if_neg h, if_neg h]; exact ⟨rfl, rfl⟩⟩
 have WLO : Hid ((mid < m → IntKind.i64.wrap ((n : Int) - (b : Int)) = (lo : Int)) ∧ (mid < m → hi = mid) ∧ (¬ mid < m → lo = a ∧ hi = m)) := ⟨wlo, eqs⟩
 have HLH : Hid (a ≤ lo ∧ lo ≤ hi ∧ hi ≤ m ∧ hi ≤ mid) := hlh
 clear S hcmp s1 s2 hO hs hma hbm hmid hab hn hlo hhi hp hlh wlo eqs IH hN hmb
 go_enter L.fM, Tryz.ntmps173
 go_upto_if 140 with fail
 go_cut [20, 21] (fun s20 s21 wx => s20 = .int .i64 lo ∧ s21 = .int .i64 hi ∧ wx = w)
 case first =>
  by_cases h : mid < m
  ·have hz : (mid : Int) < (m : Int) := by omega
   have e1 := WLO.out.1 h
   have e2 := WLO.out.2.1 h
   subst e2
   go_wp2_with fail
   go_meet
   exact ⟨rfl, rfl, rfl⟩
  ·have hz : ¬ (mid : Int) < (m : Int) := by omega
   obtain ⟨e1, e2⟩ := WLO.out.2.2 h
   subst e1
   subst e2
   go_wp2_with fail
   go_meet
   exact ⟨rfl, rfl, rfl⟩
 case rest =>
  obtain ⟨rfl, rfl, rfl⟩ := hcut
  go_wp2_with fail
  go_loopg [20, 21] (hi - lo) (fun kx s20 s21 wr => ∃ (i j : Nat), s20 = .int .i64 i ∧ s21 = .int .i64 j ∧ j - i ≤ kx ∧ Aside (SWK enc k w0 blk off d wr) ∧ Hid (Srch (ltOf cf) d p lo hi i j))
  case atStart => exact ⟨lo, hi, rfl, rfl, Nat.le_refl _, S0, ⟨Nat.le_refl _, HLH.out.2.1, Nat.le_refl _, fun h => by omega, fun h => by omega⟩⟩
  case round =>
   clear S0
   obtain ⟨i, j, rfl, rfl, hkx, S1, HB⟩ := hrel
   have hB1 := HB.out.h1
   have hB2 := HB.out.h2
   have hB3 := HB.out.h3
   have hl := HLH.out
   obtain ⟨hM1, hM2, hM3, hM4, hM5⟩ := HM.out
   have hcut := fun h : i = j => Srch.cut (a := a) (b := b) HS.out.1 HS.out.2.1 HS.out.2.2 (by omega) (by have := H0.out; omega) hM1 hM4 hM5 (start := i) (by have := HB.out; rw [hM3, ← h] at this; exact this)
   by_cases hlt : i < j
   ·have hltz : (i : Int) < (j : Int) := by omega
    obtain ⟨h, hh⟩ : ∃ h, h = (i + j) / 2 := ⟨_, rfl⟩
    obtain ⟨ij, hij2⟩ : ∃ ij, ij = i + j := ⟨_, rfl⟩
    have hbd : p - h < b ∧ m ≤ p - h ∧ h ≤ p := by
     have := H0.out
     by_cases h9 : mid < m
     ·rw [if_pos h9] at hM4 hM5; omega
     ·rw [if_neg h9] at hM4 hM5; omega
    obtain ⟨y, hy⟩ : ∃ y, y = p - h := ⟨_, rfl⟩
    have wij : IntKind.i64.wrap ((i : Int) + (j : Int)) = (ij : Int) := by rw [IntKind.wrap_i64]; omega
    have wu : IntKind.u64.wrap (ij : Int) = (ij : Int) := by rw [IntKind.wrap_u64]; omega
    have wh : IntKind.i64.wrap (h : Int) = (h : Int) := by rw [IntKind.wrap_i64]; omega
    have wh2 : IntKind.u64.wrap (h : Int) = (h : Int) := by rw [IntKind.wrap_u64]; omega
    have whs : (ij : Int) / 2 = (h : Int) := by omega
    have wy : IntKind.i64.wrap ((p : Int) - (h : Int)) = (y : Int) := by rw [IntKind.wrap_i64]; omega
    have hih : i ≤ h ∧ h < j := by omega
    have eh : ((h : Int)).toNat = h := by omega
    have ph : (0 : Int) ≤ (h : Int) := by omega
    have bh : (h : Int) < (d.size : Int) := by omega
    have ey : ((y : Int)).toNat = y := by omega
    have py : (0 : Int) ≤ (y : Int) := by omega
    have byy : (y : Int) < (d.size : Int) := by omega
    have hX := H0.out.2.2.2.2.1
    obtain ⟨xh, hxh⟩ : ∃ x, x = d[h]! := ⟨_, rfl⟩
    obtain ⟨xa, hxa⟩ : ∃ x, x = d[y]! := ⟨_, rfl⟩
    have lh := S1.out.ld R hX.symm P h (by omega)
    have la := S1.out.ld R hX.symm P y (by omega)
    rw [← hxh] at lh
    rw [← hxa] at la
    have hc := S1.out.cmp HC.out hX.symm xa xh
    have HX : Hid (xh = d[h]! ∧ xa = d[y]!) := ⟨hxh, hxa⟩
    have HHh : Hid (h = (i + j) / 2 ∧ ij = i + j ∧ y = p - h ∧ lo ≤ i ∧ i ≤ h ∧ h < j ∧ j ≤ hi) := ⟨hh, hij2, hy, hB1, hih.1, hih.2, hB3⟩
    clear hxh hxa hX hh hij2 hy hcut hM1 hM2 hM3 hM4 hM5 hl hB1 hB2 hB3 hbd hih
    by_cases hlv : cf xa xh < 0
    ·have hd : decide (cf xa xh < 0) = true := decide_eq_true hlv
     go_wp2_with fail
     go_quiet_grown (first | (go_at_fn g; refine Calls.grown_of (hc _ _)))
     have S2 : Aside (SWK enc k w0 blk off d (grow (wr.drewN nq) osq)) := S1.out.grown nq osq
     clear lh la hc S1
     generalize grow (wr.drewN nq) osq = w2 at S2 ⊢
     clear nq osq
     go_wp2_with fail
     have hH := HHh.out
     go_roundg (h - i)
     case measure => omega
     case rel =>
      refine ⟨i, h, rfl, rfl, Nat.le_refl _, S2, (⟨by omega, by omega, by omega, HB.out.below, fun _ => ?_⟩ : Srch _ _ _ _ _ _ _)⟩
      rw [← hH.2.2.1, ← HX.out.1, ← HX.out.2]; exact hd
    ·have hd : decide (cf xa xh < 0) = false := decide_eq_false hlv
     go_wp2_with fail
     go_quiet_grown (first | (go_at_fn g; refine Calls.grown_of (hc _ _)))
     have S2 : Aside (SWK enc k w0 blk off d (grow (wr.drewN nq) osq)) := S1.out.grown nq osq
     clear lh la hc S1
     generalize grow (wr.drewN nq) osq = w2 at S2 ⊢
     clear nq osq
     go_wp2_with fail
     have hH := HHh.out
     go_roundg (j - (h + 1))
     case measure => omega
     case rel =>
      refine ⟨h + 1, j, by go_num, rfl, Nat.le_refl _, S2, (⟨by omega, by omega, by omega, fun _ => ?_, HB.out.above⟩ : Srch _ _ _ _ _ _ _)⟩
      simp only [Nat.add_sub_cancel]
      rw [← hH.2.2.1, ← HX.out.1, ← HX.out.2]; exact hd
   ·have hltz : ¬ (i : Int) < (j : Int) := by omega
    have hji : j = i := by omega
    subst hji
    have C := hcut rfl
    have HCt : Hid (Cut (ltOf cf) a j m (n - j) b d) := by rw [hM2]; exact C
    obtain ⟨e, he⟩ : ∃ e, e = n - j := ⟨_, rfl⟩
    have we : IntKind.i64.wrap ((n : Int) - (j : Int)) = (e : Int) := by have := C.hm; have := C.he; have := C.hb; rw [IntKind.wrap_i64]; omega
    rw [← he] at HCt
    have hc1 := HCt.out.hs
    have hc2 := HCt.out.hm
    have hc3 := HCt.out.he
    have hc4 := HCt.out.hb
    have HE : Hid (j + (e - m) = mid ∧ a < mid ∧ mid < b) := by have := H0.out; exact ⟨by omega, by omega, by omega⟩
    clear hcut C he hM1 hM2 hM3 hM4 hM5 hl hB1 hB2 hB3
    obtain ⟨c1, hcc1⟩ : ∃ c : Bool, c = decide (j < m ∧ m < e) := ⟨_, rfl⟩
    have HC1 : Hid (c1 = decide (j < m ∧ m < e)) := hcc1
    clear hcc1
    go_upto_region 39 with fail
    go_cut [185] (fun s wx => s = .bool c1 ∧ wr = wx)
    case first =>
     by_cases h1 : j < m
     ·have h1z : (j : Int) < (m : Int) := by omega
      by_cases h2 : m < e
      ·have h2z : (m : Int) < (e : Int) := by omega
       go_wp2_with fail
       go_meet
       exact ⟨congrArg Value.bool (HC1.out.trans (decide_eq_true ⟨h1, h2⟩)).symm, rfl⟩
      ·have h2z : ¬ (m : Int) < (e : Int) := by omega
       go_wp2_with fail
       go_meet
       exact ⟨congrArg Value.bool (HC1.out.trans (decide_eq_false (fun h => h2 h.2))).symm, rfl⟩
     ·have h1z : ¬ (j : Int) < (m : Int) := by omega
      go_wp2_with fail
      go_meet
      exact ⟨congrArg Value.bool (HC1.out.trans (decide_eq_false (fun h => h1 h.1))).symm, rfl⟩
    case' rest => obtain ⟨rfl, rfl⟩ := hcut
    go_upto_if 185 with fail
    go_cut [24] (fun s24 wx => s24 = .int .i64 e ∧ ∃ d1, Aside (SWK enc k w0 blk off d1 wx) ∧ Hid (PermIn a b d d1 ∧ ∀ q, d1[q]! = Y5w j m e d q))
    case first =>
     have done : ¬ (j < m ∧ m < e) → Hid (PermIn a b d d ∧ ∀ q, d[q]! = Y5w j m e d q) := fun h => ⟨permIn_refl _ _ _, fun q => by
      by_cases h1 : j = m
      ·rw [h1, Yc3]
      ·have h2 : e = m := by omega
       rw [h2, Yc4 hc2]⟩
     have DONE : Hid (¬ (j < m ∧ m < e) → Hid (PermIn a b d d ∧ ∀ q, d[q]! = Y5w j m e d q)) := done
     clear done
     cases c1 with
     | true =>
      obtain ⟨h1, h2⟩ := of_decide_eq_true HC1.out.symm
      have hcc := rotate LL.out.1 k zE enc blk off cap j m e (.func (.func g) #[] cb) d0 d w0 wr R H0.out.2.2.2.2.1 S1.out h1 h2 (by omega) hsz
      clear h1 h2
      go_wp2_with (go_at_fn (174); refine hcc.mono ?_; rintro e w' ⟨rfl, d1, S2, hp1, hr1⟩)
      go_meet
      exact ⟨rfl, d1, S2, ⟨permIn_mono _ _ _ _ _ _ hc1 hc4 hb hp1, hr1⟩⟩
     | false =>
      have h := of_decide_eq_false HC1.out.symm
      clear HC1
      have DN := DONE.out h
      clear h
      go_wp2_with fail
      go_meet
      exact ⟨rfl, d, S1, DN⟩
    case rest => as_aux_lemma =>
     obtain ⟨rfl, d1, S2, HP1⟩ := hcut
     have hd1 : d1.size = d.size := HP1.out.1.1
     have HT : Hid (SortedIn (ltOf cf) a j d1 ∧ SortedIn (ltOf cf) j mid d1 ∧ SortedIn (ltOf cf) mid e d1 ∧ SortedIn (ltOf cf) e b d1 ∧ ∀ x y, a ≤ x → x < mid → mid ≤ y → y < b → ltOf cf d1[y]! d1[x]! = false) := by
      have hh := HE.out.1
      refine ⟨Yo0 HS.out.2.1 HCt.out HP1.out.2, ?_, ?_, Yix HS.out.2.2 HCt.out HP1.out.2, ?_⟩
      ·rw [← hh]; exact Yh5 HS.out.2.2 HCt.out HP1.out.2
      ·rw [← hh]; exact Y9y HS.out.2.1 HCt.out HP1.out.2
      ·rw [← hh]; exact Y9x HS.out.2.1 HS.out.2.2 HCt.out HP1.out.2
     clear S1
     obtain ⟨c2, hcc2⟩ : ∃ c : Bool, c = decide (a < j ∧ j < mid) := ⟨_, rfl⟩
     have HC2 : Hid (c2 = decide (a < j ∧ j < mid)) := hcc2
     clear hcc2
     go_upto_region 41 with fail
     go_cut [199] (fun s wx => s = .bool c2 ∧ wc = wx)
     case first =>
      by_cases h1 : a < j
      ·have h1z : (a : Int) < (j : Int) := by omega
       by_cases h2 : j < mid
       ·have h2z : (j : Int) < (mid : Int) := by omega
        go_wp2_with fail
        go_meet
        exact ⟨congrArg Value.bool (HC2.out.trans (decide_eq_true ⟨h1, h2⟩)).symm, rfl⟩
       ·have h2z : ¬ (j : Int) < (mid : Int) := by omega
        go_wp2_with fail
        go_meet
        exact ⟨congrArg Value.bool (HC2.out.trans (decide_eq_false (fun h => h2 h.2))).symm, rfl⟩
      ·have h1z : ¬ (a : Int) < (j : Int) := by omega
       go_wp2_with fail
       go_meet
       exact ⟨congrArg Value.bool (HC2.out.trans (decide_eq_false (fun h => h1 h.1))).symm, rfl⟩
     case' rest => obtain ⟨rfl, rfl⟩ := hcut
     go_upto_if 199 with fail
     go_cut [24] (fun s24 wx => s24 = .int .i64 e ∧ ∃ d2, Aside (SWK enc k w0 blk off d2 wx) ∧ Hid (PermIn a mid d1 d2 ∧ SortedIn (ltOf cf) a mid d2))
     case first =>
      have hE := HE.out
      have done : ¬ (a < j ∧ j < mid) → Hid (PermIn a mid d1 d1 ∧ SortedIn (ltOf cf) a mid d1) := fun h => ⟨permIn_refl _ _ _, by
       by_cases h1 : a = j
       ·rw [h1]; exact HT.out.2.1
       ·have h2 : mid = j := by omega
        rw [h2]; exact HT.out.1⟩
      have DONE : Hid (¬ (a < j ∧ j < mid) → Hid (PermIn a mid d1 d1 ∧ SortedIn (ltOf cf) a mid d1)) := done
      clear done
      clear hE
      cases c2 with
      | true =>
       obtain ⟨h1, h2⟩ := of_decide_eq_true HC2.out.symm
       have hcc := LL.out.2 a j mid d1 _ (by have := H0.out; have := HE.out; omega) (by have := H0.out; omega) S2.out h1 h2 (by have := HE.out; omega) HT.out.1 HT.out.2.1
       rw [hd1] at hcc
       clear h1 h2
       go_wp2_with (go_at_fn (173); refine hcc.mono ?_; rintro e w' ⟨rfl, d2, S3, hp1, hr1⟩)
       go_meet
       exact ⟨rfl, d2, S3, ⟨hp1, hr1⟩⟩
      | false =>
       have h := of_decide_eq_false HC2.out.symm
       clear HC2
       have DN := DONE.out h
       clear h
       go_wp2_with fail
       go_meet
       exact ⟨rfl, d1, S2, DN⟩
     case rest => as_aux_lemma =>
      obtain ⟨rfl, d2, S3, HP2⟩ := hcut
      have hd2 : d2.size = d.size := by rw [HP2.out.1.1]; exact hd1
      clear S2
      have hE := HE.out
      have fin : Hid (∀ d3, PermIn mid b d2 d3 → SortedIn (ltOf cf) mid b d3 → PermIn a b d d3 ∧ SortedIn (ltOf cf) a b d3) := fun d3 p3 s3 => by
       have h9 := halves (d := d1) (by omega) (by omega) (by omega) HT.out.2.2.2.2 HP2.out.1 HP2.out.2 p3 s3
       exact ⟨permIn_trans _ _ _ _ _ HP1.out.1 h9.1, h9.2⟩
      have done : ¬ (mid < e ∧ e < b) → Hid (SortedIn (ltOf cf) mid b d2) := fun h => by
       by_cases h1 : mid = e
       ·have := Y3d HP2.out.1 HT.out.2.2.2.1 (Or.inr (by omega))
        rw [← h1] at this
        exact this
       ·have h2 : e = b := by omega
        have := Y3d HP2.out.1 HT.out.2.2.1 (Or.inr (by omega))
        rw [h2] at this
        exact this
      have DONE : Hid (¬ (mid < e ∧ e < b) → Hid (SortedIn (ltOf cf) mid b d2)) := done
      clear done
      clear hE
      by_cases h1 : mid < e
      ·have h1z : (mid : Int) < (e : Int) := by omega
       by_cases h2 : e < b
       ·have h2z : (e : Int) < (b : Int) := by omega
        have hcc := LL.out.2 mid e b d2 _ (by have := H0.out; have := HE.out; omega) (by have := H0.out; omega) S3.out h1 h2 (by omega) (Y3d HP2.out.1 HT.out.2.2.1 (Or.inr (by omega))) (Y3d HP2.out.1 HT.out.2.2.2.1 (Or.inr (by omega)))
        rw [hd2] at hcc
        go_wp2_with (go_at_fn (173); refine hcc.mono ?_; rintro e w' ⟨rfl, d3, S4, hp1, hr1⟩)
        go_end0
        obtain ⟨q1, q2⟩ := fin.out d3 hp1 hr1
        exact ⟨rfl, d3, S4, q1, q2⟩
       ·have h2z : ¬ (e : Int) < (b : Int) := by omega
        go_wp2_with fail
        go_end0
        obtain ⟨q1, q2⟩ := fin.out d2 (permIn_refl _ _ _) (DONE.out (fun h => h2 h.2)).out
        exact ⟨rfl, d2, S3.out, q1, q2⟩
      ·have h1z : ¬ (mid : Int) < (e : Int) := by omega
       go_wp2_with fail
       go_end0
       obtain ⟨q1, q2⟩ := fin.out d2 (permIn_refl _ _ _) (DONE.out (fun h => h1 h.1)).out
       exact ⟨rfl, d2, S3.out, q1, q2⟩
theorem Yqt (L : Lays P) (k : Nat) (zE : ∀ w, (Go.sizeOf 221).run P w = .ok k w) (enc : α → List Value) (cf : α → α → Int) (hO : SWO (ltOf cf)) (g : Nat) (cb : Array Value) (blk off cap : Nat) (d0 : Array α) (w0 : World) (eg : ∀ args w, (callFunc g args).run P w = .ok (.enter g args) w)
  (hcmp : CmpLays P g cb enc k cf blk off d0.size w0) (R : RowK enc k w0 blk off d0) (hsz : d0.size < 4611686018427387904) (N : Nat) : Merges P k enc cf g cb blk off cap d0 w0 N := by
 induction N with
 | zero => intro a m b d w hN; omega
 | succ N ih =>
  intro a m b d w hN hs S ham hmb hb s1 s2
  by_cases h1 : m = a + 1
  ·exact Yug L k zE enc cf hO g cb blk off cap a m b d0 d w0 w eg hcmp R hs S h1 hmb hb (by omega) s1 s2
  ·by_cases h2 : b = m + 1
   ·exact Yqu L k zE enc cf hO g cb blk off cap a m b d0 d w0 w eg hcmp R hs S (by omega) h2 hb (by omega) s1 s2
   ·exact Yuh L k zE enc cf hO g cb blk off cap d0 w0 eg hcmp R N ih a m b d w hN hs S (by omega) (by omega) hb (by omega) s1 s2
end Go.Proofs.YtkkfkmoikcmhoaaGreat.Sm
namespace Go.Proofs.YtkkfkmoikcmhoaaGreat.Sm
open Go.Shelf Go.RowKit Go.Lib Go.Sort
variable {α : Type} [Inhabited α] {lt : α → α → Bool}
def Runs (lt : α → α → Bool) (s n : Nat) (d : Array α) : Prop := ∀ t, SortedIn lt (t * s) (min ((t + 1) * s) n) d
theorem Runs.zero {s : Nat} {d : Array α} : Runs lt s 0 d := fun t => Yb0 (by simp)
theorem Runs.next {s c y : Nat} {d e : Array α} (h : Runs lt s (c * s) d) (hp : PermIn (c * s) y d e) (hs : SortedIn lt (c * s) y e) (hy : y ≤ c * s + s) (hcy : c * s ≤ y) : Runs lt s y e := by
 intro t
 rcases Nat.lt_trichotomy t c with h1 | h1 | h1
 ·have h2 : (t + 1) * s ≤ c * s := Nat.mul_le_mul_right s h1
  have h3 := h t
  rw [Nat.min_eq_left h2] at h3
  rw [Nat.min_eq_left (by omega)]
  exact Y3d hp h3 (Or.inl h2)
 ·subst h1
  exact SortedIn.sub hs (Nat.le_refl _) (Nat.min_le_right _ _)
 ·have h2 : (c + 1) * s ≤ t * s := Nat.mul_le_mul_right s h1
  rw [Nat.succ_mul] at h2
  exact Yb0 (by have := Nat.min_le_right ((t + 1) * s) y; omega)
theorem Runs.end_ {s c n : Nat} {d : Array α} (h : Runs lt s (c * s) d) (hs : SortedIn lt (c * s) n d) (hn : n ≤ c * s + s) (hcy : c * s ≤ n) : Runs lt s n d := Runs.next h (permIn_refl _ _ _) hs hn hcy
theorem Runs.all {s n : Nat} {d : Array α} (h : Runs lt s n d) (hn : n ≤ s) : SortedIn lt 0 n d := by
 have := h 0
 rw [Nat.zero_mul, Nat.zero_add, Nat.one_mul, Nat.min_eq_right hn] at this
 exact this
def From (lt : α → α → Bool) (s a n : Nat) (d : Array α) : Prop := ∀ t, a ≤ t * s → SortedIn lt (t * s) (min ((t + 1) * s) n) d
theorem From.next {s a b n : Nat} {d e : Array α} (h : From lt s a n d) (hp : PermIn a b d e) (hb : a ≤ b) : From lt s b n e := fun t ht => Y3d hp (h t (by omega)) (Or.inr ht)
theorem From.two {s c a n : Nat} {d : Array α} (h : From lt s a n d) (ha : a = c * (2 * s)) : SortedIn lt a (min (a + s) n) d ∧ SortedIn lt (a + s) (min (a + s + s) n) d := by
 have e : 2 * c * s = a := by rw [ha, Nat.mul_comm 2 c, Nat.mul_assoc]
 have e1 : (2 * c + 1) * s = a + s := by rw [Nat.succ_mul, e]
 have e2 : (2 * c + 1 + 1) * s = a + s + s := by rw [Nat.succ_mul, e1]
 have h1 := h (2 * c) (by omega)
 have h2 := h (2 * c + 1) (by omega)
 rw [e, e1] at h1
 rw [e1, e2] at h2
 exact ⟨h1, h2⟩
def ren : Ren := ⟨fun n => if n = 20 then 172 else n, fun n => if n = 22 then 218 else if n = 24 then 221 else if n = 25 then 244 else if n = 3 then 3 else if n = 4 then 4 else n, fun n => n⟩
theorem lays20 : SlLaysF0.n20 Tryz.prog ren where
 mixed := by kernel_rfl
 f20 := ⟨ "slices.insertionSortCmpFunc[mezzotint/limit.pack]", by kernel_rfl, by kernel_rfl⟩
 t0 := by kernel_rfl
 a0 _ := by kernel_rfl
 z0 _ := by kernel_rfl
 v0 _ := by kernel_rfl
 t3 := by kernel_rfl
 a3 _ := by kernel_rfl
 z3 _ := by kernel_rfl
 v3 _ := by kernel_rfl
 t4 := by kernel_rfl
 a4 _ := by kernel_rfl
 z4 _ := by kernel_rfl
 v4 _ := by kernel_rfl
 t22 := by kernel_rfl
 a22 _ := by kernel_rfl
 z22 _ := by kernel_rfl
 v22 _ := by kernel_rfl
 t25 := by kernel_rfl
 a25 _ := by kernel_rfl
 z25 _ := by kernel_rfl
 v25 _ := by kernel_rfl
theorem insertion (enc : α → List Value) (cf : α → α → Int) (hO : SWO (ltOf cf)) (g : Nat) (cb : Array Value) (blk off cap a b : Nat) (d0 d : Array α) (w0 w : World) (eg : ∀ args w, (callFunc g args).run Tryz.prog w = .ok (.enter g args) w) (hcmp : CmpLays Tryz.prog g cb enc 3 cf blk off d0.size w0)
  (R : RowK enc 3 w0 blk off d0) (hs : d0.size = d.size) (S : SWK enc 3 w0 blk off d w) (hab : a ≤ b) (hb : b ≤ d.size) (hsz : d.size < 4611686018427387904) :
  Calls Tryz.prog 172 #[.slice (some ⟨blk, off, none⟩) d.size cap, .int .i64 a, .int .i64 b, .func (.func g) #[] cb] w fun e w' => e = .returned (.tuple #[]) ∧ ∃ d', SWK enc 3 w0 blk off d' w' ∧ PermIn a b d d' ∧ SortedIn (ltOf cf) a b d' := by
 have h := AnyQ.insertionSortCmpFunc_w lays20 3 (fun w => lays.aE w) Yu8 enc cf g cb blk off cap a b d0 d w0 w eg hcmp R hs S hO hab hb hsz
 have e : ren.f 20 = 172 := rfl
 rw [e] at h
 have hh := insertionSort_holds hO d a b hab hb
 exact h.mono fun _ _ ⟨he, hw⟩ => ⟨he, _, hw, hh.1, hh.2⟩
set_option maxHeartbeats 8000000 in
set_option maxRecDepth 1000000 in
theorem stable (enc : α → List Value) (cf : α → α → Int) (hO : SWO (ltOf cf)) (g : Nat) (cb : Array Value) (blk off cap : Nat) (d : Array α) (w : World) (eg : ∀ args w, (callFunc g args).run Tryz.prog w = .ok (.enter g args) w) (hcmp : CmpLays Tryz.prog g cb enc 3 cf blk off d.size w)
  (R : RowK enc 3 w blk off d) (hsz : d.size < 1000000000) :
  Calls Tryz.prog 170 #[.slice (some ⟨blk, off, none⟩) d.size cap, .int .i64 d.size, .func (.func g) #[] cb] w fun e w' => e = .returned (.tuple #[]) ∧ ∃ d', SWK enc 3 w blk off d' w' ∧ PermIn 0 d.size d d' ∧ SortedIn (ltOf cf) 0 d.size d' := by
 have INS : Hid (∀ a b d' w', d.size = d'.size → SWK enc 3 w blk off d' w' → a ≤ b → b ≤ d'.size → Calls Tryz.prog 172 #[.slice (some ⟨blk, off, none⟩) d'.size cap, .int .i64 a, .int .i64 b, .func (.func g) #[] cb] w' fun e w'' => e = .returned (.tuple #[]) ∧ ∃ d'', SWK enc 3 w blk off d'' w'' ∧ PermIn a b d' d'' ∧ SortedIn (ltOf cf) a b d'') :=
  fun a b d' w' hs S hab hb => insertion enc cf hO g cb blk off cap a b d d' w w' eg hcmp R hs S hab hb (by omega)
 have SYM : Hid (∀ a m b d' w', d.size = d'.size → SWK enc 3 w blk off d' w' → a < m → m < b → b ≤ d'.size → SortedIn (ltOf cf) a m d' → SortedIn (ltOf cf) m b d' → Calls Tryz.prog 173 #[.slice (some ⟨blk, off, none⟩) d'.size cap, .int .i64 a, .int .i64 m, .int .i64 b, .func (.func g) #[] cb] w' fun e w'' => e = .returned (.tuple #[]) ∧ ∃ d'', SWK enc 3 w blk off d'' w'' ∧ PermIn a b d' d'' ∧ SortedIn (ltOf cf) a b d'') :=
  fun a m b d' w' hs S h1 h2 h3 s1 s2 => Yqt lays 3 Yu8 enc cf hO g cb blk off cap d w eg hcmp R (by omega) (b - a + 1) a m b d' w' (by omega) hs S h1 h2 h3 s1 s2
 have S0 : Hid (SWK enc 3 w blk off d w) := SWK.start R.hH
 obtain ⟨n, hn⟩ : ∃ n, n = d.size := ⟨_, rfl⟩
 rw [← hn] at hsz ⊢
 have HN : Hid (n = d.size) := hn
 have HO : Hid (SWO (ltOf cf)) := hO
 clear hn hcmp R hO eg
 go_enter Tryz.func170, Tryz.ntmps170
 go_wp2
 go_loopg [7, 8] n (fun kx s7 s8 wr => ∃ (c a b : Nat) (dk : Array α), s7 = .int .i64 a ∧ s8 = .int .i64 b ∧ b = a + 20 ∧ a ≤ n ∧ n - a ≤ kx ∧ Hid (a = c * 20 ∧ SWK enc 3 w blk off dk wr ∧ PermIn 0 n d dk ∧ Runs (ltOf cf) 20 a dk))
 case atStart => exact ⟨0, 0, 20, d, rfl, rfl, rfl, by omega, by omega, ⟨rfl, S0.out, permIn_refl _ _ _, Runs.zero⟩⟩
 case round =>
  clear S0
  obtain ⟨c, a, b, dk, rfl, rfl, hb, han, hkx, H⟩ := hrel
  have HB : Hid (b = a + 20) := hb
  have hds : dk.size = n := by rw [HN.out]; exact H.out.2.2.1.1
  by_cases hlt : b ≤ n
  ·have hltz : (b : Int) ≤ (n : Int) := by omega
   have hcc := INS.out a b dk wr (by have := HN.out; omega) H.out.2.1 (by omega) (by omega)
   rw [hds] at hcc
   have wb : IntKind.i64.wrap ((b : Int) + 20) = ((b + 20 : Nat) : Int) := by rw [IntKind.wrap_i64]; omega
   obtain ⟨b2, hb2⟩ : ∃ b2, b2 = b + 20 := ⟨_, rfl⟩
   rw [← hb2] at wb
   have HB2 : Hid (b2 = b + 20) := hb2
   clear hb hb2
   go_wp2_with (go_at_call 172; refine hcc.mono ?_; rintro e w' ⟨rfl, d', S2, hp, hs⟩)
   have hB := HB.out
   have hB2 := HB2.out
   go_roundg (n - b)
   case measure => omega
   case rel =>
    obtain ⟨e1, e2, e3, e4⟩ := H.out
    refine ⟨c + 1, b, b2, d', rfl, rfl, hB2, by omega, Nat.le_refl _, ⟨by omega, S2, permIn_trans _ _ _ _ _ e3 (permIn_mono _ _ _ _ _ _ (Nat.zero_le _) hlt (by omega) hp), ?_⟩⟩
    rw [e1] at e4 hp hs
    exact Runs.next e4 hp hs (by omega) (by omega)
  ·have hltz : ¬ (b : Int) ≤ (n : Int) := by omega
   have hcc := INS.out a n dk wr (by have := HN.out; omega) H.out.2.1 (by omega) (by omega)
   rw [hds] at hcc
   clear hb
   have hpl : a = c * 20 ∧ PermIn 0 n d dk ∧ Runs (ltOf cf) 20 a dk := ⟨H.out.1, H.out.2.2.1, H.out.2.2.2⟩
   have HPL : Hid (a = c * 20 ∧ PermIn 0 n d dk ∧ Runs (ltOf cf) 20 a dk) := hpl
   clear hpl H
   go_wp2_with (go_at_call 172; refine hcc.mono ?_; rintro e w' ⟨rfl, d', S2, hp, hs⟩)
   have S3 : Hid (SWK enc 3 w blk off d' w' ∧ PermIn 0 n d d' ∧ Runs (ltOf cf) 20 n d') := by
    obtain ⟨e1, e2, e3⟩ := HPL.out
    have hB := HB.out
    refine ⟨S2, permIn_trans _ _ _ _ _ e2 (permIn_mono _ _ _ _ _ _ (Nat.zero_le _) (Nat.le_refl _) (by omega) hp), ?_⟩
    rw [e1] at e3 hp hs
    exact Runs.next e3 hp hs (by omega) (by omega)
   clear S2 hp hs HPL HB
   go_loopg [6] n (fun kx s6 wr => ∃ (s : Nat) (dk : Array α), s6 = .int .i64 s ∧ 0 < s ∧ s ≤ n + n + 40 ∧ n - s ≤ kx ∧ Hid (SWK enc 3 w blk off dk wr ∧ PermIn 0 n d dk ∧ Runs (ltOf cf) s n dk))
   case atStart => exact ⟨20, d', rfl, by omega, by omega, by omega, S3⟩
   case round =>
    clear S3
    obtain ⟨s, dk, rfl, hs0, hs1, hkx, H⟩ := hrel
    by_cases hlt2 : s < n
    ·have hltz2 : (s : Int) < (n : Int) := by omega
     obtain ⟨s2, hs2⟩ : ∃ s2, s2 = 2 * s := ⟨_, rfl⟩
     have ws : IntKind.i64.wrap (2 * (s : Int)) = (s2 : Int) := by rw [IntKind.wrap_i64]; omega
     have ws' : IntKind.i64.wrap ((s : Int) * 2) = (s2 : Int) := by rw [IntKind.wrap_i64]; omega
     have HS2 : Hid (s2 = 2 * s) := hs2
     have S3 : Hid (SWK enc 3 w blk off dk wr ∧ PermIn 0 n d dk ∧ Runs (ltOf cf) s2 0 dk ∧ From (ltOf cf) s 0 n dk) := ⟨H.out.1, H.out.2.1, Runs.zero, fun t _ => H.out.2.2 t⟩
     clear hs2 H
     go_wp2
     go_loopg [7, 8] n (fun kx s7 s8 wr => ∃ (c a b : Nat) (dk : Array α), s7 = .int .i64 a ∧ s8 = .int .i64 b ∧ b = a + s2 ∧ a ≤ n ∧ n - a ≤ kx ∧ Hid (a = c * s2 ∧ SWK enc 3 w blk off dk wr ∧ PermIn 0 n d dk ∧ Runs (ltOf cf) s2 a dk ∧ From (ltOf cf) s a n dk))
     case atStart => exact ⟨0, 0, s2, dk, rfl, rfl, by omega, by omega, by omega, ⟨by rw [Nat.zero_mul], S3.out⟩⟩
     case round =>
      clear S3
      obtain ⟨c, a, b, dk, rfl, rfl, hb, han, hkx, H⟩ := hrel
      have HB : Hid (b = a + s2) := hb
      have hds : dk.size = n := by rw [HN.out]; exact H.out.2.2.1.1
      have hS2 := HS2.out
      obtain ⟨q1, q2⟩ := From.two H.out.2.2.2.2 (c := c) (by have := H.out.1; rw [hS2] at this; exact this)
      obtain ⟨m, hm⟩ : ∃ m, m = a + s := ⟨_, rfl⟩
      have wm : IntKind.i64.wrap ((a : Int) + (s : Int)) = (m : Int) := by rw [IntKind.wrap_i64]; omega
      have HM : Hid (m = a + s) := hm
      rw [← hm] at q1 q2
      by_cases hbn : b ≤ n
      ·have hbz : (b : Int) ≤ (n : Int) := by omega
       have hcc := SYM.out a m b dk wr (by have := HN.out; omega) H.out.2.1 (by omega) (by omega) (by omega) (by rw [Nat.min_eq_left (by omega)] at q1; exact q1) (by rw [Nat.min_eq_left (by omega)] at q2; rw [show b = m + s by omega]; exact q2)
       rw [hds] at hcc
       obtain ⟨b2, hb2⟩ : ∃ b2, b2 = b + s2 := ⟨_, rfl⟩
       have wb : IntKind.i64.wrap ((b : Int) + (s2 : Int)) = (b2 : Int) := by rw [IntKind.wrap_i64]; omega
       have HB2 : Hid (b2 = b + s2) := hb2
       clear hb hb2 hm hS2 q1 q2
       go_wp2_with (go_at_call 173; refine hcc.mono ?_; rintro e w' ⟨rfl, d', S2, hp, hs⟩)
       have hB := HB.out
       have hB2 := HB2.out
       have hS2 := HS2.out
       go_roundg (n - b)
       case measure => omega
       case rel =>
        obtain ⟨e1, e2, e3, e4, e5⟩ := H.out
        refine ⟨c + 1, b, b2, d', rfl, rfl, hB2, by omega, Nat.le_refl _, ⟨by rw [Nat.succ_mul]; omega, S2, permIn_trans _ _ _ _ _ e3 (permIn_mono _ _ _ _ _ _ (Nat.zero_le _) hbn (by omega) hp), ?_, e5.next hp (by omega)⟩⟩
        rw [e1] at e4 hp hs
        exact Runs.next e4 hp hs (by omega) (by omega)
      ·have hbz : ¬ (b : Int) ≤ (n : Int) := by omega
       by_cases hmn : m < n
       ·have hmz : (m : Int) < (n : Int) := by omega
        have hcc := SYM.out a m n dk wr (by have := HN.out; omega) H.out.2.1 (by omega) (by omega) (by omega) (by rw [Nat.min_eq_left (by omega)] at q1; exact q1) (by rw [Nat.min_eq_right (by omega)] at q2; exact q2)
        rw [hds] at hcc
        clear hb hm hS2 q1 q2
        go_wp2_with (go_at_call 173; refine hcc.mono ?_; rintro e w' ⟨rfl, d', S2, hp, hs⟩)
        have hB := HB.out
        have hS2 := HS2.out
        have hM := HM.out
        go_roundg (n - s2)
        case measure => omega
        case rel =>
         obtain ⟨e1, e2, e3, e4, e5⟩ := H.out
         refine ⟨s2, d', rfl, by omega, by omega, Nat.le_refl _, ⟨S2, permIn_trans _ _ _ _ _ e3 (permIn_mono _ _ _ _ _ _ (Nat.zero_le _) (Nat.le_refl _) (by omega) hp), ?_⟩⟩
         rw [e1] at e4 hp hs
         exact Runs.next e4 hp hs (by omega) (by omega)
       ·have hmz : ¬ (m : Int) < (n : Int) := by omega
        have HQ : Hid (SortedIn (ltOf cf) a n dk) := by rw [Nat.min_eq_right (by omega)] at q1; exact q1
        clear hb hm hS2 q1 q2
        go_wp2
        have hB := HB.out
        have hS2 := HS2.out
        have hM := HM.out
        go_roundg (n - s2)
        case measure => omega
        case rel =>
         obtain ⟨e1, e2, e3, e4, e5⟩ := H.out
         refine ⟨s2, dk, rfl, by omega, by omega, Nat.le_refl _, ⟨e2, e3, ?_⟩⟩
         have hq := HQ.out
         rw [e1] at e4 hq
         exact Runs.end_ e4 hq (by omega) (by omega)
    ·have hltz2 : ¬ (s : Int) < (n : Int) := by omega
     go_wp2
     go_end0
     exact ⟨rfl, dk, H.out.1, H.out.2.1, H.out.2.2.all (by omega)⟩
set_option maxHeartbeats 4000000 in
set_option maxRecDepth 1000000 in
theorem Yi8 (enc : α → List Value) (cf : α → α → Int) (hO : SWO (ltOf cf)) (g : Nat) (cb : Array Value) (blk off cap : Nat) (d : Array α) (w : World) (eg : ∀ args w, (callFunc g args).run Tryz.prog w = .ok (.enter g args) w) (hcmp : CmpLays Tryz.prog g cb enc 3 cf blk off d.size w)
  (R : RowK enc 3 w blk off d) (hsz : d.size < 1000000000) :
  Calls Tryz.prog 161 #[.slice (some ⟨blk, off, none⟩) d.size cap, .func (.func g) #[] cb] w fun e w' => e = .returned (.tuple #[]) ∧ ∃ d', SWK enc 3 w blk off d' w' ∧ PermIn 0 d.size d d' ∧ SortedIn (ltOf cf) 0 d.size d' := by
 have hc := stable enc cf hO g cb blk off cap d w eg hcmp R hsz
 have HH : Hid (RowK enc 3 w blk off d ∧ CmpLays Tryz.prog g cb enc 3 cf blk off d.size w ∧ SWO (ltOf cf)) := ⟨R, hcmp, hO⟩
 clear R hcmp hO eg
 go_enter Tryz.func161, Tryz.ntmps161
 go_wp2_with (go_at_call 170; refine hc.mono ?_; rintro e w' ⟨rfl, d', S2, hp, hs⟩)
 go_end0
 exact ⟨rfl, d', S2, hp, hs⟩
end Go.Proofs.YtkkfkmoikcmhoaaGreat.Sm
namespace Go.Proofs.YtkkfkmoikcmhoaaGreat.Lm
open Bit Hf
def ins (x : Nat) : List Nat → List Nat
 | [] => [x]
 | b :: B => if x ≤ b then x :: b :: B else b :: ins x B
def isort : List Nat → List Nat
 | [] => []
 | x :: f => ins x (isort f)
def Rising : List Nat → Prop
 | [] => True
 | [_] => True
 | a :: b :: B => a ≤ b ∧ Rising (b :: B)
theorem Ylm (x : Nat) (B : List Nat) : (ins x B).length = B.length + 1 := by
 induction B with
 | nil => rfl
 | cons b B ih => unfold ins; split <;> simp [ih]
theorem Y3x (f : List Nat) : (isort f).length = f.length := by
 induction f with
 | nil => rfl
 | cons x f ih => simp [isort, Ylm, ih]
theorem Rising.tail {b : Nat} {B : List Nat} (h : Rising (b :: B)) : Rising B := by
 cases B with
 | nil => trivial
 | cons c B => exact h.2
theorem Rising.head {b : Nat} {B : List Nat} (h : Rising (b :: B)) : ∀ x ∈ B, b ≤ x := by
 induction B generalizing b with
 | nil => intro x hx; cases hx
 | cons c B ih =>
  intro x hx
  rcases List.mem_cons.1 hx with rfl | hx
  ·exact h.1
  ·exact Nat.le_trans h.1 (ih h.2 x hx)
theorem Rising.cons {b : Nat} {B : List Nat} (h : Rising B) (hb : ∀ x ∈ B, b ≤ x) : Rising (b :: B) := by
 cases B with
 | nil => trivial
 | cons c B => exact ⟨hb c (List.mem_cons_self ..), h⟩
theorem Ywo {x y : Nat} {B : List Nat} (h : y ∈ ins x B) : y = x ∨ y ∈ B := by
 induction B with
 | nil => simp [ins] at h; exact .inl h
 | cons b B ih =>
  unfold ins at h
  split at h
  ·simpa using h
  ·rcases List.mem_cons.1 h with rfl | h
   ·exact .inr (List.mem_cons_self ..)
   ·rcases ih h with h | h
    ·exact .inl h
    ·exact .inr (List.mem_cons_of_mem _ h)
theorem Yln {x : Nat} {B : List Nat} (h : Rising B) : Rising (ins x B) := by
 induction B with
 | nil => trivial
 | cons b B ih =>
  unfold ins
  split
  ·rename_i hx
   exact ⟨hx, h⟩
  ·refine Rising.cons (ih h.tail) (fun y hy => ?_)
   rcases Ywo hy with rfl | hy
   ·omega
   ·exact h.head y hy
theorem Yfb (f : List Nat) : Rising (isort f) := by
 induction f with
 | nil => trivial
 | cons x f ih => exact Yln ih
def Y6v (A : List Nat) (r : Nat) : Nat := (A.take r).sum
theorem Y7p (A : List Nat) : Y6v A 0 = 0 := by simp [Y6v]
theorem Y1c (b : Nat) (B : List Nat) (r : Nat) : Y6v (b :: B) (r + 1) = b + Y6v B r := by simp [Y6v]
theorem Yqp {x : Nat} {B : List Nat} (h : ∀ y ∈ B, x ≤ y) (r : Nat) (hr : r < B.length) : x + Y6v B r ≤ Y6v B (r + 1) := by
 induction B generalizing r with
 | nil => simp at hr
 | cons b B ih =>
  cases r with
  | zero => rw [Y7p, Y1c, Y7p]; have := h b (List.mem_cons_self ..); omega
  | succ r =>
   rw [Y1c, Y1c]
   have := ih (fun y hy => h y (List.mem_cons_of_mem _ hy)) r (by simpa using hr)
   omega
theorem Ywp (x : Nat) (B : List Nat) (r : Nat) : Y6v (ins x B) (r + 1) ≤ x + Y6v B r := by
 induction B generalizing r with
 | nil => simp [ins, Y6v]
 | cons b B ih =>
  unfold ins
  split
  ·rw [Y1c]; exact Nat.le_refl _
  ·rename_i hx
   rw [Y1c]
   cases r with
   | zero => rw [Y7p, Y7p]; omega
   | succ r => rw [Y1c]; have := ih r; omega
theorem Ywq {x : Nat} {B : List Nat} (h : Rising B) (r : Nat) (hr : r ≤ B.length) : Y6v (ins x B) r ≤ Y6v B r := by
 induction B generalizing r with
 | nil => have : r = 0 := by simpa using hr
          subst this; simp [Y6v]
 | cons b B ih =>
  cases r with
  | zero => simp [Y6v]
  | succ r =>
   unfold ins
   split
   ·rename_i hx
    rw [Y1c]
    exact Yqp (fun y hy => by
     rcases List.mem_cons.1 hy with rfl | hy
     ·exact hx
     ·exact Nat.le_trans hx (h.head y hy)) r (by simp at hr ⊢; omega)
   ·rw [Y1c, Y1c]
    have := ih h.tail r (by simpa using hr)
    omega
theorem Yg9 {f S : List Nat} (h : S.Sublist f) : Y6v (isort f) S.length ≤ S.sum := by
 induction h with
 | slnil => simp [Y6v]
 | cons x hs ih =>
  refine Nat.le_trans (Ywq (Yfb _) _ ?_) ih
  rw [Y3x]
  exact hs.length_le
 | cons_cons x hs ih =>
  rw [List.length_cons, List.sum_cons]
  exact Nat.le_trans (Ywp x _ _) (by omega)
def cost : List Nat → List Nat → Nat
 | x :: f, y :: l => x * y + cost f l
 | _, _ => 0
def kraft (l : List Nat) : Nat := (l.map share).sum
def sel : List Nat → List Nat → Nat → List Nat
 | x :: f, y :: l, k => if k < y then x :: sel f l k else sel f l k
 | _, _, _ => []
def Ye9 (l : List Nat) (k : Nat) : Nat := l.countP (k < ·)
theorem Yxy (f l : List Nat) (k : Nat) : (sel f l k).Sublist f := by
 induction f generalizing l with
 | nil => simp [sel]
 | cons x f ih =>
  cases l with
  | nil => simp [sel]
  | cons y l =>
   unfold sel
   split
   ·exact (ih l).cons_cons x
   ·exact (ih l).cons x
theorem Ymd (f l : List Nat) (k : Nat) (h : l.length = f.length) : (sel f l k).length = Ye9 l k := by
 induction f generalizing l with
 | nil => have : l = [] := List.eq_nil_of_length_eq_zero h
          subst this; rfl
 | cons x f ih =>
  cases l with
  | nil => simp at h
  | cons y l =>
   have := ih l (by simpa using h)
   unfold Ye9 at this ⊢
   rw [List.countP_cons, ← this]
   simp only [sel]
   split
   ·rename_i hk; simp [hk]
   ·rename_i hk; simp [hk]
def Y2u (g : Nat → Nat) : Nat → Nat
 | 0 => 0
 | k + 1 => Y2u g k + g k
theorem Y9a (g h : Nat → Nat) (k : Nat) : Y2u (fun i => g i + h i) k = Y2u g k + Y2u h k := by
 induction k with
 | zero => rfl
 | succ k ih => simp only [Y2u, ih]; omega
theorem Yqr {g h : Nat → Nat} (k : Nat) (hl : ∀ i, i < k → g i ≤ h i) : Y2u g k ≤ Y2u h k := by
 induction k with
 | zero => exact Nat.le_refl _
 | succ k ih =>
  have := ih (fun i hi => hl i (by omega))
  have := hl k (by omega)
  simp only [Y2u]; omega
theorem Y1e {g h : Nat → Nat} (k : Nat) (hl : ∀ i, i < k → g i = h i) : Y2u g k = Y2u h k := by
 induction k with
 | zero => rfl
 | succ k ih => simp only [Y2u, ih (fun i hi => hl i (by omega)), hl k (by omega)]
theorem Yqq (x y k : Nat) : Y2u (fun i => if i < y then x else 0) k = x * min y k := by
 induction k with
 | zero => simp [Y2u]
 | succ k ih =>
  simp only [Y2u, ih]
  by_cases h : k < y
  ·rw [if_pos h, Nat.min_eq_right (by omega), Nat.min_eq_right (by omega), Nat.mul_succ]
  ·rw [if_neg h, Nat.min_eq_left (by omega), Nat.min_eq_left (by omega), Nat.add_zero]
theorem Yh4 (f l : List Nat) (L : Nat) (h : l.length = f.length) (hL : ∀ x ∈ l, x ≤ L) : cost f l = Y2u (fun k => (sel f l k).sum) L := by
 induction f generalizing l with
 | nil =>
  have : l = [] := List.eq_nil_of_length_eq_zero h
  subst this
  rw [Y1e (h := fun k => if k < 0 then 0 else 0) L (by intro i _; simp [sel]), Yqq]
  simp [cost]
 | cons x f ih =>
  cases l with
  | nil => simp at h
  | cons y l =>
   have hy := hL y (List.mem_cons_self ..)
   have h1 := ih l (by simpa using h) (fun z hz => hL z (List.mem_cons_of_mem _ hz))
   have h2 := Yqq x y L
   rw [Nat.min_eq_left hy] at h2
   rw [Y1e (h := fun k => (if k < y then x else 0) + (sel f l k).sum) L (by
    intro k _
    simp only [sel]
    split <;> simp), Y9a, h2, ← h1]
   rfl
def base (f l : List Nat) (L : Nat) : Nat := Y2u (fun k => Y6v (isort f) (Ye9 l k)) L
theorem Yw0 (f l : List Nat) (L : Nat) (h : l.length = f.length) (hL : ∀ x ∈ l, x ≤ L) : base f l L ≤ cost f l := by
 rw [Yh4 f l L h hL]
 refine Yqr L (fun k _ => ?_)
 rw [← Ymd f l k h]
 exact Yg9 (Yxy f l k)
structure Ok (f : List Nat) (L : Nat) (l : List Nat) : Prop where
 len : l.length = f.length
 lo : ∀ x ∈ l, 1 ≤ x
 hi : ∀ x ∈ l, x ≤ L
 kr : kraft l ≤ 1073741824
structure Least (f : List Nat) (L : Nat) (l : List Nat) : Prop where
 ok : Ok f L l
 min : ∀ l', Ok f L l' → cost f l ≤ cost f l'
theorem Y4g (y : Nat) (l : List Nat) : kraft (y :: l) = share y + kraft l := by simp [kraft]
theorem Yp1 (l : List Nat) (i x : Nat) (h : i < l.length) : kraft (l.set i x) + share l[i] = kraft l + share x := by
 induction l generalizing i with
 | nil => simp at h
 | cons y l ih =>
  cases i with
  | zero => simp [kraft]; omega
  | succ i =>
   have := ih i (by simpa using h)
   simp only [List.set_cons_succ, List.getElem_cons_succ, Y4g]
   omega
theorem Ysl (f l : List Nat) (i x : Nat) (h : i < l.length) (hf : i < f.length) : cost f (l.set i x) + f[i] * l[i] = cost f l + f[i] * x := by
 induction l generalizing i f with
 | nil => simp at h
 | cons y l ih =>
  cases f with
  | nil => simp at hf
  | cons z f =>
   cases i with
   | zero => simp only [List.set_cons_zero, List.getElem_cons_zero, cost]; omega
   | succ i =>
    have := ih f i (by simpa using h) (by simpa using hf)
    simp only [List.set_cons_succ, List.getElem_cons_succ, cost]
    omega
theorem Yp0 (l : List Nat) (m : Nat) (hm : m ≤ 30) (h : ∀ x ∈ l, x ≤ m) : share m ∣ kraft l := by
 induction l with
 | nil => exact ⟨0, by simp [kraft]⟩
 | cons y l ih =>
  rw [Y4g]
  exact Nat.dvd_add (Y7l y m (h y (List.mem_cons_self ..)) hm) (ih (fun x hx => h x (List.mem_cons_of_mem _ hx)))
theorem Yr7 (m : Nat) (hm : m ≤ 30) : share m ∣ 1073741824 := ⟨2 ^ m, by rw [Nat.mul_comm, Y7n m hm]⟩
theorem Yov : ∀ (l : List Nat), l ≠ [] → ∃ i, ∃ h : i < l.length, ∀ x ∈ l, x ≤ l[i]
 | [], h => absurd rfl h
 | [y], _ => ⟨0, by simp, by simp⟩
 | y :: z :: l, _ => by
  obtain ⟨i, h, hm⟩ := Yov (z :: l) (by simp)
  by_cases hy : (z :: l)[i] ≤ y
  ·exact ⟨0, by simp, fun x hx => by
    rcases List.mem_cons.1 hx with rfl | hx
    ·exact Nat.le_refl _
    ·exact Nat.le_trans (hm x hx) hy⟩
  ·exact ⟨i + 1, by simpa using h, fun x hx => by
    rw [List.getElem_cons_succ]
    rcases List.mem_cons.1 hx with rfl | hx
    ·omega
    ·exact hm x hx⟩
theorem Ylq (l : List Nat) (h : ∀ x ∈ l, x = 1) : kraft l = l.length * 536870912 := by
 induction l with
 | nil => rfl
 | cons y l ih =>
  have e := h y (List.mem_cons_self ..)
  rw [Y4g, ih (fun x hx => h x (List.mem_cons_of_mem _ hx)), e, List.length_cons, Nat.succ_mul]
  have : share 1 = 536870912 := rfl
  omega
theorem shorten {f : List Nat} {L : Nat} {l : List Nat} (h : Ok f L l) (hL : L ≤ 30) (h2 : 2 ≤ f.length) (hf : ∀ x ∈ f, 1 ≤ x) (hk : kraft l < 1073741824) : ∃ l', Ok f L l' ∧ cost f l' < cost f l := by
 have hne : l ≠ [] := by
  intro e
  have := h.len
  rw [e] at this
  simp at this
  omega
 obtain ⟨i, hi, hm⟩ := Yov l hne
 have hi1 := h.lo l[i] (List.getElem_mem hi)
 have hi2 := h.hi l[i] (List.getElem_mem hi)
 have hif : i < f.length := by rw [← h.len]; exact hi
 have hfi := hf f[i] (List.getElem_mem hif)
 have hdv := Yp0 l l[i] (by omega) hm
 have htp := Yr7 l[i] (by omega)
 have hroom : kraft l + share l[i] ≤ 1073741824 := by
  obtain ⟨a, ha⟩ := hdv
  obtain ⟨b, hb⟩ := htp
  rw [ha, hb] at hk ⊢
  have : a < b := Nat.lt_of_mul_lt_mul_left hk
  rw [← Nat.mul_succ]
  exact Nat.mul_le_mul_left _ this
 by_cases h1 : l[i] = 1
 ·exfalso
  have := Ylq l (fun x hx => by have := hm x hx; have := h.lo x hx; omega)
  rw [this, h.len] at hk
  omega
 ·have hs := Y7m (l[i] - 1) l[i] (by omega) (by omega)
  rw [show l[i] - (l[i] - 1) = 1 by omega] at hs
  have hks := Yp1 l i (l[i] - 1) hi
  have hcs := Ysl f l i (l[i] - 1) hi hif
  refine ⟨l.set i (l[i] - 1), ⟨by rw [List.length_set]; exact h.len, fun x hx => ?_, fun x hx => ?_, by omega⟩, ?_⟩
  ·rcases List.mem_or_eq_of_mem_set hx with hx | rfl
   ·exact h.lo x hx
   ·omega
  ·rcases List.mem_or_eq_of_mem_set hx with hx | rfl
   ·exact h.hi x hx
   ·omega
  ·have : f[i] * (l[i] - 1) + f[i] = f[i] * l[i] := by rw [← Nat.mul_succ]; congr 1; omega
   omega
theorem Least.full {f : List Nat} {L : Nat} {l : List Nat} (h : Least f L l) (hL : L ≤ 30) (h2 : 2 ≤ f.length) (hf : ∀ x ∈ f, 1 ≤ x) : kraft l = 1073741824 := by
 rcases Nat.lt_or_ge (kraft l) 1073741824 with hk | hk
 ·obtain ⟨l', h1, h3⟩ := shorten h.ok hL h2 hf hk
  have := h.min l' h1
  omega
 ·have := h.ok.kr; omega
theorem Yr5 {f : List Nat} {L : Nat} (hL : L ≤ 30) (h2 : 2 ≤ f.length) (hf : ∀ x ∈ f, 1 ≤ x) : ∀ (n : Nat) (l : List Nat), cost f l ≤ n → Ok f L l → ∃ l', Ok f L l' ∧ cost f l' ≤ cost f l ∧ kraft l' = 1073741824 := by
 intro n
 induction n with
 | zero =>
  intro l hn h
  rcases Nat.lt_or_ge (kraft l) 1073741824 with hk | hk
  ·obtain ⟨l', _, h3⟩ := shorten h hL h2 hf hk
   omega
  ·exact ⟨l, h, Nat.le_refl _, by have := h.kr; omega⟩
 | succ n ih =>
  intro l hn h
  rcases Nat.lt_or_ge (kraft l) 1073741824 with hk | hk
  ·obtain ⟨l', h1, h3⟩ := shorten h hL h2 hf hk
   obtain ⟨l2, g1, g2, g3⟩ := ih l' (by omega) h1
   exact ⟨l2, g1, by omega, g3⟩
  ·exact ⟨l, h, Nat.le_refl _, by have := h.kr; omega⟩
end Go.Proofs.YtkkfkmoikcmhoaaGreat.Lm

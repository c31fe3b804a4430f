/- SmD, SmE: merged. -/
import Derived.Sort.LotA
import Derived.Test.YtjafcjnkefioeaaRows
import Derived.Laws.BitsAllLaws
import Derived.Laws.Strings
import Derived.Laws.BytesArg
import Derived.WalkKit
import Derived.ProofKit
import Derived.WalkLawsBesides
import Derived.Lib.Hide
import Derived.Deep.QuietTactic
import Derived.BigQuiet
import Derived.Outline
import Derived.Laws.NewBlocks
import Derived.Laws.CopyOwn
import Derived.Laws.Concat
import Derived.Laws.Strings2
import Derived.WalkSpells
import Derived.Laws.AppendOwnNone
import Derived.OpenShut
import Derived.Shelf.SlSortCmp.PdqK
import Derived.Deep.DeepCutAuto
import Derived.Test.YtjafcjnkefioeaaRao
set_option linter.unusedVariables false
set_option linter.unusedSimpArgs false
/- Merging two sorted stretches by turning, whole. -/
namespace Go.Proofs.Ytjafcjnkefioeaa.Sm
open Go.Shelf Go.RowKit Go.Lib Go.Sort
variable {α : Type} [Inhabited α] {P : Program}
def Merges (P : Program) (k : Nat) (enc : α → List Value) (cf : α → α → Int) (g : Nat) (cb : Array Value) (blk off cap : Nat) (d0 : Array α) (w0 : World) (N : Nat) : Prop :=
  ∀ (a m b : Nat) (d : Array α) (w : World), b - a < N → d0.size = d.size → SWK enc k w0 blk off d w → a < m → m < b → b ≤ d.size → SortedIn (ltOf cf) a m d → SortedIn (ltOf cf) m b d →
    Calls P 95 #[.slice (some ⟨blk, off, none⟩) d.size cap, .int .i64 a, .int .i64 m, .int .i64 b, .func (.func g) #[] cb] w fun e w' => e = .returned (.tuple #[]) ∧ ∃ d', SWK enc k w0 blk off d' w' ∧ PermIn a b d d' ∧ SortedIn (ltOf cf) a b d'
set_option maxHeartbeats 8000000 in
set_option maxRecDepth 1000000 in
theorem sym_step (L : Lays P) (k : Nat) (zE : ∀ w, (Go.sizeOf 127).run P w = .ok k w) (enc : α → List Value) (cf : α → α → Int) (hO : SWO (ltOf cf)) (g : Nat) (cb : Array Value) (blk off cap : Nat) (d0 : Array α) (w0 : World) (eg : ∀ args w, (callFunc g args).run P w = .ok (.enter g args) w)
    (hcmp : CmpLays P g cb enc k cf blk off d0.size w0) (R : RowK enc k w0 blk off d0) (N : Nat) (IH : Merges P k enc cf g cb blk off cap d0 w0 N) (a m b : Nat) (d : Array α) (w : World) (hN : b - a < N + 1) (hs : d0.size = d.size) (S : SWK enc k w0 blk off d w) (ham : a + 1 < m) (hmb : m + 1 < b) (hb : b ≤ d.size) (hsz : d.size < 4611686018427387904)
    (s1 : SortedIn (ltOf cf) a m d) (s2 : SortedIn (ltOf cf) m b d) :
    Calls P 95 #[.slice (some ⟨blk, off, none⟩) d.size cap, .int .i64 a, .int .i64 m, .int .i64 b, .func (.func g) #[] cb] w fun e w' => e = .returned (.tuple #[]) ∧ ∃ d', SWK enc k w0 blk off d' w' ∧ PermIn a b d d' ∧ SortedIn (ltOf cf) a b d' := by
  have mixed := L.mixed; have t0 := L.t0; have a0 := L.a0; have z0 := L.z0; have v0 := L.v0; have t3 := L.t3; have a3 := L.a3; have z3 := L.z3; have v3 := L.v3; have t4 := L.t4; have a4 := L.a4; have z4 := L.z4; have v4 := L.v4; have t33 := L.t33; have a33 := L.a33; have z33 := L.z33; have v33 := L.v33; have t36 := L.t36; have a36 := L.a36; have z36 := L.z36; have v36 := L.v36; have t49 := L.t49; have a49 := L.a49; have z49 := L.z49; have v49 := L.v49; have aE := L.aE
  have e32 : ∀ args w, (callFunc 96 args).run P w = .ok (.enter 96 args) w := enters_of L.fR (by kernel_rfl) rfl
  have e31 : ∀ args w, (callFunc 95 args).run P w = .ok (.enter 95 args) w := enters_of L.fM (by kernel_rfl) rfl
  have LL : Hid (Lays P ∧ Merges P k enc cf g cb blk off cap d0 w0 N) := ⟨L, IH⟩
  have S0 : Aside (SWK enc k w0 blk off d w) := S
  have HC : Aside (CmpLays P g cb enc k cf blk off d0.size w0) := hcmp
  have H0 : Hid (a + 1 < m ∧ m + 1 < b ∧ b ≤ d.size ∧ d.size < 4611686018427387904 ∧ d0.size = d.size ∧ b - a < N + 1) := ⟨ham, hmb, hb, hsz, hs, hN⟩
  have HS : Hid (SWO (ltOf cf) ∧ SortedIn (ltOf cf) a m d ∧ SortedIn (ltOf cf) m b d) := ⟨hO, s1, s2⟩
  obtain ⟨ma, hma⟩ : ∃ ma, ma = m - a := ⟨_, rfl⟩
  obtain ⟨bm, hbm⟩ : ∃ bm, bm = b - m := ⟨_, rfl⟩
  have w1 : IntKind.i64.wrap ((m : Int) - (a : Int)) = (ma : Int) := by rw [IntKind.wrap_i64]; omega
  have w2 : IntKind.i64.wrap ((b : Int) - (m : Int)) = (bm : Int) := by rw [IntKind.wrap_i64]; omega
  have hma1 : ((ma : Int) == 1) = false := beq_eq_false_iff_ne.2 (by omega)
  have hbm1 : ((bm : Int) == 1) = false := beq_eq_false_iff_ne.2 (by omega)
  obtain ⟨mid, hmid⟩ : ∃ mid, mid = (a + b) / 2 := ⟨_, rfl⟩
  obtain ⟨ab, hab⟩ : ∃ ab, ab = a + b := ⟨_, rfl⟩
  obtain ⟨n, hn⟩ : ∃ n, n = mid + m := ⟨_, rfl⟩
  obtain ⟨lo, hlo⟩ : ∃ lo, lo = if mid < m then mid + m - b else a := ⟨_, rfl⟩
  obtain ⟨hi, hhi⟩ : ∃ hi, hi = if mid < m then mid else m := ⟨_, rfl⟩
  obtain ⟨p, hp⟩ : ∃ p, p = mid + m - 1 := ⟨_, rfl⟩
  have wij : IntKind.i64.wrap ((a : Int) + (b : Int)) = (ab : Int) := by rw [IntKind.wrap_i64]; omega
  have wu : IntKind.u64.wrap (ab : Int) = (ab : Int) := by rw [IntKind.wrap_u64]; omega
  have wh : IntKind.i64.wrap (mid : Int) = (mid : Int) := by rw [IntKind.wrap_i64]; omega
  have wh2 : IntKind.u64.wrap (mid : Int) = (mid : Int) := by rw [IntKind.wrap_u64]; omega
  have whs : (ab : Int) / 2 = (mid : Int) := by omega
  have wn : IntKind.i64.wrap ((mid : Int) + (m : Int)) = (n : Int) := by rw [IntKind.wrap_i64]; omega
  have wp : IntKind.i64.wrap ((n : Int) - 1) = (p : Int) := by rw [IntKind.wrap_i64]; omega
  have hlh : a ≤ lo ∧ lo ≤ hi ∧ hi ≤ m ∧ hi ≤ mid := by
    by_cases h : mid < m
    · rw [if_pos h] at hlo hhi; omega
    · rw [if_neg h] at hlo hhi; omega
  have HM : Hid (mid = (a + b) / 2 ∧ n = mid + m ∧ p = mid + m - 1 ∧ (lo = if mid < m then mid + m - b else a) ∧ (hi = if mid < m then mid else m)) := ⟨hmid, hn, hp, hlo, hhi⟩
  have wlo : mid < m → IntKind.i64.wrap ((n : Int) - (b : Int)) = (lo : Int) := fun h => by rw [if_pos h] at hlo; rw [IntKind.wrap_i64]; omega
  have eqs : (mid < m → hi = mid) ∧ (¬ mid < m → lo = a ∧ hi = m) := ⟨fun h => by rw [hhi, if_pos h], fun h => by rw [hlo, hhi, if_neg h, if_neg h]; exact ⟨rfl, rfl⟩⟩
  have WLO : Hid ((mid < m → IntKind.i64.wrap ((n : Int) - (b : Int)) = (lo : Int)) ∧ (mid < m → hi = mid) ∧ (¬ mid < m → lo = a ∧ hi = m)) := ⟨wlo, eqs⟩
  have HLH : Hid (a ≤ lo ∧ lo ≤ hi ∧ hi ≤ m ∧ hi ≤ mid) := hlh
  clear S hcmp s1 s2 hO hs hma hbm hmid hab hn hlo hhi hp hlh wlo eqs IH hN hmb
  go_enter L.fM, Try.ntmps95
  go_upto_if 140 with fail
  go_cut [20, 21] (fun s20 s21 wx => s20 = .int .i64 lo ∧ s21 = .int .i64 hi ∧ wx = w)
  case first =>
    by_cases h : mid < m
    · have hz : (mid : Int) < (m : Int) := by omega
      have e1 := WLO.out.1 h
      have e2 := WLO.out.2.1 h
      subst e2
      go_wp2_with fail
      go_meet
      exact ⟨rfl, rfl, rfl⟩
    · have hz : ¬ (mid : Int) < (m : Int) := by omega
      obtain ⟨e1, e2⟩ := WLO.out.2.2 h
      subst e1
      subst e2
      go_wp2_with fail
      go_meet
      exact ⟨rfl, rfl, rfl⟩
  case rest =>
    obtain ⟨rfl, rfl, rfl⟩ := hcut
    go_wp2_with fail
    go_loopg [20, 21] (hi - lo) (fun kx s20 s21 wr => ∃ (i j : Nat), s20 = .int .i64 i ∧ s21 = .int .i64 j ∧ j - i ≤ kx ∧ Aside (SWK enc k w0 blk off d wr) ∧ Hid (Srch (ltOf cf) d p lo hi i j))
    case atStart => exact ⟨lo, hi, rfl, rfl, Nat.le_refl _, S0, ⟨Nat.le_refl _, HLH.out.2.1, Nat.le_refl _, fun h => by omega, fun h => by omega⟩⟩
    case round =>
      clear S0
      obtain ⟨i, j, rfl, rfl, hkx, S1, HB⟩ := hrel
      have hB1 := HB.out.h1
      have hB2 := HB.out.h2
      have hB3 := HB.out.h3
      have hl := HLH.out
      obtain ⟨hM1, hM2, hM3, hM4, hM5⟩ := HM.out
      have hcut := fun h : i = j => Srch.cut (a := a) (b := b) HS.out.1 HS.out.2.1 HS.out.2.2 (by omega) (by have := H0.out; omega) hM1 hM4 hM5 (start := i) (by have := HB.out; rw [hM3, ← h] at this; exact this)
      by_cases hlt : i < j
      · have hltz : (i : Int) < (j : Int) := by omega
        obtain ⟨h, hh⟩ : ∃ h, h = (i + j) / 2 := ⟨_, rfl⟩
        obtain ⟨ij, hij2⟩ : ∃ ij, ij = i + j := ⟨_, rfl⟩
        have hbd : p - h < b ∧ m ≤ p - h ∧ h ≤ p := by
          have := H0.out
          by_cases h9 : mid < m
          · rw [if_pos h9] at hM4 hM5; omega
          · rw [if_neg h9] at hM4 hM5; omega
        obtain ⟨y, hy⟩ : ∃ y, y = p - h := ⟨_, rfl⟩
        have wij : IntKind.i64.wrap ((i : Int) + (j : Int)) = (ij : Int) := by rw [IntKind.wrap_i64]; omega
        have wu : IntKind.u64.wrap (ij : Int) = (ij : Int) := by rw [IntKind.wrap_u64]; omega
        have wh : IntKind.i64.wrap (h : Int) = (h : Int) := by rw [IntKind.wrap_i64]; omega
        have wh2 : IntKind.u64.wrap (h : Int) = (h : Int) := by rw [IntKind.wrap_u64]; omega
        have whs : (ij : Int) / 2 = (h : Int) := by omega
        have wy : IntKind.i64.wrap ((p : Int) - (h : Int)) = (y : Int) := by rw [IntKind.wrap_i64]; omega
        have hih : i ≤ h ∧ h < j := by omega
        have eh : ((h : Int)).toNat = h := by omega
        have ph : (0 : Int) ≤ (h : Int) := by omega
        have bh : (h : Int) < (d.size : Int) := by omega
        have ey : ((y : Int)).toNat = y := by omega
        have py : (0 : Int) ≤ (y : Int) := by omega
        have byy : (y : Int) < (d.size : Int) := by omega
        have hX := H0.out.2.2.2.2.1
        obtain ⟨xh, hxh⟩ : ∃ x, x = d[h]! := ⟨_, rfl⟩
        obtain ⟨xa, hxa⟩ : ∃ x, x = d[y]! := ⟨_, rfl⟩
        have lh := S1.out.ld R hX.symm P h (by omega)
        have la := S1.out.ld R hX.symm P y (by omega)
        rw [← hxh] at lh
        rw [← hxa] at la
        have hc := S1.out.cmp HC.out hX.symm xa xh
        have HX : Hid (xh = d[h]! ∧ xa = d[y]!) := ⟨hxh, hxa⟩
        have HHh : Hid (h = (i + j) / 2 ∧ ij = i + j ∧ y = p - h ∧ lo ≤ i ∧ i ≤ h ∧ h < j ∧ j ≤ hi) := ⟨hh, hij2, hy, hB1, hih.1, hih.2, hB3⟩
        clear hxh hxa hX hh hij2 hy hcut hM1 hM2 hM3 hM4 hM5 hl hB1 hB2 hB3 hbd hih
        by_cases hlv : cf xa xh < 0
        · have hd : decide (cf xa xh < 0) = true := decide_eq_true hlv
          go_wp2_with fail
          go_quiet_grown (first | (go_at_fn g; refine Calls.grown_of (hc _ _)))
          have S2 : Aside (SWK enc k w0 blk off d (grow (wr.drewN nq) osq)) := S1.out.grown nq osq
          clear lh la hc S1
          generalize grow (wr.drewN nq) osq = w2 at S2 ⊢
          clear nq osq
          go_wp2_with fail
          have hH := HHh.out
          go_roundg (h - i)
          case measure => omega
          case rel =>
            refine ⟨i, h, rfl, rfl, Nat.le_refl _, S2, (⟨by omega, by omega, by omega, HB.out.below, fun _ => ?_⟩ : Srch _ _ _ _ _ _ _)⟩
            rw [← hH.2.2.1, ← HX.out.1, ← HX.out.2]; exact hd
        · have hd : decide (cf xa xh < 0) = false := decide_eq_false hlv
          go_wp2_with fail
          go_quiet_grown (first | (go_at_fn g; refine Calls.grown_of (hc _ _)))
          have S2 : Aside (SWK enc k w0 blk off d (grow (wr.drewN nq) osq)) := S1.out.grown nq osq
          clear lh la hc S1
          generalize grow (wr.drewN nq) osq = w2 at S2 ⊢
          clear nq osq
          go_wp2_with fail
          have hH := HHh.out
          go_roundg (j - (h + 1))
          case measure => omega
          case rel =>
            refine ⟨h + 1, j, by go_num, rfl, Nat.le_refl _, S2, (⟨by omega, by omega, by omega, fun _ => ?_, HB.out.above⟩ : Srch _ _ _ _ _ _ _)⟩
            simp only [Nat.add_sub_cancel]
            rw [← hH.2.2.1, ← HX.out.1, ← HX.out.2]; exact hd
      · have hltz : ¬ (i : Int) < (j : Int) := by omega
        have hji : j = i := by omega
        subst hji
        have C := hcut rfl
        have HCt : Hid (Cut (ltOf cf) a j m (n - j) b d) := by rw [hM2]; exact C
        obtain ⟨e, he⟩ : ∃ e, e = n - j := ⟨_, rfl⟩
        have we : IntKind.i64.wrap ((n : Int) - (j : Int)) = (e : Int) := by have := C.hm; have := C.he; have := C.hb; rw [IntKind.wrap_i64]; omega
        rw [← he] at HCt
        have hc1 := HCt.out.hs
        have hc2 := HCt.out.hm
        have hc3 := HCt.out.he
        have hc4 := HCt.out.hb
        have HE : Hid (j + (e - m) = mid ∧ a < mid ∧ mid < b) := by have := H0.out; exact ⟨by omega, by omega, by omega⟩
        clear hcut C he hM1 hM2 hM3 hM4 hM5 hl hB1 hB2 hB3
        obtain ⟨c1, hcc1⟩ : ∃ c : Bool, c = decide (j < m ∧ m < e) := ⟨_, rfl⟩
        have HC1 : Hid (c1 = decide (j < m ∧ m < e)) := hcc1
        clear hcc1
        go_upto_region 39 with fail
        go_cut [185] (fun s wx => s = .bool c1 ∧ wr = wx)
        case first =>
          by_cases h1 : j < m
          · have h1z : (j : Int) < (m : Int) := by omega
            by_cases h2 : m < e
            · have h2z : (m : Int) < (e : Int) := by omega
              go_wp2_with fail
              go_meet
              exact ⟨congrArg Value.bool (HC1.out.trans (decide_eq_true ⟨h1, h2⟩)).symm, rfl⟩
            · have h2z : ¬ (m : Int) < (e : Int) := by omega
              go_wp2_with fail
              go_meet
              exact ⟨congrArg Value.bool (HC1.out.trans (decide_eq_false (fun h => h2 h.2))).symm, rfl⟩
          · have h1z : ¬ (j : Int) < (m : Int) := by omega
            go_wp2_with fail
            go_meet
            exact ⟨congrArg Value.bool (HC1.out.trans (decide_eq_false (fun h => h1 h.1))).symm, rfl⟩
        case' rest => obtain ⟨rfl, rfl⟩ := hcut
        go_upto_if 185 with fail
        go_cut [24] (fun s24 wx => s24 = .int .i64 e ∧ ∃ d1, Aside (SWK enc k w0 blk off d1 wx) ∧ Hid (PermIn a b d d1 ∧ ∀ q, d1[q]! = rotG j m e d q))
        case first =>
          have done : ¬ (j < m ∧ m < e) → Hid (PermIn a b d d ∧ ∀ q, d[q]! = rotG j m e d q) := fun h => ⟨permIn_refl _ _ _, fun q => by
            by_cases h1 : j = m
            · rw [h1, rotG_none1]
            · have h2 : e = m := by omega
              rw [h2, rotG_none2 hc2]⟩
          have DONE : Hid (¬ (j < m ∧ m < e) → Hid (PermIn a b d d ∧ ∀ q, d[q]! = rotG j m e d q)) := done
          clear done
          cases c1 with
          | true =>
            obtain ⟨h1, h2⟩ := of_decide_eq_true HC1.out.symm
            have hcc := rotate LL.out.1 k zE enc blk off cap j m e (.func (.func g) #[] cb) d0 d w0 wr R H0.out.2.2.2.2.1 S1.out h1 h2 (by omega) hsz
            clear h1 h2
            go_wp2_with (go_at_fn (96); refine hcc.mono ?_; rintro e w' ⟨rfl, d1, S2, hp1, hr1⟩)
            go_meet
            exact ⟨rfl, d1, S2, ⟨permIn_mono _ _ _ _ _ _ hc1 hc4 hb hp1, hr1⟩⟩
          | false =>
            have h := of_decide_eq_false HC1.out.symm
            clear HC1
            have DN := DONE.out h
            clear h
            go_wp2_with fail
            go_meet
            exact ⟨rfl, d, S1, DN⟩
        case rest => as_aux_lemma =>
          obtain ⟨rfl, d1, S2, HP1⟩ := hcut
          have hd1 : d1.size = d.size := HP1.out.1.1
          have HT : Hid (SortedIn (ltOf cf) a j d1 ∧ SortedIn (ltOf cf) j mid d1 ∧ SortedIn (ltOf cf) mid e d1 ∧ SortedIn (ltOf cf) e b d1 ∧ ∀ x y, a ≤ x → x < mid → mid ≤ y → y < b → ltOf cf d1[y]! d1[x]! = false) := by
            have hh := HE.out.1
            refine ⟨cut_one HS.out.2.1 HCt.out HP1.out.2, ?_, ?_, cut_four HS.out.2.2 HCt.out HP1.out.2, ?_⟩
            · rw [← hh]; exact cut_two HS.out.2.2 HCt.out HP1.out.2
            · rw [← hh]; exact cut_three HS.out.2.1 HCt.out HP1.out.2
            · rw [← hh]; exact cut_apart HS.out.2.1 HS.out.2.2 HCt.out HP1.out.2
          clear S1
          obtain ⟨c2, hcc2⟩ : ∃ c : Bool, c = decide (a < j ∧ j < mid) := ⟨_, rfl⟩
          have HC2 : Hid (c2 = decide (a < j ∧ j < mid)) := hcc2
          clear hcc2
          go_upto_region 41 with fail
          go_cut [199] (fun s wx => s = .bool c2 ∧ wc = wx)
          case first =>
            by_cases h1 : a < j
            · have h1z : (a : Int) < (j : Int) := by omega
              by_cases h2 : j < mid
              · have h2z : (j : Int) < (mid : Int) := by omega
                go_wp2_with fail
                go_meet
                exact ⟨congrArg Value.bool (HC2.out.trans (decide_eq_true ⟨h1, h2⟩)).symm, rfl⟩
              · have h2z : ¬ (j : Int) < (mid : Int) := by omega
                go_wp2_with fail
                go_meet
                exact ⟨congrArg Value.bool (HC2.out.trans (decide_eq_false (fun h => h2 h.2))).symm, rfl⟩
            · have h1z : ¬ (a : Int) < (j : Int) := by omega
              go_wp2_with fail
              go_meet
              exact ⟨congrArg Value.bool (HC2.out.trans (decide_eq_false (fun h => h1 h.1))).symm, rfl⟩
          case' rest => obtain ⟨rfl, rfl⟩ := hcut
          go_upto_if 199 with fail
          go_cut [24] (fun s24 wx => s24 = .int .i64 e ∧ ∃ d2, Aside (SWK enc k w0 blk off d2 wx) ∧ Hid (PermIn a mid d1 d2 ∧ SortedIn (ltOf cf) a mid d2))
          case first =>
            have hE := HE.out
            have done : ¬ (a < j ∧ j < mid) → Hid (PermIn a mid d1 d1 ∧ SortedIn (ltOf cf) a mid d1) := fun h => ⟨permIn_refl _ _ _, by
              by_cases h1 : a = j
              · rw [h1]; exact HT.out.2.1
              · have h2 : mid = j := by omega
                rw [h2]; exact HT.out.1⟩
            have DONE : Hid (¬ (a < j ∧ j < mid) → Hid (PermIn a mid d1 d1 ∧ SortedIn (ltOf cf) a mid d1)) := done
            clear done
            clear hE
            cases c2 with
            | true =>
              obtain ⟨h1, h2⟩ := of_decide_eq_true HC2.out.symm
              have hcc := LL.out.2 a j mid d1 _ (by have := H0.out; have := HE.out; omega) (by have := H0.out; omega) S2.out h1 h2 (by have := HE.out; omega) HT.out.1 HT.out.2.1
              rw [hd1] at hcc
              clear h1 h2
              go_wp2_with (go_at_fn (95); refine hcc.mono ?_; rintro e w' ⟨rfl, d2, S3, hp1, hr1⟩)
              go_meet
              exact ⟨rfl, d2, S3, ⟨hp1, hr1⟩⟩
            | false =>
              have h := of_decide_eq_false HC2.out.symm
              clear HC2
              have DN := DONE.out h
              clear h
              go_wp2_with fail
              go_meet
              exact ⟨rfl, d1, S2, DN⟩
          case rest => as_aux_lemma =>
            obtain ⟨rfl, d2, S3, HP2⟩ := hcut
            have hd2 : d2.size = d.size := by rw [HP2.out.1.1]; exact hd1
            clear S2
            have hE := HE.out
            have fin : Hid (∀ d3, PermIn mid b d2 d3 → SortedIn (ltOf cf) mid b d3 → PermIn a b d d3 ∧ SortedIn (ltOf cf) a b d3) := fun d3 p3 s3 => by
              have h9 := halves (d := d1) (by omega) (by omega) (by omega) HT.out.2.2.2.2 HP2.out.1 HP2.out.2 p3 s3
              exact ⟨permIn_trans _ _ _ _ _ HP1.out.1 h9.1, h9.2⟩
            have done : ¬ (mid < e ∧ e < b) → Hid (SortedIn (ltOf cf) mid b d2) := fun h => by
              by_cases h1 : mid = e
              · have := sorted_out HP2.out.1 HT.out.2.2.2.1 (Or.inr (by omega))
                rw [← h1] at this
                exact this
              · have h2 : e = b := by omega
                have := sorted_out HP2.out.1 HT.out.2.2.1 (Or.inr (by omega))
                rw [h2] at this
                exact this
            have DONE : Hid (¬ (mid < e ∧ e < b) → Hid (SortedIn (ltOf cf) mid b d2)) := done
            clear done
            clear hE
            by_cases h1 : mid < e
            · have h1z : (mid : Int) < (e : Int) := by omega
              by_cases h2 : e < b
              · have h2z : (e : Int) < (b : Int) := by omega
                have hcc := LL.out.2 mid e b d2 _ (by have := H0.out; have := HE.out; omega) (by have := H0.out; omega) S3.out h1 h2 (by omega) (sorted_out HP2.out.1 HT.out.2.2.1 (Or.inr (by omega))) (sorted_out HP2.out.1 HT.out.2.2.2.1 (Or.inr (by omega)))
                rw [hd2] at hcc
                go_wp2_with (go_at_fn (95); refine hcc.mono ?_; rintro e w' ⟨rfl, d3, S4, hp1, hr1⟩)
                go_end0
                obtain ⟨q1, q2⟩ := fin.out d3 hp1 hr1
                exact ⟨rfl, d3, S4, q1, q2⟩
              · have h2z : ¬ (e : Int) < (b : Int) := by omega
                go_wp2_with fail
                go_end0
                obtain ⟨q1, q2⟩ := fin.out d2 (permIn_refl _ _ _) (DONE.out (fun h => h2 h.2)).out
                exact ⟨rfl, d2, S3.out, q1, q2⟩
            · have h1z : ¬ (mid : Int) < (e : Int) := by omega
              go_wp2_with fail
              go_end0
              obtain ⟨q1, q2⟩ := fin.out d2 (permIn_refl _ _ _) (DONE.out (fun h => h1 h.1)).out
              exact ⟨rfl, d2, S3.out, q1, q2⟩
theorem sym_merge (L : Lays P) (k : Nat) (zE : ∀ w, (Go.sizeOf 127).run P w = .ok k w) (enc : α → List Value) (cf : α → α → Int) (hO : SWO (ltOf cf)) (g : Nat) (cb : Array Value) (blk off cap : Nat) (d0 : Array α) (w0 : World) (eg : ∀ args w, (callFunc g args).run P w = .ok (.enter g args) w)
    (hcmp : CmpLays P g cb enc k cf blk off d0.size w0) (R : RowK enc k w0 blk off d0) (hsz : d0.size < 4611686018427387904) (N : Nat) : Merges P k enc cf g cb blk off cap d0 w0 N := by
  induction N with
  | zero => intro a m b d w hN; omega
  | succ N ih =>
    intro a m b d w hN hs S ham hmb hb s1 s2
    by_cases h1 : m = a + 1
    · exact sym_left L k zE enc cf hO g cb blk off cap a m b d0 d w0 w eg hcmp R hs S h1 hmb hb (by omega) s1 s2
    · by_cases h2 : b = m + 1
      · exact sym_right L k zE enc cf hO g cb blk off cap a m b d0 d w0 w eg hcmp R hs S (by omega) h2 hb (by omega) s1 s2
      · exact sym_step L k zE enc cf hO g cb blk off cap d0 w0 eg hcmp R N ih a m b d w hN hs S (by omega) (by omega) hb (by omega) s1 s2
end Go.Proofs.Ytjafcjnkefioeaa.Sm
/- Sorting a row of packs: blocks first, then merges of twice as many. -/
namespace Go.Proofs.Ytjafcjnkefioeaa.Sm
open Go.Shelf Go.RowKit Go.Lib Go.Sort
variable {α : Type} [Inhabited α] {lt : α → α → Bool}
def Runs (lt : α → α → Bool) (s n : Nat) (d : Array α) : Prop := ∀ t, SortedIn lt (t * s) (min ((t + 1) * s) n) d
theorem Runs.zero {s : Nat} {d : Array α} : Runs lt s 0 d := fun t => sorted_none (by simp)
theorem Runs.next {s c y : Nat} {d e : Array α} (h : Runs lt s (c * s) d) (hp : PermIn (c * s) y d e) (hs : SortedIn lt (c * s) y e) (hy : y ≤ c * s + s) (hcy : c * s ≤ y) : Runs lt s y e := by
  intro t
  rcases Nat.lt_trichotomy t c with h1 | h1 | h1
  · have h2 : (t + 1) * s ≤ c * s := Nat.mul_le_mul_right s h1
    have h3 := h t
    rw [Nat.min_eq_left h2] at h3
    rw [Nat.min_eq_left (by omega)]
    exact sorted_out hp h3 (Or.inl h2)
  · subst h1
    exact SortedIn.sub hs (Nat.le_refl _) (Nat.min_le_right _ _)
  · have h2 : (c + 1) * s ≤ t * s := Nat.mul_le_mul_right s h1
    rw [Nat.succ_mul] at h2
    exact sorted_none (by have := Nat.min_le_right ((t + 1) * s) y; omega)
theorem Runs.end_ {s c n : Nat} {d : Array α} (h : Runs lt s (c * s) d) (hs : SortedIn lt (c * s) n d) (hn : n ≤ c * s + s) (hcy : c * s ≤ n) : Runs lt s n d := Runs.next h (permIn_refl _ _ _) hs hn hcy
theorem Runs.all {s n : Nat} {d : Array α} (h : Runs lt s n d) (hn : n ≤ s) : SortedIn lt 0 n d := by
  have := h 0
  rw [Nat.zero_mul, Nat.zero_add, Nat.one_mul, Nat.min_eq_right hn] at this
  exact this
def From (lt : α → α → Bool) (s a n : Nat) (d : Array α) : Prop := ∀ t, a ≤ t * s → SortedIn lt (t * s) (min ((t + 1) * s) n) d
theorem From.next {s a b n : Nat} {d e : Array α} (h : From lt s a n d) (hp : PermIn a b d e) (hb : a ≤ b) : From lt s b n e := fun t ht => sorted_out hp (h t (by omega)) (Or.inr ht)
theorem From.two {s c a n : Nat} {d : Array α} (h : From lt s a n d) (ha : a = c * (2 * s)) : SortedIn lt a (min (a + s) n) d ∧ SortedIn lt (a + s) (min (a + s + s) n) d := by
  have e : 2 * c * s = a := by rw [ha, Nat.mul_comm 2 c, Nat.mul_assoc]
  have e1 : (2 * c + 1) * s = a + s := by rw [Nat.succ_mul, e]
  have e2 : (2 * c + 1 + 1) * s = a + s + s := by rw [Nat.succ_mul, e1]
  have h1 := h (2 * c) (by omega)
  have h2 := h (2 * c + 1) (by omega)
  rw [e, e1] at h1
  rw [e1, e2] at h2
  exact ⟨h1, h2⟩
def ren : Ren := ⟨fun n => if n = 20 then 94 else n, fun n => if n = 22 then 124 else if n = 24 then 127 else if n = 25 then 149 else if n = 3 then 3 else if n = 4 then 4 else n, fun n => n⟩
theorem lays20 : SlLaysF0.n20 Try.prog ren where
  mixed := by kernel_rfl
  f20 := ⟨ "slices.insertionSortCmpFunc[mezzotint/limit.pack]", by kernel_rfl, by kernel_rfl⟩
  t0 := by kernel_rfl
  a0 _ := by kernel_rfl
  z0 _ := by kernel_rfl
  v0 _ := by kernel_rfl
  t3 := by kernel_rfl
  a3 _ := by kernel_rfl
  z3 _ := by kernel_rfl
  v3 _ := by kernel_rfl
  t4 := by kernel_rfl
  a4 _ := by kernel_rfl
  z4 _ := by kernel_rfl
  v4 _ := by kernel_rfl
  t22 := by kernel_rfl
  a22 _ := by kernel_rfl
  z22 _ := by kernel_rfl
  v22 _ := by kernel_rfl
  t25 := by kernel_rfl
  a25 _ := by kernel_rfl
  z25 _ := by kernel_rfl
  v25 _ := by kernel_rfl
theorem insertion (enc : α → List Value) (cf : α → α → Int) (hO : SWO (ltOf cf)) (g : Nat) (cb : Array Value) (blk off cap a b : Nat) (d0 d : Array α) (w0 w : World) (eg : ∀ args w, (callFunc g args).run Try.prog w = .ok (.enter g args) w) (hcmp : CmpLays Try.prog g cb enc 3 cf blk off d0.size w0)
    (R : RowK enc 3 w0 blk off d0) (hs : d0.size = d.size) (S : SWK enc 3 w0 blk off d w) (hab : a ≤ b) (hb : b ≤ d.size) (hsz : d.size < 4611686018427387904) :
    Calls Try.prog 94 #[.slice (some ⟨blk, off, none⟩) d.size cap, .int .i64 a, .int .i64 b, .func (.func g) #[] cb] w fun e w' => e = .returned (.tuple #[]) ∧ ∃ d', SWK enc 3 w0 blk off d' w' ∧ PermIn a b d d' ∧ SortedIn (ltOf cf) a b d' := by
  have h := AnyQ.insertionSortCmpFunc_w lays20 3 (fun w => lays.aE w) sizeP enc cf g cb blk off cap a b d0 d w0 w eg hcmp R hs S hO hab hb hsz
  have e : ren.f 20 = 94 := rfl
  rw [e] at h
  have hh := insertionSort_holds hO d a b hab hb
  exact h.mono fun _ _ ⟨he, hw⟩ => ⟨he, _, hw, hh.1, hh.2⟩
set_option maxHeartbeats 8000000 in
set_option maxRecDepth 1000000 in
theorem stable (enc : α → List Value) (cf : α → α → Int) (hO : SWO (ltOf cf)) (g : Nat) (cb : Array Value) (blk off cap : Nat) (d : Array α) (w : World) (eg : ∀ args w, (callFunc g args).run Try.prog w = .ok (.enter g args) w) (hcmp : CmpLays Try.prog g cb enc 3 cf blk off d.size w)
    (R : RowK enc 3 w blk off d) (hsz : d.size < 1000000000) :
    Calls Try.prog 92 #[.slice (some ⟨blk, off, none⟩) d.size cap, .int .i64 d.size, .func (.func g) #[] cb] w fun e w' => e = .returned (.tuple #[]) ∧ ∃ d', SWK enc 3 w blk off d' w' ∧ PermIn 0 d.size d d' ∧ SortedIn (ltOf cf) 0 d.size d' := by
  have INS : Hid (∀ a b d' w', d.size = d'.size → SWK enc 3 w blk off d' w' → a ≤ b → b ≤ d'.size → Calls Try.prog 94 #[.slice (some ⟨blk, off, none⟩) d'.size cap, .int .i64 a, .int .i64 b, .func (.func g) #[] cb] w' fun e w'' => e = .returned (.tuple #[]) ∧ ∃ d'', SWK enc 3 w blk off d'' w'' ∧ PermIn a b d' d'' ∧ SortedIn (ltOf cf) a b d'') :=
    fun a b d' w' hs S hab hb => insertion enc cf hO g cb blk off cap a b d d' w w' eg hcmp R hs S hab hb (by omega)
  have SYM : Hid (∀ a m b d' w', d.size = d'.size → SWK enc 3 w blk off d' w' → a < m → m < b → b ≤ d'.size → SortedIn (ltOf cf) a m d' → SortedIn (ltOf cf) m b d' → Calls Try.prog 95 #[.slice (some ⟨blk, off, none⟩) d'.size cap, .int .i64 a, .int .i64 m, .int .i64 b, .func (.func g) #[] cb] w' fun e w'' => e = .returned (.tuple #[]) ∧ ∃ d'', SWK enc 3 w blk off d'' w'' ∧ PermIn a b d' d'' ∧ SortedIn (ltOf cf) a b d'') :=
    fun a m b d' w' hs S h1 h2 h3 s1 s2 => sym_merge lays 3 sizeP enc cf hO g cb blk off cap d w eg hcmp R (by omega) (b - a + 1) a m b d' w' (by omega) hs S h1 h2 h3 s1 s2
  have S0 : Hid (SWK enc 3 w blk off d w) := SWK.start R.hH
  obtain ⟨n, hn⟩ : ∃ n, n = d.size := ⟨_, rfl⟩
  rw [← hn] at hsz ⊢
  have HN : Hid (n = d.size) := hn
  have HO : Hid (SWO (ltOf cf)) := hO
  clear hn hcmp R hO eg
  go_enter Try.func92, Try.ntmps92
  go_wp2
  go_loopg [7, 8] n (fun kx s7 s8 wr => ∃ (c a b : Nat) (dk : Array α), s7 = .int .i64 a ∧ s8 = .int .i64 b ∧ b = a + 20 ∧ a ≤ n ∧ n - a ≤ kx ∧ Hid (a = c * 20 ∧ SWK enc 3 w blk off dk wr ∧ PermIn 0 n d dk ∧ Runs (ltOf cf) 20 a dk))
  case atStart => exact ⟨0, 0, 20, d, rfl, rfl, rfl, by omega, by omega, ⟨rfl, S0.out, permIn_refl _ _ _, Runs.zero⟩⟩
  case round =>
    clear S0
    obtain ⟨c, a, b, dk, rfl, rfl, hb, han, hkx, H⟩ := hrel
    have HB : Hid (b = a + 20) := hb
    have hds : dk.size = n := by rw [HN.out]; exact H.out.2.2.1.1
    by_cases hlt : b ≤ n
    · have hltz : (b : Int) ≤ (n : Int) := by omega
      have hcc := INS.out a b dk wr (by have := HN.out; omega) H.out.2.1 (by omega) (by omega)
      rw [hds] at hcc
      have wb : IntKind.i64.wrap ((b : Int) + 20) = ((b + 20 : Nat) : Int) := by rw [IntKind.wrap_i64]; omega
      obtain ⟨b2, hb2⟩ : ∃ b2, b2 = b + 20 := ⟨_, rfl⟩
      rw [← hb2] at wb
      have HB2 : Hid (b2 = b + 20) := hb2
      clear hb hb2
      go_wp2_with (go_at_call 94; refine hcc.mono ?_; rintro e w' ⟨rfl, d', S2, hp, hs⟩)
      have hB := HB.out
      have hB2 := HB2.out
      go_roundg (n - b)
      case measure => omega
      case rel =>
        obtain ⟨e1, e2, e3, e4⟩ := H.out
        refine ⟨c + 1, b, b2, d', rfl, rfl, hB2, by omega, Nat.le_refl _, ⟨by omega, S2, permIn_trans _ _ _ _ _ e3 (permIn_mono _ _ _ _ _ _ (Nat.zero_le _) hlt (by omega) hp), ?_⟩⟩
        rw [e1] at e4 hp hs
        exact Runs.next e4 hp hs (by omega) (by omega)
    · have hltz : ¬ (b : Int) ≤ (n : Int) := by omega
      have hcc := INS.out a n dk wr (by have := HN.out; omega) H.out.2.1 (by omega) (by omega)
      rw [hds] at hcc
      clear hb
      have hpl : a = c * 20 ∧ PermIn 0 n d dk ∧ Runs (ltOf cf) 20 a dk := ⟨H.out.1, H.out.2.2.1, H.out.2.2.2⟩
      have HPL : Hid (a = c * 20 ∧ PermIn 0 n d dk ∧ Runs (ltOf cf) 20 a dk) := hpl
      clear hpl H
      go_wp2_with (go_at_call 94; refine hcc.mono ?_; rintro e w' ⟨rfl, d', S2, hp, hs⟩)
      have S3 : Hid (SWK enc 3 w blk off d' w' ∧ PermIn 0 n d d' ∧ Runs (ltOf cf) 20 n d') := by
        obtain ⟨e1, e2, e3⟩ := HPL.out
        have hB := HB.out
        refine ⟨S2, permIn_trans _ _ _ _ _ e2 (permIn_mono _ _ _ _ _ _ (Nat.zero_le _) (Nat.le_refl _) (by omega) hp), ?_⟩
        rw [e1] at e3 hp hs
        exact Runs.next e3 hp hs (by omega) (by omega)
      clear S2 hp hs HPL HB
      go_loopg [6] n (fun kx s6 wr => ∃ (s : Nat) (dk : Array α), s6 = .int .i64 s ∧ 0 < s ∧ s ≤ n + n + 40 ∧ n - s ≤ kx ∧ Hid (SWK enc 3 w blk off dk wr ∧ PermIn 0 n d dk ∧ Runs (ltOf cf) s n dk))
      case atStart => exact ⟨20, d', rfl, by omega, by omega, by omega, S3⟩
      case round =>
        clear S3
        obtain ⟨s, dk, rfl, hs0, hs1, hkx, H⟩ := hrel
        by_cases hlt2 : s < n
        · have hltz2 : (s : Int) < (n : Int) := by omega
          obtain ⟨s2, hs2⟩ : ∃ s2, s2 = 2 * s := ⟨_, rfl⟩
          have ws : IntKind.i64.wrap (2 * (s : Int)) = (s2 : Int) := by rw [IntKind.wrap_i64]; omega
          have ws' : IntKind.i64.wrap ((s : Int) * 2) = (s2 : Int) := by rw [IntKind.wrap_i64]; omega
          have HS2 : Hid (s2 = 2 * s) := hs2
          have S3 : Hid (SWK enc 3 w blk off dk wr ∧ PermIn 0 n d dk ∧ Runs (ltOf cf) s2 0 dk ∧ From (ltOf cf) s 0 n dk) := ⟨H.out.1, H.out.2.1, Runs.zero, fun t _ => H.out.2.2 t⟩
          clear hs2 H
          go_wp2
          go_loopg [7, 8] n (fun kx s7 s8 wr => ∃ (c a b : Nat) (dk : Array α), s7 = .int .i64 a ∧ s8 = .int .i64 b ∧ b = a + s2 ∧ a ≤ n ∧ n - a ≤ kx ∧ Hid (a = c * s2 ∧ SWK enc 3 w blk off dk wr ∧ PermIn 0 n d dk ∧ Runs (ltOf cf) s2 a dk ∧ From (ltOf cf) s a n dk))
          case atStart => exact ⟨0, 0, s2, dk, rfl, rfl, by omega, by omega, by omega, ⟨by rw [Nat.zero_mul], S3.out⟩⟩
          case round =>
            clear S3
            obtain ⟨c, a, b, dk, rfl, rfl, hb, han, hkx, H⟩ := hrel
            have HB : Hid (b = a + s2) := hb
            have hds : dk.size = n := by rw [HN.out]; exact H.out.2.2.1.1
            have hS2 := HS2.out
            obtain ⟨q1, q2⟩ := From.two H.out.2.2.2.2 (c := c) (by have := H.out.1; rw [hS2] at this; exact this)
            obtain ⟨m, hm⟩ : ∃ m, m = a + s := ⟨_, rfl⟩
            have wm : IntKind.i64.wrap ((a : Int) + (s : Int)) = (m : Int) := by rw [IntKind.wrap_i64]; omega
            have HM : Hid (m = a + s) := hm
            rw [← hm] at q1 q2
            by_cases hbn : b ≤ n
            · have hbz : (b : Int) ≤ (n : Int) := by omega
              have hcc := SYM.out a m b dk wr (by have := HN.out; omega) H.out.2.1 (by omega) (by omega) (by omega) (by rw [Nat.min_eq_left (by omega)] at q1; exact q1) (by rw [Nat.min_eq_left (by omega)] at q2; rw [show b = m + s by omega]; exact q2)
              rw [hds] at hcc
              obtain ⟨b2, hb2⟩ : ∃ b2, b2 = b + s2 := ⟨_, rfl⟩
              have wb : IntKind.i64.wrap ((b : Int) + (s2 : Int)) = (b2 : Int) := by rw [IntKind.wrap_i64]; omega
              have HB2 : Hid (b2 = b + s2) := hb2
              clear hb hb2 hm hS2 q1 q2
              go_wp2_with (go_at_call 95; refine hcc.mono ?_; rintro e w' ⟨rfl, d', S2, hp, hs⟩)
              have hB := HB.out
              have hB2 := HB2.out
              have hS2 := HS2.out
              go_roundg (n - b)
              case measure => omega
              case rel =>
                obtain ⟨e1, e2, e3, e4, e5⟩ := H.out
                refine ⟨c + 1, b, b2, d', rfl, rfl, hB2, by omega, Nat.le_refl _, ⟨by rw [Nat.succ_mul]; omega, S2, permIn_trans _ _ _ _ _ e3 (permIn_mono _ _ _ _ _ _ (Nat.zero_le _) hbn (by omega) hp), ?_, e5.next hp (by omega)⟩⟩
                rw [e1] at e4 hp hs
                exact Runs.next e4 hp hs (by omega) (by omega)
            · have hbz : ¬ (b : Int) ≤ (n : Int) := by omega
              by_cases hmn : m < n
              · have hmz : (m : Int) < (n : Int) := by omega
                have hcc := SYM.out a m n dk wr (by have := HN.out; omega) H.out.2.1 (by omega) (by omega) (by omega) (by rw [Nat.min_eq_left (by omega)] at q1; exact q1) (by rw [Nat.min_eq_right (by omega)] at q2; exact q2)
                rw [hds] at hcc
                clear hb hm hS2 q1 q2
                go_wp2_with (go_at_call 95; refine hcc.mono ?_; rintro e w' ⟨rfl, d', S2, hp, hs⟩)
                have hB := HB.out
                have hS2 := HS2.out
                have hM := HM.out
                go_roundg (n - s2)
                case measure => omega
                case rel =>
                  obtain ⟨e1, e2, e3, e4, e5⟩ := H.out
                  refine ⟨s2, d', rfl, by omega, by omega, Nat.le_refl _, ⟨S2, permIn_trans _ _ _ _ _ e3 (permIn_mono _ _ _ _ _ _ (Nat.zero_le _) (Nat.le_refl _) (by omega) hp), ?_⟩⟩
                  rw [e1] at e4 hp hs
                  exact Runs.next e4 hp hs (by omega) (by omega)
              · have hmz : ¬ (m : Int) < (n : Int) := by omega
                have HQ : Hid (SortedIn (ltOf cf) a n dk) := by rw [Nat.min_eq_right (by omega)] at q1; exact q1
                clear hb hm hS2 q1 q2
                go_wp2
                have hB := HB.out
                have hS2 := HS2.out
                have hM := HM.out
                go_roundg (n - s2)
                case measure => omega
                case rel =>
                  obtain ⟨e1, e2, e3, e4, e5⟩ := H.out
                  refine ⟨s2, dk, rfl, by omega, by omega, Nat.le_refl _, ⟨e2, e3, ?_⟩⟩
                  have hq := HQ.out
                  rw [e1] at e4 hq
                  exact Runs.end_ e4 hq (by omega) (by omega)
        · have hltz2 : ¬ (s : Int) < (n : Int) := by omega
          go_wp2
          go_end0
          exact ⟨rfl, dk, H.out.1, H.out.2.1, H.out.2.2.all (by omega)⟩
set_option maxHeartbeats 4000000 in
set_option maxRecDepth 1000000 in
theorem sort_stable (enc : α → List Value) (cf : α → α → Int) (hO : SWO (ltOf cf)) (g : Nat) (cb : Array Value) (blk off cap : Nat) (d : Array α) (w : World) (eg : ∀ args w, (callFunc g args).run Try.prog w = .ok (.enter g args) w) (hcmp : CmpLays Try.prog g cb enc 3 cf blk off d.size w)
    (R : RowK enc 3 w blk off d) (hsz : d.size < 1000000000) :
    Calls Try.prog 84 #[.slice (some ⟨blk, off, none⟩) d.size cap, .func (.func g) #[] cb] w fun e w' => e = .returned (.tuple #[]) ∧ ∃ d', SWK enc 3 w blk off d' w' ∧ PermIn 0 d.size d d' ∧ SortedIn (ltOf cf) 0 d.size d' := by
  have hc := stable enc cf hO g cb blk off cap d w eg hcmp R hsz
  have HH : Hid (RowK enc 3 w blk off d ∧ CmpLays Try.prog g cb enc 3 cf blk off d.size w ∧ SWO (ltOf cf)) := ⟨R, hcmp, hO⟩
  clear R hcmp hO eg
  go_enter Try.func84, Try.ntmps84
  go_wp2_with (go_at_call 92; refine hc.mono ?_; rintro e w' ⟨rfl, d', S2, hp, hs⟩)
  go_end0
  exact ⟨rfl, d', S2, hp, hs⟩
end Go.Proofs.Ytjafcjnkefioeaa.Sm


/- The walk of MhReads. -/
import Derived.Test.YtgddpjnikgcamaaDoorMiM
import Derived.Test.YtgddpjnikgcamaaDoorMiJ
import Derived.Test.YtgddpjnikgcamaaDoorBitF
namespace Go.Proofs.YtgddpjnikgcamaaDoor.Mh
open Go.RowKit Go.Proofs.YtgddpjnikgcamaaDoor.Oct Go.Proofs.YtgddpjnikgcamaaDoor.Bit
open Go.Proofs.YtgddpjnikgcamaaDoor.Fx (Tab Cd Out codes_any TrueT RS modeZ lenA)
open Go.Proofs.YtgddpjnikgcamaaDoor.Rn (changes zl zl_length rchanges_new rsame_any Valid)
open Go.Proofs.YtgddpjnikgcamaaDoor.Lp (VRow ints ints_length)
set_option linter.unusedVariables false
set_option linter.unusedSimpArgs false
set_option maxRecDepth 100000

theorem twoA_ne {L : List Bool} {n t e : Nat} {P : List Bool} {b : Bool} (ht : t ≤ L.length) (h : (twoA L n t P b).2 = .error e) : ((e : Int) != 0) = true := by
  have h1 := lenA_lt b (L := L) (most := n - P.length) (n := 0) ht
  unfold twoA at h
  rcases hy : lenA b L (n - P.length) t 0 with ⟨t1, c | m⟩
  · rw [hy] at h
    simp only at h
    injection h with h
    subst h
    exact lenA_ne ht (by rw [hy])
  · rw [hy] at h h1
    simp only at h h1
    rcases hz : lenA (!b) L (n - (P.length + m)) t1 0 with ⟨t2, c | k⟩
    · rw [hz] at h
      simp only at h
      injection h with h
      subst h
      exact lenA_ne h1.1 (by rw [hz])
    · rw [hz] at h; cases h
theorem stepA_ne {L : List Bool} {top : List Nat} {n t a e : Nat} {P : List Bool} {b : Bool} (ht : t ≤ L.length) (h : (stepA L top n t a P b).2 = .error e) : ((e : Int) != 0) = true := by
  have hml := modeZ_le ht
  unfold stepA at h
  rcases hy : modeZ L t with ⟨t1, c | i⟩
  · rw [hy] at h
    simp only at h
    injection h with h
    subst h
    exact modeZ_ne (by rw [hy])
  · rw [hy] at h hml
    simp only at h hml
    split at h
    · cases h
    · split at h
      · exact twoA_ne hml.1 h
      · split at h
        · cases h
        · injection h with h
          subst h
          rfl
theorem readGA_ne {L : List Bool} {top : List Nat} {n e : Nat} : ∀ (f t a : Nat) (P : List Bool) (b : Bool), L.length + 2 ≤ f + t → t ≤ L.length → (readGA L top n t a P b).2 = .error e → ((e : Int) != 0) = true
  | 0, t, a, P, b, hf, ht, h => by omega
  | f + 1, t, a, P, b, hf, ht, h => by
    by_cases hn : a ≤ n
    · rw [readGA_step L top n t a P b ht hn] at h
      have hsl := stepA_le (L := L) (top := top) (n := n) (t := t) (a := a) (P := P) (b := b) ht
      rcases hy : stepA L top n t a P b with ⟨t1, c | s⟩
      · rw [hy] at h
        simp only at h
        injection h with h
        subst h
        exact stepA_ne ht (by rw [hy])
      · rw [hy] at h hsl
        simp only at h hsl
        exact readGA_ne f t1 s.1 s.2.1 s.2.2 (by have := hsl.2.2 s rfl; omega) hsl.1 h
    · rw [readGA_eq L top n t a P b ht, if_pos (by omega)] at h
      cases h
theorem readRowA_len {L : List Bool} {n : Nat} {X : List Bool} : ∀ (f t : Nat) (P : List Bool) (b : Bool), L.length + 1 ≤ f + t → t ≤ L.length → (readRowA L n t P b).2 = .ok X → X.length = n
  | 0, t, P, b, hf, ht, h => by omega
  | f + 1, t, P, b, hf, ht, h => by
    rw [readRowA_eq L n t P b ht] at h
    have h1 := lenA_lt b (L := L) (most := n - P.length) (n := 0) ht
    rcases hy : lenA b L (n - P.length) t 0 with ⟨t1, c | m⟩
    · rw [hy] at h; cases h
    · rw [hy] at h h1
      simp only at h h1
      split at h
      · injection h with h
        subst h
        rw [List.length_append, List.length_replicate]
        assumption
      · exact readRowA_len f t1 _ _ (by have := (h1.2.2 m rfl).1; omega) h1.1 h
theorem rowS_le {x : Except Nat (List Bool)} {n : Nat} (h : ∀ X, x = .ok X → X.length = n) : (rowS x).length ≤ n := by
  rcases x with e | X
  · exact Nat.zero_le _
  · exact Nat.le_of_eq (h X rfl)
theorem chg_rowS (x : Except Nat (List Bool)) : changes (rowS x) = rowL x := by
  rcases x with e | X
  · rfl
  · rfl
/-- the two rows are alike -/
theorem same_in (q1 q2 : Option Addr) (m c1 c2 : Nat) (d : List Nat) (w : World) (C1 C2 : Nat) (h1 : VRow w C1 q1 (ints (zl d))) (h2 : VRow w C2 q2 (ints (zl d))) (hm : d.length = m) (hb : m ≤ 100000) :
    Calls Tryd.prog 24 #[.slice q1 m c1, .slice q2 m c2] w fun e w' => e = .returned (.bool true) ∧ Drawn w w' := by
  have h := rsame_any q1 q2 m c1 m c2 (zl d) (zl d) w C1 C2 h1 h2 (by rw [zl_length]; exact hm) (by rw [zl_length]; exact hm) hb
  rwa [show decide (zl d = zl d) = true from by simp] at h
set_option maxHeartbeats 16000000 in
theorem reads_walk (p : Option Addr) (len cap : Nat) (zs : List Int) (p2 : Option Addr) (len2 cap2 : Nat) (zs2 : List Int) (z : Int) (w : World) (hT : Tab w) (hr0 : IsRow .u8 w p len cap zs) (hr20 : IsRow .u8 w p2 len2 cap2 zs2) (hz0 : (Lit.int .i64 z).wf = true) :
    Calls Tryd.prog 4 #[.slice p len cap, .slice p2 len2 cap2, .int .i64 z] w fun e w' => e = .returned (.bool true) ∧ Below w.heap.size w w' := by
  obtain ⟨xs, hx, hr, hlc, hcm, hnil⟩ := hr0.row
  obtain ⟨ys, hy, hr2, hlc2, hcm2, hnil2⟩ := hr20.row
  obtain ⟨hz1, hz2⟩ := bounds_i64 hz0
  have HT := Lib.hid hT
  unfold maxLen at hcm hcm2
  clear hr0 hr20 hz0 hT hnil2
  by_cases hbad : 80 < len ∨ len2 = 0 ∨ 200 < len2
  · have hways : decide (80 < (len : Int)) = true ∨ (decide (80 < (len : Int)) = false ∧ (((len2 : Int) == 0) = true ∨ (((len2 : Int) == 0) = false ∧ decide (200 < (len2 : Int)) = true))) := by
      by_cases h1 : 80 < len
      · left; simp; omega
      · right
        refine ⟨by simp; omega, ?_⟩
        by_cases h2 : len2 = 0
        · left; simp; omega
        · right; constructor <;> simp <;> omega
    clear hbad hx hr hy hr2 hnil hlc hlc2
    rcases hways with q1 | ⟨q1, q2 | ⟨q2, q3⟩⟩ <;>
      (go_enter Tryd.func4, Tryd.ntmps4
       go_wp2_with fail
       refine (lives_any w HT.out).mono ?_
       rintro e w1 ⟨rfl, hb1⟩
       have HB1 := Lib.hid hb1
       have HT1 := Lib.hid (HT.out.below hb1 HT.out.lt)
       clear hb1
       go_wp2_with fail
       refine (lives_any w1 HT1.out).mono ?_
       rintro e w2 ⟨rfl, hb2⟩
       have HB2 := Lib.hid (HB1.out.trans (hb2.mono HB1.out.size))
       clear hb2
       go_wp2_with fail
       go_ret
       exact ⟨rfl, HB2.out⟩)
  · have q1 : decide (80 < (len : Int)) = false := by simp; omega
    have q2 : ((len2 : Int) == 0) = false := by simp; omega
    have q3 : decide (200 < (len2 : Int)) = false := by simp; omega
    have hl1 : len ≤ 80 := by omega
    have hl2 : len2 ≤ 200 := by omega
    have hl3 : 1 ≤ len2 := by omega
    have HX := Lib.hid hx
    have HR := Lib.hid hr
    have HNIL := Lib.hid hnil
    have HR2 := Lib.hid hr2
    have HY := Lib.hid hy
    clear hbad hx hr hnil hr2 hy hlc hlc2
    go_enter Tryd.func4, Tryd.ntmps4
    go_wp2_with fail
    refine (lives_any w HT.out).mono ?_
    rintro e w1 ⟨rfl, hb1⟩
    have HB1 := Lib.hid hb1
    have HT1 := Lib.hid (HT.out.below hb1 HT.out.lt)
    clear hb1
    go_wp2_with fail
    refine (codes_any w1 HT1.out).mono ?_
    rintro e w2 ⟨hb2, c, rfl, hc⟩
    have HB2 := Lib.hid (HB1.out.trans (hb2.mono HB1.out.size))
    have HC := Lib.hid hc
    have HR2' := Lib.hid (HR.out.below HB2.out)
    have hconv : (convert 22 9 (.slice p len cap)).run Tryd.prog w2 = .ok (.string (bs xs)) w2 := conv_row len cap HR2'.out HX.out
    have HZ12 := Lib.hid hb2.size
    clear hb2 hc
    go_wp2_with fail
    refine (rof_any xs false w2 (by have := HX.out; omega)).mono ?_
    rintro e w3 ⟨rfl, hb3⟩
    have HB3 := Lib.hid (HB2.out.trans (hb3.mono HB2.out.size))
    have HC3 := Lib.hid (HC.out.below hb3 (Nat.le_refl _))
    have HZ23 := Lib.hid hb3.size
    have HN1 := Lib.hid (newReader_any p len cap xs false w3 (HR.out.below HB3.out) HX.out HNIL.out (by omega))
    clear hb3 hconv
    go_wp2_with fail
    refine HN1.out.mono ?_
    rintro e w4 ⟨hb4, g1, r1, c1, rfl, hg1, hr1, hq1⟩
    have HB4 := Lib.hid (HB3.out.trans (hb4.mono HB3.out.size))
    have HC4 := Lib.hid (HC3.out.below hb4 HC3.out.1)
    have HR1 := Lib.hid hr1
    have HG1 := Lib.hid hg1
    have HZ34 := Lib.hid hb4.size
    have HN2 := Lib.hid (newReader_any p len cap xs false w4 (HR.out.below HB4.out) HX.out HNIL.out (by omega))
    clear hb4 hr1 hg1 hq1
    go_wp2_with fail
    refine HN2.out.mono ?_
    rintro e w5 ⟨hb5, g2, r2, c2, rfl, hg2, hr2, hq2⟩
    have hlt1 := HR1.out.lt
    have HRS := Lib.hid (show RS w.heap.size w w1.heap.size w2.heap.size c g1 g2 r1 c1 r2 c2 xs 0 0 w5 from
      ⟨HB4.out.trans (hb5.mono HB4.out.size), HC4.out.below hb5 HC4.out.1, HR1.out.below hb5 hlt1, hr2, by have := HG1.out; have := HZ23.out; omega, by omega, fun a ha => by have := hq2 a ha; omega, by have := HG1.out; have := HB3.out.size; omega, Nat.le_trans HB4.out.size hb5.size⟩)
    have HBL := Lib.hid (bitsOf_length false xs)
    have hbl : 8 * xs.length ≤ 640 := by have := HX.out; omega
    have HBLE := Lib.hid hbl
    have HPX := Lib.hid (pixels_any p2 len2 cap2 ys w5 (HR2.out.below HRS.out.bel) HY.out (by omega))
    have HYL : Hid ((pixB ys).length = len2) := Lib.hid (by rw [pixB_length]; exact HY.out)
    clear hb5 hg2 hr2 hq2 hlt1 hbl
    generalize hBe : w1.heap.size = B at *
    generalize hCe : w2.heap.size = C at *
    clear hBe hCe HN1 HN2
    go_wp2_with fail
    refine HPX.out.mono ?_
    rintro e w' ⟨rfl, rfl⟩
    go_wp2_with fail
    obtain ⟨N, hN30, hN⟩ : ∃ N : Nat, N < 30 ∧ wrap64 ((IntKind.u64.wrap z).tmod 30) = (N : Int) := by
      have h0 : 0 ≤ IntKind.u64.wrap z := by rw [IntKind.wrap_u64]; omega
      have h1 : (IntKind.u64.wrap z).tmod 30 = (IntKind.u64.wrap z) % 30 := Int.tmod_eq_emod_of_nonneg h0
      refine ⟨((IntKind.u64.wrap z) % 30).toNat, by omega, ?_⟩
      rw [h1]
      unfold wrap64
      omega
    rw [hN]
    clear hN HPX HR2' HZ34 HZ12 HZ23 HC HC3 HC4 HR1 HG1 HB2 HB3 HB4 HT1 HB1
    obtain ⟨wd, hwd⟩ : ∃ wd, wd = len2 := ⟨_, rfl⟩
    go_loopw [12, 13, 14, 15, 16, 17, 18, 19, 20, 21, 22, 23, 58] (fun sa sto sab _ _ _ _ _ _ _ _ _ sk wr => ∃ (k a1 a2 : Nat) (Y : List Bool), k ≤ N ∧ sk = .int .i64 (k : Int) ∧ sa = .int .i64 (a1 : Int) ∧ sto = .int .i64 (a2 : Int) ∧ sab = .string (ds Y) ∧ Hid (Y.length = len2) ∧ Hid (RS w.heap.size w B C c g1 g2 r1 c1 r2 c2 xs a1 a2 wr)) (fun _ _ _ _ _ _ _ _ _ _ _ _ sk _ => N - (intOf sk).toNat)
    case atStart => exact ⟨0, 0, 0, pixB ys, by omega, rfl, rfl, rfl, rfl, HYL, HRS⟩
    case round =>
      obtain ⟨k, a1, a2, Y, hk, rfl, rfl, rfl, rfl, HYl, HS⟩ := hrel
      by_cases hlt : k < N
      · have hdk : decide ((k : Int) < (N : Int)) = true := by simp; omega
        have ha1 : a1 ≤ (bitsOf false xs).length := by rw [HBL.out]; exact HS.out.r1.2.2.1
        have ha2 : a2 ≤ (bitsOf false xs).length := by rw [HBL.out]; exact HS.out.r2.2.2.1
        have hbl : (bitsOf false xs).length ≤ 100000 := by rw [HBL.out]; have := HBLE.out; omega
        have HA2 := Lib.hid ha2
        have HBB := Lib.hid hbl
        have HRD := Lib.hid (readRow_any wr B C c g1 r1 c1 xs a1 false len2 HS.out.cd (.inr HS.out.o1) HS.out.r1 hl3 (by omega))
        have HRR := Lib.hid (fun w9 => rreadRow_any (bitsOf false xs) a1 len2 w9 ha1 hbl hl3 (by omega))
        have HL1 := Lib.hid (rowS_le fun X h => readRowA_len (L := bitsOf false xs) (n := len2) (X := X) ((bitsOf false xs).length + 1) a1 [] false (by omega) ha1 h)
        generalize readRowA (bitsOf false xs) len2 a1 [] false = ra at *
        obtain ⟨t1, x1⟩ := ra
        have HVY : Hid (Valid (changes Y) len2) := Lib.hid (by have h := Rn.changes_valid Y; rw [HYl.out] at h; exact h)
        have HLEN := Lib.hid (fun X h => readGA_len (L := bitsOf false xs) (top := changes Y) (n := len2) (X := X) hl3 HVY.out ((bitsOf false xs).length + 2) a2 0 [] false (by omega) ha2 rfl (by omega) h)
        have HERR := Lib.hid (fun e h => readGA_ne (L := bitsOf false xs) (top := changes Y) (n := len2) (e := e) ((bitsOf false xs).length + 2) a2 0 [] false (by omega) ha2 h)
        have HCY := Lib.hid (fun w9 => rchanges_new Y w9 (by have := HYl.out; omega))
        have hmy : (changes Y).length ≤ 200 := by have h1 := Rn.chg_len Y false 0; have := HYl.out; unfold changes; omega
        clear ha1 ha2 hbl
        go_wp2_with fail
        refine HRD.out.mono ?_
        rintro e w6 ⟨hr6, ho6, q6, cc6, rfl, hv6, hn6, hl6, hm6, hf6⟩
        have HS6 := Lib.hid (HS.out.first ho6 hr6)
        have HV6 := Lib.hid hv6
        simp only at HV6 HS6 ⊢
        obtain ⟨m6, hm6e⟩ : ∃ m6, m6 = (rowL x1).length := ⟨_, rfl⟩
        have HM6 := Lib.hid hm6e.symm
        rw [← hm6e]
        clear hr6 ho6 hv6 hn6 hl6 hm6 hf6 hm6e
        go_wp2_with fail
        refine (HRR.out w6).mono ?_
        rintro e w7 ⟨he7, hb7⟩
        unfold RRowP at he7
        subst he7
        have HS7 := Lib.hid (HS6.out.more hb7)
        have HV7 := Lib.hid ((HV6.out.below hb7 (Nat.le_refl _)).mono hb7.size)
        simp only at HS7 ⊢
        have hne1 : (rowE x1 != rowE x1) = false := by simp
        have HCP := Lib.hid (fun w9 h => rchanges_new (rowS x1) w9 h)
        clear hb7 HRR HRD
        go_wp2_with fail
        refine (HCP.out w7 (by have := HL1.out; (try simp only at this); omega)).mono ?_
        rintro e w8 ⟨hb8, q8, c8, rfl, hv8, _, _, _, _⟩
        rw [zl_length, chg_rowS, HM6.out]
        rw [chg_rowS] at hv8
        have HS8 := Lib.hid (HS7.out.more hb8)
        have hm6b : m6 ≤ 200 := by
          have h1 := HL1.out
          have h2 := Rn.chg_len (rowS x1) false 0
          have h3 := chg_rowS x1
          unfold changes at h3
          rw [h3, HM6.out] at h2
          try simp only at h1
          omega
        have HSA := Lib.hid (same_in q6 q8 m6 cc6 c8 (rowL x1) w8 _ _ (HV7.out.below hb8 (Nat.le_refl _)) hv8 HM6.out (by omega))
        clear hb8 hv8 HCP
        go_wp2_with fail
        refine HSA.out.mono ?_
        rintro e w9 ⟨rfl, hd9⟩
        have HS9 := Lib.hid (HS8.out.more (hd9.below _))
        have HAT := Lib.hid (at_any g1 r1 c1 xs t1 false w9 HS9.out.r1)
        clear hd9 HSA
        go_wp2_with fail
        refine HAT.out.mono ?_
        rintro e w' ⟨rfl, rfl⟩
        go_wp2_with fail
        refine (HCY.out w9).mono ?_
        rintro e w10 ⟨hb10, q10, c10, rfl, hv10, hn10, hl10, hm10, hf10⟩
        have HS10 := Lib.hid (HS9.out.more hb10)
        have hg2lt := HS9.out.r2.lt
        rw [zl_length] at hl10 ⊢
        obtain ⟨m10, hm10e⟩ : ∃ m10, m10 = (changes Y).length := ⟨_, rfl⟩
        rw [← hm10e] at hl10 hmy ⊢
        have HRA := Lib.hid (readAgainst_any w10 B C c g2 r2 c2 xs a2 false q10 m10 c10 (changes Y) len2 HS10.out.cd (.inr (by have := HS10.out.o1; have := HS10.out.o2; omega)) HS10.out.r2 hv10 hm10e.symm (by omega) hl10 (fun a ha _ => by have := hf10 a ha; omega) HVY.out hl3 (by omega))
        have HRG := Lib.hid (fun w9 => rreadAgainst_any (bitsOf false xs) Y a2 len2 w9 HA2.out HBB.out HYl.out hl3 (by omega))
        have HL2 := Lib.hid (rowS_le HLEN.out)
        generalize readGA (bitsOf false xs) (changes Y) len2 a2 0 [] false = rb at *
        obtain ⟨t2, x2⟩ := rb
        clear hb10 hv10 hn10 hl10 hm10 hf10 hm10e HAT hg2lt HCY
        go_wp2_with fail
        refine HRA.out.mono ?_
        rintro e w11 ⟨hr11, ho11, q11, cc11, rfl, hv11, hn11, hl11, hm11, hf11⟩
        have HS11 := Lib.hid (HS10.out.second ho11 hr11)
        have HV11 := Lib.hid hv11
        simp only at HV11 HS11 ⊢
        obtain ⟨m11, hm11e⟩ : ∃ m11, m11 = (rowL x2).length := ⟨_, rfl⟩
        have HM11 := Lib.hid hm11e.symm
        rw [← hm11e]
        clear hr11 ho11 hv11 hn11 hl11 hm11 hf11 hm11e
        go_wp2_with fail
        refine (HRG.out w11).mono ?_
        rintro e w12 ⟨he12, hb12⟩
        unfold RRowP at he12
        subst he12
        have HS12 := Lib.hid (HS11.out.more hb12)
        have HV12 := Lib.hid ((HV11.out.below hb12 (Nat.le_refl _)).mono hb12.size)
        simp only at HS12 ⊢
        have hne2 : (rowE x2 != rowE x2) = false := by simp
        have HCP2 := Lib.hid (fun w9 h => rchanges_new (rowS x2) w9 h)
        clear hb12 HRG HRA
        go_wp2_with fail
        refine (HCP2.out w12 (by have := HL2.out; (try simp only at this); omega)).mono ?_
        rintro e w13 ⟨hb13, q13, c13, rfl, hv13, _, _, _, _⟩
        rw [zl_length, chg_rowS, HM11.out]
        rw [chg_rowS] at hv13
        have HS13 := Lib.hid (HS12.out.more hb13)
        have hm11b : m11 ≤ 200 := by
          have h1 := HL2.out
          have h2 := Rn.chg_len (rowS x2) false 0
          have h3 := chg_rowS x2
          unfold changes at h3
          rw [h3, HM11.out] at h2
          try simp only at h1
          omega
        have HSA2 := Lib.hid (same_in q11 q13 m11 cc11 c13 (rowL x2) w13 _ _ (HV12.out.below hb13 (Nat.le_refl _)) hv13 HM11.out (by omega))
        clear hb13 hv13 HCP2
        go_wp2_with fail
        refine HSA2.out.mono ?_
        rintro e w14 ⟨rfl, hd14⟩
        have HS14 := Lib.hid (HS13.out.more (hd14.below _))
        have HAT2 := Lib.hid (at_any g2 r2 c2 xs t2 false w14 HS14.out.r2)
        clear hd14 HSA2
        go_wp2_with fail
        refine HAT2.out.mono ?_
        rintro e w' ⟨rfl, rfl⟩
        rcases x2 with ce | X
        · have hce : (((ce : Nat) : Int) == 0) = false := by
            have h := HERR.out ce rfl
            simp only [bne_iff_ne, ne_eq] at h
            simp only [beq_eq_false_iff_ne, ne_eq]
            exact h
          simp only [rowE, rowS]
          go_wp2_with fail
          go_roundw
          case rel => exact ⟨k + 1, t1, t2, Y, by omega, by go_num, rfl, rfl, rfl, HYl, HS14⟩
          case measure => simp [intOf]; omega
        · have HXl := Lib.hid (HLEN.out X rfl)
          simp only [rowE, rowS]
          go_wp2_with fail
          go_roundw
          case rel => exact ⟨k + 1, t1, t2, X, by omega, by go_num, rfl, rfl, rfl, HXl, HS14⟩
          case measure => simp [intOf]; omega
      · have hke : k = N := by omega
        subst hke
        have hdk : decide ((k : Int) < (k : Int)) = false := by simp
        go_wp2_with fail
        go_ret
        exact ⟨rfl, HS.out.bel⟩
end Go.Proofs.YtgddpjnikgcamaaDoor.Mh

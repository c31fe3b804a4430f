
/- The walk of FaxcodeReads. -/
import Derived.Test.YtplbbejdnahibaaDoorFyJ
import Derived.Deep.Slices
namespace Go.Proofs.YtplbbejdnahibaaDoor.Fx
open Go.RowKit Go.Proofs.YtplbbejdnahibaaDoor.Oct Go.Proofs.YtplbbejdnahibaaDoor.Bit Go.Proofs.YtplbbejdnahibaaDoor.Hf Go.Proofs.YtplbbejdnahibaaDoor.Inf Go.ChangeShapes Go.WideShapes Go.Deep
set_option linter.unusedVariables false
set_option linter.unusedSimpArgs false
set_option maxRecDepth 100000

/-- a slice of bools that came in -/
def IsBoo (w : World) (a : Option Addr) (len cap : Nat) : Prop :=
  len ≤ cap ∧ cap ≤ maxLen ∧ (0 < len → ∃ b off, a = some ⟨b, off, none⟩ ∧ b < w.heap.size ∧ ∀ i, i < len → ∃ x : Bool, w.cell? ⟨b, off + i, none⟩ = some (.bool x))
theorem open_boo {H : Type} {enc : TypeId × Value → H} {w : World} {spare : Nat → Bool} {held : Bool} {fuel : Nat} {a : Option Addr} {len cap : Nat} {x : DataW H × List MemPlace}
    (h : DataW.trod enc Tryd.prog w 0 spare held fuel 49 [.slice a len cap] = some x) : IsBoo w a len cap := by
  have hC : Tryd.prog.cellsOf 4 = 1 := by kernel_rfl
  rcases open_slice Tryd.underlying49 h with ⟨hcs, _⟩ | ⟨ad, l, c, m, n, D, Pl, hcs, hb, hl, hm, hmm, _, hi⟩
  · simp at hcs
    obtain ⟨rfl, rfl, rfl⟩ := hcs
    exact ⟨Nat.le_refl _, by simp [maxLen], fun h => by omega⟩
  · simp at hcs
    obtain ⟨rfl, rfl, rfl⟩ := hcs
    refine ⟨hl, hm, fun hp => ?_⟩
    have hlm : len ≤ m := by rw [hmm]; split <;> omega
    obtain ⟨b, off, spot⟩ := ad
    have key : ∀ i, i < len → ∃ x : Bool, w.cell? ((⟨b, off, spot⟩ : Addr).add i) = some (.bool x) := by
      intro i hil
      obtain ⟨cs', hc, ht⟩ := hi i (by omega)
      rw [hC, Nat.mul_one] at hc
      obtain ⟨_, hcl, hat⟩ := World.cells?_some hc
      obtain ⟨x, hx, _⟩ := DataW.trod_bool Tryd.underlying4 ht
      subst hx
      have h0 := hat 0 (by omega)
      have e : ((⟨b, off, spot⟩ : Addr).add i).add 0 = (⟨b, off, spot⟩ : Addr).add i := by cases spot <;> simp [Addr.add]
      rw [e] at h0
      exact ⟨x, h0⟩
    have hs : spot = none := by
      obtain ⟨x, hx⟩ := key 0 hp
      simpa [Addr.add] using World.cell?_spot hx
    subst hs
    have key' : ∀ i, i < len → ∃ x : Bool, w.cell? ⟨b, off + i, none⟩ = some (.bool x) := fun i hi => by
      obtain ⟨x, hx⟩ := key i hi
      rw [Oct.add_plain] at hx
      exact ⟨x, hx⟩
    obtain ⟨x, hx⟩ := key' 0 hp
    exact ⟨b, off, rfl, lt_of_cell hx, key'⟩
theorem rd_only {S : Nat → Prop} {w w' : World} {g : Nat} {p : Option Addr} {cap : Nat} {xs : List UInt8} {at_ : Nat} {low : Bool} (h : Rd w g p cap xs at_ low) (ho : Only S w w') (hg : ¬ S g) (hp : ∀ a, p = some a → a.block < g → ¬ S a.block) : Rd w' g p cap xs at_ low := by
  have hlt := h.lt
  refine ⟨(ho.2.2.2.2 g hlt hg).trans h.1, fun h0 => ?_, h.2.2⟩
  obtain ⟨b, off, e, hb, hc⟩ := h.2.1 h0
  refine ⟨b, off, e, hb, fun i hi => ?_⟩
  rw [← hc i hi]
  exact World.cell?_of_block (w := w) (ho.2.2.2.2 b (by omega) (hp _ e hb))
/-- the books and two readers of the same bytes -/
structure RS (D : Nat) (W0 : World) (B C c g1 g2 : Nat) (q1 : Option Addr) (c1 : Nat) (q2 : Option Addr) (c2 : Nat) (xs : List UInt8) (a1 a2 : Nat) (w : World) : Prop where
  bel : Below D W0 w
  cd : Cd w B C c
  r1 : Rd w g1 q1 c1 xs a1 false
  r2 : Rd w g2 q2 c2 xs a2 false
  o1 : C ≤ g1
  o2 : g1 < g2
  o3 : ∀ a, q2 = some a → g1 < a.block
  o4 : D ≤ g1
  o5 : D ≤ w.heap.size
section
variable {D : Nat} {W0 w w' : World} {B C c g1 g2 : Nat} {q1 : Option Addr} {c1 : Nat} {q2 : Option Addr} {c2 : Nat} {xs : List UInt8} {a1 a2 a : Nat}
theorem RS.more (h : RS D W0 B C c g1 g2 q1 c1 q2 c2 xs a1 a2 w) (hb : Below w.heap.size w w') : RS D W0 B C c g1 g2 q1 c1 q2 c2 xs a1 a2 w' :=
  ⟨h.bel.trans (hb.mono h.o5), h.cd.below hb h.cd.1, h.r1.below hb h.r1.lt, h.r2.below hb h.r2.lt, h.o1, h.o2, h.o3, h.o4, Nat.le_trans h.o5 hb.size⟩
theorem RS.first (h : RS D W0 B C c g1 g2 q1 c1 q2 c2 xs a1 a2 w) (ho : Only (· = g1) w w') (hr : Rd w' g1 q1 c1 xs a false) : RS D W0 B C c g1 g2 q1 c1 q2 c2 xs a a2 w' :=
  ⟨h.bel.trans (ho.below h.o5 fun k hk e => by have := h.o4; omega), h.cd.only ho fun k e => .inr (by have := h.o1; omega), hr, rd_only h.r2 ho (fun e => by have := h.o2; omega) (fun a ha _ e => by have := h.o3 a ha; omega), h.o1, h.o2, h.o3, h.o4, Nat.le_trans h.o5 ho.2.2.2.1⟩
theorem RS.second (h : RS D W0 B C c g1 g2 q1 c1 q2 c2 xs a1 a2 w) (ho : Only (· = g2) w w') (hr : Rd w' g2 q2 c2 xs a false) : RS D W0 B C c g1 g2 q1 c1 q2 c2 xs a1 a w' :=
  ⟨h.bel.trans (ho.below h.o5 fun k hk e => by have := h.o4; have := h.o2; omega), h.cd.only ho fun k e => .inr (by have := h.o1; have := h.o2; omega), rd_only h.r1 ho (fun e => by have := h.o2; omega) (fun a ha hlt e => by have := h.o2; omega), hr, h.o1, h.o2, h.o3, h.o4, Nat.le_trans h.o5 ho.2.2.2.1⟩
end
set_option maxHeartbeats 8000000 in
theorem reads_walk (p : Option Addr) (len cap : Nat) (zs : List Int) (p2 : Option Addr) (len2 cap2 : Nat) (most : Int) (w : World) (hT : Tab w) (hr0 : IsRow .u8 w p len cap zs) (hbo : IsBoo w p2 len2 cap2) (hm0 : (Lit.int .i64 most).wf = true) :
    Calls Tryd.prog 5 #[.slice p len cap, .slice p2 len2 cap2, .int .i64 most] w fun e w' => e = .returned (.bool true) ∧ Below w.heap.size w w' := by
  obtain ⟨xs, hx, hr, hlc, hcm, hnil⟩ := hr0.row
  obtain ⟨hm1, hm2⟩ := bounds_i64 hm0
  have HT := Lib.hid hT
  have HBO := Lib.hid hbo
  have HX := Lib.hid hx
  have HR := Lib.hid hr
  have HNIL := Lib.hid hnil
  unfold maxLen at hcm
  clear hr0 hm0 hT hbo hx hr hnil
  by_cases hbig : 60 < len ∨ 60 < len2
  · have hd : decide (60 < (len : Int)) = true ∨ (decide (60 < (len : Int)) = false ∧ decide (60 < (len2 : Int)) = true) := by
      simp only [decide_eq_true_eq, decide_eq_false_iff_not]
      omega
    clear hbig
    rcases hd with hd | ⟨hd, hd2⟩ <;>
      (go_enter Tryd.func5, Tryd.ntmps5
       go_wp2_with fail
       refine (lives_any w HT.out).mono ?_
       rintro e w1 ⟨rfl, hb1⟩
       have HB1 := Lib.hid hb1
       have HT1 := Lib.hid (HT.out.below hb1 HT.out.lt)
       clear hb1
       go_wp2_with fail
       refine (lives_any w1 HT1.out).mono ?_
       rintro e w2 ⟨rfl, hb2⟩
       have HB2 := Lib.hid (HB1.out.trans (hb2.mono HB1.out.size))
       clear hb2
       go_wp2_with fail
       go_ret
       exact ⟨rfl, HB2.out⟩)
  · have hd : decide (60 < (len : Int)) = false := by simp; omega
    have hd2 : decide (60 < (len2 : Int)) = false := by simp; omega
    have hl1 : len ≤ 60 := by omega
    have hl2 : len2 ≤ 60 := by omega
    clear hbig
    go_enter Tryd.func5, Tryd.ntmps5
    go_wp2_with fail
    refine (lives_any w HT.out).mono ?_
    rintro e w1 ⟨rfl, hb1⟩
    have HB1 := Lib.hid hb1
    have HT1 := Lib.hid (HT.out.below hb1 HT.out.lt)
    clear hb1
    go_wp2_with fail
    refine (codes_any w1 HT1.out).mono ?_
    rintro e w2 ⟨hb2, c, rfl, hc⟩
    have HB2 := Lib.hid (HB1.out.trans (hb2.mono HB1.out.size))
    have HC := Lib.hid hc
    have HR2 := Lib.hid (HR.out.below HB2.out)
    have hconv : (convert 44 9 (.slice p len cap)).run Tryd.prog w2 = .ok (.string (bs xs)) w2 := conv_row len cap HR2.out HX.out
    have HZ12 := Lib.hid hb2.size
    clear hb2 hc
    go_wp2_with fail
    refine (rof_any xs false w2 (by have := HX.out; omega)).mono ?_
    rintro e w3 ⟨rfl, hb3⟩
    have HB3 := Lib.hid (HB2.out.trans (hb3.mono HB2.out.size))
    have HC3 := Lib.hid (HC.out.below hb3 (Nat.le_refl _))
    have HZ23 := Lib.hid hb3.size
    have HN1 := Lib.hid (newReader_any p len cap xs false w3 (HR.out.below HB3.out) HX.out HNIL.out (by omega))
    clear hb3 hconv
    go_wp2_with fail
    refine HN1.out.mono ?_
    rintro e w4 ⟨hb4, g1, q1, c1, rfl, hg1, hr1, hq1⟩
    have HB4 := Lib.hid (HB3.out.trans (hb4.mono HB3.out.size))
    have HC4 := Lib.hid (HC3.out.below hb4 HC3.out.1)
    have HR1 := Lib.hid hr1
    have HG1 := Lib.hid hg1
    have HZ34 := Lib.hid hb4.size
    have HN2 := Lib.hid (newReader_any p len cap xs false w4 (HR.out.below HB4.out) HX.out HNIL.out (by omega))
    clear hb4 hr1 hg1 hq1
    go_wp2_with fail
    refine HN2.out.mono ?_
    rintro e w5 ⟨hb5, g2, q2, c2, rfl, hg2, hr2, hq2⟩
    have hlt1 := HR1.out.lt
    have HRS := Lib.hid (show RS w.heap.size w w1.heap.size w2.heap.size c g1 g2 q1 c1 q2 c2 xs 0 0 w5 from
      ⟨HB4.out.trans (hb5.mono HB4.out.size), HC4.out.below hb5 HC4.out.1, HR1.out.below hb5 hlt1, hr2, by have := HG1.out; have := HZ23.out; omega, by omega, fun a ha => by have := hq2 a ha; omega, by have := HG1.out; have := HB3.out.size; omega, Nat.le_trans HB4.out.size hb5.size⟩)
    have HBL := Lib.hid (bitsOf_length false xs)
    have hbl : 8 * xs.length ≤ 480 := by have := HX.out; omega
    have HBLE := Lib.hid hbl
    clear hb5 hg2 hr2 hq2 hlt1 hbl
    generalize hBe : w1.heap.size = B at *
    generalize hCe : w2.heap.size = C at *
    clear hBe hCe HN1 HN2
    go_wp2_with fail
    go_loopw [11, 12, 48] (fun s t i wr => ∃ (k a1 a2 : Nat), k ≤ len2 ∧ s = .int .i64 (a1 : Int) ∧ t = .int .i64 (a2 : Int) ∧ i = .int .i64 (k : Int) ∧ Hid (RS w.heap.size w B C c g1 g2 q1 c1 q2 c2 xs a1 a2 wr)) (fun _ _ i _ => len2 - (intOf i).toNat)
    case atStart => exact ⟨0, 0, 0, by omega, rfl, rfl, rfl, HRS⟩
    case round =>
      obtain ⟨k, a1, a2, hk, rfl, rfl, rfl, HS⟩ := hrel
      have ha1 : a1 ≤ (bitsOf false xs).length := by rw [HBL.out]; exact HS.out.r1.2.2.1
      have ha2 : a2 ≤ (bitsOf false xs).length := by rw [HBL.out]; exact HS.out.r2.2.2.1
      have hbl : (bitsOf false xs).length ≤ 100000 := by rw [HBL.out]; have := HBLE.out; omega
      by_cases hlt : k < len2
      · have hdk : decide ((k : Int) < (len2 : Int)) = true := by simp; omega
        obtain ⟨bb, off, rfl, hbb, hcell⟩ := HBO.out.2.2 (by omega)
        obtain ⟨x, hcx⟩ := hcell k hlt
        have hc := (HS.out.bel.cell (p := ⟨bb, off + k, none⟩) hbb).trans hcx
        have i1 : (0 : Int) ≤ (k : Int) := by omega
        have i2 : (k : Int) < (len2 : Int) := by omega
        have HRD := Lib.hid (cread_any wr B C c g1 q1 c1 xs a1 false most x HS.out.cd (.inr HS.out.o1) HS.out.r1 hm1 hm2)
        have HA1 := Lib.hid ha1
        have HA2 := Lib.hid ha2
        have HBB := Lib.hid hbl
        obtain ⟨r, hr⟩ : ∃ r, r = lenZ x (bitsOf false xs) most a1 0 := ⟨_, rfl⟩
        obtain ⟨m, hm⟩ : ∃ m, m = modeZ (bitsOf false xs) a2 := ⟨_, rfl⟩
        rw [← hr] at HRD
        have HR0 := Lib.hid hr
        have HM0 := Lib.hid hm
        clear hcell hcx ha1 ha2 hbl hr hm hbb
        go_wp2_with fail
        refine HRD.out.mono ?_
        rintro e w6 ⟨rfl, hr6, ho6, hz6⟩
        have HS6 := Lib.hid (HS.out.first ho6 hr6)
        clear hr6 ho6 hz6
        go_wp2_with fail
        refine (rwords_any x w6).mono ?_
        rintro e w7 ⟨hb7, q7, c7, rfl, hv7⟩
        have HS7 := Lib.hid (HS6.out.more hb7)
        rw [strs_length, wordsU_length, wordsF_length]
        have HRR := Lib.hid (rread_all q7 c7 x (bitsOf false xs) a1 most w7 hv7.1 HA1.out HBB.out)
        rw [← HR0.out] at HRR
        clear hb7 hv7
        go_wp2_with fail
        refine HRR.out.mono ?_
        rintro e w8 ⟨rfl, rfl⟩
        have HRM := Lib.hid (creadm_any w7 B C c g2 q2 c2 xs a2 false HS7.out.cd (.inr (by have := HS7.out.o1; have := HS7.out.o2; omega)) HS7.out.r2)
        rw [← HM0.out] at HRM
        go_wp2_with fail
        refine HRM.out.mono ?_
        rintro e w9 ⟨rfl, hr9, ho9, hz9⟩
        have HS9 := Lib.hid (HS7.out.second ho9 hr9)
        clear hr9 ho9 hz9
        have HRRM := Lib.hid (rreadm_all (bitsOf false xs) a2 w9 HA2.out HBB.out)
        rw [← HM0.out] at HRRM
        go_wp2_with fail
        refine HRRM.out.mono ?_
        rintro e w10 ⟨rfl, hb10⟩
        have HS10 := Lib.hid (HS9.out.more hb10)
        have HT1 := Lib.hid (at_any g1 q1 c1 xs r.1 false w10 HS10.out.r1)
        have HT2 := Lib.hid (at_any g2 q2 c2 xs m.1 false w10 HS10.out.r2)
        generalize valR 0 r.2 = v1 at *
        generalize errR r.2 = e1 at *
        generalize valR 3 m.2 = v2 at *
        generalize errR m.2 = e2 at *
        have n1 : (v1 != v1) = false := by simp
        have n2 : (e1 != e1) = false := by simp
        have n3 : (v2 != v2) = false := by simp
        have n4 : (e2 != e2) = false := by simp
        clear hb10
        go_wp2_with fail
        refine HT1.out.mono ?_
        rintro e w11 ⟨rfl, rfl⟩
        go_wp2_with fail
        refine HT2.out.mono ?_
        rintro e w12 ⟨rfl, rfl⟩
        go_wp2_with fail
        go_roundw
        case rel => exact ⟨k + 1, r.1, m.1, by omega, rfl, rfl, by go_num, HS10⟩
        case measure => simp [intOf]; omega
      · have hke : k = len2 := by omega
        subst hke
        have hdk : decide ((k : Int) < (k : Int)) = false := by simp
        clear hlt ha1 ha2 hbl
        go_wp2_with fail
        go_ret
        exact ⟨rfl, HS.out.bel⟩
end Go.Proofs.YtplbbejdnahibaaDoor.Fx


/- Contracts of package samples: Pack and what it stands on. -/
import Derived.Test.YtkeplmnohenbnaaSaA
namespace Go.Proofs.Ytkeplmnohenbnaa.Sa
open Go.RowKit Go.Proofs.Ytkeplmnohenbnaa.Oct Go.Proofs.Ytkeplmnohenbnaa.Bit
open Go.Proofs.Ytkeplmnohenbnaa.Lp (VRow vrow_blk vrow_own wpList_append_vals blk_set blk_far blk_frozen fillV fillV_length fillV_zero fillV_all fillV_step)
set_option linter.unusedVariables false
set_option linter.unusedSimpArgs false
set_option maxRecDepth 100000

theorem whole_any (k : Nat) (w : World) : Calls Try.prog 16 #[.int .i64 (k : Int)] w fun e w' => e = .returned (.bool (whole k)) ∧ w = w' := by
  by_cases h1 : k = 16
  · subst h1
    go_enter Try.func16, Try.ntmps16
    go_wp2_with fail
    go_ret
    exact ⟨rfl, rfl⟩
  · have d1 : ((k : Int) == 16) = false := by simp; omega
    by_cases h2 : k = 32
    · subst h2
      clear d1 h1
      go_enter Try.func16, Try.ntmps16
      go_wp2_with fail
      go_ret
      exact ⟨rfl, rfl⟩
    · have d2 : ((k : Int) == 32) = false := by simp; omega
      have e : whole k = false := by simp [whole, h1, h2]
      rw [e]
      clear h1 h2 e
      go_enter Try.func16, Try.ntmps16
      go_wp2_with fail
      go_ret
      exact ⟨rfl, rfl⟩
/-- do all fit into so many bits? -/
def fitA (k : Nat) (ns : List Nat) : Bool := ns.all fun v => decide (v < 2 ^ k)
theorem fitA_iff {k : Nat} {ns : List Nat} : fitA k ns = true ↔ ∀ v ∈ ns, v < 2 ^ k := by simp [fitA]
theorem fitA_snoc (k : Nat) (ns : List Nat) (i : Nat) (h : i < ns.length) (ha : fitA k (ns.take i) = true) (hv : ns[i] < 2 ^ k) : fitA k (ns.take (i + 1)) = true := by
  rw [List.take_succ_eq_append_getElem h]
  unfold fitA at ha ⊢
  rw [List.all_append, ha]
  simpa using hv
theorem fitA_not (k : Nat) (ns : List Nat) (i : Nat) (h : i < ns.length) (hv : ¬ ns[i] < 2 ^ k) : fitA k ns = false := by
  rw [Bool.eq_false_iff]
  intro e
  exact hv (fitA_iff.1 e _ (List.getElem_mem h))
def overE (k : Nat) (ns : List Nat) : Int := if fitA k ns then 0 else 7
theorem overE_ok {k : Nat} {ns : List Nat} (h : fitA k ns = true) : overE k ns = 0 := if_pos h
theorem overE_no {k : Nat} {ns : List Nat} (h : fitA k ns = false) : overE k ns = 7 := if_neg (by rw [h]; simp)
/-- bytes that are new, or an error -/
def PkP (w : World) (X : List UInt8) (er : Int) (e : Ending) (w' : World) : Prop :=
  Below w.heap.size w w' ∧ ((er = 0 ∧ ∃ q cap, e = .returned (.tuple #[.slice q X.length cap, .int .i64 0]) ∧ Row w' q X ∧ X.length ≤ cap ∧ cap ≤ maxLen ∧ (q = none → cap = 0) ∧ ∀ a, q = some a → w.heap.size ≤ a.block) ∨
    (er ≠ 0 ∧ e = .returned (.tuple #[.slice none 0 0, .int .i64 er])))
def putsL (m : Nat) (big : Bool) (ns : List Nat) : List UInt8 := ns.flatMap fun v => putL v m big
theorem putsL_length (m : Nat) (big : Bool) : ∀ ns : List Nat, (putsL m big ns).length = m * ns.length
  | [] => rfl
  | v :: ns => by
    have := putsL_length m big ns
    unfold putsL at this ⊢
    rw [List.flatMap_cons, List.length_append, putL_length, this, List.length_cons, Nat.mul_succ]
    omega
theorem putsL_snoc (m : Nat) (big : Bool) (ns : List Nat) (i : Nat) (h : i < ns.length) : putsL m big (ns.take (i + 1)) = putsL m big (ns.take i) ++ putL ns[i] m big := by
  unfold putsL
  rw [List.take_succ_eq_append_getElem h, List.flatMap_append]
  simp
def PutS (w : World) (ns : List Nat) (m : Nat) (big : Bool) (k : Nat) (v : Value) (wr : World) : Prop :=
  Below w.heap.size w wr ∧ wr.ownsRow w.heap.size 5 1 v (m * k) (cellsOf (putsL m big (ns.take k))) ∧ fitA (8 * m) (ns.take k) = true
theorem own_base {w : World} {base n e : Nat} {q : Option Addr} {m c : Nat} {vs : List Value} (h : w.ownsRow base e 1 (.slice q m c) n vs) : ∀ a, q = some a → base ≤ a.block := by
  intro a ha
  rcases h.2 with ⟨hv, _⟩ | ⟨g, cap, cur, hv, hb, _⟩
  · injection hv with h1
    rw [h1] at ha
    cases ha
  · injection hv with h1
    rw [h1] at ha
    injection ha with ha
    subst ha
    exact hb
set_option maxHeartbeats 1000000 in
theorem putInts_any (p : Option Addr) (len cap m : Nat) (big : Bool) (ns : List Nat) (w : World) (hr : VRow w w.heap.size p (u32s ns)) (hx : ns.length = len) (hl : len ≤ 100000) (hb : ∀ n ∈ ns, n < 4294967296) (hm : m = 2 ∨ m = 4) :
    Calls Try.prog 17 #[.slice p len cap, .int .i64 (m : Int), .bool big] w (PkP w (putsL m big ns) (overE (8 * m) ns)) := by
  obtain ⟨i0, hi, hz0, hz1, hz2⟩ := info_parts Try.infoByte
  have HX := Lib.hid hx
  have HR := Lib.hid hr
  have HB := Lib.hid hb
  have HM := Lib.hid hm
  have hm4 : m ≤ 4 := by omega
  have hm1 : 1 ≤ m := by omega
  have hprod : len * m ≤ 400000 := Nat.le_trans (Nat.mul_le_mul_left len hm4) (by omega)
  obtain ⟨c, hc⟩ : ∃ c, c = len * m := ⟨_, rfl⟩
  have hcm : IntKind.i64.wrap ((len : Int) * (m : Int)) = (c : Int) := by rw [hc, IntKind.wrap_i64]; push_cast; have : ((len * m : Nat) : Int) ≤ 400000 := by omega
                                                                          push_cast at this; have h0 : (0 : Int) ≤ (len : Int) * (m : Int) := Int.mul_nonneg (by omega) (by omega); omega
  have hcm2 : wrap64 ((len : Int) * (m : Int)) = (c : Int) := by
    rw [← hcm, IntKind.wrap_i64]
    unfold wrap64
    omega
  have hc4 : c ≤ 400000 := by omega
  have HC := Lib.hid hc
  clear hx hr hb hm hprod hc
  go_enter Try.func17, Try.ntmps17
  go_wp2_with (at_make; refine wpList_make_own _ rfl _ _ 24 rfl w.heap.size 5 i0 (.int .u8 0) 1 Try.underlying24 hi hz0 hz1 .i64 .i64 (c : Int) c rfl rfl rfl ?c2 ?c3 ?c4 ?_)
  case c2 => rw [hz2]; omega
  case c3 => unfold maxLen; omega
  case c4 => omega
  intro w1 hown hgrow
  have hb1 : Below w.heap.size w w1 := (Below.refl _ _).grown hgrow (Nat.le_refl _) (fun k hk => by cases hk)
  have HST : Hid (PutS w ns m big 0 (.slice (some ⟨w.heap.size, 0, none⟩) 0 c) w1) := Lib.hid ⟨hb1, hown, rfl⟩
  clear hown hgrow hb1 hcm hcm2 hz0 hz1 hz2 hi
  go_wp2_with fail
  go_loopw [8, 10, 11, 12, 20] (fun pk v b er i wr => ∃ k : Nat, k ≤ len ∧ i = .int .i64 (k : Int) ∧ Hid (PutS w ns m big k pk wr)) (fun pk v b er i _ => len - (intOf i).toNat)
  case atStart => exact ⟨0, by omega, rfl, HST⟩
  case round =>
    clear HST
    obtain ⟨k, hk, rfl, HS⟩ := hrel
    by_cases hlt : k < len
    · have hkl : k < ns.length := by rw [HX.out]; exact hlt
      have HRw := Lib.hid (HR.out.below HS.out.1 (Nat.le_refl _))
      obtain ⟨b, off, hq, hbl, hcell⟩ := vrow_u32 HRw.out k hkl
      subst hq
      have hv32 : ns[k] < 4294967296 := HB.out _ (List.getElem_mem hkl)
      have HSN := Lib.hid (putsL_snoc m big ns k hkl)
      have HFS := Lib.hid (fitA_snoc (8 * m) ns k hkl)
      have HFN := Lib.hid (fitA_not (8 * m) ns k hkl)
      generalize ns[k] = n at hcell hv32 HSN HFS HFN
      have ql : decide ((k : Int) < (len : Int)) = true := by simpa using hlt
      have i1 : (0 : Int) ≤ (k : Int) := by omega
      have i2 : (k : Int) < (len : Int) := by omega
      have hwu : IntKind.u64.wrap (n : Int) = (n : Int) := by rw [IntKind.wrap_u64]; omega
      have HPT := Lib.hid (put_any (n : Int) (m : Int) big wr (by omega) (by omega))
      have hms : sizeB (m : Int) = true := by rcases HM.out with rfl | rfl <;> rfl
      have HMS := Lib.hid hms
      clear hbl hkl hms
      go_wp2_with fail
      refine HPT.out.mono ?_
      rintro e w2 ⟨hb2, hres⟩
      by_cases hf : n < 2 ^ (8 * m)
      · have hfb : fitsB (n : Int) (m : Int).toNat = true := by
          unfold fitsB
          have : 2 ^ (8 * m) = 256 ^ m := by rw [Nat.pow_mul]
          rw [this] at hf
          have h2 : ((n : Nat) : Int) < ((256 ^ m : Nat) : Int) := by omega
          simp only [Int.toNat_natCast]
          push_cast at h2
          simpa using h2
        have e1 : putV (n : Int) (m : Int) big = putL n m big := by unfold putV; rw [HMS.out, hfb]; simp
        have e2 : putE (n : Int) (m : Int) = 0 := by unfold putE; rw [HMS.out, hfb]; simp
        rw [e1, e2, putL_length] at hres
        obtain ⟨_, rfl, hblk⟩ | ⟨h0, _⟩ := hres
        · have hbw := hb2
          have HO := Lib.hid (own_below HS.out.2.1 hb2)
          have HBW := Lib.hid (HS.out.1.trans (hb2.mono HS.out.1.size))
          have HBZ := Lib.hid HBW.out.size
          have HNR := Lib.hid hblk.row
          have HF := Lib.hid (HFS.out HS.out.2.2 hf)
          have hmk : m * k ≤ 400000 := by
            have := Nat.mul_le_mul hm4 hk
            omega
          have HPL : Hid ((putL n m big).length = m) := Lib.hid (putL_length n m big)
          clear hblk hb2 hbw hfb e1 e2 hf HS HRw hcell HPT
          go_wp2_with (at_builtin; refine wpList_append_bytes rfl _ _ rfl w.heap.size _ (m * k) _ rfl HO.out (some ⟨wr.heap.size, 0, none⟩) m m _ rfl HNR.out HPL.out (fun h => by cases h) (by omega) HBZ.out ?_)
          intro v3 w3 hown3 hgrow3 _
          have HB3 := Lib.hid (HBW.out.trans (grown_below HO.out hgrow3 HBZ.out))
          rw [← HSN.out, ← Nat.mul_succ] at hown3
          have HN : Hid (PutS w ns m big (k + 1) v3 w3) := Lib.hid ⟨HB3.out, hown3, HF.out⟩
          clear hown3 hgrow3 HB3 HO HBW HBZ HNR HF hmk HPL HSN HFS HFN
          go_wp2_with fail
          go_roundw
          case rel => exact ⟨k + 1, by omega, by go_num, HN⟩
          case measure => simp [intOf]; omega
        · exact absurd rfl h0
      · have hfb : fitsB (n : Int) (m : Int).toNat = false := by
          unfold fitsB
          have : 2 ^ (8 * m) = 256 ^ m := by rw [Nat.pow_mul]
          rw [this] at hf
          have h2 : ¬ ((n : Nat) : Int) < ((256 ^ m : Nat) : Int) := by omega
          simp only [Int.toNat_natCast]
          push_cast at h2
          simpa using h2
        have e2 : putE (n : Int) (m : Int) = 7 := by unfold putE; rw [HMS.out, hfb]; simp
        rw [e2] at hres
        obtain ⟨h0, _⟩ | ⟨_, _, rfl⟩ := hres
        · cases h0
        · have hff := HFN.out hf
          have HOE := Lib.hid (overE_no hff)
          have HBW := Lib.hid (HS.out.1.trans (hb2.mono HS.out.1.size))
          clear hb2 hfb e2 hf HS HRw hcell HPT hff
          go_wp2_with fail
          go_ret2
          exact ⟨HBW.out, .inr ⟨by rw [HOE.out]; decide, by rw [HOE.out]; rfl⟩⟩
    · have : k = len := by omega
      subst this
      have hS := HS.out
      unfold PutS at hS
      rw [← HX.out, List.take_length] at hS
      obtain ⟨hb2, hown, hfa⟩ := hS
      have HOE := Lib.hid (overE_ok hfa)
      obtain ⟨q, c2, hv, hq0, hq1, hq2, hrow⟩ := own_shape hown (putsL_length m big ns)
      subst hv
      have hqb := own_base hown
      have HB2 := Lib.hid hb2
      have HQ0 := Lib.hid hq0
      have HQ1 := Lib.hid hq1
      have HQ2 := Lib.hid hq2
      have HRO := Lib.hid hrow
      have HQB := Lib.hid hqb
      have ql : decide ((k : Int) < (k : Int)) = false := by simp
      clear hb2 hown hfa hq0 hq1 hq2 hrow hqb HS HR HB hlt hk
      go_wp2_with fail
      go_ret2
      exact ⟨HB2.out, .inl ⟨HOE.out, q, c2, by rw [putsL_length]; rfl, HRO.out, by rw [putsL_length]; exact HQ1.out, HQ2.out, HQ0.out, HQB.out⟩⟩
end Go.Proofs.Ytkeplmnohenbnaa.Sa

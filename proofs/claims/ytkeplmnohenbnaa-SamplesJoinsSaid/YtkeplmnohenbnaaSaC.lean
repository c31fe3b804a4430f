
/- Contracts of package samples: groups of bits written, Pack. -/
import Derived.Test.YtkeplmnohenbnaaSaB
namespace Go.Proofs.Ytkeplmnohenbnaa.Sa
open Go.RowKit Go.Proofs.Ytkeplmnohenbnaa.Oct Go.Proofs.Ytkeplmnohenbnaa.Bit
open Go.Proofs.Ytkeplmnohenbnaa.Lp (VRow vrow_blk vrow_own wpList_append_vals blk_set blk_far blk_frozen fillV fillV_length fillV_zero fillV_all fillV_step)
set_option linter.unusedVariables false
set_option linter.unusedSimpArgs false
set_option maxRecDepth 100000

def WgS (w w1 : World) (ns : List Nat) (wd k : Nat) (wr : World) : Prop :=
  Below w.heap.size w w1 ∧ w.heap.size < w1.heap.size ∧ WsT w1 w.heap.size (.slice none 0 0) ((ns.take k).flatMap fun v => word v wd) false wr ∧ fitA wd (ns.take k) = true
theorem WgS.below {w w1 wr : World} {ns : List Nat} {wd k : Nat} (h : WgS w w1 ns wd k wr) : Below w.heap.size w wr := by
  obtain ⟨v, _, ho, _⟩ := h.2.2.1
  exact h.1.trans (ho.below h.1.size (fun j hj hm => by
    rcases hm with rfl | hm
    · omega
    · cases hm))
theorem words_len (wd : Nat) : ∀ ns : List Nat, (ns.flatMap fun v => word v wd).length = wd * ns.length
  | [] => rfl
  | v :: ns => by rw [List.flatMap_cons, List.length_append, word_length, words_len wd ns, List.length_cons, Nat.mul_succ]; omega
theorem words_snoc (wd : Nat) (ns : List Nat) (i : Nat) (h : i < ns.length) : ((ns.take (i + 1)).flatMap fun v => word v wd) = ((ns.take i).flatMap fun v => word v wd) ++ word ns[i] wd := by
  rw [List.take_succ_eq_append_getElem h, List.flatMap_append]
  simp
set_option maxHeartbeats 1000000 in
theorem writeG_any (p : Option Addr) (len cap wd : Nat) (ns : List Nat) (w : World) (hr : VRow w w.heap.size p (u32s ns)) (hx : ns.length = len) (hl : len ≤ 60000) (hb : ∀ n ∈ ns, n < 4294967296) (h1 : 1 ≤ wd) (h32 : wd ≤ 32) :
    Calls Try.prog 18 #[.slice p len cap, .int .i64 (wd : Int)] w (PkP w (packB false (ns.flatMap fun v => word v wd)) (overE wd ns)) := by
  have HX := Lib.hid hx
  have HR := Lib.hid hr
  have HB := Lib.hid hb
  clear hx hr hb
  go_enter Try.func18, Try.ntmps18
  go_wp2_with fail
  refine (newWriter_any false w).mono ?_
  rintro e w1 ⟨hb1, rfl, hw1⟩
  have hz1 : w.heap.size < w1.heap.size := Wr.lt hw1
  have HST : Hid (WgS w w1 ns wd 0 w1) := Lib.hid ⟨hb1, hz1, WrT.refl hw1, rfl⟩
  clear hb1 hw1 hz1
  generalize hG : w.heap.size = G
  have HG := Lib.hid hG
  clear hG
  go_wp2_with fail
  go_loopw [8, 9, 13] (fun v er i wr => ∃ k : Nat, k ≤ len ∧ i = .int .i64 (k : Int) ∧ Hid (WgS w w1 ns wd k wr)) (fun v er i _ => len - (intOf i).toNat)
  case atStart => exact ⟨0, by omega, rfl, HST⟩
  case round =>
    clear HST
    obtain ⟨k, hk, rfl, HS⟩ := hrel
    by_cases hlt : k < len
    · have hkl : k < ns.length := by rw [HX.out]; exact hlt
      have HRw := Lib.hid (HR.out.below HS.out.below (Nat.le_refl _))
      obtain ⟨b, off, hq, hbl, hcell⟩ := vrow_u32 HRw.out k hkl
      subst hq
      have hv32 : ns[k] < 4294967296 := HB.out _ (List.getElem_mem hkl)
      have HSN := Lib.hid (words_snoc wd ns k hkl)
      have HFS := Lib.hid (fitA_snoc wd ns k hkl)
      have HFN := Lib.hid (fitA_not wd ns k hkl)
      generalize ns[k] = n at hcell hv32 HSN HFS HFN
      have ql : decide ((k : Int) < (len : Int)) = true := by simpa using hlt
      have i1 : (0 : Int) ≤ (k : Int) := by omega
      have i2 : (k : Int) < (len : Int) := by omega
      obtain ⟨v, hwr, ho, hd⟩ := HS.out.2.2.1
      have hlen : ((ns.take k).flatMap fun v => word v wd).length ≤ 2000000 := by
        rw [words_len, List.length_take]
        have := Nat.mul_le_mul h32 (show min k ns.length ≤ 60000 by omega)
        omega
      have hwt := write_any wr w.heap.size v _ false n (wd : Int) hv32 hlen hwr
      rw [HG.out] at hwt
      have HWT := Lib.hid hwt
      have HO := Lib.hid ho
      have HD := Lib.hid hd
      clear hbl hkl hwr ho hd hlen hwt
      go_wp2_with fail
      refine HWT.out.mono ?_
      rintro e w2 ⟨rfl, hw2⟩
      have hcb : cntB (wd : Int) = true := by unfold cntB; simp; omega
      by_cases hf : n < 2 ^ wd
      · have hok : okW n (wd : Int) = true := by unfold okW; rw [hcb]; simpa using hf
        have e1 : wrE n (wd : Int) = 0 := by unfold wrE; rw [hcb, hok]; rfl
        have e2 : wrL false ((ns.take k).flatMap fun v => word v wd) n (wd : Int) = ((ns.take (k + 1)).flatMap fun v => word v wd) := by unfold wrL; rw [hok, HSN.out]; rfl
        rw [e2, ← HG.out] at hw2
        rw [e1]
        have HN : Hid (WgS w w1 ns wd (k + 1) w2) := Lib.hid ⟨HS.out.1, HS.out.2.1, WrT.more HO.out HD.out hw2, HFS.out HS.out.2.2.2 hf⟩
        clear hok e1 e2 hw2 hf hcb HS HRw hcell HWT HO HD HSN HFS HFN
        go_wp2_with fail
        go_roundw
        case rel => exact ⟨k + 1, by omega, by go_num, HN⟩
        case measure => simp [intOf]; omega
      · have hok : okW n (wd : Int) = false := by unfold okW; rw [hcb]; simpa using hf
        have e1 : wrE n (wd : Int) = 7 := by unfold wrE; rw [hcb, hok]; rfl
        rw [e1]
        have HOE := Lib.hid (overE_no (HFN.out hf))
        have HN : Hid (Below w.heap.size w w2) := Lib.hid (by
          have hb := HS.out.1
          have hz := HS.out.2.1
          obtain ⟨v2, _, ho2, _⟩ := hw2
          rw [← HG.out] at ho2
          have hb2 := ho2.below (B := w.heap.size) HS.out.below.size (fun j hj hm => by
            rcases hm with rfl | hm
            · omega
            · rcases HD.out j hm with h | h
              · cases h
              · omega)
          exact HS.out.below.trans hb2)
        clear hok e1 hw2 hf hcb HS HRw hcell HWT HO HD HSN HFS HFN
        go_wp2_with fail
        go_ret2
        exact ⟨HN.out, .inr ⟨by rw [HOE.out]; decide, by rw [HOE.out]; rfl⟩⟩
    · have : k = len := by omega
      subst this
      have hS := HS.out
      have hbel := hS.below
      unfold WgS at hS
      rw [← HX.out, List.take_length] at hS
      obtain ⟨_, _, ⟨v, hwr, ho, hd⟩, hfa⟩ := hS
      have hlen : (ns.flatMap fun v => word v wd).length ≤ 2000000 := by
        rw [words_len, HX.out]
        have := Nat.mul_le_mul h32 hl
        omega
      have hby := bytes_any wr w.heap.size v _ false hwr hlen
      rw [HG.out] at hby
      have HOE := Lib.hid (overE_ok hfa)
      have HBY := Lib.hid hby
      have HBL := Lib.hid hbel
      have ql : decide ((k : Int) < (k : Int)) = false := by simp
      clear hbel hwr ho hd hfa hlen hby HS HR HB hlt hk
      go_wp2_with fail
      refine HBY.out.mono ?_
      rintro e w2 ⟨hb2, q, c2, rfl, hrow, hq1, hq2, hq0, hqb⟩
      have HB2 := Lib.hid (HBL.out.trans (hb2.mono HBL.out.size))
      have HRO := Lib.hid hrow
      have HQ0 := Lib.hid hq0
      have HQ1 := Lib.hid hq1
      have HQ2 := Lib.hid hq2
      have HQB := Lib.hid (show ∀ a, q = some a → w.heap.size ≤ a.block from fun a ha => Nat.le_trans HBL.out.size (hqb a ha))
      clear hb2 hrow hq0 hq1 hq2 hqb
      go_wp2_with fail
      go_ret2
      exact ⟨HB2.out, .inl ⟨HOE.out, q, c2, rfl, HRO.out, HQ1.out, HQ2.out, HQ0.out, HQB.out⟩⟩
/-- Pack: what it tells, and its error -/
def packE (wide : Int) (ns : List Nat) : Int := if okS ns.length wide then overE wide.toNat ns else 1
theorem packE_bad {wide : Int} {ns : List Nat} (h : okS ns.length wide = false) : packE wide ns = 1 := if_neg (by rw [h]; simp)
theorem packE_ok {wide : Int} {ns : List Nat} (h : okS ns.length wide = true) : packE wide ns = overE wide.toNat ns := if_pos h
theorem packS_words {k : Nat} (h : whole k = false) (big : Bool) (ns : List Nat) : packS k big ns = packB false (ns.flatMap fun v => word v k) := by
  unfold packS tellsS tellS
  simp [h]
theorem pack_any (p : Option Addr) (len cap : Nat) (wide : Int) (big : Bool) (ns : List Nat) (w : World) (hr : VRow w w.heap.size p (u32s ns)) (hx : ns.length = len) (hl : len ≤ 60000) (hb : ∀ n ∈ ns, n < 4294967296) :
    Calls Try.prog 8 #[.slice p len cap, .int .i64 wide, .bool big] w (PkP w (packS wide.toNat big ns) (packE wide ns)) := by
  have HSZ := Lib.hid (size_any (len : Int) wide w)
  by_cases hok : okS (len : Int) wide = true
  · obtain ⟨_, _, hw1, hw2⟩ := ok_bounds hok
    obtain ⟨wd, rfl⟩ : ∃ wd : Nat, wide = (wd : Int) := ⟨wide.toNat, by omega⟩
    have e1 : sizeE (len : Int) (wd : Int) = 0 := by unfold sizeE; rw [hok]; rfl
    have e2 : packE (wd : Int) ns = overE wd ns := by rw [packE_ok (by rw [hx]; exact hok)]; rfl
    rw [e2, show ((wd : Int)).toNat = wd from rfl]
    unfold SizeP at HSZ
    rw [e1] at HSZ
    generalize sizeV (len : Int) (wd : Int) = sv at HSZ
    by_cases hwh : whole wd = true
    · have hm : wd / 8 = 2 ∨ wd / 8 = 4 := by rcases whole_cases hwh with rfl | rfl <;> simp
      have h8 : 8 * (wd / 8) = wd := by rcases whole_cases hwh with rfl | rfl <;> rfl
      have hpi := putInts_any p len cap (wd / 8) big ns w hr hx (by omega) hb hm
      rw [h8, show putsL (wd / 8) big ns = packS wd big ns from (packS_whole hwh big ns).symm] at hpi
      have hdv : (wd : Int) / 8 = ((wd / 8 : Nat) : Int) := by omega
      have HPI := Lib.hid hpi
      have HWH := Lib.hid hwh
      generalize wd / 8 = m at hdv HPI
      clear hr hb hok e1 e2 hpi hwh hm h8 hx
      go_enter Try.func8, Try.ntmps8
      go_wp2_with fail
      refine HSZ.out.mono ?_
      rintro e w' ⟨rfl, rfl⟩
      go_wp2_with fail
      refine (whole_any wd w).mono ?_
      rintro e w' ⟨rfl, rfl⟩
      rw [HWH.out]
      go_wp2_with fail
      refine HPI.out.mono ?_
      rintro e w2 ⟨hb2, ⟨h0, q, c2, rfl, r⟩ | ⟨h0, rfl⟩⟩
      · have R := Lib.hid r
        have H0 := Lib.hid h0
        have HB2 := Lib.hid hb2
        clear r h0 hb2
        go_wp2_with fail
        go_ret2
        exact ⟨HB2.out, .inl ⟨H0.out, q, c2, rfl, R.out⟩⟩
      · have H0 := Lib.hid h0
        have HB2 := Lib.hid hb2
        clear h0 hb2
        go_wp2_with fail
        go_ret2
        exact ⟨HB2.out, .inr ⟨H0.out, rfl⟩⟩
    · have hwh : whole wd = false := by simpa using hwh
      have hpi := writeG_any p len cap wd ns w hr hx hl hb (by omega) (by omega)
      rw [← packS_words hwh big ns] at hpi
      have HPI := Lib.hid hpi
      have HWH := Lib.hid hwh
      clear hr hb hok e1 e2 hpi hwh hx
      go_enter Try.func8, Try.ntmps8
      go_wp2_with fail
      refine HSZ.out.mono ?_
      rintro e w' ⟨rfl, rfl⟩
      go_wp2_with fail
      refine (whole_any wd w).mono ?_
      rintro e w' ⟨rfl, rfl⟩
      rw [HWH.out]
      go_wp2_with fail
      refine HPI.out.mono ?_
      rintro e w2 ⟨hb2, ⟨h0, q, c2, rfl, r⟩ | ⟨h0, rfl⟩⟩
      · have R := Lib.hid r
        have H0 := Lib.hid h0
        have HB2 := Lib.hid hb2
        clear r h0 hb2
        go_wp2_with fail
        go_ret2
        exact ⟨HB2.out, .inl ⟨H0.out, q, c2, rfl, R.out⟩⟩
      · have H0 := Lib.hid h0
        have HB2 := Lib.hid hb2
        clear h0 hb2
        go_wp2_with fail
        go_ret2
        exact ⟨HB2.out, .inr ⟨H0.out, rfl⟩⟩
  · have hok : okS (len : Int) wide = false := by simpa using hok
    have e1 : sizeE (len : Int) wide = 1 := by unfold sizeE; rw [hok]; rfl
    have e2 : sizeV (len : Int) wide = 0 := by unfold sizeV; rw [hok]; rfl
    have HE := Lib.hid (packE_bad (wide := wide) (ns := ns) (by rw [hx]; exact hok))
    unfold SizeP at HSZ
    rw [e1, e2] at HSZ
    clear hr hb hok e1 e2 hx
    go_enter Try.func8, Try.ntmps8
    go_wp2_with fail
    refine HSZ.out.mono ?_
    rintro e w' ⟨rfl, rfl⟩
    go_wp2_with fail
    go_ret2
    exact ⟨Below.refl _ _, .inr ⟨by rw [HE.out]; decide, by rw [HE.out]; rfl⟩⟩
end Go.Proofs.Ytkeplmnohenbnaa.Sa

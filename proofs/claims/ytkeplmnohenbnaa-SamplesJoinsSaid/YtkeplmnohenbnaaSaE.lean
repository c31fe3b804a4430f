
/- Contracts of package samples: groups of bits read, Unpack. -/
import Derived.Test.YtkeplmnohenbnaaSaD
namespace Go.Proofs.Ytkeplmnohenbnaa.Sa
open Go.RowKit Go.Proofs.Ytkeplmnohenbnaa.Oct Go.Proofs.Ytkeplmnohenbnaa.Bit
open Go.Proofs.Ytkeplmnohenbnaa.Lp (VRow vrow_blk vrow_own wpList_append_vals blk_set blk_far blk_frozen fillV fillV_length fillV_zero fillV_all fillV_step)
set_option linter.unusedVariables false
set_option linter.unusedSimpArgs false
set_option maxRecDepth 100000

theorem rdS_only {S : Nat → Prop} {w w' : World} {g : Nat} {p : Option Addr} {cap : Nat} {xs : List UInt8} {at_ : Nat} {low : Bool} (h : Rd w g p cap xs at_ low) (ho : Only S w w') (hg : ∀ k, k ≤ g → ¬ S k) : Rd w' g p cap xs at_ low := by
  have hlt := h.lt
  refine ⟨(ho.2.2.2.2 g hlt (hg g (Nat.le_refl _))).trans h.1, fun h0 => ?_, h.2.2⟩
  obtain ⟨b, off, e, hb, hc⟩ := h.2.1 h0
  refine ⟨b, off, e, hb, fun i hi => ?_⟩
  rw [← hc i hi]
  exact World.cell?_of_block (w := w) (ho.2.2.2.2 b (by omega) (hg b (by omega)))
theorem next_num (X : List UInt8) (a wd : Nat) (h : a + wd ≤ 8 * X.length) : nextV false X a wd = num (((bitsOf false X).drop a).take wd) := by
  unfold nextV peekV
  rw [List.take_append_of_le_length (by rw [List.length_drop, bitsOf_length]; omega)]
  rfl
set_option maxHeartbeats 1000000 in
theorem readG_any (p : Option Addr) (len cap n wd : Nat) (big : Bool) (X : List UInt8) (w : World) (hr : Row w p X) (hx : X.length = len) (hnil : p = none → cap = 0) (hl : len ≤ 1000000) (hwh : whole wd = false) (h1 : 1 ≤ wd) (h32 : wd ≤ 32) (hn : n * wd ≤ 8 * len) :
    Calls Try.prog 24 #[.slice p len cap, .int .i64 (n : Int), .int .i64 (wd : Int)] w (UnP w (unpackS wd big (bitsOf false X) n) 0) := by
  obtain ⟨i0, hi, hz0, hz1, hz2⟩ := info_parts Try.infoU32
  obtain ⟨ys, hys⟩ : ∃ ys, ys = unpackS wd big (bitsOf false X) n := ⟨_, rfl⟩
  have hyl : ys.length = n := by rw [hys, unpackS_length]
  have hn1 : n ≤ 8000000 := by
    have := Nat.mul_le_mul_left n h1
    omega
  have HGET : Hid (∀ k (h : k < ys.length), (k + 1) * wd ≤ 8 * X.length ∧ (ys[k] : Int) = readV (wd : Int) false X (k * wd) ∧ readE (wd : Int) (8 * X.length) (k * wd) = 0 ∧ readA (wd : Int) (8 * X.length) (k * wd) = (k + 1) * wd) := Lib.hid (fun k h => by
    have hk : k < n := by rw [← hyl]; exact h
    have hkm : (k + 1) * wd ≤ n * wd := Nat.mul_le_mul_right wd hk
    have hk8 : (k + 1) * wd ≤ 8 * X.length := by omega
    have hk9 := hk8
    rw [Nat.succ_mul] at hk9
    have ho : okR (wd : Int) (8 * X.length) (k * wd) = true := by
      have hc : cntB (wd : Int) = true := by unfold cntB; simp; omega
      unfold okR
      rw [hc]
      simp
      have : ((k * wd + wd : Nat) : Int) ≤ ((8 * X.length : Nat) : Int) := by omega
      push_cast at this
      exact this
    refine ⟨hk8, ?_, by unfold readE; rw [ho]; rfl, by unfold readA; rw [ho, Nat.succ_mul]; rfl⟩
    unfold readV
    rw [ho]
    subst hys
    rw [unpackS_get, readS_plain hwh, ← next_num X _ _ hk9]
    rfl)
  rw [← hys]
  have HX := Lib.hid hx
  have HNR := Lib.hid (newReader_any p len cap X false w hr hx hnil (by omega))
  have HYL := Lib.hid hyl
  clear hr hx hn hyl hys hwh hnil
  go_enter Try.func24, Try.ntmps24
  go_wp2_with fail
  refine HNR.out.mono ?_
  rintro e w1 ⟨hb1, g, q, cq, rfl, hg, hrd, hqb⟩
  have hg1 : g < w1.heap.size := hrd.lt
  have HB1 := Lib.hid hb1
  have HRD := Lib.hid hrd
  have HG := Lib.hid hg
  clear hb1 hrd hqb hg HNR
  go_wp2_with (at_make; refine wpList_make_full _ rfl _ _ 22 rfl w1.heap.size 45 i0 (.int .u32 0) 1 Try.underlying22 hi hz0 hz1 .i64 .i64 (n : Int) (n : Int) n rfl rfl rfl rfl ?c2 ?c3 ?c4 ?_)
  case c2 => rw [hz2]; omega
  case c3 => unfold maxLen; omega
  case c4 => omega
  intro w2 hown hgrow
  have hb2 : Below w1.heap.size w1 w2 := (Below.refl _ _).grown hgrow (Nat.le_refl _) (fun k hk => by cases hk)
  have hblk := blk_of_own hown
  have HST : Hid (FilS w w1.heap.size ys 0 w2) := Lib.hid (FilS.start HYL.out (HB1.out.trans (hb2.mono HB1.out.size)) HB1.out.size (blk_lt hblk) (by simpa using hblk))
  have HRD2 : Hid (Rd w2 g q cq X (0 * wd) false) := Lib.hid (by rw [Nat.zero_mul]; exact HRD.out.below hb2 hg1)
  clear hown hgrow hb2 hblk hz0 hz1 hz2 hi HRD
  generalize hG : w1.heap.size = G at HST hg1
  clear hG
  go_wp2_with fail
  go_loopw [10, 11, 12, 19] (fun _ _ _ i wr => ∃ k : Nat, k ≤ n ∧ i = .int .i64 (k : Int) ∧ Hid (FilS w G ys k wr) ∧ Hid (Rd wr g q cq X (k * wd) false)) (fun _ _ _ i _ => n - (intOf i).toNat)
  case atStart => exact ⟨0, by omega, rfl, HST, HRD2⟩
  case round =>
    clear HST HRD2
    obtain ⟨k, hk, rfl, HS, HRD⟩ := hrel
    by_cases hlt : k < n
    · have hky : k < ys.length := by rw [HYL.out]; exact hlt
      obtain ⟨h8, hv, he, ha⟩ := HGET.out k hky
      have hra := read_any g q cq X (k * wd) false wr (wd : Int) HRD.out
      unfold ReadP at hra
      rw [← hv, he, ha] at hra
      have HRA := Lib.hid hra
      have HSTP := Lib.hid (fun w2 (h : FilS w G ys k w2) => h.step hky _ rfl)
      have HCL := Lib.hid (fun w2 (h : FilS w G ys k w2) => h.cell hky)
      have HS0 := HS
      generalize ys[k] = v at HRA HSTP
      have ql : decide ((k : Int) < (n : Int)) = true := by simpa using hlt
      have i1 : (0 : Int) ≤ (k : Int) := by omega
      have i2 : (k : Int) < (n : Int) := by omega
      clear hv he ha h8 hra hky HS
      go_wp2_with fail
      refine HRA.out.mono ?_
      rintro e w2 ⟨rfl, hrd2, ho, hsz⟩
      have hfs := HS0.out.only ho HG.out (by omega)
      have HN2 := Lib.hid (HSTP.out w2 hfs)
      obtain ⟨v0, hc2⟩ := HCL.out w2 hfs
      have hf2 := hfs.fz k
      have HRD3 : Hid (Rd (w2.setCell ⟨G, k, none⟩ (.int .u32 (v : Int))) g q cq X ((k + 1) * wd) false) := Lib.hid (rdS_only hrd2 (Only.setCell (S := (· = G)) rfl _) (fun j hj e => by omega))
      clear hrd2 ho hsz hfs HSTP HCL HS0 HRA HRD
      go_wp2_with fail
      go_roundw
      case rel => exact ⟨k + 1, by omega, by go_num, HN2, HRD3⟩
      case measure => simp [intOf]; omega
    · have : k = n := by omega
      subst this
      have hS := HS.out
      rw [← HYL.out] at hS
      have HB := Lib.hid hS.1
      have HV := Lib.hid hS.row
      have HGG := Lib.hid hS.2.1
      have ql : decide ((k : Int) < (k : Int)) = false := by simp
      clear hS HS HRD HGET hlt hk
      go_wp2_with fail
      go_ret2
      exact ⟨HB.out, .inl ⟨rfl, some ⟨G, 0, none⟩, k, by rw [HYL.out]; rfl, HV.out, by rw [HYL.out]; omega, by unfold maxLen; omega, (fun h => by cases h), (fun a h => by injection h with h; subst h; exact HGG.out)⟩⟩
/-- Unpack's error -/
def unE (len : Nat) (n wide : Int) : Int := if okS n wide then (if (len : Int) < sizeV n wide then 2 else 0) else 1
theorem unpack_any (p : Option Addr) (len cap : Nat) (n wide : Int) (big : Bool) (xs : List UInt8) (w : World) (hr : Row w p xs) (hx : xs.length = len) (hlc : len ≤ cap) (hcm : cap ≤ maxLen) (hnil : p = none → cap = 0) (hl : len ≤ 1000000) :
    Calls Try.prog 12 #[.slice p len cap, .int .i64 n, .int .i64 wide, .bool big] w (UnP w (unpackS wide.toNat big (bitsOf false xs) n.toNat) (unE len n wide)) := by
  have HSZ := Lib.hid (size_any n wide w)
  unfold SizeP at HSZ
  unfold maxLen at hcm
  by_cases hok : okS n wide = true
  · obtain ⟨hn0, hn1, hw1, hw2⟩ := ok_bounds hok
    obtain ⟨wd, rfl⟩ : ∃ wd : Nat, wide = (wd : Int) := ⟨wide.toNat, by omega⟩
    obtain ⟨k, rfl⟩ : ∃ k : Nat, n = (k : Int) := ⟨n.toNat, by omega⟩
    have e1 : sizeE (k : Int) (wd : Int) = 0 := by unfold sizeE; rw [hok]; rfl
    obtain ⟨s, hs⟩ : ∃ s, s = (k * wd + 7) / 8 := ⟨_, rfl⟩
    have e2 : sizeV (k : Int) (wd : Int) = (s : Int) := by
      unfold sizeV
      rw [hok, hs]
      push_cast
      rfl
    have hss : k * wd ≤ 8 * s := by omega
    have hp8 := (ok_prod hok).2
    have hp9 : k * wd ≤ 134217728 := by
      have : ((k * wd : Nat) : Int) = (k : Int) * (wd : Int) := by push_cast; rfl
      omega
    have hsb : s ≤ 16777217 := by omega
    by_cases hcut : len < s
    · have e3 : unE len (k : Int) (wd : Int) = 2 := by unfold unE; rw [if_pos hok, e2, if_pos (by omega)]
      rw [e3]
      rw [e1, e2] at HSZ
      have ql : decide ((len : Int) < (s : Int)) = true := by simp; omega
      generalize unpackS _ _ _ _ = Y
      clear hr hx hnil hok e1 e2 e3 hs hss hp8 hp9
      go_enter Try.func12, Try.ntmps12
      go_wp2_with fail
      refine HSZ.out.mono ?_
      rintro e w' ⟨rfl, rfl⟩
      go_wp2_with fail
      go_ret2
      exact ⟨Below.refl _ _, .inr ⟨by decide, rfl⟩⟩
    · have e3 : unE len (k : Int) (wd : Int) = 0 := by unfold unE; rw [if_pos hok, e2, if_neg (by omega)]
      rw [e3, show ((wd : Int)).toNat = wd from rfl, show ((k : Int)).toNat = k from rfl]
      rw [e1, e2] at HSZ
      have ql : decide ((len : Int) < (s : Int)) = false := by simp; omega
      by_cases hwh : whole wd = true
      · have hm : wd / 8 = 2 ∨ wd / 8 = 4 := by rcases whole_cases hwh with rfl | rfl <;> simp
        have h8 : 8 * (wd / 8) = wd := by rcases whole_cases hwh with rfl | rfl <;> rfl
        have hkm : k * (wd / 8) ≤ len := by
          have : k * wd = 8 * (k * (wd / 8)) := by
            rw [← Nat.mul_assoc, Nat.mul_comm 8 k, Nat.mul_assoc, h8]
          omega
        have hgi := getInts_any p len cap k (wd / 8) big xs w hr hx hl hm hkm
        rw [h8] at hgi
        have hdv : (wd : Int) / 8 = ((wd / 8 : Nat) : Int) := by omega
        have HGI := Lib.hid hgi
        have HWH := Lib.hid hwh
        generalize unpackS _ _ _ _ = Y at HGI ⊢
        generalize wd / 8 = m at hdv HGI
        clear hr hx hnil hok e1 e2 e3 hs hss hp8 hp9 hgi hwh hm h8 hkm
        go_enter Try.func12, Try.ntmps12
        go_wp2_with fail
        refine HSZ.out.mono ?_
        rintro e w' ⟨rfl, rfl⟩
        go_wp2_with fail
        refine (whole_any wd w).mono ?_
        rintro e w' ⟨rfl, rfl⟩
        rw [HWH.out]
        go_wp2_with fail
        refine HGI.out.mono ?_
        rintro e w2 ⟨hb2, ⟨h0, q, c2, rfl, r⟩ | ⟨h0, rfl⟩⟩
        · have R := Lib.hid r
          have HB2 := Lib.hid hb2
          clear r h0 hb2
          go_wp2_with fail
          go_ret2
          exact ⟨HB2.out, .inl ⟨rfl, q, c2, rfl, R.out⟩⟩
        · exact absurd rfl h0
      · have hwh : whole wd = false := by simpa using hwh
        have hgi := readG_any (headA p cap) s cap k wd big (xs.take s) w (head_row cap s hr) (by rw [List.length_take]; omega) (fun h => by
          unfold headA at h
          split at h
          · assumption
          · exact hnil (by simpa using h)) (by omega) hwh (by omega) (by omega) hss
        rw [unpackS_take wd big xs k s hss] at hgi
        have HGI := Lib.hid hgi
        have HWH := Lib.hid hwh
        have hhd := fun W => head_run W p len cap s (by omega)
        generalize unpackS _ _ _ _ = Y at HGI ⊢
        generalize headA p cap = hp at hhd HGI
        clear hr hx hnil hok e1 e2 e3 hs hss hp8 hp9 hgi hwh
        go_enter Try.func12, Try.ntmps12
        go_wp2_with fail
        refine HSZ.out.mono ?_
        rintro e w' ⟨rfl, rfl⟩
        go_wp2_with fail
        refine (whole_any wd w).mono ?_
        rintro e w' ⟨rfl, rfl⟩
        rw [HWH.out]
        go_wp2_with fail
        refine HGI.out.mono ?_
        rintro e w2 ⟨hb2, ⟨h0, q, c2, rfl, r⟩ | ⟨h0, rfl⟩⟩
        · have R := Lib.hid r
          have HB2 := Lib.hid hb2
          clear r h0 hb2
          go_wp2_with fail
          go_ret2
          exact ⟨HB2.out, .inl ⟨rfl, q, c2, rfl, R.out⟩⟩
        · exact absurd rfl h0
  · have hok : okS n wide = false := by simpa using hok
    have e1 : sizeE n wide = 1 := by unfold sizeE; rw [hok]; rfl
    have e2 : sizeV n wide = 0 := by unfold sizeV; rw [hok]; rfl
    have e3 : unE len n wide = 1 := if_neg (by rw [hok]; simp)
    rw [e3]
    rw [e1, e2] at HSZ
    generalize unpackS _ _ _ _ = Y
    clear hr hx hnil hok e1 e2 e3
    go_enter Try.func12, Try.ntmps12
    go_wp2_with fail
    refine HSZ.out.mono ?_
    rintro e w' ⟨rfl, rfl⟩
    go_wp2_with fail
    go_ret2
    exact ⟨Below.refl _ _, .inr ⟨by decide, rfl⟩⟩
end Go.Proofs.Ytkeplmnohenbnaa.Sa

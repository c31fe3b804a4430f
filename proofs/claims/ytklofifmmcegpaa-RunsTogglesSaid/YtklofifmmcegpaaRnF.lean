
/- Contracts of package runs: Row; slices.Equal. -/
import Derived.Test.YtklofifmmcegpaaRnE
namespace Go.Proofs.Ytklofifmmcegpaa.Rn
open Go.RowKit Go.Proofs.Ytklofifmmcegpaa.Oct Go.Proofs.Ytklofifmmcegpaa.Bit Go.Proofs.Ytklofifmmcegpaa.Lp
set_option linter.unusedVariables false
set_option linter.unusedSimpArgs false
set_option maxRecDepth 100000

/-- a row of bytes and an error, given back -/
def RwP (w : World) (xs : List UInt8) (er : Int) (e : Ending) (w' : World) : Prop :=
  Below w.heap.size w w' ∧ ∃ q c, e = .returned (.tuple #[.slice q xs.length c, .int .i64 er]) ∧ Row w' q xs ∧ (q = none → c = 0)
theorem RwP.nil (w : World) (er : Int) (w' : World) (h : Below w.heap.size w w') : RwP w [] er (.returned (.tuple #[.slice none 0 0, .int .i64 er])) w' :=
  ⟨h, none, 0, rfl, fun h => absurd h (by simp), fun _ => rfl⟩
/-- a row under way -/
def RwT (w : World) (N : Nat) (c : List Nat) (n k : Nat) (wr : World) : Prop :=
  Below w.heap.size w wr ∧ w.heap.size < wr.heap.size ∧ ∃ ys, Blk wr w.heap.size ys ∧ ys.length = N ∧ ∀ x, gb ys x = half c n (min k c.length) x
theorem gb_zero (N x : Nat) : gb (List.replicate N 0) x = false := by
  unfold gb
  rw [List.getD_eq_getElem?_getD, List.getElem?_replicate]
  split <;> simp
theorem RwT.step {w wr w9 w2 : World} {N n k b : Nat} {c : List Nat} {e : Ending} (h : RwT w N c n k wr) (hd : Drawn wr w9) (hv : Valid c n) (hk : k < c.length) (he : k % 2 = 0) (hb : b = if h : k + 1 < c.length then c[k + 1] else n) (ys : List UInt8) (hy : ys.length = N) (hg : ∀ x, gb ys x = half c n (min k c.length) x)
    (hp : BlackP w.heap.size w9 ys c[k] b e w2) : RwT w N c n (k + 2) w2 := by
  obtain ⟨_, hb2, zs, hz1, hz2, hz3⟩ := hp
  have hs := (hd.below wr.heap.size).size
  refine ⟨(h.1.trans ((hd.below _).mono (Nat.le_of_lt h.2.1))).trans hb2, by have := h.2.1; have := hb2.size; omega, zs, hz1, by rw [hz2, hy], fun x => ?_⟩
  rw [hz3, hg, half_step hv k x hk he, Nat.min_eq_left (by omega), hb]
set_option maxHeartbeats 2000000 in
theorem row_in (p : Option Addr) (len cap : Nat) (zs : List Int) (c : List Nat) (n : Nat) (w : World) (h : VRow w w.heap.size p (ints zs)) (hx : zs.length = len) (hl : len ≤ 100000) (hn : n ≤ 32768) (hc : zs = zl c) (hv : Valid c n) :
    Calls Try.prog 13 #[.slice p len cap, .int .i64 (n : Int)] w (RwP w (packB false (pix c n)) 0) := by
  obtain ⟨i0, hi, hz0, hz1, hz2⟩ := info_parts Try.infoByte
  have hwd : wideB (n : Int) = true := by unfold wideB; simp; omega
  have hrt := right_any p len cap zs (n : Int) w _ h hx (by unfold maxLen; omega)
  rw [show rightB zs (n : Int) = true from by rw [hc]; exact valid_right hv] at hrt
  have haft := fun i w' hi (hb : Below w.heap.size w w') => after_any p cap zs i (n : Int) w' w.heap.size (h.below hb (Nat.le_refl _)) (by unfold maxLen; omega) hi
  rw [hx] at haft
  have hbf := fun w' => bytesFor_any n w' (by omega)
  obtain ⟨N, hN⟩ : ∃ N, N = (n + 7) / 8 := ⟨_, rfl⟩
  rw [← hN] at hbf
  have hNn : n ≤ 8 * N := by omega
  have hN5 : N ≤ 5000 := by omega
  have hcl : c.length = len := by rw [← hx, hc, zl_length]
  have HFIN := Lib.hid (show ∀ ys : List UInt8, ys.length = N → (∀ x, gb ys x = half c n (min len c.length) x) → ys = packB false (pix c n) from fun ys h1 h2 => by
    refine pack_gb ys _ (by rw [h1, pix_length, hN]) (fun x _ => ?_)
    rw [h2, ← hcl, Nat.min_self, half_all])
  have HPL := Lib.hid (show (packB false (pix c n)).length = N from by rw [packB_length, pix_length, hN])
  have HZ := Lib.hid (show ∀ k (hk : k < len), ∃ (hk' : k < c.length) (hz : k < zs.length), zs[k] = (c[k] : Int) ∧ c[k] < n from fun k hk => by
    have hz : k < zs.length := by rw [hx]; exact hk
    obtain ⟨h', e⟩ := zl_nat hc k hz
    exact ⟨h', hz, e, hv.2 _ (List.getElem_mem h')⟩)
  have HB := Lib.hid (show ∀ k (hk' : k < c.length), ∃ b : Nat, zs.getD (k + 1) (n : Int) = (b : Int) ∧ (b = if h : k + 1 < c.length then c[k + 1] else n) ∧ c[k] ≤ b ∧ b ≤ n from fun k hk' => by
    subst hc
    by_cases h1 : k + 1 < c.length
    · refine ⟨c[k + 1], ?_, by rw [dif_pos h1], ?_, ?_⟩
      · rw [List.getD_eq_getElem?_getD, List.getElem?_eq_getElem (by rw [zl_length]; exact h1)]
        simp [zl]
      · have := (List.pairwise_iff_getElem.1 hv.1) k (k + 1) hk' h1 (by omega); omega
      · have := hv.2 _ (List.getElem_mem h1); omega
    · refine ⟨n, ?_, by rw [dif_neg h1], ?_, Nat.le_refl _⟩
      · rw [List.getD_eq_getElem?_getD, List.getElem?_eq_none (by rw [zl_length]; omega)]
        rfl
      · have := hv.2 _ (List.getElem_mem hk'); omega)
  have HH := Lib.hid h
  have HX := Lib.hid hx
  have HV := Lib.hid hv
  have HRT := Lib.hid hrt
  have HAF := Lib.hid haft
  have HBF := Lib.hid hbf
  have HCL := Lib.hid hcl
  clear h hx hc hv hrt haft hbf hN hcl
  go_enter Try.func13, Try.ntmps13
  go_wp2_with fail
  refine (isWidth_any _ _).mono ?_
  rintro e w' ⟨rfl, rfl⟩
  rw [hwd]
  clear hwd
  go_wp2_with fail
  refine HRT.out.mono ?_
  rintro e w' ⟨rfl, rfl⟩
  go_wp2_with fail
  refine (HBF.out _).mono ?_
  rintro e w' ⟨rfl, rfl⟩
  go_wp2_with (at_make; refine wpList_make_full _ rfl _ _ 22 rfl w.heap.size 5 i0 (.int .u8 0) 1 Try.underlying22 hi hz0 hz1 .i64 .i64 (N : Int) (N : Int) N rfl rfl rfl rfl ?c2 ?c3 ?c4 ?_)
  case c2 => rw [hz2]; omega
  case c3 => unfold maxLen; omega
  case c4 => omega
  intro w1 hown hgrow
  have HT : Hid (RwT w N c n 0 w1) := Lib.hid ⟨(Below.refl _ _).grown hgrow (Nat.le_refl _) (fun k hk => by cases hk), (hown.lt _ rfl).2, List.replicate N 0, by
    unfold Blk
    rw [← made_zero]
    simpa using blk_of_own hown, by simp, fun x => by rw [gb_zero, Nat.zero_min, half_zero]⟩
  clear hown hgrow
  go_wp2_with fail
  go_loopw [7] (fun i wr => ∃ k : Nat, k ≤ len + 1 ∧ k % 2 = 0 ∧ i = .int .i64 (k : Int) ∧ Hid (RwT w N c n k wr)) (fun i _ => len + 1 - (intOf i).toNat)
  case atStart => exact ⟨0, by omega, rfl, rfl, HT⟩
  case round =>
    clear HT
    obtain ⟨k, hk, hk2, rfl, HT⟩ := hrel
    by_cases hlt : k < len
    · obtain ⟨hkc, hkz, hze, hcn⟩ := HZ.out k hlt
      obtain ⟨b, off, hq, hbl⟩ := HH.out.addr (by rw [ints_length]; omega)
      subst hq
      have hc0 := HH.out.int k hkz
      rw [hze] at hc0
      have hc : wr.cell? ⟨b, off + k, none⟩ = some (.int .i64 (c[k] : Int)) := (HT.out.1.cell (p := ⟨b, off + k, none⟩) hbl).trans hc0
      obtain ⟨y, hy1, hy2, hy3, hy4⟩ := HB.out k hkc
      obtain ⟨hTB, hTS, ys, hys, hyl, hyg⟩ := HT.out
      have haf9 := HAF.out k wr.drew (by omega) (hTB.trans ((show Drawn wr wr.drew from ⟨1, rfl⟩).below _))
      rw [hy1] at haf9
      have HAF9 := Lib.hid (stays haf9)
      have HST := Lib.hid (fun (w9 w2 : World) (hd : Drawn wr w9) (e : Ending) (hp : BlackP w.heap.size w9 ys c[k] y e w2) => HT.out.step hd HV.out hkc hk2 hy2 ys hyl hyg hp)
      generalize c[k] = x at hc hcn hy3 HST
      have hd : decide ((k : Int) < (len : Int)) = true := by simp; omega
      have i1 : (0 : Int) ≤ (k : Int) := by omega
      have i2 : (k : Int) < (len : Int) := by omega
      have HYS := Lib.hid hys
      have HYL := Lib.hid hyl
      clear hkc hkz hze hc0 hy1 hy2 hTB hTS hyg haf9 hys hyl
      go_wp2_with fail
      refine wp_region_still_tail 9 (by kernel_rfl) (by kernel_rfl) ?_
      simp only [List.take_succ_cons, List.take_zero, List.drop_succ_cons, List.drop_zero]
      repeat (first | still_step | still_call HAF9.out)
      refine wpStill_nil ?_
      obtain ⟨w9, hw9⟩ : ∃ w9, w9 = wr.drew := ⟨_, rfl⟩
      have HD9 : Hid (Drawn wr w9) := Lib.hid ⟨1, hw9⟩
      have HY9 : Hid (Blk w9 w.heap.size ys) := Lib.hid (by rw [hw9]; exact HYS.out)
      change wpList _ _ _ _ _ wr.drew
      rw [← hw9]
      clear hw9 hc HAF9 HYS
      go_wp2_with fail
      refine (blacken_any _ N N ys x y w9 HY9.out HYL.out (by omega) (by omega) (by omega)).mono ?_
      intro e w2 hp
      obtain ⟨he, _⟩ := id hp
      subst he
      have HN := Lib.hid (HST.out w9 w2 HD9.out _ hp)
      clear hp HST HY9 HD9
      go_wp2_with fail
      go_roundw
      case rel => exact ⟨k + 2, by omega, by omega, by go_num, HN⟩
      case measure => simp [intOf]; omega
    · have hd : decide ((k : Int) < (len : Int)) = false := by simp; omega
      obtain ⟨hTB, hTS, ys, hys, hyl, hyg⟩ := HT.out
      have e := HFIN.out ys hyl (fun x => by rw [hyg, HCL.out, Nat.min_eq_right (by omega), Nat.min_self])
      have HR : Hid (Below w.heap.size w wr ∧ Row wr (some ⟨w.heap.size, 0, none⟩) (packB false (pix c n))) := Lib.hid ⟨hTB, by rw [← e]; exact hys.row⟩
      clear hTB hTS hys hyl hyg e
      go_wp2_with fail
      go_ret2
      exact ⟨HR.out.1, some ⟨w.heap.size, 0, none⟩, N, by rw [HPL.out]; rfl, HR.out.2, fun h => by cases h⟩
def rowL (zs : List Int) (z : Int) : List UInt8 := if okR zs z then packB false (pix (zs.map Int.toNat) z.toNat) else []
theorem zl_back (c : List Nat) : (zl c).map Int.toNat = c := by
  unfold zl
  rw [List.map_map]
  exact (List.map_congr_left (fun x _ => by simp)).trans (List.map_id c)
set_option maxHeartbeats 1000000 in
theorem row_any (p : Option Addr) (len cap : Nat) (zs : List Int) (z : Int) (w : World) (h : VRow w w.heap.size p (ints zs)) (hx : zs.length = len) (hl : len ≤ 100000) :
    Calls Try.prog 13 #[.slice p len cap, .int .i64 z] w (RwP w (rowL zs z) (errR zs z)) := by
  by_cases hok : okR zs z = true
  · obtain ⟨c, n, hc, rfl, hn, hv⟩ := okR_valid hok
    unfold rowL errR
    rw [if_pos hok, if_pos hok, Int.toNat_natCast, show zs.map Int.toNat = c from by rw [hc, zl_back]]
    exact row_in p len cap zs c n w h hx hl hn hc hv
  · unfold rowL errR
    rw [if_neg hok, if_neg hok]
    have hrt := right_any p len cap zs z w _ h hx (by unfold maxLen; omega)
    by_cases hw : wideB z = true
    · have hr : rightB zs z = false := by
        unfold okR at hok
        rw [hw, Bool.true_and] at hok
        simpa using hok
      rw [hr] at hrt
      clear h hx hok hr
      go_enter Try.func13, Try.ntmps13
      go_wp2_with fail
      refine (isWidth_any _ _).mono ?_
      rintro e w' ⟨rfl, rfl⟩
      rw [hw]
      clear hw
      go_wp2_with fail
      refine hrt.mono ?_
      rintro e w' ⟨rfl, rfl⟩
      go_wp2_with fail
      go_ret2
      exact RwP.nil _ _ _ (Below.refl _ _)
    · have hw' : wideB z = false := by simpa using hw
      clear h hx hok hrt hw
      go_enter Try.func13, Try.ntmps13
      go_wp2_with fail
      refine (isWidth_any _ _).mono ?_
      rintro e w' ⟨rfl, rfl⟩
      rw [hw']
      clear hw'
      go_wp2_with fail
      go_ret2
      exact RwP.nil _ _ _ (Below.refl _ _)
set_option maxHeartbeats 1000000 in
theorem equalI_any (p1 p2 : Option Addr) (l1 c1 l2 c2 : Nat) (xs ys : List Int) (w : World) (C1 C2 : Nat) (h1 : VRow w C1 p1 (ints xs)) (h2 : VRow w C2 p2 (ints ys)) (e1 : xs.length = l1) (e2 : ys.length = l2) (hb : l1 ≤ 100000) :
    Calls Try.prog 22 #[.slice p1 l1 c1, .slice p2 l2 c2] w fun e w' => e = .returned (.bool (decide (xs = ys))) ∧ Drawn w w' := by
  by_cases hle : l1 = l2
  · subst hle
    have H1 := Lib.hid h1
    have H2 := Lib.hid h2
    have E1 := Lib.hid e1
    have E2 := Lib.hid e2
    clear h1 h2 e1 e2
    go_enter Try.func22, Try.ntmps22
    go_wp2_with fail
    go_loopw [5, 13] (fun _ i wr => ∃ k : Nat, k ≤ l1 ∧ i = .int .i64 (k : Int) ∧ Hid (xs.take k = ys.take k) ∧ Hid (Drawn w wr)) (fun _ i _ => l1 - (intOf i).toNat)
    case atStart => exact ⟨0, by omega, rfl, Lib.hid rfl, Lib.hid ⟨0, rfl⟩⟩
    case round =>
      obtain ⟨k, hk, rfl, HT, HD⟩ := hrel
      by_cases hlt : k < l1
      · have k1 : k < xs.length := by rw [E1.out]; exact hlt
        have k2 : k < ys.length := by rw [E2.out]; exact hlt
        obtain ⟨b1, o1, hq1, _⟩ := H1.out.addr (by rw [ints_length]; omega)
        obtain ⟨b2, o2, hq2, _⟩ := H2.out.addr (by rw [ints_length]; omega)
        subst hq1
        subst hq2
        have hc1 := H1.out.int k k1
        have hc2 := H2.out.int k k2
        have g1 : wr.cell? ⟨b1, o1 + k, none⟩ = some (.int .i64 xs[k]) := by
          obtain ⟨m, rfl⟩ := HD.out
          exact hc1
        have g2 : wr.cell? ⟨b2, o2 + k, none⟩ = some (.int .i64 ys[k]) := by
          obtain ⟨m, rfl⟩ := HD.out
          exact hc2
        have HS : Hid (xs[k] = ys[k] → xs.take (k + 1) = ys.take (k + 1)) := Lib.hid fun e => by rw [List.take_succ_eq_append_getElem k1, List.take_succ_eq_append_getElem k2, HT.out, e]
        have HNE : Hid (xs[k] ≠ ys[k] → xs ≠ ys) := Lib.hid fun e h => by subst h; exact e rfl
        generalize xs[k] = x at g1 HS HNE
        generalize ys[k] = y at g2 HS HNE
        have hd : decide ((k : Int) < (l1 : Int)) = true := by simp; omega
        have i1 : (0 : Int) ≤ (k : Int) := by omega
        have i2 : (k : Int) < (l1 : Int) := by omega
        have HDM := Lib.hid (fun n => HD.out.more n)
        clear hc1 hc2 k1 k2 HT HD
        by_cases he : x = y
        · subst he
          have HS2 := Lib.hid (HS.out rfl)
          clear HS HNE
          go_wp2_with fail
          go_quiet (fail)
          go_wp2_with fail
          go_roundw
          case rel => exact ⟨k + 1, by omega, by go_num, HS2, Lib.hid (HDM.out _)⟩
          case measure => simp [intOf]; omega
        · have hne : (x == y) = false := by simpa using he
          have HNF : Hid (decide (xs = ys) = false) := Lib.hid (by simpa using HNE.out he)
          clear HS HNE he
          go_wp2_with fail
          go_quiet (fail)
          go_wp2_with fail
          go_ret
          exact ⟨by rw [HNF.out]; rfl, HDM.out _⟩
      · have : k = l1 := by omega
        subst this
        have hd : decide ((k : Int) < (k : Int)) = false := by simp
        have HF : Hid (decide (xs = ys) = true) := Lib.hid (by
          have := HT.out
          rw [List.take_of_length_le (by rw [E1.out]; exact Nat.le_refl _), List.take_of_length_le (by rw [E2.out]; exact Nat.le_refl _)] at this
          simpa using this)
        go_wp2_with fail
        go_ret
        exact ⟨by rw [HF.out]; rfl, HD.out⟩
  · have hne : ((l1 : Int) == (l2 : Int)) = false := by simp; omega
    have hnn : (l1 == l2) = false := by simpa using hle
    have HF : Hid (decide (xs = ys) = false) := Lib.hid (by simp; intro h; subst h; omega)
    clear h1 h2 e1 e2 hle
    go_enter Try.func22, Try.ntmps22
    go_wp2_with fail
    go_ret
    exact ⟨by rw [HF.out]; rfl, ⟨0, rfl⟩⟩
end Go.Proofs.Ytklofifmmcegpaa.Rn

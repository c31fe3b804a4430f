
/- The walk of the law RunsFlip. -/
import Derived.Test.YtklofifmmcegpaaRnK
namespace Go.Proofs.Ytklofifmmcegpaa.Rn
open Go.RowKit Go.Proofs.Ytklofifmmcegpaa.Oct Go.Proofs.Ytklofifmmcegpaa.Bit
open Go.Proofs.Ytklofifmmcegpaa.Lp (VRow ints ints_length ints_append ints_one vrow_own wpList_append_vals Try.infoInt IsInts)
set_option linter.unusedVariables false
set_option linter.unusedSimpArgs false
set_option maxRecDepth 100000

def notB (x : UInt8) : UInt8 := UInt8.ofNat (255 ^^^ x.toNat)
theorem not_lt (n : Nat) (h : n < 256) : 255 ^^^ n < 256 := Nat.xor_lt_two_pow (n := 8) (by decide) h
theorem notB_toNat (x : UInt8) : (notB x).toNat = 255 ^^^ x.toNat := by
  unfold notB
  rw [UInt8.toNat_ofNat']
  exact Nat.mod_eq_of_lt (not_lt _ x.toNat_lt)
theorem not_val (x : UInt8) : bits .xor .u8 IntKind.u8.max (x.toNat : Int) = ((notB x).toNat : Int) := by
  show bits .xor .u8 255 (x.toNat : Int) = _
  rw [notB_toNat, show (255 : Int) = ((255 : Nat) : Int) from rfl, u8_xor_nat _ _ (by decide) x.toNat_lt]
theorem word_not : ∀ n < 256, word (255 ^^^ n) 8 = (word n 8).map (!·) := by decide +kernel
theorem bits_not (xs : List UInt8) : bitsOf false (xs.map notB) = (bitsOf false xs).map (!·) := by
  induction xs with
  | nil => rfl
  | cons x xs ih =>
    rw [List.map_cons, bitsOf_cons, bitsOf_cons, ih, List.map_append]
    congr 1
    show word (notB x).toNat 8 = (word x.toNat 8).map (!·)
    rw [notB_toNat]
    exact word_not _ x.toNat_lt
theorem chg_ge : ∀ (l : List Bool) (p : Bool) (i : Nat), ∀ x ∈ chg p i l, i ≤ x := fun l p i x hx => (chg_mem l p i x hx).1
/-- the ways of the law -/
theorem flip_ways (xs : List UInt8) (n : Nat) (h : n < 8 * xs.length) :
    ∃ R : List Nat, (∀ x ∈ R, 1 ≤ x) ∧ R.length ≤ n + 1 ∧ ((changes ((bitsOf false xs).take (n + 1)) = 0 :: R ∧ changes ((bitsOf false (xs.map notB)).take (n + 1)) = R) ∨ (changes ((bitsOf false xs).take (n + 1)) = R ∧ changes ((bitsOf false (xs.map notB)).take (n + 1)) = 0 :: R)) := by
  rw [bits_not, ← List.map_take]
  obtain ⟨b, l, hl⟩ : ∃ b l, (bitsOf false xs).take (n + 1) = b :: l := by
    rcases hc : (bitsOf false xs).take (n + 1) with _ | ⟨b, l⟩
    · have := congrArg List.length hc
      rw [List.length_take, bitsOf_length] at this
      simp at this
      omega
    · exact ⟨b, l, rfl⟩
  have hlen : l.length ≤ n := by
    have := congrArg List.length hl
    rw [List.length_take, List.length_cons] at this
    omega
  rw [hl]
  refine ⟨chg b 1 l, fun x hx => chg_ge l b 1 x hx, by have := chg_len l b 1; omega, ?_⟩
  rw [changes_cons, changes_not]
  cases b
  · exact .inr ⟨rfl, rfl⟩
  · exact .inl ⟨rfl, rfl⟩
def nots (xs : List UInt8) (k : Nat) : List UInt8 := (xs.take k).map notB
set_option maxHeartbeats 16000000 in
theorem flip_walk (p : Option Addr) (len cap : Nat) (zs : List Int) (z : Int) (w : World) (h : IsRow .u8 w p len cap zs) (hz : (Lit.int .i64 z).wf = true) :
    Calls Try.prog 8 #[.slice p len cap, .int .i64 z] w fun e w' => e = .returned (.bool true) ∧ Below w.heap.size w w' := by
  obtain ⟨xs, hx, hr, hlc, hcm, hnil⟩ := h.row
  clear h hz
  by_cases hbad : len = 0 ∨ 100 < len
  · rcases hbad with h0 | h1
    · subst h0
      clear hx hr hlc hcm hnil
      go_enter Try.func8, Try.ntmps8
      go_wp2_with fail
      refine (lives_any _).mono ?_
      rintro e w1 ⟨rfl, hb1⟩
      go_wp2_with fail
      refine (lives_any _).mono ?_
      rintro e w2 ⟨rfl, hb2⟩
      go_wp2_with fail
      go_ret
      exact ⟨rfl, hb1.trans (hb2.mono hb1.size)⟩
    · have hd0 : ((len : Int) == 0) = false := by simp; omega
      have hd0n : (len == 0) = false := by simp; omega
      have hd1 : decide (100 < (len : Int)) = true := by simp; omega
      clear hx hr hlc hcm hnil
      go_enter Try.func8, Try.ntmps8
      go_wp2_with fail
      refine (lives_any _).mono ?_
      rintro e w1 ⟨rfl, hb1⟩
      go_wp2_with fail
      refine (lives_any _).mono ?_
      rintro e w2 ⟨rfl, hb2⟩
      go_wp2_with fail
      go_ret
      exact ⟨rfl, hb1.trans (hb2.mono hb1.size)⟩
  · have hd0 : ((len : Int) == 0) = false := by simp; omega
    have hd0n : (len == 0) = false := by simp; omega
    have hd1 : decide (100 < (len : Int)) = false := by simp; omega
    have hlen : len ≤ 100 := by omega
    have hl0 : 0 < len := by omega
    have hsp := spot_lt z (8 * len) (by omega)
    have hsc := spot_cast z (8 * len)
    obtain ⟨j, hj⟩ : ∃ j, j = spot z (8 * len) := ⟨_, rfl⟩
    rw [← hj] at hsp hsc
    rw [show (((8 * len : Nat)) : Int) = 8 * (len : Int) from by omega] at hsc
    have HF := Lib.hid (flip_ways xs j (by rw [hx]; exact hsp))
    have HX := Lib.hid hx
    have HR := Lib.hid hr
    have HLC := Lib.hid hlc
    have HCM := Lib.hid hcm
    have HNIL := Lib.hid hnil
    clear hx hr hlc hcm hnil hbad hj
    go_enter Try.func8, Try.ntmps8
    go_wp2_with fail
    refine (lives_any _).mono ?_
    rintro e w1 ⟨rfl, hb1⟩
    have HB1 := Lib.hid hb1
    clear hb1
    go_wp2_with fail
    go_loopw [6, 37] (fun v i wr => ∃ k : Nat, k ≤ len ∧ i = .int .i64 (k : Int) ∧ Hid (wr.ownsRow w.heap.size 5 1 v k (cellsOf (nots xs k))) ∧ Hid (Below w.heap.size w wr)) (fun _ i _ => len - (intOf i).toNat)
    case atStart => exact ⟨0, by omega, rfl, Lib.hid (by simpa [nots, cellsOf] using World.ownsRow_nil w1 w.heap.size 5 1), HB1⟩
    case round =>
      obtain ⟨k, hk, rfl, HO, HB⟩ := hrel
      by_cases hlt : k < len
      · have hkl : k < xs.length := by rw [HX.out]; exact hlt
        obtain ⟨b, off, hq, hbs, hc⟩ := HR.out (by omega)
        subst hq
        have hc0 := hc k hkl
        have hcell : wr.cell? ⟨b, off + k, none⟩ = some (.int .u8 (xs[k].toNat : Int)) := (HB.out.cell (p := ⟨b, off + k, none⟩) hbs).trans hc0
        have hnv := not_val xs[k]
        have hsg : IntKind.u8.signed = false := rfl
        have hx8 : xs[k].toNat < 256 := xs[k].toNat_lt
        have HTK := Lib.hid (show nots xs k ++ [notB xs[k]] = nots xs (k + 1) from by unfold nots; rw [take_succ' xs k hkl, List.map_append]; rfl)
        generalize xs[k] = x at hcell hnv hx8 HTK
        have hdk : decide ((k : Int) < (len : Int)) = true := by simp; omega
        have i1 : (0 : Int) ≤ (k : Int) := by omega
        have i2 : (k : Int) < (len : Int) := by omega
        have hb1 : Below wr.heap.size wr (wr.alloc (.cells #[.int .u8 ((notB x).toNat : Int)] 5)) := (Below.refl _ wr).alloc (Nat.le_refl _) _
        have HS := Lib.hid (row_val wr ((notB x).toNat : Int) (notB x) rfl)
        have HOW := Lib.hid (own_below HO.out hb1)
        have HB2 := Lib.hid (HB.out.trans (hb1.mono HB.out.size))
        have HZ := Lib.hid HB2.out.size
        generalize notB x = y at hnv HTK HB2 HOW HS HZ
        clear hc hc0 hkl HO HB hb1
        go_wp2_with (at_builtin; refine wpList_append_bytes rfl _ _ rfl w.heap.size _ k (nots xs k) rfl HOW.out (some ⟨wr.heap.size, 0, none⟩) 1 1 [y] rfl HS.out rfl (fun h => by cases h) (by omega) HZ.out ?_)
        intro v2 w2 hown2 hgrow2 _
        have HO3 := Lib.hid hown2
        have HB3 := Lib.hid (HB2.out.trans (grown_below HOW.out hgrow2 HZ.out))
        rw [HTK.out] at HO3
        clear hown2 hgrow2 HOW HS HZ HB2
        go_wp2_with fail
        go_roundw
        case rel => exact ⟨k + 1, by omega, by go_num, HO3, HB3⟩
        case measure => simp [intOf]; omega
      · have hke : k = len := by omega
        subst hke
        have hdk : decide ((k : Int) < (k : Int)) = false := by simp
        have ho := HO.out
        rw [show nots xs k = xs.map notB from by unfold nots; rw [List.take_of_length_le (by rw [HX.out]; exact Nat.le_refl _)]] at ho
        have hyl : (xs.map notB).length = k := by rw [List.length_map, HX.out]
        obtain ⟨q, c, rfl, hq0, hqc, hqm, hrow⟩ := own_shape ho hyl
        obtain ⟨R, hR1, hRl, hR⟩ := HF.out
        have HOA := Lib.hid (of_in p k cap xs (j + 1) wr (HR.out.below HB.out) HX.out (by omega) (by omega) (by omega))
        have HOB := Lib.hid (fun (w4 : World) (hb : Below wr.heap.size wr w4) => of_in q k c (xs.map notB) (j + 1) w4 (hrow.below hb) hyl (by omega) (by omega) (by omega))
        have hj1 : ((1 : Int) + (j : Int)) = (j : Int) + 1 := by omega
        have HR1 := Lib.hid hR1
        have HJ := Lib.hid (show (((j + 1 : Nat)) : Int) = 1 + (j : Int) from by omega)
        rw [HJ.out] at HOA
        simp only [HJ.out] at HOB
        clear ho hyl hrow HO hq0 hqc hqm hj1 hR1
        obtain ⟨r, hr⟩ : ∃ r, (zl R).length = r := ⟨_, rfl⟩
        have hr800 : r ≤ 801 := by rw [← hr, zl_length]; omega
        have hr0 : (zl (0 :: R)).length = r + 1 := by rw [← hr]; rfl
        rcases hR with ⟨hA, hB⟩ | ⟨hA, hB⟩
        · rw [hA] at HOA
          rw [hB] at HOB
          have HOA2 := Lib.hid (HOA.out.mono fun e w' h => LstP.m h hr0)
          have HOB2 := Lib.hid (fun w4 hb => (HOB.out w4 hb).mono fun e w' h => LstP.m h hr)
          have HRL := Lib.hid hr
          have HZ0 := Lib.hid (show zl (0 :: R) = 0 :: zl R from rfl)
          clear hA hB HF HOA HOB hr0 hr
          generalize zl (0 :: R) = Z0 at HOA2 HZ0
          generalize zl R = Z at HOB2 HRL HZ0
          go_wp2_with fail
          refine HOA2.out.mono ?_
          rintro e w3 ⟨hb3, qa, ca, rfl, hva, hqa0, hqac, hqam⟩
          have HB3 := Lib.hid (HB.out.trans (hb3.mono HB.out.size))
          have HVA := Lib.hid hva
          have HOB3 := Lib.hid (HOB2.out w3 hb3)
          clear hb3 hva HOB2 HOA2
          go_wp2_with fail
          refine HOB3.out.mono ?_
          rintro e w4 ⟨hb4, qb, cb, rfl, hvb, hqb0, hqbc, hqbm⟩
          have HB4 := Lib.hid (HB3.out.trans (hb4.mono HB3.out.size))
          have hva4 := HVA.out.below hb4 (Nat.le_refl _)
          obtain ⟨ba, oa, hq, _⟩ := hva4.addr (by rw [HZ0.out]; exact Nat.succ_pos _)
          subst hq
          have hca : w4.cell? ⟨ba, oa, none⟩ = some (.int .i64 0) := by
            have hva5 := hva4
            rw [HZ0.out] at hva5
            exact hva5.int 0 (Nat.succ_pos _)
          have htv := tail_v ca 1 hva4 (by rw [HZ0.out, List.length_cons, HRL.out]; exact hqac)
          rw [HZ0.out] at htv
          have hti : (Instr.slice 24 (.slice (some ⟨ba, oa, none⟩) (r + 1) ca) (some (.int .i64 1)) none none).run Try.prog w4 = .ok (.slice (tailA (some ⟨ba, oa, none⟩) ca 1) r (ca - 1)) w4 := tail_ints w4 (some ⟨ba, oa, none⟩) (r + 1) ca 1 (by omega)
          have HEQ := Lib.hid (fun n1 (hn : n1 = r) => equal_m (tailA (some ⟨ba, oa, none⟩) ca 1) qb r (ca - 1) cb Z w4 _ _ htv hvb HRL.out (by omega))
          have i1 : (0 : Int) < (r : Int) + 1 := by omega
          generalize tailA (some ⟨ba, oa, none⟩) ca 1 = qt at hti HEQ
          clear hb4 hvb HVA hva4 htv HOB3
          go_wp2_with fail
          refine (HEQ.out r rfl).mono ?_
          rintro e w5 ⟨rfl, hd5⟩
          have HB5 := Lib.hid (HB4.out.trans ((hd5.below _).mono HB4.out.size))
          clear hd5
          go_wp2_with fail
          go_ret
          exact ⟨rfl, HB5.out⟩
        · rw [hA] at HOA
          rw [hB] at HOB
          have HOA2 := Lib.hid (HOA.out.mono fun e w' h => LstP.m h hr)
          have HOB2 := Lib.hid (fun w4 hb => (HOB.out w4 hb).mono fun e w' h => LstP.m h hr0)
          have HRL := Lib.hid hr
          have HZ0 := Lib.hid (show zl (0 :: R) = 0 :: zl R from rfl)
          have HGE := Lib.hid (show ∀ (h : 0 < (zl R).length), (zl R)[0] ≠ 0 from fun h => by
            have h2 : 0 < R.length := by rw [zl_length] at h; exact h
            rw [zl_get R 0 h h2]
            have := HR1.out _ (List.getElem_mem h2)
            omega)
          clear hA hB HF HOA HOB hr0 hr
          generalize zl (0 :: R) = Z0 at HOB2 HZ0
          generalize zl R = Z at HOA2 HRL HZ0 HGE
          go_wp2_with fail
          refine HOA2.out.mono ?_
          rintro e w3 ⟨hb3, qa, ca, rfl, hva, hqa0, hqac, hqam⟩
          have HB3 := Lib.hid (HB.out.trans (hb3.mono HB.out.size))
          have HVA := Lib.hid hva
          have HOB3 := Lib.hid (HOB2.out w3 hb3)
          clear hb3 hva HOB2 HOA2
          go_wp2_with fail
          refine HOB3.out.mono ?_
          rintro e w4 ⟨hb4, qb, cb, rfl, hvb, hqb0, hqbc, hqbm⟩
          have HB4 := Lib.hid (HB3.out.trans (hb4.mono HB3.out.size))
          have hva4 := HVA.out.below hb4 (Nat.le_refl _)
          obtain ⟨bb, ob, hq, _⟩ := hvb.addr (by rw [HZ0.out]; exact Nat.succ_pos _)
          subst hq
          have hcb : w4.cell? ⟨bb, ob, none⟩ = some (.int .i64 0) := by
            have hva5 := hvb
            rw [HZ0.out] at hva5
            exact hva5.int 0 (Nat.succ_pos _)
          have htv := tail_v cb 1 hvb (by rw [HZ0.out, List.length_cons, HRL.out]; exact hqbc)
          rw [HZ0.out] at htv
          have hti : (Instr.slice 24 (.slice (some ⟨bb, ob, none⟩) (r + 1) cb) (some (.int .i64 1)) none none).run Try.prog w4 = .ok (.slice (tailA (some ⟨bb, ob, none⟩) cb 1) r (cb - 1)) w4 := tail_ints w4 (some ⟨bb, ob, none⟩) (r + 1) cb 1 (by omega)
          have HEQ := Lib.hid (equal_m qa (tailA (some ⟨bb, ob, none⟩) cb 1) r ca (cb - 1) Z w4 _ _ hva4 htv HRL.out (by omega))
          have i1 : (0 : Int) < (r : Int) + 1 := by omega
          generalize tailA (some ⟨bb, ob, none⟩) cb 1 = qt at hti HEQ
          rcases Nat.eq_zero_or_pos r with h0 | h0
          · have hdr : decide (0 < r) = false := by simp; omega
            clear hb4 hvb HVA hva4 htv HOB3 h0
            go_wp2_with fail
            refine HEQ.out.mono ?_
            rintro e w5 ⟨rfl, hd5⟩
            have HB5 := Lib.hid (HB4.out.trans ((hd5.below _).mono HB4.out.size))
            clear hd5
            go_wp2_with fail
            go_ret
            exact ⟨rfl, HB5.out⟩
          · have hdr : decide (0 < r) = true := by simp; omega
            have hzl : 0 < Z.length := by rw [HRL.out]; exact h0
            obtain ⟨ba, oa, hq, _⟩ := hva4.addr (by rw [ints_length]; exact hzl)
            subst hq
            have hca := hva4.int 0 hzl
            rw [Nat.add_zero] at hca
            have hne := HGE.out hzl
            generalize Z[0] = y at hca hne
            have hy0 : (y == 0) = false := by simpa using hne
            have i2 : (0 : Int) < (r : Int) := by omega
            clear hb4 hvb HVA hva4 htv HOB3 hne HGE
            go_wp2_with fail
            refine HEQ.out.mono ?_
            rintro e w5 ⟨rfl, hd5⟩
            have HB5 := Lib.hid (HB4.out.trans ((hd5.below _).mono HB4.out.size))
            clear hd5
            go_wp2_with fail
            go_ret
            exact ⟨rfl, HB5.out⟩
end Go.Proofs.Ytklofifmmcegpaa.Rn

/- IgQ, DgG, DgH, DgI: merged. -/
import Derived.Laws.BitsAllLaws
import Derived.Laws.Strings
import Derived.Laws.BytesArg
import Derived.Test.YtjafcjnkefioeaaGreatRows
import Derived.WalkKit
import Derived.ProofKit
import Derived.WalkLawsBesides
import Derived.Lib.Hide
import Derived.Deep.QuietTactic
import Derived.BigQuiet
import Derived.Outline
import Derived.Laws.NewBlocks
import Derived.Laws.CopyOwn
import Derived.Laws.Concat
import Derived.Laws.Strings2
import Derived.WalkSpells
import Derived.Laws.AppendOwnNone
import Derived.OpenShut
import Derived.Lib.SliceRun
import Derived.ChangeKeysEq
import Derived.Laws.Pointers
import Derived.Deep.RegionLaw
import Derived.Deep.DeepCutAuto
import Derived.BigRegion
import Derived.Deep.AppendLies
import Derived.Deep.RegionHeld3
import Derived.Laws.Externs
import Derived.Laws.IdiomCopy
import Derived.Lib.EndianMore
import Derived.Shelf.Spec.SlicesGrow
import Derived.LoopTactic
import Derived.Deep.LoopGhost
import Derived.Deep.MidRow
import Derived.Deep.WholeRow
import Derived.Laws.ResultCell
import Derived.Sort.LotA
import Derived.Shelf.SlSortCmp.PdqK
import Derived.ChangeSlices
import Derived.Lib.BufferMore
import Derived.RegionTactic
import Derived.OwnWalk
import Derived.Lib.MinMax
import Derived.Deep.Slices
import Derived.Deep.Fields
import Derived.ChangeSame
import Derived.Deep.OwnRows
import Derived.Lib.SlBytesConst
import Derived.Test.YtjafcjnkefioeaaGreatPak
import Derived.Test.YtjafcjnkefioeaaGreatPbe
import Derived.Test.YtjafcjnkefioeaaGreatPbh
set_option linter.unusedVariables false
set_option linter.unusedSimpArgs false
/- The contract of Inflate. -/
namespace Go.Proofs.YtjafcjnkefioeaaGreat.Inf
open Go.RowKit Go.Proofs.YtjafcjnkefioeaaGreat.Oct Go.Proofs.YtjafcjnkefioeaaGreat.Bit Go.Proofs.YtjafcjnkefioeaaGreat.Hf
set_option maxRecDepth 100000
theorem tab_own {w : World} {base : Nat} {far : Bool} {v : Value} (h : w.ownsRow base 63 2 v (froms far).length (bcells (pairsN far))) :
    ∃ b c, v = .slice (some ⟨b, 0, none⟩) (froms far).length c ∧ base ≤ b ∧ b < w.heap.size ∧ (froms far).length ≤ c ∧ ∀ w' : World, w'.heap[b]? = w.heap[b]? → TabR w' b far := by
  have hl := fun k hk => h.lt k hk
  have hc := fun g hg => h.cells (g := g) hg
  have hpos : 0 < (froms far).length := by cases far <;> decide
  rcases h.2 with ⟨_, h0⟩ | ⟨g, cap, cur, rfl, hb, hh, h1, _⟩
  · omega
  · refine ⟨g, cap, rfl, hb, (hl g rfl).2, h1, fun w' hw i hi => ?_⟩
    obtain ⟨k1, k2⟩ := bcells_get _ _ _ (pairs_get far i hi)
    have e1 := hc g rfl _ _ k1
    have e2 := hc g rfl _ _ k2
    rw [add_plain, Nat.zero_add] at e1 e2
    exact ⟨(World.cell?_of_block hw).trans e1, (World.cell?_of_block hw).trans e2⟩
def fin8 : R (List UInt8) → Except Nat (List UInt8 × Nat)
  | .ok (o, a) => .ok (o, (a + 7) / 8)
  | .error e => .error e
theorem inflate_fin (xs : List UInt8) (most : Nat) : inflate xs most = fin8 (inflA (bitsOf true xs) most 0 []) := by
  rw [inflate_eq]
  unfold fin8
  rcases inflA (bitsOf true xs) most 0 [] with e | ⟨o, a⟩ <;> rfl
def infZ (xs : List UInt8) (most : Int) : Except Nat (List UInt8 × Nat) := if most < 0 then .error 1 else inflate xs most.toNat
def InfP (w : World) (xs : List UInt8) (most : Int) (e : Ending) (w' : World) : Prop :=
  Below w.heap.size w w' ∧ ((∃ o k q c, infZ xs most = .ok (o, k) ∧ e = .returned (.tuple #[.slice q o.length c, .int .i64 (k : Int), .int .i64 0]) ∧ Row w' q o ∧ (q = none → c = 0) ∧ o.length ≤ c ∧ c ≤ maxLen ∧ k ≤ xs.length) ∨
    ∃ c, infZ xs most = .error c ∧ c ≠ 0 ∧ e = .returned (.tuple #[.slice none 0 0, .int .i64 0, .int .i64 (c : Int)]))
def InfSt (w0 w : World) (K : Kon) (X : R (List UInt8)) (last : Bool) (wr : World) : Prop :=
  ∃ a v out F, De wr K a v out F ∧ Below w0.heap.size w0 wr ∧ (last = true → X = .ok (out, a)) ∧ (last = false → inflA (bitsOf true K.xs) K.most a out = X)
theorem mine_below {w0 w w' : World} {K : Kon} {a : Nat} {v : Value} {out : List UInt8} {F : Option Fix} (h : De w K a v out F) (hg : w0.heap.size ≤ K.gr) (hb : Below w0.heap.size w0 w) (ho : Only (MineE K v) w w') : Below w0.heap.size w0 w' :=
  hb.trans (ho.below hb.size fun k hk e => by
    have h1 := h.lo
    rcases e with e | e | e
    · omega
    · omega
    · have := h.hv k e; omega)
set_option maxHeartbeats 4000000 in
theorem inflate_any (p : Option Addr) (len cap : Nat) (xs : List UInt8) (most : Int) (w : World) (hr : Row w p xs) (hx : xs.length = len) (hnil : p = none → cap = 0) (hl : len ≤ 100000) (hm : most ≤ 200000) :
    Calls Tryz.prog 10 #[.slice p len cap, .int .i64 most] w (InfP w xs most) := by
  by_cases hneg : most < 0
  · have HRES : Hid (InfP w xs most (.returned (.tuple #[.slice none 0 0, .int .i64 0, .int .i64 1])) w) := Lib.hid ⟨Below.refl _ _, .inr ⟨1, by unfold infZ; rw [if_pos hneg], by decide, rfl⟩⟩
    clear hr hx hnil
    go_enter Tryz.func10, Tryz.ntmps10
    go_wp2_with fail
    go_ret3
    exact HRES.out
  · obtain ⟨M, rfl⟩ : ∃ M : Nat, most = (M : Int) := ⟨most.toNat, by omega⟩
    have hM : M ≤ 200000 := by omega
    have hd0 : decide ((M : Int) < 0) = false := by simp
    have HNR := Lib.hid (newReader_any p len cap xs true w hr hx hnil (by omega))
    have HX := Lib.hid hx
    clear hr hx hnil hneg hm
    go_enter Tryz.func10, Tryz.ntmps10
    go_wp2_with fail
    refine HNR.out.mono ?_
    rintro e w1 ⟨hb1, gr, q1, cap1, rfl, hg, hR, hq1⟩
    have HB1 := Lib.hid hb1
    have HR := Lib.hid hR
    have hgr := hR.lt
    clear hb1 hR hq1
    go_wp2_with fail
    refine (lens_any w1).mono ?_
    rintro e w2 ⟨vl, rfl, hb2, ho2⟩
    obtain ⟨bl, cl, rfl, hbl1, hbl2, hcl, htl⟩ := tab_own ho2
    have HB2 := Lib.hid hb2
    have HTL := Lib.hid htl
    have HCL := Lib.hid hcl
    clear hb2 ho2 htl hcl
    go_wp2_with fail
    refine (dists_any w2).mono ?_
    rintro e w3 ⟨vd, rfl, hb3, ho3⟩
    obtain ⟨bd, cd, rfl, hbd1, hbd2, hcd, htd⟩ := tab_own ho3
    have HB3 := Lib.hid hb3
    have HTD := Lib.hid htd
    have HCD := Lib.hid hcd
    have hz1 := HB1.out.size
    have hz2 := HB2.out.size
    have hz3 := hb3.size
    obtain ⟨K, hK⟩ : ∃ K : Kon, K = ⟨w3.heap.size, gr, q1, cap1, xs, M, bl, cl, bd, cd⟩ := ⟨_, rfl⟩
    obtain ⟨wd, hwd⟩ : ∃ wd, wd = w3.alloc (.cells #[.pointer (some ⟨K.gr, 0, none⟩), .slice none 0 0, .int .i64 (M : Int), .slice (some ⟨bl, 0, none⟩) (froms false).length cl, .slice (some ⟨bd, 0, none⟩) (froms true).length cd, .pointer none, .pointer none] 55) := ⟨_, rfl⟩
    have hbd : Below w3.heap.size w3 wd := by rw [hwd]; exact (Below.refl _ w3).alloc (Nat.le_refl _) _
    have hbw : Below w.heap.size w wd := ((HB1.out.trans (HB2.out.mono hz1)).trans (hb3.mono (by omega))).trans (hbd.mono (by omega))
    have hDe : De wd K 0 (.slice none 0 0) [] none := by
      subst hK
      refine ⟨?_, ((HR.out.below HB2.out hgr).below hb3 (by omega)).below hbd (by omega), World.ownsRow_nil wd 0 5 1, ⟨by show w3.heap.size ≤ _; exact hbd.size, fun w' hz hs => ⟨HTL.out w' ?_, HTD.out w' ?_⟩⟩, by show gr < w3.heap.size; omega, (fun k hk => by cases hk), by simp, hM, trivial, ⟨HCL.out, HCD.out⟩⟩
      · rw [hwd]; exact Array.getElem?_push_size
      · rw [hs bl (by show gr + 1 ≤ bl; omega) (by show bl < w3.heap.size; omega), hbd.block bl (by omega), hb3.block bl (by omega)]
      · rw [hs bd (by show gr + 1 ≤ bd; omega) (by show bd < w3.heap.size; omega), hbd.block bd (by omega)]
    have hKd : w3.heap.size = K.d := by rw [hK]
    have hKg : gr = K.gr := by rw [hK]
    have hKx : K.xs = xs := by rw [hK]
    have hKm : K.most = M := by rw [hK]
    obtain ⟨X, hX⟩ : ∃ X, X = inflA (bitsOf true xs) M 0 [] := ⟨_, rfl⟩
    have HST : Hid (InfSt w wd K X false wd) := Lib.hid ⟨0, _, _, _, hDe, hbw, (fun h => by cases h), (fun _ => by rw [hKx, hKm]; exact hX.symm)⟩
    have HEQ : Hid (infZ xs (M : Int) = fin8 X) := Lib.hid (by
      unfold infZ
      rw [if_neg (by omega), Int.toNat_natCast, inflate_fin, hX])
    have HKX := Lib.hid hKx
    have HKM := Lib.hid hKm
    have HWD := Lib.hid hwd
    have hgK : w.heap.size ≤ K.gr := by omega
    have HBL := Lib.hid (bitsOf_length true K.xs)
    have HIE := Lib.hid (fun (a : Nat) (out : List UInt8) (h : a ≤ (bitsOf true K.xs).length) => inflA_eq (bitsOf true K.xs) K.most a out h)
    clear hb3 ho3 htd hcd hwd hbd hbw hDe hX hKx hKm hK HNR HB1 HB2 HB3
    go_wp2_with fail
    rw [← HWD.out]
    go_loopw [8, 9] (fun l _ wr => ∃ last : Bool, l = .bool last ∧ Hid (InfSt w wd K X last wr)) (fun _ _ wr => 8 * K.xs.length - posG wr K.gr)
    case atStart => exact ⟨false, rfl, HST⟩
    case round =>
      obtain ⟨last, rfl, HB⟩ := hrel
      obtain ⟨a, v, out, F, hD, hbw, hl1, hl2⟩ := HB.out
      have hpos : posG wr K.gr = a := posG_rd hD.rd
      have hab := hD.rd.2.2.1
      have HD := Lib.hid hD
      have HBW := Lib.hid hbw
      have HPOS := Lib.hid hpos
      cases last
      · have hrun := hl2 rfl
        rw [HIE.out a out (by rw [HBL.out]; exact hab)] at hrun
        have HRUN := Lib.hid hrun
        have HBLK := Lib.hid (block_any wr K a v out F hD)
        clear hD hbw hpos hl1 hl2 hrun HB HST
        go_wp2_with fail
        refine HBLK.out.mono ?_
        rintro e w4 hres
        rcases hres with ⟨h, b, o, a4, F4, hx, ho, rfl, v4, hD4, ho4, hv4⟩ | ⟨c, t, hx, hcne, rfl, ho4⟩
        · have hrun := HRUN.out
          rw [hx, R.then_ok, ho, R.then_ok] at hrun
          have hb3 := num_end hx
          obtain ⟨_, hb⟩ := num_lt hx (by omega)
          have hle := ((hon_one K.most (8 * K.xs.length + 1) h b out).le (v := o) (a := a4) (by rw [hb]; exact hb3) (by rw [oneA_of _ _ _ _ _ _ (by rw [hb]; exact hb3) (by rw [HBL.out]; omega)]; exact ho))
          rw [HBL.out] at hle
          have HNX : Hid (InfSt w wd K X (decide (h % 2 = 1)) w4 ∧ posG w4 K.gr = a4) := Lib.hid ⟨⟨a4, v4, o, F4, hD4, mine_below HD.out hgK HBW.out ho4, fun hd => by
            rw [if_pos (of_decide_eq_true hd)] at hrun; exact hrun.symm, fun hd => by
            rw [if_neg (of_decide_eq_false hd)] at hrun; exact hrun⟩, posG_rd hD4.rd⟩
          have hmv : a + 3 ≤ a4 ∧ a4 ≤ 8 * K.xs.length := ⟨by omega, hle.2⟩
          generalize decide (h % 2 = 1) = bb at HNX
          clear hx ho hD4 ho4 hv4 hrun hle hb3 hb
          go_wp2_with fail
          go_roundw
          case rel => exact ⟨bb, rfl, Lib.hid HNX.out.1⟩
          case measure =>
            rw [HNX.out.2, HPOS.out]
            omega
        · have hc0 : ((c : Int) != 0) = true := by simp; omega
          have HRES : Hid (InfP w xs (M : Int) (.returned (.tuple #[.slice none 0 0, .int .i64 0, .int .i64 (c : Int)])) w4) := Lib.hid ⟨mine_below HD.out hgK HBW.out ho4, .inr ⟨c, by
            have hXe : X = .error c := by
              rw [← HRUN.out]
              rcases hn : numR (bitsOf true K.xs) a 3 with e | ⟨h, b⟩
              · rw [hn] at hx; exact hx
              · rw [hn, R.then_ok] at hx
                rw [R.then_ok, hx]
                rfl
            rw [HEQ.out, hXe]; rfl, hcne, rfl⟩⟩
          clear hx ho4 hcne
          go_wp2_with fail
          go_ret3
          exact HRES.out
      · have hX2 := hl1 rfl
        obtain ⟨pp, cc, hv, hc1, hc2, hn0, hrow⟩ := hD.form
        have HAT := Lib.hid (fun n => at_any K.gr K.p K.cap K.xs a true (wr.drewN n) (hD.drawn (w' := wr.drewN n) ⟨n, rfl⟩).rd)
        have k1 := hD.c1
        have k0 := hD.c0
        rw [hv] at k1
        have hkx := HKX.out
        have hre := hD.rd.2.2.2
        have HRES : Hid (∀ n, InfP w xs (M : Int) (.returned (.tuple #[.slice pp out.length cc, .int .i64 (((a + 7) / 8 : Nat) : Int), .int .i64 0])) (wr.drewN n)) := Lib.hid fun n =>
          ⟨HBW.out.trans ((show Drawn wr (wr.drewN n) from ⟨n, rfl⟩).below _), .inl ⟨out, (a + 7) / 8, pp, cc, by rw [HEQ.out, hX2]; rfl, rfl, hrow, hn0, hc1, hc2, by rw [← HKX.out]; omega⟩⟩
        have HAT0 := Lib.hid (at_any K.gr K.p K.cap K.xs a true wr.drew (hD.drawn (w' := wr.drew) ⟨1, rfl⟩).rd)
        clear hD hbw hpos hl1 hl2 HB HST hX2 hrow hn0 hkx
        go_wp2_with fail
        go_quiet (first | (go_at_call 23; exact quietly HAT0.out) | (go_at_call 23; exact quietly (HAT.out _)))
        go_wp2_with fail
        go_ret3
        exact HRES.out _
end Go.Proofs.YtjafcjnkefioeaaGreat.Inf
/- The walk of the law DeflateAgain. -/
namespace Go.Proofs.YtjafcjnkefioeaaGreat.Df
open Go.RowKit Go.Proofs.YtjafcjnkefioeaaGreat.Oct Go.Proofs.YtjafcjnkefioeaaGreat.Bit Go.Proofs.YtjafcjnkefioeaaGreat.Hf Go.Proofs.YtjafcjnkefioeaaGreat.Inf
set_option maxRecDepth 100000
theorem inf_yes {w w' : World} {xs o : List UInt8} {most : Int} {e : Ending} {k n : Nat} (h : InfP w xs most e w') (hz : infZ xs most = .ok (o, k)) (hn : o.length = n) :
    Below w.heap.size w w' ∧ ∃ q c, e = .returned (.tuple #[.slice q n c, .int .i64 (k : Int), .int .i64 0]) ∧ Row w' q o ∧ (q = none → c = 0) ∧ n ≤ c ∧ c ≤ maxLen := by
  subst hn
  rcases h.2 with ⟨o', k', q, c, h1, h2, h3, h4, h5, h6, _⟩ | ⟨c, h1, _⟩
  · rw [hz] at h1
    cases h1
    exact ⟨h.1, q, c, h2, h3, h4, h5, h6⟩
  · rw [hz] at h1; cases h1
theorem inf_no {w w' : World} {xs : List UInt8} {most : Int} {e : Ending} {c : Nat} (h : InfP w xs most e w') (hz : infZ xs most = .error c) :
    Below w.heap.size w w' ∧ e = .returned (.tuple #[.slice none 0 0, .int .i64 0, .int .i64 (c : Int)]) := by
  rcases h.2 with ⟨o', k', q, c', h1, _⟩ | ⟨c', h1, _, h2⟩
  · rw [hz] at h1; cases h1
  · rw [hz] at h1
    cases h1
    exact ⟨h.1, h2⟩
theorem DefX.more {xs ys : List UInt8} {k n : Nat} (h : DefX xs k ys) (hn : xs.length = n) (zs : List UInt8) : infZ (ys ++ zs) (n : Int) = .ok (xs, ys.length) := by
  unfold infZ
  rw [if_neg (by omega), Int.toNat_natCast]
  exact (inflate_more (h.inf n (by omega)) zs).2
set_option maxHeartbeats 4000000 in
theorem again_walk (p : Option Addr) (len cap : Nat) (zs0 : List Int) (zt z : Int) (w : World)
    (hr0 : IsRow .u8 w p len cap zs0) (ht0 : (Lit.int .i64 zt).wf = true) (hz0 : (Lit.int .i64 z).wf = true) :
    Calls Tryz.prog 4 #[.slice p len cap, .int .i64 zt, .int .i64 z] w fun e w' => e = .returned (.bool true) ∧ Below w.heap.size w w' := by
  obtain ⟨xs, hx, hr, hlc, hcm, hnil⟩ := hr0.row
  obtain ⟨hzl, hzu⟩ := bounds_i64 hz0
  obtain ⟨htl, htu⟩ := bounds_i64 ht0
  clear hr0 hz0 ht0
  by_cases hbig : 300 < len
  · have hd : decide (300 < (len : Int)) = true := by simp; omega
    unfold maxLen at hcm
    go_enter Tryz.func4, Tryz.ntmps4
    go_wp2_with fail
    refine (lives_any _).mono ?_
    rintro e w1 ⟨rfl, hb1⟩
    go_wp2_with fail
    refine (lives_any _).mono ?_
    rintro e w2 ⟨rfl, hb2⟩
    go_wp2_with fail
    go_ret
    exact ⟨rfl, hb1.trans (hb2.mono hb1.size)⟩
  · have hd : decide (300 < (len : Int)) = false := by simp; omega
    have HX := Lib.hid hx
    have HR := Lib.hid hr
    have HCM := Lib.hid hcm
    have htp := spot_lt zt 80 (by omega)
    have htc : (IntKind.u64.wrap zt).tmod 80 = ((spot zt 80 : Nat) : Int) := spot_cast zt 80
    generalize spot zt 80 = t at htp htc
    have hhp := spot_lt z 3 (by omega)
    have hhc : (IntKind.u64.wrap z).tmod 3 = ((spot z 3 : Nat) : Int) := spot_cast z 3
    generalize spot z 3 = how at hhp hhc
    unfold maxLen at hcm
    clear hx hr
    go_enter Tryz.func4, Tryz.ntmps4
    go_wp2_with fail
    refine (lives_any _).mono ?_
    rintro e w1 ⟨rfl, hb1⟩
    have HB1 := Lib.hid hb1
    clear hb1
    go_wp2_with fail
    go_loopw [7, 30] (fun u i wr => ∃ (k : Nat) (q : Option Addr) (c : Nat), k ≤ 1 + t ∧ i = .int .i64 (k : Int) ∧ u = .slice q (k * len) c ∧ Hid (wr.ownsRow w1.heap.size 5 1 (.slice q (k * len) c) (k * len) (cellsOf (rep xs k))) ∧ Hid (Below w1.heap.size w1 wr))
      (fun _ i _ => 1 + t - (intOf i).toNat)
    case atStart => exact ⟨0, none, 0, by omega, rfl, by simp, Lib.hid (by simpa [rep, cellsOf] using World.ownsRow_nil w1 w1.heap.size 5 1), Lib.hid (Below.refl _ _)⟩
    case round =>
      obtain ⟨k, q, c, hk, rfl, rfl, HO, HB⟩ := hrel
      have hkl : k * len ≤ 80 * 300 := Nat.mul_le_mul (by omega) (by omega)
      by_cases hlt : k < 1 + t
      · have hd5 : decide ((k : Int) < 1 + (t : Int)) = true := by simp; omega
        have HRx := Lib.hid (HR.out.below (HB1.out.trans (HB.out.mono HB1.out.size)))
        have HZ := Lib.hid HB.out.size
        have HRL := Lib.hid (rep_length xs k)
        have hmul : (k + 1) * len = k * len + len := Nat.succ_mul k len
        have HMU := Lib.hid hmul
        clear hmul
        go_wp2_with (at_builtin; refine wpList_append_bytes rfl _ _ rfl w1.heap.size _ (k * len) (rep xs k) rfl HO.out p len cap xs rfl HRx.out HX.out hnil (by omega) HZ.out ?_)
        intro v2 w2 hown2 hgrow2 hv2
        obtain ⟨q2, c2, rfl, _, _, _, _⟩ := own_shape hown2 (by rw [List.length_append, HRL.out, HX.out])
        have HB2 := Lib.hid (HB.out.trans (grown_below HO.out hgrow2 HZ.out))
        rw [← rep_snoc] at hown2
        have HO2 := Lib.hid hown2
        clear hown2 hgrow2 hv2
        go_wp2_with fail
        go_roundw
        case rel => exact ⟨k + 1, q2, c2, by omega, by go_num, by rw [HMU.out], by rw [HMU.out]; exact HO2, HB2⟩
        case measure => simp [intOf]; omega
      · have hke : k = 1 + t := by omega
        subst hke
        have hd5 : decide (((1 + t : Nat) : Int) < 1 + (t : Int)) = false := by simp
        have HRL := Lib.hid ((rep_length xs (1 + t)).trans (by rw [HX.out]))
        generalize rep xs (1 + t) = all at *
        generalize (1 + t) * len = n at *
        obtain ⟨q0, c0, hqe, hq0, hnc, hc0, hrow0⟩ := own_shape HO.out HRL.out
        injection hqe with e1 e2 e3
        subst e1; subst e3
        have HRy := Lib.hid hrow0
        have HBy := Lib.hid (HB1.out.trans (HB.out.mono HB1.out.size))
        have HD := Lib.hid (deflate_any wr q n c all (how : Int) hrow0 HRL.out hnc hc0 ⟨by rw [HRL.out]; omega, fun _ => .inl (by rw [HRL.out]; omega)⟩)
        unfold maxLen at hc0
        clear hrow0 HO HB e2 htc
        go_wp2_with fail
        refine HD.out.mono ?_
        rintro e w2 hres
        obtain ⟨hb2, ys, q1, c1, N, hN, hX, rfl, hrow1, hoc1, hcm1, hq1, _⟩ := def_yes (by omega) hres
        have hNl : N ≤ 50000 := by have := hX.len; have := HRL.out; omega
        have HXM := Lib.hid (hX.more HRL.out [9])
        have HB2 := Lib.hid (HBy.out.trans (hb2.mono HBy.out.size))
        have HRy2 := Lib.hid (HRy.out.below hb2)
        have HN := Lib.hid hN
        have hown := World.ownsRow_made (base := w2.heap.size) (e := 5) (size := 1) w2 #[] 0 (Nat.le_refl _) (by simp [maxLen]) rfl
        have hbA : Below w2.heap.size w2 (w2.alloc (.cells #[] 5)) := (Below.refl _ w2).alloc (Nat.le_refl _) _
        have HRA := Lib.hid (hrow1.below hbA)
        have HBA := Lib.hid hbA
        unfold maxLen at hcm1
        clear hb2 hrow1 hbA HRy hN hX hres HD
        go_wp2_with (at_builtin; refine wpList_append_bytes rfl _ _ rfl w2.heap.size _ 0 [] rfl hown q1 N c1 ys rfl HRA.out HN.out.symm hq1 (by omega) (by simp) ?_)
        intro v5 w5 hown5 hgrow5 hv5
        have HB5 := Lib.hid (HBA.out.trans (grown_below hown hgrow5 HBA.out.size))
        obtain ⟨q5, c5, rfl, _, _, _, _⟩ := own_shape hown5 HN.out.symm
        have hb3 : Below w5.heap.size w5 (w5.alloc (.cells (cellsOf [9]).toArray 5)) := (Below.refl _ w5).alloc (Nat.le_refl _) _
        have HO5 := Lib.hid (own_below hown5 hb3)
        have HR3 := Lib.hid (row_newD w5 [9] 5 (0, 0))
        have HB53 := Lib.hid (HB5.out.trans (hb3.mono HB5.out.size))
        have HZ5 := Lib.hid HB53.out.size
        clear hown hown5 hgrow5 hv5 HRA HBA hb3
        go_wp2_with (at_builtin; refine wpList_append_bytes rfl _ _ rfl w2.heap.size _ N ys rfl HO5.out (some ⟨w5.heap.size, 0, none⟩) 1 1 [9] rfl HR3.out rfl (fun h => by cases h) (by omega) HZ5.out ?_)
        intro v6 w6 hown6 hgrow6 hv6
        have hl6 : (ys ++ [9]).length = N + 1 := by rw [List.length_append, HN.out]; rfl
        obtain ⟨q6, c6, rfl, hq6, hc6, hm6, hrow6⟩ := own_shape hown6 hl6
        have HB6 := Lib.hid (HB53.out.trans (grown_below HO5.out hgrow6 HZ5.out))
        have HIN := Lib.hid (inflate_any q6 (N + 1) c6 (ys ++ [9]) (n : Int) w6 hrow6 hl6 hq6 (by omega) (by omega))
        clear hown6 hgrow6 hv6 hrow6 hl6 hm6 HO5 HZ5 HR3 HB5 HB53 hq6
        go_wp2_with fail
        refine HIN.out.mono ?_
        rintro e w7 hres
        obtain ⟨hb7, q7, c7, rfl, hrow7, _⟩ := inf_yes hres HXM.out HRL.out
        have HB27 := Lib.hid (HB6.out.trans (hb7.mono HB6.out.size))
        have HB7 := Lib.hid (HB2.out.trans (HB27.out.mono HB2.out.size))
        have ca1 := conv_row n c7 hrow7 HRL.out
        have ca2 := conv_row n c (HRy2.out.below HB27.out) HRL.out
        rw [← HN.out]
        clear hrow7 hb7 hres HIN
        go_wp2_with fail
        go_ret
        exact ⟨rfl, HB7.out⟩
end Go.Proofs.YtjafcjnkefioeaaGreat.Df
/- The walk of the law DeflateShort. -/
namespace Go.Proofs.YtjafcjnkefioeaaGreat.Df
open Go.RowKit Go.Proofs.YtjafcjnkefioeaaGreat.Oct Go.Proofs.YtjafcjnkefioeaaGreat.Bit Go.Proofs.YtjafcjnkefioeaaGreat.Hf Go.Proofs.YtjafcjnkefioeaaGreat.Inf
set_option maxRecDepth 100000
set_option maxHeartbeats 4000000 in
theorem short_walk (zc z : Int) (b : Bool) (w : World) (hc0 : (Lit.int .u8 zc).wf = true) (hz0 : (Lit.int .i64 z).wf = true) :
    Calls Tryz.prog 5 #[.int .u8 zc, .int .i64 z, .bool b] w fun e w' => e = .returned (.bool true) ∧ Below w.heap.size w w' := by
  obtain ⟨i0, hi, hz0', hz1', hz2'⟩ := info_parts Tryz.infoByte
  obtain ⟨hzl, hzu⟩ := bounds_i64 hz0
  obtain ⟨c0, rfl⟩ : ∃ c0 : UInt8, zc = (c0.toNat : Int) := by
    obtain ⟨h1, h2⟩ := bounds_u8 hc0
    exact ⟨UInt8.ofNat zc.toNat, by rw [UInt8.toNat_ofNat']; omega⟩
  have htp := spot_lt z 100000 (by omega)
  have htc : (IntKind.u64.wrap z).tmod 100000 = ((spot z 100000 : Nat) : Int) := spot_cast z 100000
  generalize spot z 100000 = t at htp htc
  obtain ⟨n, hn⟩ : ∃ n, n = 1 + t := ⟨_, rfl⟩
  have hn1 : (1 : Int) + (t : Int) = (n : Int) := by omega
  have hn5 : n ≤ 100000 := by omega
  have hn0 : 1 ≤ n := by omega
  obtain ⟨ps, hps⟩ : ∃ ps, ps = List.replicate n c0 := ⟨_, rfl⟩
  have hpl : ps.length = n := by rw [hps, List.length_replicate]
  have HPS := Lib.hid hps
  have HPL := Lib.hid hpl
  have hc8 : c0.toNat < 256 := c0.toNat_lt
  clear hps hpl hn hc0 hz0
  go_enter Tryz.func5, Tryz.ntmps5
  go_wp2_with fail
  refine (lives_any _).mono ?_
  rintro e w0 ⟨rfl, hb0⟩
  have HB0 := Lib.hid hb0
  clear hb0
  go_wp2_with (at_make; refine wpList_make_full _ rfl _ _ 22 rfl w0.heap.size 5 i0 (.int .u8 0) 1 Tryz.underlying22 hi hz0' hz1' .i64 .i64 (n : Int) (n : Int) n rfl rfl rfl rfl ?c2 ?c3 ?c4 ?_)
  case c2 => rw [hz2']; omega
  case c3 => unfold maxLen; omega
  case c4 => omega
  intro w1 hown hgrow
  have hg0 := blk_of_own hown
  have hb1 : Below w0.heap.size w0 w1 := (Below.refl _ _).grown hgrow (Nat.le_refl _) (fun k hk => by cases hk)
  have hP : Blk w1 w0.heap.size (fillL ps 0) := by
    unfold Blk
    rw [fillL_zero, HPL.out, ← made_zero]
    simpa using hg0
  obtain ⟨g, hg⟩ : ∃ g, g = w0.heap.size := ⟨_, rfl⟩
  rw [← hg] at hP ⊢
  have HG := Lib.hid hg
  have HP := Lib.hid hP
  have HB1 := Lib.hid hb1
  clear hown hgrow hg0 hb1 hP hg
  go_wp2_with fail
  go_loopw [27] (fun i wr => ∃ k : Nat, k ≤ n ∧ i = .int .i64 (k : Int) ∧ Hid (Blk wr g (fillL ps k)) ∧ Hid (Below w0.heap.size w0 wr)) (fun i _ => n - (intOf i).toNat)
  case atStart => exact ⟨0, by omega, rfl, HP, HB1⟩
  case round =>
    obtain ⟨k, hk, rfl, HP, HB⟩ := hrel
    by_cases hlt : k < n
    · have hd : decide ((k : Int) < (n : Int)) = true := by simp; omega
      have i0' : (0 : Int) ≤ (k : Int) := by omega
      have i1' : (k : Int) < (n : Int) := by omega
      have hlen : k < ps.length := by rw [HPL.out]; exact hlt
      have hfl : k < (fillL ps k).length := by rw [fillL_length _ _ (by omega)]; exact hlen
      have hc := HP.out.cell k hfl
      have hfz := HP.out.frozen k
      generalize (fillL ps k)[k] = old at hc
      have hpk : ps[k] = c0 := by
        have : ∀ h, ps[k]'h = c0 := by rw [HPS.out]; intro h; simp
        exact this hlen
      have HS := Lib.hid (HP.out.set_ k ps[k])
      rw [fillL_step _ _ hlen, hpk] at HS
      have HB2 := Lib.hid (HB.out.setCell (p := ⟨g, k, none⟩) (by rw [HG.out]; exact Nat.le_refl _) (.int .u8 (c0.toNat : Int)))
      clear hpk hfl
      go_wp2_with fail
      go_roundw
      case rel => exact ⟨k + 1, by omega, by go_num, HS, HB2⟩
      case measure => simp [intOf]; omega
    · have hke : k = n := by omega
      have hd : decide ((k : Int) < (n : Int)) = false := by simp; omega
      have HPZ0 := HP.out.row
      rw [hke, ← HPL.out, fillL_all] at HPZ0
      have HPZ := Lib.hid HPZ0
      have HBW := Lib.hid (HB0.out.trans (HB.out.mono HB0.out.size))
      clear HPZ0 HP HB HB1 hke
      cases b
      · have HD := Lib.hid (deflate_any wr (some ⟨g, 0, none⟩) n n ps 1 HPZ.out HPL.out (Nat.le_refl _) (by unfold maxLen; omega) ⟨by rw [HPL.out]; omega, fun _ => .inr ⟨by rw [HPL.out]; omega, c0, by rw [HPL.out]; exact HPS.out⟩⟩)
        go_wp2_with fail
        refine HD.out.mono ?_
        rintro e w2 hres
        obtain ⟨hb2, ys, q1, c1, N, hN, hX, rfl, hrow1, hoc1, hcm1, hq1, _⟩ := def_yes (k := 1) (by omega) hres
        have hfew := hX.few c0 (by rw [HPL.out]; exact HPS.out) (by rw [HPL.out]; omega) (by rw [HPL.out]; omega)
        rw [HPL.out] at hfew
        have hNl : N ≤ 40 + n / 32 := by rw [hN]; exact hfew.1 rfl
        have hle1 : decide ((N : Int) ≤ 40 + (n : Int) / 32) = true := decide_eq_true (by omega)
        have hle2 : (N : Int) ≤ 40 + (n : Int) / 32 := by omega
        have hxm := hX.more HPL.out []
        rw [List.append_nil] at hxm
        have HXM := Lib.hid hxm
        have HN := Lib.hid hN
        have HB2 := Lib.hid (HBW.out.trans (hb2.mono HBW.out.size))
        have HRy2 := Lib.hid (HPZ.out.below hb2)
        have HIN := Lib.hid (inflate_any q1 N c1 ys (n : Int) w2 hrow1 hN.symm hq1 (by omega) (by omega))
        clear hb2 hrow1 hoc1 hcm1 hq1 hX hres hfew hxm HD hN
        go_wp2_with fail
        refine HIN.out.mono ?_
        rintro e w7 hres
        obtain ⟨hb7, q7, c7, rfl, hrow7, _⟩ := inf_yes hres HXM.out HPL.out
        have HB7 := Lib.hid (HB2.out.trans (hb7.mono HB2.out.size))
        have ca1 := conv_row n c7 hrow7 HPL.out
        have ca2 := conv_row n n (HRy2.out.below hb7) HPL.out
        rw [← HN.out]
        clear hrow7 hb7 hres HIN
        go_wp2_with fail
        go_ret
        exact ⟨rfl, HB7.out⟩
      · have HD := Lib.hid (deflate_any wr (some ⟨g, 0, none⟩) n n ps 2 HPZ.out HPL.out (Nat.le_refl _) (by unfold maxLen; omega) ⟨by rw [HPL.out]; omega, fun _ => .inr ⟨by rw [HPL.out]; omega, c0, by rw [HPL.out]; exact HPS.out⟩⟩)
        go_wp2_with fail
        refine HD.out.mono ?_
        rintro e w2 hres
        obtain ⟨hb2, ys, q1, c1, N, hN, hX, rfl, hrow1, hoc1, hcm1, hq1, _⟩ := def_yes (k := 2) (by omega) hres
        have hfew := hX.few c0 (by rw [HPL.out]; exact HPS.out) (by rw [HPL.out]; omega) (by rw [HPL.out]; omega)
        rw [HPL.out] at hfew
        have hNl : N ≤ 100 + n / 32 := by rw [hN]; exact hfew.2 rfl
        have hle1 : decide ((N : Int) ≤ 100 + (n : Int) / 32) = true := decide_eq_true (by omega)
        have hle2 : (N : Int) ≤ 100 + (n : Int) / 32 := by omega
        have hxm := hX.more HPL.out []
        rw [List.append_nil] at hxm
        have HXM := Lib.hid hxm
        have HN := Lib.hid hN
        have HB2 := Lib.hid (HBW.out.trans (hb2.mono HBW.out.size))
        have HRy2 := Lib.hid (HPZ.out.below hb2)
        have HIN := Lib.hid (inflate_any q1 N c1 ys (n : Int) w2 hrow1 hN.symm hq1 (by omega) (by omega))
        clear hb2 hrow1 hoc1 hcm1 hq1 hX hres hfew hxm HD hN
        go_wp2_with fail
        refine HIN.out.mono ?_
        rintro e w7 hres
        obtain ⟨hb7, q7, c7, rfl, hrow7, _⟩ := inf_yes hres HXM.out HPL.out
        have HB7 := Lib.hid (HB2.out.trans (hb7.mono HB2.out.size))
        have ca1 := conv_row n c7 hrow7 HPL.out
        have ca2 := conv_row n n (HRy2.out.below hb7) HPL.out
        rw [← HN.out]
        clear hrow7 hb7 hres HIN
        go_wp2_with fail
        go_ret
        exact ⟨rfl, HB7.out⟩
end Go.Proofs.YtjafcjnkefioeaaGreat.Df
/- The walk of the law DeflateAlike. -/
namespace Go.Proofs.YtjafcjnkefioeaaGreat.Df
open Go.RowKit Go.Proofs.YtjafcjnkefioeaaGreat.Oct Go.Proofs.YtjafcjnkefioeaaGreat.Bit Go.Proofs.YtjafcjnkefioeaaGreat.Hf Go.Proofs.YtjafcjnkefioeaaGreat.Inf
set_option maxRecDepth 100000
theorem DefX.less {xs ys : List UInt8} {k n : Nat} (h : DefX xs k ys) (hn : xs.length = n) : (n = 0 ∧ infZ ys ((n : Int) - 1) = .error 1) ∨ (0 < n ∧ infZ ys ((n : Int) - 1) = .error 8) := by
  unfold infZ
  rcases Nat.eq_zero_or_pos n with e | e
  · exact .inl ⟨e, by rw [if_pos (by omega)]⟩
  · refine .inr ⟨e, ?_⟩
    rw [if_neg (by omega)]
    have h1 := h.inf n (by omega)
    exact inflate_limit h1 (by omega) (by omega)
set_option maxHeartbeats 4000000 in
theorem alike_walk (p : Option Addr) (len cap : Nat) (zs0 : List Int) (p2 : Option Addr) (len2 cap2 : Nat) (zs2 : List Int) (w : World)
    (hr0 : IsRow .u8 w p len cap zs0) (hr20 : IsRow .u8 w p2 len2 cap2 zs2) :
    Calls Tryz.prog 6 #[.slice p len cap, .slice p2 len2 cap2] w fun e w' => e = .returned (.bool true) ∧ Below w.heap.size w w' := by
  obtain ⟨xs, hx, hr, hlc, hcm, hnil⟩ := hr0.row
  obtain ⟨ts, hy, hrY, hlc2, hcm2, hnil2⟩ := hr20.row
  clear hr0 hr20
  by_cases hbig : 2000 < len ∨ 100 < len2
  · have hd1 : decide (2000 < (len : Int)) = true ∨ (decide (2000 < (len : Int)) = false ∧ decide (100 < (len2 : Int)) = true) := by
      by_cases h : 2000 < len
      · left; simp; omega
      · right; simp; omega
    unfold maxLen at hcm hcm2
    rcases hd1 with hd | ⟨hd, hd'⟩
    all_goals
      go_enter Tryz.func6, Tryz.ntmps6
      go_wp2_with fail
      refine (lives_any _).mono ?_
      rintro e w1 ⟨rfl, hb1⟩
      go_wp2_with fail
      refine (lives_any _).mono ?_
      rintro e w2 ⟨rfl, hb2⟩
      go_wp2_with fail
      go_ret
      exact ⟨rfl, hb1.trans (hb2.mono hb1.size)⟩
  · have hd : decide (2000 < (len : Int)) = false := by simp; omega
    have hd' : decide (100 < (len2 : Int)) = false := by simp; omega
    have hl2 : len ≤ 2000 := by omega
    have hl3 : len2 ≤ 100 := by omega
    have HX := Lib.hid hx
    have HY := Lib.hid hy
    have HR := Lib.hid hr
    have HRY := Lib.hid hrY
    have HC := Lib.hid (And.intro hlc hcm)
    clear hx hy hr hrY hbig
    unfold maxLen at hcm hcm2
    go_enter Tryz.func6, Tryz.ntmps6
    go_wp2_with fail
    refine (lives_any _).mono ?_
    rintro e w1 ⟨rfl, hb1⟩
    have HB1 := Lib.hid hb1
    clear hb1
    go_wp2_with fail
    go_loopw [27] (fun i wr => ∃ k : Nat, k ≤ 3 ∧ i = .int .i64 (k : Int) ∧ Hid (Below w.heap.size w wr)) (fun i _ => 3 - (intOf i).toNat)
    case atStart => exact ⟨0, by omega, rfl, HB1⟩
    case round =>
      obtain ⟨k, hk, rfl, HB⟩ := hrel
      by_cases hlt : k < 3
      · have hd3 : decide ((k : Int) < 3) = true := decide_eq_true (by omega)
        have HD := Lib.hid (deflate_any wr p len cap xs (k : Int) (HR.out.below HB.out) HX.out HC.out.1 HC.out.2 ⟨by rw [HX.out]; omega, fun _ => .inl (by rw [HX.out]; omega)⟩)
        go_wp2_with fail
        refine HD.out.mono ?_
        rintro e w2 hres
        obtain ⟨hb2, ys, q1, c1, N, hN, hX, rfl, hrow1, hoc1, hcm1, hq1, _⟩ := def_yes (by omega) hres
        have hNl : N ≤ 6000 := by have := hX.len; have := HX.out; omega
        have HXM := Lib.hid (hX.more HX.out ts)
        have HLS := Lib.hid (hX.less HX.out)
        have HB2 := Lib.hid (HB.out.trans (hb2.mono HB.out.size))
        have HN := Lib.hid hN
        have hown := World.ownsRow_made (base := w2.heap.size) (e := 5) (size := 1) w2 #[] 0 (Nat.le_refl _) (by simp [maxLen]) rfl
        have hbA : Below w2.heap.size w2 (w2.alloc (.cells #[] 5)) := (Below.refl _ w2).alloc (Nat.le_refl _) _
        have HRA := Lib.hid (hrow1.below hbA)
        have HR1 := Lib.hid hrow1
        have HBA := Lib.hid hbA
        unfold maxLen at hcm1
        clear hb2 hrow1 hbA hN hX hres HD
        go_wp2_with (at_builtin; refine wpList_append_bytes rfl _ _ rfl w2.heap.size _ 0 [] rfl hown q1 N c1 ys rfl HRA.out HN.out.symm hq1 (by omega) (by simp) ?_)
        intro v5 w5 hown5 hgrow5 hv5
        have HB5 := Lib.hid (HBA.out.trans (grown_below hown hgrow5 HBA.out.size))
        obtain ⟨q5, c5, rfl, _, _, _, _⟩ := own_shape hown5 HN.out.symm
        have HO5 := Lib.hid hown5
        have HZ5 := Lib.hid HB5.out.size
        have HRT := Lib.hid (HRY.out.below (HB2.out.trans (HB5.out.mono HB2.out.size)))
        clear hown hown5 hgrow5 hv5 HRA HBA
        go_wp2_with (at_builtin; refine wpList_append_bytes rfl _ _ rfl w2.heap.size _ N ys rfl HO5.out p2 len2 cap2 ts rfl HRT.out HY.out hnil2 (by omega) HZ5.out ?_)
        intro v6 w6 hown6 hgrow6 hv6
        have hl6 : (ys ++ ts).length = N + len2 := by rw [List.length_append, HN.out, HY.out]
        obtain ⟨q6, c6, rfl, hq6, hc6, hm6, hrow6⟩ := own_shape hown6 hl6
        have HB6 := Lib.hid (HB5.out.trans (grown_below HO5.out hgrow6 HZ5.out))
        have HIN := Lib.hid (inflate_any q6 (N + len2) c6 (ys ++ ts) (len : Int) w6 hrow6 hl6 hq6 (by omega) (by omega))
        clear hown6 hgrow6 hv6 hrow6 hl6 hm6 HO5 HZ5 HB5 hq6 HRT
        go_wp2_with fail
        refine HIN.out.mono ?_
        rintro e w7 hres
        obtain ⟨hb7, q7, c7, rfl, hrow7, _⟩ := inf_yes hres HXM.out HX.out
        have HB27 := Lib.hid (HB6.out.trans (hb7.mono HB6.out.size))
        have HB7 := Lib.hid (HB2.out.trans (HB27.out.mono HB2.out.size))
        have ca1 := conv_row len c7 hrow7 HX.out
        have ca2 := conv_row len cap (HR.out.below HB7.out) HX.out
        have HIN2 := Lib.hid (inflate_any q1 N c1 ys ((len : Int) - 1) w7 (HR1.out.below HB27.out) HN.out.symm hq1 (by omega) (by omega))
        rw [← HN.out]
        clear hrow7 hb7 hres HIN
        rcases HLS.out with ⟨hz, hinf⟩ | ⟨hp, hinf⟩
        · have hdz : decide ((0 : Int) < (len : Int)) = false := decide_eq_false (by omega)
          have hdz2 : ¬ ((0 : Int) < (len : Int)) := by omega
          have hdz3 : ¬ (0 < len) := by omega
          have HINF := Lib.hid hinf
          clear hinf hz
          go_wp2_with fail
          refine HIN2.out.mono ?_
          rintro e w8 hres
          obtain ⟨hb8, rfl⟩ := inf_no hres HINF.out
          have HB8 := Lib.hid (HB7.out.trans (hb8.mono HB7.out.size))
          clear hres hb8 ca1 ca2 HIN2
          go_wp2_with fail
          refine ⟨⟨k + 1, by omega, by go_num, HB8⟩, ?_⟩
          simp [intOf]
          omega
        · have hdz : decide ((0 : Int) < (len : Int)) = true := decide_eq_true (by omega)
          have HINF := Lib.hid hinf
          clear hinf
          go_wp2_with fail
          refine HIN2.out.mono ?_
          rintro e w8 hres
          obtain ⟨hb8, he8⟩ := inf_no hres HINF.out
          have he9 : e = .returned (.tuple #[.slice none 0 0, .int .i64 0, .int .i64 8]) := he8
          subst he9
          have HB8 := Lib.hid (HB7.out.trans (hb8.mono HB7.out.size))
          clear hres hb8 he8 ca1 ca2 HIN2
          go_wp2_with fail
          refine ⟨⟨k + 1, by omega, by go_num, HB8⟩, ?_⟩
          simp [intOf]
          omega
      · have hke : k = 3 := by omega
        have hd3 : decide ((k : Int) < 3) = false := decide_eq_false (by omega)
        go_wp2_with fail
        go_ret
        exact ⟨rfl, HB.out⟩
end Go.Proofs.YtjafcjnkefioeaaGreat.Df

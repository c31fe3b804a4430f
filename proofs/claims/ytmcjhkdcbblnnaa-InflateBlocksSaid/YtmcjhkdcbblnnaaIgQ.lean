
/- The contract of Inflate. -/
import Derived.Test.YtmcjhkdcbblnnaaIgP
import Derived.Test.YtmcjhkdcbblnnaaIgJ
import Derived.Deep.QuietTactic
import Derived.BigQuiet
namespace Go.Proofs.Ytmcjhkdcbblnnaa.Inf
open Go.RowKit Go.Proofs.Ytmcjhkdcbblnnaa.Oct Go.Proofs.Ytmcjhkdcbblnnaa.Bit Go.Proofs.Ytmcjhkdcbblnnaa.Hf
set_option linter.unusedVariables false
set_option linter.unusedSimpArgs false
set_option maxRecDepth 100000

theorem tab_own {w : World} {base : Nat} {far : Bool} {v : Value} (h : w.ownsRow base 40 2 v (froms far).length (bcells (pairsN far))) :
    ∃ b c, v = .slice (some ⟨b, 0, none⟩) (froms far).length c ∧ base ≤ b ∧ b < w.heap.size ∧ (froms far).length ≤ c ∧ ∀ w' : World, w'.heap[b]? = w.heap[b]? → TabR w' b far := by
  have hl := fun k hk => h.lt k hk
  have hc := fun g hg => h.cells (g := g) hg
  have hpos : 0 < (froms far).length := by cases far <;> decide
  rcases h.2 with ⟨_, h0⟩ | ⟨g, cap, cur, rfl, hb, hh, h1, _⟩
  · omega
  · refine ⟨g, cap, rfl, hb, (hl g rfl).2, h1, fun w' hw i hi => ?_⟩
    obtain ⟨k1, k2⟩ := bcells_get _ _ _ (pairs_get far i hi)
    have e1 := hc g rfl _ _ k1
    have e2 := hc g rfl _ _ k2
    rw [add_plain, Nat.zero_add] at e1 e2
    exact ⟨(World.cell?_of_block hw).trans e1, (World.cell?_of_block hw).trans e2⟩
def fin8 : R (List UInt8) → Except Nat (List UInt8 × Nat)
  | .ok (o, a) => .ok (o, (a + 7) / 8)
  | .error e => .error e
theorem inflate_fin (xs : List UInt8) (most : Nat) : inflate xs most = fin8 (inflA (bitsOf true xs) most 0 []) := by
  rw [inflate_eq]
  unfold fin8
  rcases inflA (bitsOf true xs) most 0 [] with e | ⟨o, a⟩ <;> rfl
/-- what any bytes stand for, or what is wrong -/
def infZ (xs : List UInt8) (most : Int) : Except Nat (List UInt8 × Nat) := if most < 0 then .error 1 else inflate xs most.toNat
def InfP (w : World) (xs : List UInt8) (most : Int) (e : Ending) (w' : World) : Prop :=
  Below w.heap.size w w' ∧ ((∃ o k q c, infZ xs most = .ok (o, k) ∧ e = .returned (.tuple #[.slice q o.length c, .int .i64 (k : Int), .int .i64 0]) ∧ Row w' q o ∧ (q = none → c = 0) ∧ o.length ≤ c ∧ c ≤ maxLen ∧ k ≤ xs.length) ∨
    ∃ c, infZ xs most = .error c ∧ c ≠ 0 ∧ e = .returned (.tuple #[.slice none 0 0, .int .i64 0, .int .i64 (c : Int)]))
/-- blocks one behind the other -/
def InfSt (w0 w : World) (K : Kon) (X : R (List UInt8)) (last : Bool) (wr : World) : Prop :=
  ∃ a v out F, De wr K a v out F ∧ Below w0.heap.size w0 wr ∧ (last = true → X = .ok (out, a)) ∧ (last = false → inflA (bitsOf true K.xs) K.most a out = X)
theorem mine_below {w0 w w' : World} {K : Kon} {a : Nat} {v : Value} {out : List UInt8} {F : Option Fix} (h : De w K a v out F) (hg : w0.heap.size ≤ K.gr) (hb : Below w0.heap.size w0 w) (ho : Only (MineE K v) w w') : Below w0.heap.size w0 w' :=
  hb.trans (ho.below hb.size fun k hk e => by
    have h1 := h.lo
    rcases e with e | e | e
    · omega
    · omega
    · have := h.hv k e; omega)
set_option maxHeartbeats 4000000 in
theorem inflate_any (p : Option Addr) (len cap : Nat) (xs : List UInt8) (most : Int) (w : World) (hr : Row w p xs) (hx : xs.length = len) (hnil : p = none → cap = 0) (hl : len ≤ 100000) (hm : most ≤ 200000) :
    Calls Try.prog 7 #[.slice p len cap, .int .i64 most] w (InfP w xs most) := by
  by_cases hneg : most < 0
  · have HRES : Hid (InfP w xs most (.returned (.tuple #[.slice none 0 0, .int .i64 0, .int .i64 1])) w) := Lib.hid ⟨Below.refl _ _, .inr ⟨1, by unfold infZ; rw [if_pos hneg], by decide, rfl⟩⟩
    clear hr hx hnil
    go_enter Try.func7, Try.ntmps7
    go_wp2_with fail
    go_ret3
    exact HRES.out
  · obtain ⟨M, rfl⟩ : ∃ M : Nat, most = (M : Int) := ⟨most.toNat, by omega⟩
    have hM : M ≤ 200000 := by omega
    have hd0 : decide ((M : Int) < 0) = false := by simp
    have HNR := Lib.hid (newReader_any p len cap xs true w hr hx hnil (by omega))
    have HX := Lib.hid hx
    clear hr hx hnil hneg hm
    go_enter Try.func7, Try.ntmps7
    go_wp2_with fail
    refine HNR.out.mono ?_
    rintro e w1 ⟨hb1, gr, q1, cap1, rfl, hg, hR, hq1⟩
    have HB1 := Lib.hid hb1
    have HR := Lib.hid hR
    have hgr := hR.lt
    clear hb1 hR hq1
    go_wp2_with fail
    refine (lens_any w1).mono ?_
    rintro e w2 ⟨vl, rfl, hb2, ho2⟩
    obtain ⟨bl, cl, rfl, hbl1, hbl2, hcl, htl⟩ := tab_own ho2
    have HB2 := Lib.hid hb2
    have HTL := Lib.hid htl
    have HCL := Lib.hid hcl
    clear hb2 ho2 htl hcl
    go_wp2_with fail
    refine (dists_any w2).mono ?_
    rintro e w3 ⟨vd, rfl, hb3, ho3⟩
    obtain ⟨bd, cd, rfl, hbd1, hbd2, hcd, htd⟩ := tab_own ho3
    have HB3 := Lib.hid hb3
    have HTD := Lib.hid htd
    have HCD := Lib.hid hcd
    have hz1 := HB1.out.size
    have hz2 := HB2.out.size
    have hz3 := hb3.size
    obtain ⟨K, hK⟩ : ∃ K : Kon, K = ⟨w3.heap.size, gr, q1, cap1, xs, M, bl, cl, bd, cd⟩ := ⟨_, rfl⟩
    obtain ⟨wd, hwd⟩ : ∃ wd, wd = w3.alloc (.cells #[.pointer (some ⟨K.gr, 0, none⟩), .slice none 0 0, .int .i64 (M : Int), .slice (some ⟨bl, 0, none⟩) (froms false).length cl, .slice (some ⟨bd, 0, none⟩) (froms true).length cd, .pointer none, .pointer none] 58) := ⟨_, rfl⟩
    have hbd : Below w3.heap.size w3 wd := by rw [hwd]; exact (Below.refl _ w3).alloc (Nat.le_refl _) _
    have hbw : Below w.heap.size w wd := ((HB1.out.trans (HB2.out.mono hz1)).trans (hb3.mono (by omega))).trans (hbd.mono (by omega))
    have hDe : De wd K 0 (.slice none 0 0) [] none := by
      subst hK
      refine ⟨?_, ((HR.out.below HB2.out hgr).below hb3 (by omega)).below hbd (by omega), World.ownsRow_nil wd 0 5 1, ⟨by show w3.heap.size ≤ _; exact hbd.size, fun w' hz hs => ⟨HTL.out w' ?_, HTD.out w' ?_⟩⟩, by show gr < w3.heap.size; omega, (fun k hk => by cases hk), by simp, hM, trivial, ⟨HCL.out, HCD.out⟩⟩
      · rw [hwd]; exact Array.getElem?_push_size
      · rw [hs bl (by show gr + 1 ≤ bl; omega) (by show bl < w3.heap.size; omega), hbd.block bl (by omega), hb3.block bl (by omega)]
      · rw [hs bd (by show gr + 1 ≤ bd; omega) (by show bd < w3.heap.size; omega), hbd.block bd (by omega)]
    have hKd : w3.heap.size = K.d := by rw [hK]
    have hKg : gr = K.gr := by rw [hK]
    have hKx : K.xs = xs := by rw [hK]
    have hKm : K.most = M := by rw [hK]
    obtain ⟨X, hX⟩ : ∃ X, X = inflA (bitsOf true xs) M 0 [] := ⟨_, rfl⟩
    have HST : Hid (InfSt w wd K X false wd) := Lib.hid ⟨0, _, _, _, hDe, hbw, (fun h => by cases h), (fun _ => by rw [hKx, hKm]; exact hX.symm)⟩
    have HEQ : Hid (infZ xs (M : Int) = fin8 X) := Lib.hid (by
      unfold infZ
      rw [if_neg (by omega), Int.toNat_natCast, inflate_fin, hX])
    have HKX := Lib.hid hKx
    have HKM := Lib.hid hKm
    have HWD := Lib.hid hwd
    have hgK : w.heap.size ≤ K.gr := by omega
    have HBL := Lib.hid (bitsOf_length true K.xs)
    have HIE := Lib.hid (fun (a : Nat) (out : List UInt8) (h : a ≤ (bitsOf true K.xs).length) => inflA_eq (bitsOf true K.xs) K.most a out h)
    clear hb3 ho3 htd hcd hwd hbd hbw hDe hX hKx hKm hK HNR HB1 HB2 HB3
    go_wp2_with fail
    rw [← HWD.out]
    go_loopw [8, 9] (fun l _ wr => ∃ last : Bool, l = .bool last ∧ Hid (InfSt w wd K X last wr)) (fun _ _ wr => 8 * K.xs.length - posG wr K.gr)
    case atStart => exact ⟨false, rfl, HST⟩
    case round =>
      obtain ⟨last, rfl, HB⟩ := hrel
      obtain ⟨a, v, out, F, hD, hbw, hl1, hl2⟩ := HB.out
      have hpos : posG wr K.gr = a := posG_rd hD.rd
      have hab := hD.rd.2.2.1
      have HD := Lib.hid hD
      have HBW := Lib.hid hbw
      have HPOS := Lib.hid hpos
      cases last
      · have hrun := hl2 rfl
        rw [HIE.out a out (by rw [HBL.out]; exact hab)] at hrun
        have HRUN := Lib.hid hrun
        have HBLK := Lib.hid (block_any wr K a v out F hD)
        clear hD hbw hpos hl1 hl2 hrun HB HST
        go_wp2_with fail
        refine HBLK.out.mono ?_
        rintro e w4 hres
        rcases hres with ⟨h, b, o, a4, F4, hx, ho, rfl, v4, hD4, ho4, hv4⟩ | ⟨c, t, hx, hcne, rfl, ho4⟩
        · have hrun := HRUN.out
          rw [hx, R.then_ok, ho, R.then_ok] at hrun
          have hb3 := num_end hx
          obtain ⟨_, hb⟩ := num_lt hx (by omega)
          have hle := ((hon_one K.most (8 * K.xs.length + 1) h b out).le (v := o) (a := a4) (by rw [hb]; exact hb3) (by rw [oneA_of _ _ _ _ _ _ (by rw [hb]; exact hb3) (by rw [HBL.out]; omega)]; exact ho))
          rw [HBL.out] at hle
          have HNX : Hid (InfSt w wd K X (decide (h % 2 = 1)) w4 ∧ posG w4 K.gr = a4) := Lib.hid ⟨⟨a4, v4, o, F4, hD4, mine_below HD.out hgK HBW.out ho4, fun hd => by
            rw [if_pos (of_decide_eq_true hd)] at hrun; exact hrun.symm, fun hd => by
            rw [if_neg (of_decide_eq_false hd)] at hrun; exact hrun⟩, posG_rd hD4.rd⟩
          have hmv : a + 3 ≤ a4 ∧ a4 ≤ 8 * K.xs.length := ⟨by omega, hle.2⟩
          generalize decide (h % 2 = 1) = bb at HNX
          clear hx ho hD4 ho4 hv4 hrun hle hb3 hb
          go_wp2_with fail
          go_roundw
          case rel => exact ⟨bb, rfl, Lib.hid HNX.out.1⟩
          case measure =>
            rw [HNX.out.2, HPOS.out]
            omega
        · have hc0 : ((c : Int) != 0) = true := by simp; omega
          have HRES : Hid (InfP w xs (M : Int) (.returned (.tuple #[.slice none 0 0, .int .i64 0, .int .i64 (c : Int)])) w4) := Lib.hid ⟨mine_below HD.out hgK HBW.out ho4, .inr ⟨c, by
            have hXe : X = .error c := by
              rw [← HRUN.out]
              rcases hn : numR (bitsOf true K.xs) a 3 with e | ⟨h, b⟩
              · rw [hn] at hx; exact hx
              · rw [hn, R.then_ok] at hx
                rw [R.then_ok, hx]
                rfl
            rw [HEQ.out, hXe]; rfl, hcne, rfl⟩⟩
          clear hx ho4 hcne
          go_wp2_with fail
          go_ret3
          exact HRES.out
      · have hX2 := hl1 rfl
        obtain ⟨pp, cc, hv, hc1, hc2, hn0, hrow⟩ := hD.form
        have HAT := Lib.hid (fun n => at_any K.gr K.p K.cap K.xs a true (wr.drewN n) (hD.drawn (w' := wr.drewN n) ⟨n, rfl⟩).rd)
        have k1 := hD.c1
        have k0 := hD.c0
        rw [hv] at k1
        have hkx := HKX.out
        have hre := hD.rd.2.2.2
        have HRES : Hid (∀ n, InfP w xs (M : Int) (.returned (.tuple #[.slice pp out.length cc, .int .i64 (((a + 7) / 8 : Nat) : Int), .int .i64 0])) (wr.drewN n)) := Lib.hid fun n =>
          ⟨HBW.out.trans ((show Drawn wr (wr.drewN n) from ⟨n, rfl⟩).below _), .inl ⟨out, (a + 7) / 8, pp, cc, by rw [HEQ.out, hX2]; rfl, rfl, hrow, hn0, hc1, hc2, by rw [← HKX.out]; omega⟩⟩
        have HAT0 := Lib.hid (at_any K.gr K.p K.cap K.xs a true wr.drew (hD.drawn (w' := wr.drew) ⟨1, rfl⟩).rd)
        clear hD hbw hpos hl1 hl2 HB HST hX2 hrow hn0 hkx
        go_wp2_with fail
        go_quiet (first | (go_at_call 23; exact quietly HAT0.out) | (go_at_call 23; exact quietly (HAT.out _)))
        go_wp2_with fail
        go_ret3
        exact HRES.out _
end Go.Proofs.Ytmcjhkdcbblnnaa.Inf

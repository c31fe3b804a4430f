
/- The walk of MhAgain. -/
import Derived.Test.YtgddpjnikgcamaaDoorMiS
namespace Go.Proofs.YtgddpjnikgcamaaDoor.Mh
open Go.RowKit Go.Proofs.YtgddpjnikgcamaaDoor.Oct Go.Proofs.YtgddpjnikgcamaaDoor.Bit
open Go.Proofs.YtgddpjnikgcamaaDoor.Fx (Tab Cd Out OutW WrP CW codes_any TrueT rd_only)
open Go.Proofs.YtgddpjnikgcamaaDoor.Rn (changes zl zl_length Valid rchanges_new)
open Go.Proofs.YtgddpjnikgcamaaDoor.Lp (VRow ints ints_length)
set_option linter.unusedVariables false
set_option linter.unusedSimpArgs false
set_option maxRecDepth 100000

/-- a row of places that stands apart from the writer's own blocks -/
def Apt (w : World) (gw : Nat) (v : Value) (q : Option Addr) (m c : Nat) (d : List Nat) : Prop := VRow w w.heap.size q (ints (zl d)) ∧ d.length = m ∧ m ≤ c ∧ ∀ a, q = some a → 0 < d.length → ¬ Mine gw v a.block
theorem Apt.wrote {w w' : World} {gw : Nat} {v v' : Value} {q : Option Addr} {m c : Nat} {d : List Nat} (h : Apt w gw v q m c d) (ho : Only (Mine gw v) w w') (hv : ∀ k, v'.ownBlock = some k → v.ownBlock = some k ∨ w.heap.size ≤ k) : Apt w' gw v' q m c d := by
  obtain ⟨h1, h2, h3, h4⟩ := h
  refine ⟨(vrow_far h1 ho (Nat.le_refl _) (fun a ha h0 => h4 a ha (by rwa [ints_length, zl_length] at h0))).mono ho.2.2.2.1, h2, h3, fun a ha h0 hm => ?_⟩
  rcases hm with e | e
  · exact h4 a ha h0 (.inl e)
  · rcases hv _ e with e2 | e2
    · exact h4 a ha h0 (.inr e2)
    · obtain ⟨b, off, e3, hb, _⟩ := h1 (by rw [ints_length, zl_length]; exact h0)
      rw [ha] at e3
      injection e3 with e3
      rw [e3] at e2
      simp only at e2
      omega
theorem Apt.more {w w' : World} {gw : Nat} {v : Value} {q : Option Addr} {m c : Nat} {d : List Nat} (h : Apt w gw v q m c d) (hb : Below w.heap.size w w') : Apt w' gw v q m c d :=
  ⟨(h.1.below hb (Nat.le_refl _)).mono hb.size, h.2⟩
theorem CW.wrote2 {D : Nat} {W0 w w' : World} {B C c gw : Nat} {v v' : Value} {l m : List Bool} (h : CW D W0 B C c gw v l false w) (hW : Ws w' gw v' (l ++ m) false) (ho : Only (Mine gw v) w w') (hv : ∀ k, v'.ownBlock = some k → v.ownBlock = some k ∨ w.heap.size ≤ k) : CW D W0 B C c gw v' (l ++ m) false w' := by
  have hz := ho.2.2.2.1
  refine ⟨h.cd.only ho h.out, hW, fun k hk => ?_, fun k hk => ?_, h.bel.trans (ho.below h.dz fun k hk hm => by have := h.mine k hm; omega), Nat.le_trans h.dz hz⟩
  · rcases hk with e | e
    · exact h.out k (.inl e)
    · rcases hv k e with e2 | e2
      · exact h.out k (.inr e2)
      · exact .inr (by have := h.cd.1; omega)
  · rcases hk with e | e
    · exact h.mine k (.inl e)
    · rcases hv k e with e2 | e2
      · exact h.mine k (.inr e2)
      · have := h.dz; omega
theorem Apt.far {w w' : World} {gw : Nat} {v : Value} {q : Option Addr} {m c : Nat} {d : List Nat} {S : Nat → Prop} (h : Apt w gw v q m c d) (ho : Only S w w') (hS : ∀ a, q = some a → 0 < d.length → ¬ S a.block) : Apt w' gw v q m c d :=
  ⟨(vrow_far h.1 ho (Nat.le_refl _) (fun a ha h0 => hS a ha (by rwa [ints_length, zl_length] at h0))).mono ho.2.2.2.1, h.2⟩
theorem CW.more2 {D : Nat} {W0 w w' : World} {B C c gw : Nat} {v : Value} {l : List Bool} (h : CW D W0 B C c gw v l false w) {S : Nat → Prop} (ho : Only S w w') (hS : ∀ k, S k → D ≤ k ∧ C ≤ k ∧ ¬ Mine gw v k) : CW D W0 B C c gw v l false w' :=
  ⟨h.cd.only ho (fun k hk => .inr (hS k hk).2.1), Wr.only h.ws ho (fun e => (hS _ e).2.2 (.inl rfl)) (fun k hk e => (hS _ e).2.2 (.inr hk)), h.out, h.mine, h.bel.trans (ho.below h.dz (fun k hk e => by have := (hS k e).1; omega)), Nat.le_trans h.dz ho.2.2.2.1⟩
set_option maxHeartbeats 16000000 in
theorem again_walk (p : Option Addr) (len cap : Nat) (z : Int) (w : World) (hT : Tab w) (hbs : IsBytess w p len cap) (hz0 : (Lit.int .i64 z).wf = true) :
    Calls Tryd.prog 6 #[.slice p len cap, .int .i64 z] w fun e w' => e = .returned (.bool true) ∧ Below w.heap.size w w' := by
  obtain ⟨hlc, hcm, hrows⟩ := hbs
  have HT := Lib.hid hT
  clear hT hz0 hcm
  by_cases hbad : 20 < len ∨ z < 1 ∨ 300 < z
  · have hways : decide (20 < (len : Int)) = true ∨ (decide (20 < (len : Int)) = false ∧ (decide (z < 1) = true ∨ (decide (z < 1) = false ∧ decide (300 < z) = true))) := by
      by_cases h1 : 20 < len
      · left; simp; omega
      · right
        refine ⟨by simp; omega, ?_⟩
        by_cases h2 : z < 1
        · left; simpa using h2
        · right; constructor <;> simp <;> omega
    clear hbad hrows
    rcases hways with q1 | ⟨q1, q2 | ⟨q2, q3⟩⟩ <;>
      (go_enter Tryd.func6, Tryd.ntmps6
       go_wp2_with fail
       refine (lives_any w HT.out).mono ?_
       rintro e w1 ⟨rfl, hb1⟩
       have HB1 := Lib.hid hb1
       have HT1 := Lib.hid (HT.out.below hb1 HT.out.lt)
       clear hb1
       go_wp2_with fail
       refine (lives_any w1 HT1.out).mono ?_
       rintro e w2 ⟨rfl, hb2⟩
       have HB2 := Lib.hid (HB1.out.trans (hb2.mono HB1.out.size))
       clear hb2
       go_wp2_with fail
       go_ret
       exact ⟨rfl, HB2.out⟩)
  · obtain ⟨n, rfl⟩ : ∃ n : Nat, z = (n : Int) := ⟨z.toNat, by omega⟩
    have q1 : decide (20 < (len : Int)) = false := by simp; omega
    have q2 : decide ((n : Int) < 1) = false := by simp; omega
    have q3 : decide (300 < (n : Int)) = false := by simp; omega
    have hl20 : len ≤ 20 := by omega
    have hn1 : 1 ≤ n := by omega
    have hn300 : n ≤ 300 := by omega
    have HROWS := Lib.hid hrows
    clear hbad hrows
    go_enter Tryd.func6, Tryd.ntmps6
    go_wp2_with fail
    refine (lives_any w HT.out).mono ?_
    rintro e w1 ⟨rfl, hb1⟩
    have HB1 := Lib.hid hb1
    have HT1 := Lib.hid (HT.out.below hb1 HT.out.lt)
    clear hb1
    go_wp2_with fail
    refine (codes_any w1 HT1.out).mono ?_
    rintro e w2 ⟨hb2, c, rfl, hc⟩
    have HB2 := Lib.hid hb2
    have HC2 := Lib.hid hc
    clear hb2 hc
    go_wp2_with fail
    refine (newWriter_any false w2).mono ?_
    rintro e w3 ⟨hb3, rfl, hw3⟩
    have H3 := Lib.hid (CW.second HC2.out HB2.out hw3 hb3)
    have HB13 := Lib.hid (HB2.out.trans (hb3.mono HB2.out.size))
    obtain ⟨gw, hgw⟩ : ∃ gw, gw = w2.heap.size := ⟨_, rfl⟩
    rw [← hgw] at H3 ⊢
    obtain ⟨D, hD⟩ : ∃ D, D = w1.heap.size := ⟨_, rfl⟩
    rw [← hD] at H3
    have HDW : Hid (w.heap.size ≤ D ∧ D ≤ gw) := Lib.hid (by have := HB1.out.size; have := HB2.out.size; omega)
    have hb4 : Below w3.heap.size w3 (w3.alloc (.cells #[] 3)) := (Below.refl _ w3).alloc (Nat.le_refl _) _
    have H4 := Lib.hid (H3.out.more hb4)
    have HAP : Hid (Apt (w3.alloc (.cells #[] 3)) gw (.slice none 0 0) (some ⟨w3.heap.size, 0, none⟩) 0 0 []) := Lib.hid ⟨fun h => absurd h (by simp [ints, zl]), rfl, Nat.le_refl _, fun a ha h0 => absurd h0 (by simp)⟩
    have HRW := Lib.hid (Rws.nil (w3.alloc (.cells #[] 3)) gw (Mine gw (.slice none 0 0)))
    clear hb3 hw3 HC2 HB2 hgw hb4 H3
    go_wp2_with fail
    generalize hw4 : w3.alloc (.cells #[] 3) = w4 at *
    generalize hg3 : w3.heap.size = g3 at *
    clear hw4 hg3 hD
    go_loopw [7, 8, 10, 11, 43] (fun sl sab _ _ sk wr => ∃ (k : Nat) (R : List (List Bool)) (v : Value) (ll : List Bool) (qa : Option Addr) (ma ca : Nat), k ≤ len ∧ sk = .int .i64 (k : Int) ∧ R.length = k ∧ Hid (∀ X ∈ R, X.length = n) ∧ Hid (CW D w1 D gw c gw v ll false wr) ∧ Hid (Rws wr gw (Mine gw v) sl (R.map changes)) ∧ sab = .slice qa ma ca ∧ Hid (Apt wr gw v qa ma ca (lastT [] R)) ∧ Hid (ll = chain n [] R) ∧ ll.length ≤ 36000 * k) (fun _ _ _ _ sk _ => len - (intOf sk).toNat)
    case atStart => exact ⟨0, [], _, [], _, 0, 0, by omega, rfl, rfl, Lib.hid (fun X h => by cases h), H4, HRW, rfl, HAP, Lib.hid rfl, by simp⟩
    case round =>
      obtain ⟨k, R, v, ll, qa, ma, ca, hk, rfl, hRl, HRn, HS, HRW', rfl, HAp, HCH, hll⟩ := hrel
      have hbw : Below w.heap.size w wr := HB1.out.trans (HS.out.bel.mono HDW.out.1)
      have HBW := Lib.hid hbw
      by_cases hlt : k < len
      · have hd : decide ((k : Int) < (len : Int)) = true := by simp; omega
        obtain ⟨bb, off, rfl, hbb, hcell⟩ := HROWS.out (by omega)
        obtain ⟨qr, lr, cr, xs, hcx, hxl, hxr, hxc⟩ := hcell k hlt
        have hc := (hbw.cell (p := ⟨bb, off + k, none⟩) hbb).trans hcx
        have i1 : (0 : Int) ≤ (k : Int) := by omega
        have i2 : (k : Int) < (len : Int) := by omega
        clear hcell hcx hbb hbw
        by_cases hsh : lr < n
        · have hd2 : decide ((lr : Int) < (n : Int)) = true := by simp; omega
          go_wp2_with fail
          go_ret
          exact ⟨rfl, HBW.out⟩
        · have hd2 : decide (lr < n) = false := by simp; omega
          have hs1 := fun W => head_run W qr lr cr n (by omega)
          have hrow1 := head_row cr n hxr
          have hxn : (xs.take n).length = n := by rw [List.length_take]; omega
          generalize headA qr cr = h1 at *
          generalize xs.take n = xa at *
          have HPX := Lib.hid (pixels_any h1 n cr xa wr (hrow1.below HBW.out) hxn (by omega))
          have HXl : Hid ((pixB xa).length = n) := Lib.hid (by rw [pixB_length]; exact hxn)
          have HCX := Lib.hid (rchanges_new (pixB xa) wr (by rw [pixB_length]; omega))
          generalize pixB xa = X at *
          clear hxl hxr hrow1 hxn hsh
          go_wp2_with fail
          refine HPX.out.mono ?_
          rintro e w' ⟨rfl, rfl⟩
          go_wp2_with fail
          refine HCX.out.mono ?_
          rintro e w5 ⟨hb5, qx, cx, rfl, hvx, _, hcx, _, hfx⟩
          rw [zl_length] at hcx ⊢
          obtain ⟨mx, hmx⟩ : ∃ mx, mx = (changes X).length := ⟨_, rfl⟩
          rw [← hmx] at hcx ⊢
          have hml : ∀ kk, Mine gw v kk → kk < wr.heap.size := fun kk hk => by
            rcases hk with e | e
            · rw [e]; exact Wr.lt HS.out.ws
            · exact (HS.out.ws.2.1.lt kk e).2
          have H5 := Lib.hid (HS.out.more hb5)
          have HAX : Hid (Apt w5 gw v qx mx cx (changes X)) := Lib.hid ⟨hvx, hmx.symm, hcx, fun a ha h0 hm => by have := hfx a ha; have := hml _ hm; omega⟩
          have HAp5 := Lib.hid (HAp.out.more hb5)
          have HRW5 := Lib.hid (HRW'.out.only (Only.of_below hb5 : Only (fun _ => False) _ _) (fun _ _ _ _ e => e))
          have hfr5 : ∀ ad, qx = some ad → 0 < (changes X).length → gw ≤ ad.block ∧ u7.ownBlock ≠ some ad.block := fun ad ha h0 => by
            have h3 := hfx ad ha
            refine ⟨by have := Wr.lt HS.out.ws; omega, fun e => ?_⟩
            obtain ⟨vs, h6, _⟩ := HRW'.out
            have := (h6.lt _ e).2
            omega
          have HFR5 := Lib.hid hfr5
          have HMX := Lib.hid hmx.symm
          have HVX : Hid (Valid (changes X) n) := Lib.hid (by have h := Rn.changes_valid X; rw [HXl.out] at h; exact h)
          have HVT : Hid (Valid (lastT [] R) n) := Lib.hid (by
            rcases List.eq_nil_or_concat R with e | ⟨R2, Y, e⟩
            · rw [e]; exact ⟨List.Pairwise.nil, fun x hx => by cases hx⟩
            · have hY := HRn.out Y (by rw [e]; simp)
              rw [e, List.concat_eq_append, lastT_snoc]
              have h := Rn.changes_valid Y
              rw [hY] at h
              exact h)
          have hmx3 : mx ≤ 300 := by have := Rn.chg_len X false 0; have := HXl.out; rw [hmx]; unfold changes; omega
          have hTl : ma ≤ 300 := by
            rw [← HAp.out.2.1]
            have h8 := HVT.out
            rcases List.eq_nil_or_concat R with e | ⟨R2, Y, e⟩
            · rw [e]; simp [lastT]
            · have hY := HRn.out Y (by rw [e]; simp)
              rw [e, List.concat_eq_append, lastT_snoc]
              have := Rn.chg_len Y false 0
              unfold changes
              omega
          have hal : (againstA (changes X) (lastT [] R) n 0 false).length ≤ 36000 := by
            have h2 := against_len0 HVX.out HVT.out (T := 26) (fun b x hx => tell_len2 b (by omega))
            have h4 := HAp.out.2.1
            rw [HMX.out, h4] at h2
            have := Nat.mul_le_mul_left (2 * 26 + 7) (show mx + ma + 1 ≤ 601 by omega)
            omega
          have HWA := Lib.hid (writeAgainst_any w5 D gw c gw v ll false qx mx cx (changes X) qa ma ca (lastT [] R) n H5.out.cd H5.out.ws H5.out.out HAX.out.1 HMX.out (by omega) hcx HAX.out.2.2.2 HVX.out HAp5.out.1 HAp5.out.2.1 (by omega) HAp5.out.2.2.1 HAp5.out.2.2.2 HVT.out hn1 (by omega) (by omega))
          clear hb5 hvx hfx hml hfr5 hmx HCX HPX
          go_wp2_with fail
          refine HWA.out.mono ?_
          rintro e w6 ⟨rfl, hws6⟩
          obtain ⟨v6, hww6, ho6, hv6⟩ := hws6
          have H6 := Lib.hid (CW.wrote2 H5.out hww6 ho6 hv6)
          have HAX6 := Lib.hid (HAX.out.wrote ho6 hv6)
          have hr1 := HRW5.out.none (N' := fun kk => Mine gw v kk ∨ Mine gw v6 kk) (fun kk hkk hN hm => by
            rcases hm with e | e
            · exact hN e
            · rcases e with e2 | e2
              · exact hN (.inl e2)
              · rcases hv6 kk e2 with e3 | e3
                · exact hN (.inr e3)
                · omega)
          have HRW6 := Lib.hid (((hr1.only ho6 (fun kk _ _ hN e => hN (.inl e))).none (N' := Mine gw v6) (fun kk _ hN hm => hN (.inr hm))) : Rws w6 gw (Mine gw v6) u7 (R.map changes))
          have hf6 : ∀ ad, qx = some ad → 0 < (changes X).length → gw ≤ ad.block ∧ u7.ownBlock ≠ some ad.block ∧ ¬ Mine gw v6 ad.block := fun ad ha h0 => ⟨(HFR5.out ad ha h0).1, (HFR5.out ad ha h0).2, HAX6.out.2.2.2 ad ha h0⟩
          have hn6 : ∀ kk, w6.heap.size ≤ kk → ¬ Mine gw v6 kk := fun kk hkk hm => by
            rcases hm with e | e
            · have := Wr.lt hww6; omega
            · have := (hww6.2.1.lt kk e).2; omega
          have HF6 := Lib.hid hf6
          have HN6 := Lib.hid hn6
          have hkm : (R.map changes).length = k := by rw [List.length_map]; exact hRl
          have HKM := Lib.hid hkm
          have hgz : gw ≤ w6.heap.size := Nat.le_of_lt (Wr.lt hww6)
          have hk1000 : k ≤ 1000 := by omega
          clear hww6 ho6 hv6 hr1 hf6 hn6 hkm HWA hTl
          go_wp2_with (at_builtin; refine wpList_append_rws rfl _ _ rfl gw (Mine gw v6) _ (R.map changes) k HKM.out rfl HRW6.out (changes X) qx mx cx HAX6.out.2.1 HAX6.out.1 HAX6.out.2.2.1 HF6.out HN6.out rfl rfl hk1000 hgz ?_)
          intro v7 w7 hw7 hb7 ho7 hon7
          obtain ⟨vs6, hvs6, hvn6, _⟩ := HRW6.out
          have H7 := Lib.hid (CW.more2 H6.out hon7 (fun kk hkk => ⟨by have := (hvs6.lt kk hkk).1; have := HDW.out; omega, (hvs6.lt kk hkk).1, hvn6 kk hkk⟩))
          have HA7 := Lib.hid (HAX6.out.far hon7 (fun a ha h0 e => (HF6.out a ha h0).2.1 e))
          have HR7 : Hid (Rws w7 gw (Mine gw v6) v7 ((R ++ [X]).map changes)) := Lib.hid (by rw [List.map_append]; exact hw7)
          have HC7 : Hid (ll ++ againstA (changes X) (lastT [] R) n 0 false = chain n [] (R ++ [X])) := Lib.hid (by rw [chain_snoc, HCH.out])
          have hlen7 : (ll ++ againstA (changes X) (lastT [] R) n 0 false).length ≤ 36000 * (k + 1) := by rw [List.length_append]; omega
          have HRn7 : Hid (∀ Y ∈ R ++ [X], Y.length = n) := Lib.hid (fun Y hY => by
            rcases List.mem_append.1 hY with e | e
            · exact HRn.out Y e
            · rw [List.mem_singleton.1 e]; exact HXl.out)
          have HL7 : Hid (Apt w7 gw v6 qx mx cx (lastT [] (R ++ [X]))) := Lib.hid (by rw [lastT_snoc]; exact HA7.out)
          clear hw7 hb7 ho7 hon7 hvs6 hvn6 hgz hal
          go_wp2_with fail
          go_roundw
          case rel => exact ⟨k + 1, R ++ [X], v6, _, qx, mx, cx, by omega, by go_num, by rw [List.length_append, hRl]; rfl, HRn7, H7, HR7, rfl, HL7, HC7, hlen7⟩
          case measure => simp [intOf]; omega
      · have hke : k = len := by omega
        subst hke
        have hd : decide ((k : Int) < (k : Int)) = false := by simp
        have HBY := Lib.hid (bytes_any wr gw v ll false HS.out.ws (by omega))
        obtain ⟨ql, cl, hsl, htl, hlcl, _⟩ := HRW'.out.tbl
        rw [List.length_map, hRl] at hsl
        have HTL := Lib.hid htl
        have HSL := Lib.hid hsl
        subst hsl
        clear htl hlcl
        go_wp2_with fail
        refine HBY.out.mono ?_
        rintro e w5 ⟨hb5, q5, c5, rfl, hr5, hc5, hm5, hn5, ha5⟩
        have H5 := Lib.hid (HS.out.more hb5)
        have HTL5 := Lib.hid ((HTL.out.below hb5).mono hb5.size)
        have HNR := Lib.hid (newReader_any q5 _ c5 _ false w5 hr5 rfl hn5 (by rw [packB_length]; omega))
        have HBW5 := Lib.hid (HBW.out.trans (hb5.mono HBW.out.size))
        obtain ⟨xs, hxs⟩ : ∃ xs, xs = packB false ll := ⟨_, rfl⟩
        have HXS := Lib.hid hxs
        rw [← hxs] at HNR ⊢
        clear hb5 hr5 hc5 hm5 hn5 ha5 HBY hxs
        go_wp2_with fail
        refine HNR.out.mono ?_
        rintro e w6 ⟨hb6, gr, q6, c6, rfl, hg6, hr6, _⟩
        have hb7 : Below w5.heap.size w5 (w6.alloc (.cells #[] 3)) := hb6.trans (((Below.refl _ w6).alloc (Nat.le_refl _) _).mono hb6.size)
        have hR7 : Rd (w6.alloc (.cells #[] 3)) gr q6 c6 xs 0 false := hr6.below ((Below.refl _ w6).alloc (Nat.le_refl _) _) hr6.lt
        have HB7 := Lib.hid hb7
        have HR7 := Lib.hid hR7
        have HG6 := Lib.hid hg6
        have HGL := Lib.hid hr6.lt
        obtain ⟨L, hL⟩ : ∃ L, L = bitsOf false xs := ⟨_, rfl⟩
        have HLL := Lib.hid hL
        have HLP : Hid (L = ll ++ zs (8 * ((ll.length + 7) / 8) - ll.length)) := Lib.hid (by rw [hL, HXS.out, bitsOf_packB])
        have HDR : Hid (L.drop 0 = chain n [] (R.drop 0) ++ zs (8 * ((ll.length + 7) / 8) - ll.length)) := Lib.hid (by rw [List.drop_zero, List.drop_zero, ← HCH.out]; exact HLP.out)
        have HTT : Hid (0 + (chain n [] (R.drop 0)).length = ll.length) := Lib.hid (by rw [List.drop_zero, ← HCH.out, Nat.zero_add])
        clear hb6 hr6 hg6 HNR hb7 hR7 hL
        go_wp2_with fail
        generalize hg6 : w6.heap.size = g6 at *
        generalize hw7 : w6.alloc (.cells #[] 3) = w7 at *
        have hgg : gr < g6 := HGL.out
        clear hg6 hw7
        go_loopw [8, 14, 15, 16, 75] (fun sab _ _ _ sk wr => ∃ (j t : Nat) (qb : Option Addr) (mb cb : Nat) (top : List Nat), j ≤ k ∧ sk = .int .i64 (j : Int) ∧ sab = .slice qb mb cb ∧ Hid (Rd wr gr q6 c6 xs t false) ∧ Hid (Below w5.heap.size w5 wr) ∧ Hid (VRow wr wr.heap.size qb (ints (zl top))) ∧ top.length = mb ∧ mb ≤ cb ∧ mb ≤ 300 ∧ Hid (∀ a, qb = some a → 0 < top.length → a.block ≠ gr) ∧ Hid (Valid top n) ∧ t ≤ L.length ∧ Hid (L.drop t = chain n top (R.drop j) ++ zs (8 * ((ll.length + 7) / 8) - ll.length)) ∧ Hid (t + (chain n top (R.drop j)).length = ll.length)) (fun _ _ _ _ sk _ => k - (intOf sk).toNat)
        case atStart => exact ⟨0, 0, some ⟨g6, 0, none⟩, 0, 0, [], by omega, rfl, rfl, HR7, HB7, Lib.hid (fun h => absurd h (by simp [ints, zl])), rfl, Nat.le_refl _, by omega, Lib.hid (fun a ha h0 => absurd h0 (by simp)), Lib.hid ⟨List.Pairwise.nil, fun x hx => (by cases hx)⟩, Nat.zero_le _, HDR, HTT⟩
        case round =>
          obtain ⟨j, t, qb, mb, cb, top, hj, rfl, rfl, HRx, HBx, HVb, htm, hmc, hmb, HNb, HVT, htL, HD, HT2⟩ := hrel
          have H5x := Lib.hid (H5.out.more HBx.out)
          have HTx := Lib.hid (HTL5.out.below HBx.out)
          by_cases hltj : j < k
          · have hdj : decide ((j : Int) < (k : Int)) = true := by simp; omega
            have hjR : j < R.length := by omega
            obtain ⟨bb, off, hqe, qk, ck, hcell, hvk, hck⟩ := HTx.out.get (k := j) (by rw [List.length_map]; exact hjR)
            rw [List.getElem_map] at hcell hvk hck
            have hXn := HRn.out R[j] (List.getElem_mem hjR)
            have hdr := HD.out
            have htt := HT2.out
            rw [List.drop_eq_getElem_cons hjR, chain] at hdr htt
            generalize R[j] = X at *
            subst hqe
            have i1 : (0 : Int) ≤ (j : Int) := by omega
            have i2 : (j : Int) < (k : Int) := by omega
            obtain ⟨mk, hmk⟩ : ∃ mk, mk = (changes X).length := ⟨_, rfl⟩
            rw [← hmk] at hcell
            have HMK := Lib.hid hmk.symm
            have hmk3 : mk ≤ 300 := by have := Rn.chg_len X false 0; rw [hmk]; unfold changes; omega
            have HVK := Lib.hid hvk
            have hrg := read_against (X := X) (L := L) (r := chain n (changes X) (R.drop (j + 1)) ++ zs (8 * ((ll.length + 7) / 8) - ll.length)) (top := top) (at_ := t) (by rw [hXn]; exact HVT.out) (by rw [hXn, ← List.append_assoc]; exact hdr) htL
            rw [hXn] at hrg
            have HRA := Lib.hid (readAgainst_any wr D gw c gr q6 c6 xs t false qb mb cb top n H5x.out.cd (.inr (by have := Wr.lt H5.out.ws; have := HG6.out; omega)) HRx.out HVb.out htm (by omega) hmc HNb.out HVT.out hn1 (by omega))
            rw [← HLL.out, hrg] at HRA
            obtain ⟨t2, ht2⟩ : ∃ t2, t2 = t + (againstA (changes X) top n 0 false).length := ⟨_, rfl⟩
            rw [← ht2] at HRA
            have HD2 : Hid (L.drop t2 = chain n (changes X) (R.drop (j + 1)) ++ zs (8 * ((ll.length + 7) / 8) - ll.length)) := Lib.hid (by
              rw [ht2, ← List.drop_drop, hdr, List.append_assoc, List.drop_left])
            have HT3 : Hid (t2 + (chain n (changes X) (R.drop (j + 1))).length = ll.length) := Lib.hid (by
              rw [List.length_append] at htt
              omega)
            have hLl : ll.length ≤ L.length := by rw [HLP.out, List.length_append]; omega
            have ht2L : t2 ≤ L.length := by have := HT3.out; omega
            have HVX : Hid (Valid (changes X) n) := Lib.hid (by have h := Rn.changes_valid X; rw [hXn] at h; exact h)
            have hgrx := HRx.out.lt
            clear hdr htt hrg ht2 hmk hvk hck
            go_wp2_with fail
            refine HRA.out.mono ?_
            rintro e wy ⟨hry, hoy, qy, cy, rfl, hvy, hny, hly, hmy, hfy⟩
            simp only [rowL, rowE] at hvy hly ⊢
            rw [HMK.out] at hly ⊢
            have HRy := Lib.hid hry
            have HBy := Lib.hid (HBx.out.trans (hoy.below HBx.out.size (fun kk hkk e => by have := HG6.out; omega)))
            have HVy := Lib.hid hvy
            have HSA := Lib.hid (same_in qk qy mk ck cy (changes X) wy _ _ (HVK.out.below (hoy.below HBx.out.size (fun kk hkk e => by have := HG6.out; omega)) (Nat.le_refl _)) hvy HMK.out (by omega))
            have hny2 : ∀ a, qy = some a → 0 < (changes X).length → a.block ≠ gr := fun a ha h0 => by have := hfy a ha; omega
            have HNY := Lib.hid hny2
            have HLY := Lib.hid hly
            clear hry hoy hvy hny hly hmy hfy hny2 HRA
            go_wp2_with fail
            refine HSA.out.mono ?_
            rintro e wz ⟨rfl, hdz⟩
            have HRz := Lib.hid (rd_only HRy.out (Only.drawn (fun _ => False) hdz) (fun e => e) (fun _ _ _ e => e))
            have HBz := Lib.hid (HBy.out.trans (hdz.below _))
            have HVz := Lib.hid ((HVy.out.below (hdz.below wy.heap.size) (Nat.le_refl _)).mono (hdz.below wy.heap.size).size)
            clear hdz
            go_wp2_with fail
            go_roundw
            case rel => exact ⟨j + 1, t2, qy, mk, cy, changes X, by omega, by go_num, rfl, HRz, HBz, HVz, HMK.out, HLY.out, hmk3, HNY, HVX, ht2L, HD2, HT3⟩
            case measure => simp [intOf]; omega
          · have hje : j = k := by omega
            subst hje
            have hdj : decide ((j : Int) < (j : Int)) = false := by simp
            have hteq : t = ll.length := by
              have h2 := HT2.out
              rw [List.drop_of_length_le (by omega), chain] at h2
              simpa using h2
            have hbw : Below w.heap.size w wr := HBW5.out.trans (HBx.out.mono HBW5.out.size)
            have HBWX := Lib.hid hbw
            have hpage : (R.map changes).map (rowC · n) = R.map rowF := by
              rw [List.map_map]
              refine List.map_congr_left (fun X hX => ?_)
              show rowC (changes X) n = rowF X
              rw [← HRn.out X hX]
              rfl
            have hrf : ∀ r ∈ R.map rowF, r.length ≤ 60200 := fun r hr => by
              obtain ⟨X, hX, rfl⟩ := List.mem_map.1 hr
              have h1 := HRn.out X hX
              have h2 := restR_len false 0 X false 0 (by omega)
              rw [rowF_runs]
              unfold restR at h2
              omega
            have hplen := pageP_len 60200 (R.map rowF) [] hrf
            rw [List.length_map, hRl, List.length_nil, Nat.zero_add] at hplen
            have hpl2 : (pageP [] (R.map rowF)).length ≤ 1500000 := by
              have := Nat.mul_le_mul_right (60200 + 7) hl20
              omega
            have HEN := encode_any wr (HT.out.below hbw HT.out.lt) ql j cl (R.map changes) n (HTx.out.mono HBx.out.size) (by rw [List.length_map]; exact hRl) (by omega) (fun d hd => by
              obtain ⟨X, hX, rfl⟩ := List.mem_map.1 hd
              have h := Rn.changes_valid X
              rw [HRn.out X hX] at h
              exact h) (fun d hd => by
              obtain ⟨X, hX, rfl⟩ := List.mem_map.1 hd
              have h1 := HRn.out X hX
              have := Rn.chg_len X false 0
              unfold changes
              omega) hn1 (by omega) (by rw [hpage]; exact hpl2)
            rw [hpage] at HEN
            have HEN2 := Lib.hid HEN
            have HPL := Lib.hid hpl2
            have HTXX : Hid (Tab wr) := Lib.hid (HT.out.below hbw HT.out.lt)
            clear HEN hpage hrf hplen hbw hpl2
            go_wp2_with fail
            refine HEN2.out.mono ?_
            rintro e w8 ⟨hb8, q8, c8, rfl, hr8, hn8, hc8⟩
            have hxlen : (packB false (pageP [] (R.map rowF))).length ≤ 1000000 := by rw [packB_length]; have := HPL.out; omega
            have hDE := decode_any w8 (HTXX.out.below hb8 (by have := HTXX.out.lt; omega)) q8 _ c8 (packB false (pageP [] (R.map rowF))) n j hr8 rfl hn8 hxlen hn1 (by omega) (by omega)
            have hdp := dec_page (L := bitsOf false (packB false (pageP [] (R.map rowF)))) hn1 R [] [] HRn.out ⟨_, bitsOf_packB _ _⟩ (Nat.zero_le _)
            rw [hRl] at hdp
            rw [show ([] : List Bool).length = 0 from rfl] at hdp
            rw [hdp, List.nil_append] at hDE
            have HDE := Lib.hid hDE
            have HB8 := Lib.hid hb8
            obtain ⟨ln8, hln8⟩ : ∃ ln8, ln8 = (packB false (pageP [] (R.map rowF))).length := ⟨_, rfl⟩
            rw [← hln8] at HDE ⊢
            clear hb8 hr8 hn8 hc8 hxlen hDE hdp HEN2 hln8
            go_wp2_with fail
            refine HDE.out.mono ?_
            rintro e w9 ⟨hb9, q9, c9, rfl, ht9⟩
            rw [hRl]
            have hb89 : Below wr.heap.size wr w9 := HB8.out.trans (hb9.mono HB8.out.size)
            have HRd9 := Lib.hid (HRx.out.below hb89 HRx.out.lt)
            have HW9 := Lib.hid (Wr.only H5x.out.ws (Only.of_below hb89 : Only (fun _ => False) _ _) (fun e => e) (fun _ _ e => e) : Ws w9 gw v ll false)
            have HAT := Lib.hid (at_any gr q6 c6 xs t false w9 HRd9.out)
            have HLEN := Lib.hid (len_any w9 gw v ll false HW9.out)
            have HT9 := Lib.hid ht9
            have HTl9 := Lib.hid ((HTx.out.mono HBx.out.size).below hb89)
            have HBF := Lib.hid (HBWX.out.trans (hb89.mono HBWX.out.size))
            have hZ9 := hb89.size
            subst hteq
            clear hb9 ht9 hb89 HDE HRd9 HW9
            go_wp2_with fail
            refine HAT.out.mono ?_
            rintro e w' ⟨rfl, rfl⟩
            go_wp2_with fail
            refine HLEN.out.mono ?_
            rintro e w' ⟨rfl, rfl⟩
            go_wp2_with fail
            go_loopw [21, 133] (fun _ sk wr => ∃ i : Nat, i ≤ j ∧ sk = .int .i64 (i : Int) ∧ Hid (Below w9.heap.size w9 wr)) (fun _ sk _ => j - (intOf sk).toNat)
            case atStart => exact ⟨0, by omega, rfl, Lib.hid (Below.refl _ _)⟩
            case round =>
              obtain ⟨i, hi, rfl, HBq⟩ := hrel
              by_cases hlti : i < j
              · have hdi : decide ((i : Int) < (j : Int)) = true := by simp; omega
                have hiR : i < (R.map changes).length := by rw [List.length_map]; omega
                obtain ⟨b1, o1, he1, qx, cx, hc1, hv1, _⟩ := (HTl9.out.below (HBq.out.mono hZ9)).get hiR
                obtain ⟨b2, o2, he2, qy, cy, hc2, hv2, _⟩ := (HT9.out.below HBq.out).get hiR
                have hX3 : (R.map changes)[i].length ≤ 300 := by
                  rw [List.getElem_map]
                  have h1 := HRn.out R[i] (List.getElem_mem (by omega))
                  have := Rn.chg_len R[i] false 0
                  unfold changes
                  omega
                generalize (R.map changes)[i] = d at *
                subst he1 he2
                obtain ⟨md, hmd⟩ : ∃ md, md = d.length := ⟨_, rfl⟩
                rw [← hmd] at hc1 hc2 hX3
                have HSM : Hid (∀ kk, Calls Tryd.prog 24 #[.slice qx md cx, .slice qy md cy] (wr.drewN kk) fun e w'' => e = .returned (.bool true) ∧ ∃ m, w'' = wr.drewN m) := Lib.hid (fun kk => by
                  have hdk : Drawn wr (wr.drewN kk) := ⟨kk, rfl⟩
                  exact Calls.quiet_of ((same_in qx qy md cx cy d (wr.drewN kk) _ _ (hv1.below (hdk.below _) (Nat.le_refl _)) (hv2.below (hdk.below _) (Nat.le_refl _)) hmd.symm (by omega)).mono fun _ _ h => h))
                have i1 : (0 : Int) ≤ (i : Int) := by omega
                have i2 : (i : Int) < (j : Int) := by omega
                clear hv1 hv2 hmd hiR
                go_wp2_with fail
                go_quiet ((go_at_call 24; with_reducible exact HSM.out _))
                have HBq2 := Lib.hid (HBq.out.trans ((show Drawn wr (wr.drewN nq) from ⟨nq, rfl⟩).below _))
                try go_wp2_with fail
                go_roundw
                case rel => exact ⟨i + 1, by omega, by go_num, HBq2⟩
                case measure => simp [intOf]; omega
              · have hie : i = j := by omega
                subst hie
                have hdi : decide ((i : Int) < (i : Int)) = false := by simp
                have HBE := Lib.hid (HBF.out.trans (HBq.out.mono HBF.out.size))
                go_wp2_with fail
                go_ret
                exact ⟨rfl, HBE.out⟩
end Go.Proofs.YtgddpjnikgcamaaDoor.Mh

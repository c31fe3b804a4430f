
/- The walk of PredictShifts. -/
import Derived.Test.YtgakegomanfccaaPdD
import Derived.Laws.OwnMore
namespace Go.Proofs.Ytgakegomanfccaa.Pd
open Go.RowKit Go.Proofs.Ytgakegomanfccaa.Oct Go.Proofs.Ytgakegomanfccaa.Sa Go.Proofs.Ytgakegomanfccaa.Pr
open Go.Proofs.Ytgakegomanfccaa.Lp (VRow vrow_blk vrow_own wpList_append_vals blk_set blk_far blk_frozen fillV_length)
set_option linter.unusedVariables false
set_option linter.unusedSimpArgs false
set_option maxRecDepth 100000

theorem own_in {w w' : World} {base e n B : Nat} {v : Value} {cs : List Value} (h : w.ownsRow base e 1 v n cs) (hb : Below B w w') (hB : ∀ g, v.ownBlock = some g → g < B) : w'.ownsRow base e 1 v n cs := by
  refine ⟨h.1, ?_⟩
  rcases h.2 with hn | ⟨g, cap, cur, rfl, hbs, hh, r⟩
  · exact .inl hn
  · exact .inr ⟨g, cap, cur, rfl, hbs, (hb.block g (hB g rfl)).trans hh, r⟩
theorem and_low (x : Nat) {wide : Int} (h : wide = 8 ∨ wide = 16 ∨ wide = 32) (hx : x < 4294967296) : bits .and .u32 (x : Int) ((2 ^ wide.toNat - 1 : Nat) : Int) = ((x % 2 ^ wide.toNat : Nat) : Int) := by
  have := and_mod (x : Int) h
  rw [wu32_small (x : Int) (by omega) (by omega)] at this
  rw [this]
  rfl
def bitsW (s : Nat) : Nat := if s = 0 then 8 else if s = 1 then 16 else 32
def addL (m c : Nat) (l : List Nat) : List Nat := (l.map (· % m)).map fun v => (v + c) % m
theorem addL_length (m c : Nat) (l : List Nat) : (addL m c l).length = l.length := by simp [addL]
theorem range_map (m : Nat) (l : List Nat) : (List.range l.length).map (fun i => l.getD i 0 % m) = l.map (· % m) := by
  apply List.ext_getElem
  · simp
  · intro i h1 h2
    rw [List.length_map, List.length_range] at h1
    rw [List.getElem_map, List.getElem_range, List.getElem_map, List.getD_eq_getElem?_getD, List.getElem?_eq_getElem h1]
    rfl
/-- two rows: one is masked, one grows -/
def ShS (w w3 : World) (v : Value) (n m c : Nat) (l : List Nat) (k : Nat) (bv : Value) (wr : World) : Prop :=
  Below w.heap.size w wr ∧ wr.ownsRow w.heap.size 31 1 v n (u32s (mixL (fun i => l.getD i 0 % m) l k)) ∧ wr.ownsRow w3.heap.size 31 1 bv k (u32s ((addL m c l).take k)) ∧ w3.heap.size ≤ wr.heap.size ∧ w.heap.size ≤ w3.heap.size ∧ ∀ g, v.ownBlock = some g → g < w3.heap.size
theorem ShS.next {w w3 wr : World} {gg n ca m c k : Nat} {l : List Nat} {bv : Value} (h : ShS w w3 (.slice (some ⟨gg, 0, none⟩) n ca) n m c l k bv wr) (hk : k < n) (hl : l.length = n) (y z : Nat) (hy : y = l.getD k 0 % m) (hz : z = (y + c) % m)
    (W : World) (hW : W = wr.setCell ⟨gg, k, none⟩ (.int .u32 (y : Int))) :
    VRow (W.alloc (.cells (u32s [z]).toArray 31)) (W.alloc (.cells (u32s [z]).toArray 31)).heap.size (some ⟨wr.heap.size, 0, none⟩) (u32s [z]) ∧
    (W.alloc (.cells (u32s [z]).toArray 31)).ownsRow w3.heap.size 31 1 bv k (u32s ((addL m c l).take k)) ∧ w3.heap.size ≤ (W.alloc (.cells (u32s [z]).toArray 31)).heap.size ∧
    ∀ v2 w4, w4.ownsRow w3.heap.size 31 1 v2 (k + 1) (u32s ((addL m c l).take k) ++ u32s [z]) → Below w3.heap.size (W.alloc (.cells (u32s [z]).toArray 31)) w4 → ShS w w3 (.slice (some ⟨gg, 0, none⟩) n ca) n m c l (k + 1) v2 w4 := by
  obtain ⟨t1, t2, t3, t4, t5, t6⟩ := h
  have hgg : gg < w3.heap.size := t6 gg rfl
  have hgb : w.heap.size ≤ gg := (t2.lt gg rfl).1
  have hkl : k < l.length := by omega
  have hbW : Below w.heap.size w W := by rw [hW]; exact t1.setCell hgb _
  have hsW : W.heap.size = wr.heap.size := by rw [hW]; simp [World.setCell]
  have hoW : W.ownsRow w.heap.size 31 1 (.slice (some ⟨gg, 0, none⟩) n ca) n (u32s (mixL (fun i => l.getD i 0 % m) l (k + 1))) := by
    rw [hW, ← mix_step hkl]
    have := t2.stored k (.int .u32 (y : Int))
    simpa [u32s, hy, List.map_set] using this.1
  have hb1 : Below W.heap.size W (W.alloc (.cells (u32s [z]).toArray 31)) := (Below.refl _ W).alloc (Nat.le_refl _) _
  have hbo : W.ownsRow w3.heap.size 31 1 bv k (u32s ((addL m c l).take k)) := by rw [hW]; exact ownsRow_setCell_below t3 hgg _
  have hz1 : w3.heap.size ≤ (W.alloc (.cells (u32s [z]).toArray 31)).heap.size := Nat.le_trans (by omega) hb1.size
  refine ⟨by have := u32_new W (u32s [z]) 31 (0, 0); rwa [hsW] at this, own_below hbo hb1, hz1, fun v2 w4 ho hb => ?_⟩
  have hbA := hbW.trans (hb1.mono hbW.size)
  refine ⟨hbA.trans (hb.mono t5), own_in (own_below hoW hb1) hb (fun g h => t6 g h), ?_, Nat.le_trans hz1 hb.size, t5, t6⟩
  rw [← u32s_append] at ho
  have e : (addL m c l).take (k + 1) = (addL m c l).take k ++ [z] := by
    rw [List.take_succ_eq_append_getElem (by rw [addL_length]; exact hkl)]
    congr 2
    simp only [addL, List.getElem_map]
    rw [hz, hy, List.getD_eq_getElem?_getD, List.getElem?_eq_getElem hkl]
    rfl
  rw [e]
  exact ho
theorem mix_at {f : Nat → Nat} {ns : List Nat} {k : Nat} (h : k < ns.length) : (u32s (mixL f ns k))[k]? = some (.int .u32 (ns[k] : Int)) := by
  unfold mixL u32s
  rw [List.map_append, List.getElem?_append_right (by simp; omega), Nat.min_eq_left (by omega)]
  simp [h]
set_option maxHeartbeats 4000000 in
theorem shifts_walk (p : Option Addr) (len cap : Nat) (per kind : Int) (c : Int) (w : World) (h0 : IsU32 w p len cap) (hp0 : (Lit.int .i64 per).wf = true) (hk0 : (Lit.int .i64 kind).wf = true) (hc0 : (Lit.int .u32 c).wf = true) :
    Calls Try.prog 5 #[.slice p len cap, .agg #[.int .i64 per, .int .i64 kind], .int .u32 c] w (YesS w) := by
  obtain ⟨i0, hi, hz0, hz1, hz2⟩ := info_parts Try.infoU32
  obtain ⟨ns, hx, hr, hb, hlc, hcm, hnil⟩ := h0
  have hll : len ≤ maxLen := Nat.le_trans hlc hcm
  unfold maxLen at hll
  have hbw : Below w.heap.size w (w.alloc (.cells #[.int .i64 per, .int .i64 kind] 32)) := (Below.refl _ w).alloc (Nat.le_refl _) _
  have k0 : (w.alloc (.cells #[.int .i64 per, .int .i64 kind] 32)).cell? ⟨w.heap.size, 0, none⟩ = some (.int .i64 per) := by simp
  have k1 : (w.alloc (.cells #[.int .i64 per, .int .i64 kind] 32)).cell? ⟨w.heap.size, 1, none⟩ = some (.int .i64 kind) := by simp
  have HBX := Lib.hid hbw
  clear hk0 hp0 hbw
  by_cases hl : 400 < len
  · have ql : decide ((400 : Int) < (len : Int)) = true := by simp; omega
    clear hr hx hb hl hnil hlc hcm hc0
    go_enter Try.func5, Try.ntmps5
    go_wp2_with fail
    go_quiet (fail)
    have HB0 := Lib.hid (HBX.out.trans ((show Drawn _ _ from ⟨nq, rfl⟩ : Drawn (w.alloc (.cells #[.int .i64 per, .int .i64 kind] 32)) _).below w.heap.size))
    generalize (w.alloc (.cells #[.int .i64 per, .int .i64 kind] 32)).drewN nq = w0 at *
    clear k0 k1 HBX
    go_wp2_with fail
    refine (lives_any w0).mono ?_
    rintro e w1 ⟨rfl, hb1⟩
    have HB1 := Lib.hid (HB0.out.trans (hb1.mono HB0.out.size))
    clear hb1
    go_wp2_with fail
    refine (lives_any w1).mono ?_
    rintro e w2 ⟨rfl, hb2⟩
    have HB2 := Lib.hid (HB1.out.trans (hb2.mono HB1.out.size))
    clear hb2
    go_wp2_with fail
    go_ret
    exact ⟨rfl, HB2.out⟩
  · have ql : decide ((400 : Int) < (len : Int)) = false := by simp; omega
    have hl4 : len ≤ 400 := by omega
    obtain ⟨c, rfl⟩ : ∃ cn : Nat, c = (cn : Int) := ⟨c.toNat, by simp [Lit.wf, IntKind.min, IntKind.max, IntKind.bits, IntKind.signed] at hc0; omega⟩
    have hc32 : c < 4294967296 := by simp [Lit.wf, IntKind.min, IntKind.max, IntKind.bits, IntKind.signed] at hc0; omega
    have HSP3 := Lib.hid (spot_cast kind 3)
    have HSP4 := Lib.hid (spot_cast per 4)
    have hs3 := spot_lt kind 3 (by omega)
    have hs4 := spot_lt per 4 (by omega)
    generalize spot kind 3 = s3 at HSP3 hs3
    generalize spot per 4 = s4 at HSP4 hs4
    obtain ⟨pp, hpp⟩ : ∃ pp, pp = 1 + s4 := ⟨_, rfl⟩
    have hpz : (1 : Int) + (s4 : Int) = (pp : Int) := by omega
    have hp1 : 1 ≤ pp := by omega
    have hp4 : pp ≤ 4 := by omega
    obtain ⟨wd, hwd⟩ : ∃ wd : Int, wd = (bitsW s3 : Nat) := ⟨_, rfl⟩
    have hw : wd = 8 ∨ wd = 16 ∨ wd = 32 := by rw [hwd]; unfold bitsW; split; · simp
                                               split <;> simp
    have HCW : Hid (∀ W : World, (W.alloc (.cells #[.int .i64 8, .int .i64 16, .int .i64 32] 3)).cell? ⟨W.heap.size, s3, none⟩ = some (.int .i64 wd)) := Lib.hid (fun W => by
      have : s3 = 0 ∨ s3 = 1 ∨ s3 = 2 := by omega
      rcases this with rfl | rfl | rfl <;> rw [hwd] <;> simp [bitsW])
    obtain ⟨q, hq⟩ : ∃ q, q = len / pp := ⟨_, rfl⟩
    obtain ⟨n, hn⟩ : ∃ n, n = q * pp := ⟨_, rfl⟩
    have hnl : n ≤ len := by rw [hn, hq]; exact Nat.div_mul_le_self len pp
    have hnm : n % pp = 0 := by rw [hn]; exact Nat.mul_mod_left q pp
    have hqz : (len : Int).tdiv (pp : Int) = (q : Int) := by rw [Int.tdiv_eq_ediv_of_nonneg (by omega), hq]; rfl
    have hnz : (q : Int) * (pp : Int) = (n : Int) := by rw [hn]; push_cast; rfl
    have hql : q ≤ 400 := by rw [hq]; exact Nat.le_trans (Nat.div_le_self _ _) hl4
    have hhd := fun W => head_run4 W p len cap n (by omega)
    have ha0 := head_row4 cap n hr
    have han : headA p cap = none → cap = 0 := head_none4 hnil
    obtain ⟨as1, has⟩ : ∃ as1, as1 = ns.take n := ⟨_, rfl⟩
    have hal : as1.length = n := by rw [has, List.length_take]; omega
    have hab : ∀ v ∈ as1, v < 4294967296 := fun v hv => hb v (by rw [has] at hv; exact List.mem_of_mem_take hv)
    rw [← has] at ha0
    generalize headA p cap = pa at hhd ha0 han
    have HA := Lib.hid ha0
    have HAL := Lib.hid hal
    have HAB := Lib.hid hab
    have HAN := Lib.hid han
    have HNM := Lib.hid hnm
    have hcap : cap ≤ maxLen := hcm
    unfold maxLen at hcap
    have hncap : n ≤ cap := by omega
    have hpn0 : (pp : Int) ≠ 0 := by omega
    have hspc : ∀ [Inhabited Nat], (IntKind.u64.wrap kind).tmod (3 : Int) = (s3 : Int) := HSP3.out
    have hspd : ∀ [Inhabited Nat], (IntKind.u64.wrap per).tmod (4 : Int) = (s4 : Int) := HSP4.out
    have hnw : ∀ [Inhabited Nat], wrap64 ((q : Int) * (pp : Int)) = (n : Int) := (wi_small _ _ hnz (by omega) (by omega)).2
    clear hx hr hb hlc hcm hnil hc0 hl ha0 hal hab han has hnm hn hq hpp hwd hll hnz
    go_enter Try.func5, Try.ntmps5
    go_wp2_with fail
    go_quiet (fail)
    have HB0 := Lib.hid (HBX.out.trans ((show Drawn _ _ from ⟨nq, rfl⟩ : Drawn (w.alloc (.cells #[.int .i64 per, .int .i64 kind] 32)) _).below w.heap.size))
    generalize (w.alloc (.cells #[.int .i64 per, .int .i64 kind] 32)).drewN nq = w0 at *
    clear k0 k1 HBX
    go_wp2_with fail
    refine (lives_any w0).mono ?_
    rintro e w1 ⟨rfl, hb1⟩
    have hb01 := HB0.out.trans (hb1.mono HB0.out.size)
    have HB1 := Lib.hid hb01
    have hcw := HCW.out w1
    have hbi : Below w1.heap.size w1 (w1.alloc (.cells #[.int .i64 8, .int .i64 16, .int .i64 32] 3)) := (Below.refl _ w1).alloc (Nat.le_refl _) _
    have HB2 := Lib.hid (hb01.trans (hbi.mono hb01.size))
    clear hb1 hb01 HB0 hbi
    go_wp2_with fail
    have hpw := pow_pos2 hw
    have HLOW := Lib.hid (fun x hx => and_low x hw hx)
    have HAND := Lib.hid (fun z => and_mod z hw)
    rw [show ((2 : Int) ^ wd.toNat % 4294967296 - 1) % 4294967296 = ((2 ^ wd.toNat - 1 : Nat) : Int) from by rcases hw with rfl | rfl | rfl <;> rfl]
    have HCK := Lib.hid (fun xs (hl : xs.length = n) (hlt : ∀ v ∈ xs, v < 2 ^ wd.toNat) => show errD xs (pp : Int) wd = 0 from by
      unfold errD
      rw [if_pos (by
        unfold okD
        rw [hl]
        have e : wideB wd = true := by rcases hw with rfl | rfl | rfl <;> rfl
        have := HNM.out
        rw [e]
        simp
        exact ⟨by omega, by exact_mod_cast this⟩)]
      exact overD_yes (allD_iff.2 hlt))
    have HDF := Lib.hid (fun q l cap xs W h1 h2 h3 => diff_any q l cap (pp : Int) wd xs W h1 h2 h3)
    rw [show ((pp : Int)).toNat = pp from rfl] at HDF
    generalize 2 ^ wd.toNat = m at hpw HLOW HAND HCK HDF ⊢
    generalize ((m - 1 : Nat) : Int) = g at HLOW HAND ⊢
    have HCL := Lib.hid (clone4_any pa n cap as1 _ ((HA.out.below HB2.out (Nat.le_refl _)).mono HB2.out.size) HAL.out HAN.out (by omega))
    clear hcw HB1 hspc hspd hnw hhd hw HCW HSP3 HSP4 hpz hs3 hs4 hqz
    refine HCL.out.mono ?_
    rintro e w2 ⟨hb2, v, rfl, hown⟩
    rw [HAL.out] at hown
    have HB3 := Lib.hid (HB2.out.trans (hb2.mono HB2.out.size))
    have hown := Joins.ownsRow_le hown HB2.out.size
    have HOA : Hid (w2.ownsRow w.heap.size 31 1 v n (u32s as1)) := Lib.hid hown
    obtain ⟨qa, ca, hv, _, hca, hcm, _, _⟩ := vrow_own hown (by rw [u32s_length]; exact HAL.out)
    have hvb := hown.lt
    have HOV := Lib.hid (fun gg (h : v.ownBlock = some gg) => (hvb gg h).2)
    subst hv
    have HM0 : Hid (mixL (fun i => as1.getD i 0 % m) as1 0 = as1) := Lib.hid (by simp [mixL])
    have HST : Hid (ShS w w2 (.slice qa n ca) n m c as1 0 (.slice none 0 0) w2) := Lib.hid ⟨HB3.out, by rw [HM0.out]; exact HOA.out, World.ownsRow_nil w2 w2.heap.size 31 1, Nat.le_refl _, HB3.out.size, HOV.out⟩
    clear hb2 hown hvb HCL HB2 HA HM0
    go_wp2_with fail
    go_loopw [13, 14, 58] (fun bv _ i wr => ∃ k : Nat, k ≤ n ∧ i = .int .i64 (k : Int) ∧ Hid (ShS w w2 (.slice qa n ca) n m c as1 k bv wr)) (fun _ _ i _ => n - (intOf i).toNat)
    case atStart => exact ⟨0, by omega, rfl, HST⟩
    case round =>
      clear HST
      obtain ⟨k, hk, rfl, HS⟩ := hrel
      by_cases hlt : k < n
      · have hka : k < as1.length := by rw [HAL.out]; exact hlt
        have hs2 := HS.out.2.1
        obtain ⟨gg, cc, hv⟩ := Joins.ownsRow_form hs2 (by omega)
        injection hv with hv1 hv2 hv3
        subst hv1
        subst hv3
        have hx32 : as1[k] < 4294967296 := HAB.out _ (List.getElem_mem hka)
        have hxd : as1.getD k 0 = as1[k] := by rw [List.getD_eq_getElem?_getD, List.getElem?_eq_getElem hka]; rfl
        have hca1 : wr.cell? ⟨gg, k, none⟩ = some (.int .u32 (as1[k] : Int)) := by rw [hs2.cellAt k (by omega), mix_at hka]
        have hfz := hs2.frozenAt k
        have hand1 := HLOW.out _ hx32
        obtain ⟨y, hy⟩ : ∃ y, y = as1[k] % m := ⟨_, rfl⟩
        rw [← hy] at hand1
        have hy32 : y < 4294967296 := by rw [hy]; exact Nat.lt_of_le_of_lt (Nat.mod_le _ _) hx32
        have hand2 := HAND.out ((y : Int) + (c : Int))
        obtain ⟨z, hz⟩ : ∃ z, z = (y + c) % m := ⟨_, rfl⟩
        rw [show ((y : Int) + (c : Int)) % (m : Int) = (z : Int) from by rw [hz]; push_cast; rfl, IntKind.wrap_u32] at hand2
        obtain ⟨W, hW⟩ : ∃ W, W = wr.setCell ⟨gg, k, none⟩ (.int .u32 (y : Int)) := ⟨_, rfl⟩
        obtain ⟨HR1, HR2, HR3, HR4⟩ := HS.out.next hlt HAL.out y z (by rw [hxd]; exact hy) hz W hW
        have HR4 := Lib.hid HR4
        have hcw1 : W.cell? ⟨gg, k, none⟩ = some (.int .u32 (y : Int)) := by rw [hW]; simp [World.cell?_setCell_same, hca1]
        generalize as1[k] = x at hca1 hand1
        have ql2 : decide ((k : Int) < (n : Int)) = true := by simpa using hlt
        have i1 : (0 : Int) ≤ (k : Int) := by omega
        have i2 : (k : Int) < (n : Int) := by omega
        subst hW
        clear hs2 HS hy hz hxd hx32
        go_wp2_with (at_builtin; refine wpList_append_vals Try.underlying22 hi hz0 hz1 hz2 rfl (by decide) rfl _ _ rfl w2.heap.size _ k _ rfl HR2 (some ⟨wr.heap.size, 0, none⟩) 1 1 (u32s [z]) rfl HR1 rfl (fun h => by cases h) u32s_one (by omega) HR3 ?_)
        intro v2 w4 hown4 _ hb4
        have HN := Lib.hid (HR4.out v2 w4 hown4 hb4)
        clear hown4 hb4 HR1 HR2 HR3 HR4 hca1 hfz hcw1 hand1 hand2
        go_wp2_with fail
        go_roundw
        case rel => exact ⟨k + 1, by omega, by go_num, HN⟩
        case measure => simp [intOf]; omega
      · have : k = n := by omega
        subst this
        obtain ⟨t1, t2, t3, t4, t5, t6⟩ := HS.out
        rw [mix_all (by rw [HAL.out]; exact Nat.le_refl _), range_map] at t2
        rw [List.take_of_length_le (by rw [addL_length, HAL.out]; exact Nat.le_refl _)] at t3
        obtain ⟨A, hA⟩ : ∃ A, A = as1.map (· % m) := ⟨_, rfl⟩
        have hAl : A.length = k := by rw [hA, List.length_map, HAL.out]
        have hAm : ∀ v ∈ A, v < m := fun v hv => by
          rw [hA] at hv
          obtain ⟨u, _, rfl⟩ := List.mem_map.1 hv
          exact Nat.mod_lt _ (by omega)
        have hBe : addL m c as1 = A.map fun v => (v + c) % m := by rw [hA]; rfl
        have hBm : ∀ v ∈ addL m c as1, v < m := fun v hv => by
          rw [hBe] at hv
          obtain ⟨u, _, rfl⟩ := List.mem_map.1 hv
          exact Nat.mod_lt _ (by omega)
        have hBl : (addL m c as1).length = k := by rw [addL_length, HAL.out]
        rw [← hA] at t2
        have HSH := Lib.hid (fun i (h : i < A.length) => diff_shift (c := c) hp1 (show 0 < m by omega) hAm h)
        rw [← hBe] at HSH
        have HXM := Lib.hid (fun i => diffA_lt (per := pp) (i := i) (show 0 < m by omega) hAm)
        generalize addL m c as1 = B at t3 hBm hBl HSH hBe
        obtain ⟨qb, cb, hv, _, _, _, hvb, _⟩ := vrow_own t3 (by rw [u32s_length]; exact hBl)
        subst hv
        obtain ⟨qa2, ca2, hv, _, _, _, hva, _⟩ := vrow_own t2 (by rw [u32s_length]; exact hAl)
        injection hv with hv1 _ hv3
        subst hv1
        subst hv3
        have hd1 := HDF.out qa k ca A wr hva hAl (by omega)
        rw [HCK.out A hAl hAm] at hd1
        have HD1 := Lib.hid hd1
        have HEB := Lib.hid (HCK.out B hBl hBm)
        have HBL := Lib.hid hBl
        have HAL2 := Lib.hid hAl
        have HB4 := Lib.hid t1
        have HVB := Lib.hid hvb
        have ql2 : decide ((k : Int) < (k : Int)) = false := by simp
        clear t1 t2 t3 t4 t5 t6 hA hAm hBe hBm hBl hva hvb hd1 HS hlt hk hAl HLOW HCK
        go_wp2_with fail
        refine HD1.out.mono ?_
        intro e1 w5 hp1
        obtain ⟨hb5, qx, cx, he1, hvx, _⟩ := un_yes (n := k) hp1 (by rw [diffL_length, HAL2.out])
        subst he1
        have HB5 := Lib.hid (HB4.out.trans (hb5.mono HB4.out.size))
        have hd2 := HDF.out qb k cb B w5 ((HVB.out.below hb5 (Nat.le_refl _)).mono hb5.size) HBL.out (by omega)
        rw [HEB.out] at hd2
        have HD2 := Lib.hid hd2
        have HVX := Lib.hid hvx
        clear hp1 hb5 hvx hd2 HD1 HB4 HVB HEB HDF
        go_wp2_with fail
        refine HD2.out.mono ?_
        intro e1 w6 hp1
        obtain ⟨hb6, qy, cy, he1, hvy, _⟩ := un_yes (n := k) hp1 (by rw [diffL_length, HBL.out])
        subst he1
        have HB6 := Lib.hid (HB5.out.trans (hb6.mono HB5.out.size))
        have HVX6 := Lib.hid ((HVX.out.below hb6 (Nat.le_refl _)).mono hb6.size)
        have HVY := Lib.hid hvy
        clear hp1 hb6 hvy HD2 HB5 HVX
        have qkk : ((k : Int) != (k : Int)) = false := by simp
        generalize hPP : (pp : Int) = P
        have HPP := Lib.hid hPP
        clear hPP
        go_wp2_with fail
        go_loopw [19, 116] (fun _ i wr => ∃ j : Nat, j ≤ k ∧ i = .int .i64 (j : Int) ∧ Hid (Drawn w6 wr)) (fun _ i _ => k - (intOf i).toNat)
        case atStart => exact ⟨0, by omega, rfl, Lib.hid ⟨0, rfl⟩⟩
        case round =>
          obtain ⟨j, hj, rfl, HD⟩ := hrel
          by_cases hlt : j < k
          · have hjx : j < (diffL m pp A).length := by rw [diffL_length, HAL2.out]; exact hlt
            have hjy : j < (diffL m pp B).length := by rw [diffL_length, HBL.out]; exact hlt
            obtain ⟨b1, o1, hq1, _, hc1⟩ := vrow_u32 HVX6.out j hjx
            obtain ⟨b2, o2, hq2, _, hc2⟩ := vrow_u32 HVY.out j hjy
            subst hq1
            subst hq2
            have hjv : (diffL m pp A)[j] = diffA m pp A j := by
              have := diffL_get (m := m) (per := pp) (l := A) (i := j) (by rw [HAL2.out]; exact hlt)
              rwa [List.getD_eq_getElem?_getD, List.getElem?_eq_getElem hjx] at this
            have hjw : (diffL m pp B)[j] = if pp ≤ j then diffA m pp A j else (diffA m pp A j + c) % m := by
              have := diffL_get (m := m) (per := pp) (l := B) (i := j) (by rw [HBL.out]; exact hlt)
              rw [List.getD_eq_getElem?_getD, List.getElem?_eq_getElem hjy, Option.getD_some] at this
              rw [this, HSH.out j (by rw [HAL2.out]; exact hlt)]
            rw [hjv] at hc1
            rw [hjw] at hc2
            have hxm := HXM.out j
            generalize diffA m pp A j = x at hc1 hc2 hxm
            have hd := HD.out
            obtain ⟨i, hi⟩ := hd
            have hra : wr.cell? ⟨b1, o1 + j, none⟩ = some (.int .u32 (x : Int)) := by rw [hi]; exact hc1
            have hrb : wr.cell? ⟨b2, o2 + j, none⟩ = some (.int .u32 ((if pp ≤ j then x else (x + c) % m : Nat) : Int)) := by rw [hi]; exact hc2
            have ql3 : decide ((j : Int) < (k : Int)) = true := by simpa using hlt
            have i1 : (0 : Int) ≤ (j : Int) := by omega
            have i2 : (j : Int) < (k : Int) := by omega
            have hx32 : x < 4294967296 := by omega
            clear hjx hjy hjv hjw hc1 hc2 hi hxm
            by_cases hpj : pp ≤ j
            · rw [if_pos hpj] at hrb
              have p1 : decide ((j : Int) < P) = false := by have := HPP.out; simp; omega
              have p2 : decide (P ≤ (j : Int)) = true := by have := HPP.out; simp; omega
              have p3 : ((x : Int) != (x : Int)) = false := by simp
              clear hpj
              go_wp2_with fail
              go_quiet (fail)
              go_wp2_with fail
              go_roundw
              case rel => exact ⟨j + 1, by omega, by go_num, Lib.hid (HD.out.more _)⟩
              case measure => simp [intOf]; omega
            · rw [if_neg hpj] at hrb
              have hand2 := HAND.out ((x : Int) + (c : Int))
              obtain ⟨z, hz⟩ : ∃ z, z = (x + c) % m := ⟨_, rfl⟩
              rw [show ((x : Int) + (c : Int)) % (m : Int) = (z : Int) from by rw [hz]; push_cast; rfl, IntKind.wrap_u32] at hand2
              rw [← hz] at hrb
              have p1 : decide ((j : Int) < P) = true := by have := HPP.out; simp; omega
              have p2 : decide (P ≤ (j : Int)) = false := by have := HPP.out; simp; omega
              have p3 : ((z : Int) != (z : Int)) = false := by simp
              clear hpj hz
              go_wp2_with fail
              go_quiet (fail)
              go_wp2_with fail
              go_roundw
              case rel => exact ⟨j + 1, by omega, by go_num, Lib.hid (HD.out.more _)⟩
              case measure => simp [intOf]; omega
          · have : j = k := by omega
            subst this
            have ql3 : decide ((j : Int) < (j : Int)) = false := by simp
            have HBE := Lib.hid (HB6.out.trans (HD.out.below _))
            clear hlt hj HD
            go_wp2_with fail
            go_ret
            exact ⟨rfl, HBE.out⟩
end Go.Proofs.Ytgakegomanfccaa.Pd

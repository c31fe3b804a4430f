
/- The walk of MhRows. -/
import Derived.Test.YtgddpjnikgcamaaDoorMiI
import Derived.Test.YtgddpjnikgcamaaDoorMiJ
import Derived.Test.YtgddpjnikgcamaaDoorBitV
import Derived.Test.YtgddpjnikgcamaaDoorTail
import Derived.Deep.RegionHeld3
namespace Go.Proofs.YtgddpjnikgcamaaDoor.Mh
open Go.RowKit Go.Proofs.YtgddpjnikgcamaaDoor.Oct Go.Proofs.YtgddpjnikgcamaaDoor.Bit
open Go.Proofs.YtgddpjnikgcamaaDoor.Fx (Tab Cd Out OutW WrP codes_any TrueT)
open Go.Proofs.YtgddpjnikgcamaaDoor.Rn (changes zl zl_length rchanges_new)
open Go.Proofs.YtgddpjnikgcamaaDoor.Lp (VRow ints ints_length)
set_option linter.unusedVariables false
set_option linter.unusedSimpArgs false
set_option maxRecDepth 100000

theorem rowC_row (X : List Bool) : rowC (changes X) X.length = rowF X := rfl
theorem Ws.below {w w' : World} {g : Nat} {v : Value} {l : List Bool} {low : Bool} (h : Ws w g v l low) (hb : Below w.heap.size w w') : Ws w' g v l low :=
  Wr.only h (Only.of_below hb : Only (fun _ => False) w w') (fun e => e) (fun _ _ e => e)
theorem mine_nil {g k : Nat} (h : Mine g (.slice none 0 0) k) : k = g := by
  rcases h with e | e
  · exact e
  · cases e
theorem chg_le (X : List Bool) : (changes X).length ≤ X.length := Rn.chg_len X false 0
set_option maxHeartbeats 16000000 in
theorem rows_walk (p : Option Addr) (len cap : Nat) (zs : List Int) (p2 : Option Addr) (len2 cap2 : Nat) (zs2 : List Int) (w : World) (hT : Tab w) (hr0 : IsRow .u8 w p len cap zs) (hr20 : IsRow .u8 w p2 len2 cap2 zs2) :
    Calls Tryd.prog 3 #[.slice p len cap, .slice p2 len2 cap2] w fun e w' => e = .returned (.bool true) ∧ Below w.heap.size w w' := by
  obtain ⟨xs, hx, hr, hlc, hcm, hnil⟩ := hr0.row
  obtain ⟨ys, hy, hr2, hlc2, hcm2, hnil2⟩ := hr20.row
  obtain ⟨n, hn⟩ : ∃ n, n = min len len2 := ⟨_, rfl⟩
  have hmn : min (len : Int) (len2 : Int) = (n : Int) := by omega
  have HT := Lib.hid hT
  clear hr0 hr20 hT hnil hnil2
  by_cases hbad : n = 0 ∨ 300 < n
  · have hways : (((n : Int) == 0) = true) ∨ (((n : Int) == 0) = false ∧ decide (300 < (n : Int)) = true) := by
      rcases hbad with h | h
      · left; simp; omega
      · right; constructor <;> simp <;> omega
    clear hbad hr hr2 hx hy hlc hlc2 hcm hcm2 hn
    rcases hways with q1 | ⟨q1, q2⟩
    · go_enter Tryd.func3, Tryd.ntmps3
      go_wp2_with fail
      refine (lives_any w HT.out).mono ?_
      rintro e w1 ⟨rfl, hb1⟩
      have HT1 := Lib.hid (HT.out.below hb1 HT.out.lt)
      go_wp2_with fail
      refine (lives_any w1 HT1.out).mono ?_
      rintro e w2 ⟨rfl, hb2⟩
      go_wp2_with fail
      go_ret
      exact ⟨rfl, hb1.trans (hb2.mono hb1.size)⟩
    · go_enter Tryd.func3, Tryd.ntmps3
      go_wp2_with fail
      refine (lives_any w HT.out).mono ?_
      rintro e w1 ⟨rfl, hb1⟩
      have HT1 := Lib.hid (HT.out.below hb1 HT.out.lt)
      go_wp2_with fail
      refine (lives_any w1 HT1.out).mono ?_
      rintro e w2 ⟨rfl, hb2⟩
      go_wp2_with fail
      go_ret
      exact ⟨rfl, hb1.trans (hb2.mono hb1.size)⟩
  · have q1 : ((n : Int) == 0) = false := by simp; omega
    have q2 : decide (300 < (n : Int)) = false := by simp; omega
    have hn1 : 1 ≤ n := by omega
    have hn300 : n ≤ 300 := by omega
    have hs1 := fun W => head_run W p len cap n (by omega)
    have hs2 := fun W => head_run W p2 len2 cap2 n (by omega)
    have hrow1 := head_row cap n hr
    have hrow2 := head_row cap2 n hr2
    have hxl : (xs.take n).length = n := by rw [List.length_take]; omega
    have hyl : (ys.take n).length = n := by rw [List.length_take]; omega
    generalize headA p cap = h1 at *
    generalize headA p2 cap2 = h2 at *
    generalize xs.take n = xa at *
    generalize ys.take n = ya at *
    have HP1 := Lib.hid (fun (w1 : World) (hb : Below w.heap.size w w1) k => quietly (pixels_any h1 n cap xa (w1.drewN k) (hrow1.below (hb.trans ((show Drawn w1 (w1.drewN k) from ⟨k, rfl⟩).below w.heap.size))) hxl (by omega)))
    have HP2 := Lib.hid (fun (w1 : World) (hb : Below w.heap.size w w1) k => quietly (pixels_any h2 n cap2 ya (w1.drewN k) (hrow2.below (hb.trans ((show Drawn w1 (w1.drewN k) from ⟨k, rfl⟩).below w.heap.size))) hyl (by omega)))
    have hXl : (pixB xa).length = n := by rw [pixB_length]; exact hxl
    have hYl : (pixB ya).length = n := by rw [pixB_length]; exact hyl
    generalize pixB xa = X at *
    generalize pixB ya = Y at *
    have HXL := Lib.hid hXl
    have HYL := Lib.hid hYl
    clear hbad hr hr2 hx hy hrow1 hrow2 hxl hyl hXl hYl hn
    go_enter Tryd.func3, Tryd.ntmps3
    go_wp2_with fail
    refine (lives_any w HT.out).mono ?_
    rintro e w1 ⟨rfl, hb1⟩
    have HT1 := Lib.hid (HT.out.below hb1 HT.out.lt)
    have HB1 := Lib.hid hb1
    have HQ1 := Lib.hid (HP1.out w1 hb1)
    have HQ2 := Lib.hid (HP2.out w1 hb1)
    clear hb1 HP1 HP2
    go_wp2_with fail
    go_quiet (first
      | (go_at_call 9; with_reducible exact HQ1.out _)
      | (go_at_call 9; with_reducible exact HQ2.out _))
    have HB2 := Lib.hid (HB1.out.trans (((show Drawn w1 (w1.drewN nq) from ⟨nq, rfl⟩).below w1.heap.size).mono HB1.out.size))
    generalize w1.drewN nq = w2 at *
    clear HQ1 HQ2
    go_wp2_with fail
    refine (rchanges_new X w2 (by have := HXL.out; omega)).mono ?_
    rintro e w3 ⟨hb3, qa, ca, rfl, hva, hqa0, hqac, hqam, hqan⟩
    have HB3 := Lib.hid (HB2.out.trans (hb3.mono HB2.out.size))
    have HVA := Lib.hid hva
    have HQAC := Lib.hid hqac
    clear hb3 hva hqa0 hqac hqam hqan
    go_wp2_with fail
    refine (rchanges_new Y w3 (by have := HYL.out; omega)).mono ?_
    rintro e w4 ⟨hb4, qb, cb, rfl, hvb, hqb0, hqbc, hqbm, hqbn⟩
    have HB4 := Lib.hid (HB3.out.trans (hb4.mono HB3.out.size))
    have HVA4 := Lib.hid ((HVA.out.below hb4 (Nat.le_refl _)).mono hb4.size)
    have HVB := Lib.hid hvb
    have HQBC := Lib.hid hqbc
    have HT4 := Lib.hid (HT.out.below HB4.out HT.out.lt)
    clear hb4 hvb hqb0 hqbc hqbm hqbn HVA HB3 HB2
    obtain ⟨ma, hma⟩ : ∃ ma, ma = (zl (changes X)).length := ⟨_, rfl⟩
    obtain ⟨mb, hmb⟩ : ∃ mb, mb = (zl (changes Y)).length := ⟨_, rfl⟩
    rw [← hma] at HQAC ⊢
    rw [← hmb] at HQBC ⊢
    have HMA : Hid ((changes X).length = ma ∧ ma ≤ 300) := Lib.hid ⟨by rw [hma, zl_length], by rw [hma, zl_length]; have := chg_le X; have := HXL.out; omega⟩
    have HMB : Hid ((changes Y).length = mb ∧ mb ≤ 300) := Lib.hid ⟨by rw [hmb, zl_length], by rw [hmb, zl_length]; have := chg_le Y; have := HYL.out; omega⟩
    clear hma hmb
    go_wp2_with fail
    refine (newWriter_any false w4).mono ?_
    rintro e w5 ⟨hb5, rfl, hw5⟩
    obtain ⟨gw, hgw⟩ : ∃ gw, gw = w4.heap.size := ⟨_, rfl⟩
    rw [← hgw] at hw5 ⊢
    have HGW := Lib.hid hgw
    have HB5 := Lib.hid hb5
    have HW5 := Lib.hid hw5
    clear hb5 hw5 hgw
    go_wp2_with fail
    refine (newWriter_any false w5).mono ?_
    rintro e w6 ⟨hb6, rfl, hw6⟩
    obtain ⟨gx, hgx⟩ : ∃ gx, gx = w5.heap.size := ⟨_, rfl⟩
    rw [← hgx] at hw6 ⊢
    have HGX := Lib.hid hgx
    have HB6 := Lib.hid hb6
    have HX6 := Lib.hid hw6
    have HW6 := Lib.hid (Ws.below HW5.out hb6)
    have HGG : Hid (gw < gx) := Lib.hid (by have := Wr.lt HW5.out; omega)
    clear hb6 hw6 hgx HW5
    have HB56 := Lib.hid (HB5.out.trans (HB6.out.mono HB5.out.size))
    go_wp2_with fail
    refine (codes_any w6 (HT4.out.below HB56.out HT4.out.lt)).mono ?_
    rintro e w7 ⟨hb7, c, rfl, hc⟩
    have HB7 := Lib.hid hb7
    have HC7 := Lib.hid hc
    have HW7 := Lib.hid (Ws.below HW6.out hb7)
    have HX7 := Lib.hid (Ws.below HX6.out hb7)
    have HB47 := Lib.hid (HB56.out.trans (hb7.mono HB56.out.size))
    have HXlt := Lib.hid (Wr.lt HX6.out)
    clear hb7 hc HW6 HX6 HB5 HB6
    have hoa : OutW w6.heap.size w7.heap.size gw (.slice none 0 0) := fun k hk => .inl (by have := mine_nil hk; have := HGG.out; have := HXlt.out; omega)
    have hob : OutW w6.heap.size w7.heap.size gx (.slice none 0 0) := fun k hk => .inl (by have := mine_nil hk; have := HXlt.out; omega)
    have HVA7 := Lib.hid ((HVA4.out.below HB47.out (Nat.le_refl _)))
    have HVB7 := Lib.hid ((HVB.out.below HB47.out (Nat.le_refl _)))
    have HZ47 := Lib.hid HB47.out.size
    have HVX : Hid (Rn.Valid (changes X) n) := Lib.hid (by have h := Rn.changes_valid X; rw [HXL.out] at h; exact h)
    have HVY : Hid (Rn.Valid (changes Y) n) := Lib.hid (by have h := Rn.changes_valid Y; rw [HYL.out] at h; exact h)
    have HWR := Lib.hid (writeRow_any w7 w6.heap.size w7.heap.size c gw _ [] false qa ma ca (changes X) n HC7.out HW7.out hoa (HVA7.out.mono HZ47.out) HMA.out.1 HVX.out hn1 (by omega) (by simp; have := HMA.out.2; omega))
    clear HVA4 HVB
    go_wp2_with fail
    refine HWR.out.mono ?_
    rintro e w8 ⟨rfl, vw, hw8, ho8, hd8⟩
    have hon8 : ∀ k, Mine gw (.slice none 0 0) k → k = gw := fun k hk => mine_nil hk
    have HBE8 : Hid (Below w4.heap.size w4 w8) := Lib.hid (HB47.out.trans (ho8.below HZ47.out (fun k hk hm => by have := hon8 k hm; have := HGW.out; omega)))
    have HX8 := Lib.hid (Wr.only HX7.out ho8 (fun hm => by have := hon8 _ hm; have := HGG.out; omega) (fun k hk _ => by cases hk) : Ws w8 gx _ [] false)
    have HC8 := Lib.hid (HC7.out.only ho8 hoa)
    have HW8 := Lib.hid hw8
    have HVO8 : Hid (∀ k, vw.ownBlock = some k → w7.heap.size ≤ k) := Lib.hid (fun k hk => by
      rcases hd8 k hk with h | h
      · cases h
      · exact h)
    have hal : (againstA (changes X) (changes Y) n 0 false).length ≤ 40000 := by
      have h2 := against_len0 HVX.out HVY.out (T := 26) (fun b x hx => tell_len2 b (by omega))
      have h3 := HMA.out
      have h4 := HMB.out
      rw [h3.1, h4.1] at h2
      have := Nat.mul_le_mul_left (2 * 26 + 7) (show ma + mb + 1 ≤ 601 by omega)
      omega
    have HAL := Lib.hid hal
    have HVA8 := Lib.hid (((HVA7.out.mono (Nat.le_refl _)).below (ho8.below HZ47.out (fun k hk hm => by have := hon8 k hm; have := HGW.out; omega)) (Nat.le_refl _)).mono (Nat.le_trans HZ47.out ho8.2.2.2.1))
    have HVB8 := Lib.hid (((HVB7.out.mono (Nat.le_refl _)).below (ho8.below HZ47.out (fun k hk hm => by have := hon8 k hm; have := HGW.out; omega)) (Nat.le_refl _)).mono (Nat.le_trans HZ47.out ho8.2.2.2.1))
    have far : ∀ {q : Option Addr} {d : List Nat}, VRow w7 w4.heap.size q (ints (zl d)) → ∀ a, q = some a → 0 < d.length → ¬ Mine gx (.slice none 0 0) a.block := fun {q d} hv a ha h0 hm => by
      obtain ⟨b0, off0, e, hb, _⟩ := hv (by rw [ints_length, zl_length]; exact h0)
      rw [ha] at e
      injection e with e
      have h1 := mine_nil hm
      rw [e] at h1
      simp only at h1
      have := HGW.out
      have := HGG.out
      omega
    have HWA := Lib.hid (writeAgainst_any w8 w6.heap.size w7.heap.size c gx _ [] false qa ma ca (changes X) qb mb cb (changes Y) n HC8.out HX8.out hob HVA8.out HMA.out.1 (by have := HMA.out.2; omega) HQAC.out (far HVA7.out) HVX.out HVB8.out HMB.out.1 (by have := HMB.out.2; omega) HQBC.out (far HVB7.out) HVY.out hn1 (by omega) (by simp; omega))
    clear hw8 ho8 hd8 hon8 hoa hob far hal HWR
    go_wp2_with fail
    refine HWA.out.mono ?_
    rintro e w9 ⟨rfl, vx, hx9, ho9, hd9⟩
    have hon9 : ∀ k, Mine gx (.slice none 0 0) k → k = gx := fun k hk => mine_nil hk
    have HBE9 : Hid (Below w4.heap.size w4 w9) := Lib.hid (HBE8.out.trans (ho9.below HBE8.out.size (fun k hk hm => by have := hon9 k hm; have := HGW.out; have := HGG.out; omega)))
    have HW9 := Lib.hid (Wr.only HW8.out ho9 (fun hm => by have := hon9 _ hm; have := HGG.out; omega) (fun k hk hm => by have := hon9 _ hm; have := HVO8.out k hk; have := HC7.out.1; have := HXlt.out; have := HB7.out.size; omega) : Ws w9 gw vw _ false)
    have HX9 := Lib.hid hx9
    have HRR := Lib.hid (rrow_any X w9 (by have := HXL.out; omega))
    clear hx9 ho9 hd9 hon9 HWA HW8 HX8
    rw [List.nil_append] at HW9 HX9
    go_wp2_with fail
    refine HRR.out.mono ?_
    rintro e w10 ⟨rfl, hb10⟩
    have HB10 := Lib.hid hb10
    have HRA := Lib.hid (ragainst_any X Y n w10 HXL.out HYL.out hn1 (by omega))
    clear hb10 HRR
    go_wp2_with fail
    refine HRA.out.mono ?_
    rintro e w11 ⟨rfl, hb11⟩
    have HB911 := Lib.hid (HB10.out.trans (hb11.mono HB10.out.size))
    have HWS1 := Lib.hid (Ws.below HW9.out HB911.out)
    have HWS2 := Lib.hid (Ws.below HX9.out HB911.out)
    have HFIN : Hid (Below w.heap.size w w11) := Lib.hid (HB4.out.trans ((HBE9.out.trans (HB911.out.mono HBE9.out.size)).mono HB4.out.size))
    have hl1 : (rowF X).length ≤ 100000 := by
      have h1 := restR_len false 0 X false 0 (by have := HXL.out; omega)
      rw [rowF_runs]
      have := HXL.out
      unfold restR at h1
      omega
    have hl2 := HAL.out
    have e1 : rowC (changes X) n = rowF X := by rw [← HXL.out]; rfl
    rw [e1] at HWS1
    clear e1 hb11 HRA HW9 HX9 HB10 HB911 HBE9 HBE8 HC8 HC7 HW7 HX7 HVA7 HVB7 HVA8 HVB8 HB47 HB56 HVO8 HAL HB7 HXlt HZ47 HGW HGX HGG HQAC HQBC HMA HMB HVX HVY HT4 HT1 HB1 HXL HYL
    generalize rowF X = L1 at *
    generalize againstA (changes X) (changes Y) n 0 false = L2 at *
    have hsz1 := ds_size L1
    have hsz2 := ds_size L2
    have HLEN1 := Lib.hid (fun (z : World) (hb : Below w11.heap.size w11 z) => len_any z gw vw L1 false (Ws.below HWS1.out hb))
    have HLEN2 := Lib.hid (fun (z : World) (hb : Below w11.heap.size w11 z) => len_any z gx vx L2 false (Ws.below HWS2.out hb))
    have HBY1 := Lib.hid (fun (z : World) (hb : Below w11.heap.size w11 z) => bytes_any z gw vw L1 false (Ws.below HWS1.out hb) (by omega))
    have HBY2 := Lib.hid (fun (z : World) (hb : Below w11.heap.size w11 z) => bytes_any z gx vx L2 false (Ws.below HWS2.out hb) (by omega))
    have HRB1 := Lib.hid (fun (z : World) => rbytes_any L1 false z (by omega))
    have HRB2 := Lib.hid (fun (z : World) => rbytes_any L2 false z (by omega))
    generalize hT1 : ds L1 = T1 at *
    generalize hT2 : ds L2 = T2 at *
    generalize hK1 : packB false L1 = K1 at *
    generalize hK2 : packB false L2 = K2 at *
    have hbd : Below w11.heap.size w11 w11.drew := (show Drawn w11 w11.drew from ⟨1, rfl⟩).below _
    clear hT1 hT2 hK1 hK2 HWS1 HWS2
    go_wp2_with fail
    refine wp_region_held_drew (S := fun _ => True) (by kernel_rfl) trivial (fun hHeld => ?_)
    refine wpAnyH_take (i := 0) (v := ?v1) rfl (by kernel_rfl) (by kernel_rfl) (by kernel_rfl) (fun _ _ _ h => h) (Or.inl ⟨by rfl, fun w hSw => ?y1⟩) trivial ?r1
    case y1 => (try dsimp only at hSw); first | (go_simp; done) | (go_simp; with_reducible rfl)
    try simp only [Act.put, List.setIfInBounds_toArray, List.set_cons_zero, List.set_cons_succ, List.getElem_toArray, List.getElem_cons_zero, List.getElem_cons_succ]
    refine wpAnyH_take (i := 1) (v := ?v2) rfl (by kernel_rfl) (by kernel_rfl) (by kernel_rfl) (fun _ _ _ h => h) (Or.inl ⟨by rfl, fun w hSw => ?y2⟩) trivial ?r2
    case y2 => (try dsimp only at hSw); first | (go_simp; done) | (go_simp; with_reducible rfl)
    try simp only [Act.put, List.setIfInBounds_toArray, List.set_cons_zero, List.set_cons_succ, List.getElem_toArray, List.getElem_cons_zero, List.getElem_cons_succ]
    refine wpAnyH_take (i := 2) (v := ?v3) rfl (by kernel_rfl) (by kernel_rfl) (by kernel_rfl) (fun _ _ _ h => h) (Or.inl ⟨by rfl, fun w hSw => ?y3⟩) trivial ?r3
    case y3 => (try dsimp only at hSw); first | (go_simp; done) | (go_simp; with_reducible rfl)
    try simp only [Act.put, List.setIfInBounds_toArray, List.set_cons_zero, List.set_cons_succ, List.getElem_toArray, List.getElem_cons_zero, List.getElem_cons_succ]
    refine wpAnyH_take (i := 3) (v := ?v4) rfl (by kernel_rfl) (by kernel_rfl) (by kernel_rfl) (fun _ _ _ h => h) (Or.inl ⟨by rfl, fun w hSw => ?y4⟩) trivial ?r4
    case y4 => (try dsimp only at hSw); first | (go_simp; done) | (go_simp; with_reducible rfl)
    try simp only [Act.put, List.setIfInBounds_toArray, List.set_cons_zero, List.set_cons_succ, List.getElem_toArray, List.getElem_cons_zero, List.getElem_cons_succ]
    refine wpAnyH_take (i := 4) (v := ?v5) rfl (by kernel_rfl) (by kernel_rfl) (by kernel_rfl) (fun _ _ _ h => h) (Or.inl ⟨by rfl, fun w hSw => ?y5⟩) trivial ?r5
    case y5 => (try dsimp only at hSw); first | (go_simp; done) | (go_simp; with_reducible rfl)
    try simp only [Act.put, List.setIfInBounds_toArray, List.set_cons_zero, List.set_cons_succ, List.getElem_toArray, List.getElem_cons_zero, List.getElem_cons_succ]
    refine wpAnyH_take (i := 5) (v := ?v6) rfl (by kernel_rfl) (by kernel_rfl) (by kernel_rfl) (fun _ _ _ h => h) (Or.inl ⟨by rfl, fun w hSw => ?y6⟩) trivial ?r6
    case y6 => (try dsimp only at hSw); first | (go_simp; done) | (go_simp; with_reducible rfl)
    try simp only [Act.put, List.setIfInBounds_toArray, List.set_cons_zero, List.set_cons_succ, List.getElem_toArray, List.getElem_cons_zero, List.getElem_cons_succ]
    refine wpAnyH_take (i := 6) (v := ?v7) rfl (by kernel_rfl) (by kernel_rfl) (by kernel_rfl) (fun _ _ _ h => h) (Or.inl ⟨by rfl, fun w hSw => ?y7⟩) trivial ?r7
    case y7 => (try dsimp only at hSw); first | (go_simp; done) | (go_simp; with_reducible rfl)
    try simp only [Act.put, List.setIfInBounds_toArray, List.set_cons_zero, List.set_cons_succ, List.getElem_toArray, List.getElem_cons_zero, List.getElem_cons_succ]
    refine wpAnyH_take (i := 7) (v := ?v8) rfl (by kernel_rfl) (by kernel_rfl) (by kernel_rfl) (fun _ _ _ h => h) (Or.inl ⟨by rfl, fun w hSw => ?y8⟩) trivial ?r8
    case y8 => (try dsimp only at hSw); first | (go_simp; done) | (go_simp; with_reducible rfl)
    try simp only [Act.put, List.setIfInBounds_toArray, List.set_cons_zero, List.set_cons_succ, List.getElem_toArray, List.getElem_cons_zero, List.getElem_cons_succ]
    refine wpAnyH_take (i := 9) (v := ?v9) rfl (by kernel_rfl) (by kernel_rfl) (by kernel_rfl) (fun _ _ _ h => h) (Or.inl ⟨by rfl, fun w hSw => ?y9⟩) trivial ?r9
    case y9 => (try dsimp only at hSw); first | (go_simp; done) | (go_simp; with_reducible rfl)
    try simp only [Act.put, List.setIfInBounds_toArray, List.set_cons_zero, List.set_cons_succ, List.getElem_toArray, List.getElem_cons_zero, List.getElem_cons_succ]
    refine wpAnyH_take (i := 10) (v := ?v10) rfl (by kernel_rfl) (by kernel_rfl) (by kernel_rfl) (fun _ _ _ h => h) (Or.inl ⟨by rfl, fun w hSw => ?y10⟩) trivial ?r10
    case y10 => (try dsimp only at hSw); first | (go_simp; done) | (go_simp; with_reducible rfl)
    try simp only [Act.put, List.setIfInBounds_toArray, List.set_cons_zero, List.set_cons_succ, List.getElem_toArray, List.getElem_cons_zero, List.getElem_cons_succ]
    refine wpAnyH_ready (rs := [8]) (by kernel_rfl) (by simp) ?_
    refine AllReadyH.cons rfl (fun K hK => ?_) AllReadyH.nil
    go_simp
    refine (HLEN1.out _ hbd).mono ?_
    rintro e zz ⟨rfl, rfl⟩
    go_wp2_with fail
    refine hK.out _ _ trivial (fun hQ => ?_)
    clear hK K
    try simp only [Act.put, List.setIfInBounds_toArray, List.set_cons_zero, List.set_cons_succ, List.getElem_toArray, List.getElem_cons_zero, List.getElem_cons_succ]
    refine wpAnyH_take (i := 11) (v := ?v11) rfl (by kernel_rfl) (by kernel_rfl) (by kernel_rfl) (fun _ _ _ h => h) (Or.inl ⟨by rfl, fun w hSw => ?y11⟩) trivial ?r11
    case y11 => (try dsimp only at hSw); first | (go_simp; done) | (go_simp; with_reducible rfl)
    try simp only [Act.put, List.setIfInBounds_toArray, List.set_cons_zero, List.set_cons_succ, List.getElem_toArray, List.getElem_cons_zero, List.getElem_cons_succ]
    refine wpAnyH_take (i := 12) (v := ?v12) rfl (by kernel_rfl) (by kernel_rfl) (by kernel_rfl) (fun _ _ _ h => h) (Or.inl ⟨by rfl, fun w hSw => ?y12⟩) trivial ?r12
    case y12 => (try dsimp only at hSw); first | (go_simp; done) | (go_simp; with_reducible rfl)
    try simp only [Act.put, List.setIfInBounds_toArray, List.set_cons_zero, List.set_cons_succ, List.getElem_toArray, List.getElem_cons_zero, List.getElem_cons_succ]
    refine wpAnyH_take (i := 13) (v := ?v13) rfl (by kernel_rfl) (by kernel_rfl) (by kernel_rfl) (fun _ _ _ h => h) (Or.inl ⟨by rfl, fun w hSw => ?y13⟩) trivial ?r13
    case y13 => (try dsimp only at hSw); first | (go_simp; done) | (go_simp; with_reducible rfl)
    try simp only [Act.put, List.setIfInBounds_toArray, List.set_cons_zero, List.set_cons_succ, List.getElem_toArray, List.getElem_cons_zero, List.getElem_cons_succ]
    refine wpAnyH_take (i := 14) (v := ?v14) rfl (by kernel_rfl) (by kernel_rfl) (by kernel_rfl) (fun _ _ _ h => h) (Or.inl ⟨by rfl, fun w hSw => ?y14⟩) trivial ?r14
    case y14 => (try dsimp only at hSw); first | (go_simp; done) | (go_simp; with_reducible rfl)
    try simp only [Act.put, List.setIfInBounds_toArray, List.set_cons_zero, List.set_cons_succ, List.getElem_toArray, List.getElem_cons_zero, List.getElem_cons_succ]
    refine wpAnyH_take (i := 17) (v := ?v15) rfl (by kernel_rfl) (by kernel_rfl) (by kernel_rfl) (fun _ _ _ h => h) (Or.inl ⟨by rfl, fun w hSw => ?y15⟩) trivial ?r15
    case y15 => (try dsimp only at hSw); first | (go_simp; done) | (go_simp; with_reducible rfl)
    try simp only [Act.put, List.setIfInBounds_toArray, List.set_cons_zero, List.set_cons_succ, List.getElem_toArray, List.getElem_cons_zero, List.getElem_cons_succ]
    refine wpAnyH_ready (rs := [15]) (by kernel_rfl) (by simp) ?_
    refine AllReadyH.cons rfl (fun K hK => ?_) AllReadyH.nil
    go_simp
    refine (HBY1.out _ hbd).mono ?_
    rintro e z3 ⟨hb_z3', q_z3, cap_z3, rfl, hr_z3, _⟩
    have cv_z3 := conv_row K1.length cap_z3 hr_z3 rfl
    have hb_z3 := hbd.trans (hb_z3'.mono hbd.size)
    go_wp2_with fail
    refine hK.out _ _ trivial (fun hQ => ?_)
    clear hK K
    try simp only [Act.put, List.setIfInBounds_toArray, List.set_cons_zero, List.set_cons_succ, List.getElem_toArray, List.getElem_cons_zero, List.getElem_cons_succ]
    refine wpAnyH_ready (rs := [16, 18]) (by kernel_rfl) (by simp) ?_
    refine AllReadyH.cons rfl (fun K hK => ?_) (AllReadyH.cons rfl (fun K hK => ?_) AllReadyH.nil)
    · go_simp
      refine hK.out _ _ trivial (fun _ => ?_)
      clear hK K
      try simp only [Act.put, List.setIfInBounds_toArray, List.set_cons_zero, List.set_cons_succ, List.getElem_toArray, List.getElem_cons_zero, List.getElem_cons_succ]
      refine wpAnyH_ready (rs := [18]) (by kernel_rfl) (by simp) ?_
      refine AllReadyH.cons rfl (fun K hK => ?_) AllReadyH.nil
      go_simp
      refine (HRB1.out _).mono ?_
      rintro e z4 ⟨rfl, hb_z4'⟩
      have hb_z4 := hb_z3.trans (hb_z4'.mono hb_z3.size)
      go_wp2_with fail
      refine hK.out _ _ trivial (fun hQ => ?_)
      clear hK K
      try simp only [Act.put, List.setIfInBounds_toArray, List.set_cons_zero, List.set_cons_succ, List.getElem_toArray, List.getElem_cons_zero, List.getElem_cons_succ]
      refine wpAnyH_take (i := 19) (v := ?v16) rfl (by kernel_rfl) (by kernel_rfl) (by kernel_rfl) (fun _ _ _ h => h) (Or.inl ⟨by rfl, fun w hSw => ?y16⟩) trivial ?r16
      case y16 => (try dsimp only at hSw); first | (go_simp; done) | (go_simp; with_reducible rfl)
      try simp only [Act.put, List.setIfInBounds_toArray, List.set_cons_zero, List.set_cons_succ, List.getElem_toArray, List.getElem_cons_zero, List.getElem_cons_succ]
      refine wpAnyH_take (i := 20) (v := ?v17) rfl (by kernel_rfl) (by kernel_rfl) (by kernel_rfl) (fun _ _ _ h => h) (Or.inl ⟨by rfl, fun w hSw => ?y17⟩) trivial ?r17
      case y17 => (try dsimp only at hSw); first | (go_simp; done) | (go_simp; with_reducible rfl)
      try simp only [Act.put, List.setIfInBounds_toArray, List.set_cons_zero, List.set_cons_succ, List.getElem_toArray, List.getElem_cons_zero, List.getElem_cons_succ]
      refine wpAnyH_take (i := 21) (v := ?v18) rfl (by kernel_rfl) (by kernel_rfl) (by kernel_rfl) (fun _ _ _ h => h) (Or.inl ⟨by rfl, fun w hSw => ?y18⟩) trivial ?r18
      case y18 => (try dsimp only at hSw); first | (go_simp; done) | (go_simp; with_reducible rfl)
      try simp only [Act.put, List.setIfInBounds_toArray, List.set_cons_zero, List.set_cons_succ, List.getElem_toArray, List.getElem_cons_zero, List.getElem_cons_succ]
      refine wpAnyH_take (i := 22) (v := ?v19) rfl (by kernel_rfl) (by kernel_rfl) (by kernel_rfl) (fun _ _ _ h => h) (Or.inl ⟨by rfl, fun w hSw => ?y19⟩) trivial ?r19
      case y19 => (try dsimp only at hSw); first | (go_simp; done) | (go_simp; with_reducible rfl)
      try simp only [Act.put, List.setIfInBounds_toArray, List.set_cons_zero, List.set_cons_succ, List.getElem_toArray, List.getElem_cons_zero, List.getElem_cons_succ]
      refine wpAnyH_take (i := 24) (v := ?v20) rfl (by kernel_rfl) (by kernel_rfl) (by kernel_rfl) (fun _ _ _ h => h) (Or.inl ⟨by rfl, fun w hSw => ?y20⟩) trivial ?r20
      case y20 => (try dsimp only at hSw); first | (go_simp; done) | (go_simp; with_reducible rfl)
      try simp only [Act.put, List.setIfInBounds_toArray, List.set_cons_zero, List.set_cons_succ, List.getElem_toArray, List.getElem_cons_zero, List.getElem_cons_succ]
      refine wpAnyH_take (i := 25) (v := ?v21) rfl (by kernel_rfl) (by kernel_rfl) (by kernel_rfl) (fun _ _ _ h => h) (Or.inl ⟨by rfl, fun w hSw => ?y21⟩) trivial ?r21
      case y21 => (try dsimp only at hSw); first | (go_simp; done) | (go_simp; with_reducible rfl)
      try simp only [Act.put, List.setIfInBounds_toArray, List.set_cons_zero, List.set_cons_succ, List.getElem_toArray, List.getElem_cons_zero, List.getElem_cons_succ]
      refine wpAnyH_ready (rs := [23]) (by kernel_rfl) (by simp) ?_
      refine AllReadyH.cons rfl (fun K hK => ?_) AllReadyH.nil
      go_simp
      refine (HLEN2.out _ hb_z4).mono ?_
      rintro e zz ⟨rfl, rfl⟩
      go_wp2_with fail
      refine hK.out _ _ trivial (fun hQ => ?_)
      clear hK K
      try simp only [Act.put, List.setIfInBounds_toArray, List.set_cons_zero, List.set_cons_succ, List.getElem_toArray, List.getElem_cons_zero, List.getElem_cons_succ]
      refine wpAnyH_take (i := 26) (v := ?v22) rfl (by kernel_rfl) (by kernel_rfl) (by kernel_rfl) (fun _ _ _ h => h) (Or.inl ⟨by rfl, fun w hSw => ?y22⟩) trivial ?r22
      case y22 => (try dsimp only at hSw); first | (go_simp; done) | (go_simp; with_reducible rfl)
      try simp only [Act.put, List.setIfInBounds_toArray, List.set_cons_zero, List.set_cons_succ, List.getElem_toArray, List.getElem_cons_zero, List.getElem_cons_succ]
      refine wpAnyH_take (i := 27) (v := ?v23) rfl (by kernel_rfl) (by kernel_rfl) (by kernel_rfl) (fun _ _ _ h => h) (Or.inl ⟨by rfl, fun w hSw => ?y23⟩) trivial ?r23
      case y23 => (try dsimp only at hSw); first | (go_simp; done) | (go_simp; with_reducible rfl)
      try simp only [Act.put, List.setIfInBounds_toArray, List.set_cons_zero, List.set_cons_succ, List.getElem_toArray, List.getElem_cons_zero, List.getElem_cons_succ]
      refine wpAnyH_take (i := 28) (v := ?v24) rfl (by kernel_rfl) (by kernel_rfl) (by kernel_rfl) (fun _ _ _ h => h) (Or.inl ⟨by rfl, fun w hSw => ?y24⟩) trivial ?r24
      case y24 => (try dsimp only at hSw); first | (go_simp; done) | (go_simp; with_reducible rfl)
      try simp only [Act.put, List.setIfInBounds_toArray, List.set_cons_zero, List.set_cons_succ, List.getElem_toArray, List.getElem_cons_zero, List.getElem_cons_succ]
      refine wpAnyH_take (i := 29) (v := ?v25) rfl (by kernel_rfl) (by kernel_rfl) (by kernel_rfl) (fun _ _ _ h => h) (Or.inl ⟨by rfl, fun w hSw => ?y25⟩) trivial ?r25
      case y25 => (try dsimp only at hSw); first | (go_simp; done) | (go_simp; with_reducible rfl)
      try simp only [Act.put, List.setIfInBounds_toArray, List.set_cons_zero, List.set_cons_succ, List.getElem_toArray, List.getElem_cons_zero, List.getElem_cons_succ]
      refine wpAnyH_take (i := 32) (v := ?v26) rfl (by kernel_rfl) (by kernel_rfl) (by kernel_rfl) (fun _ _ _ h => h) (Or.inl ⟨by rfl, fun w hSw => ?y26⟩) trivial ?r26
      case y26 => (try dsimp only at hSw); first | (go_simp; done) | (go_simp; with_reducible rfl)
      try simp only [Act.put, List.setIfInBounds_toArray, List.set_cons_zero, List.set_cons_succ, List.getElem_toArray, List.getElem_cons_zero, List.getElem_cons_succ]
      refine wpAnyH_ready (rs := [30]) (by kernel_rfl) (by simp) ?_
      refine AllReadyH.cons rfl (fun K hK => ?_) AllReadyH.nil
      go_simp
      refine (HBY2.out _ hb_z4).mono ?_
      rintro e z5 ⟨hb_z5', q_z5, cap_z5, rfl, hr_z5, _⟩
      have cv_z5 := conv_row K2.length cap_z5 hr_z5 rfl
      have hb_z5 := hb_z4.trans (hb_z5'.mono hb_z4.size)
      go_wp2_with fail
      refine hK.out _ _ trivial (fun hQ => ?_)
      clear hK K
      try simp only [Act.put, List.setIfInBounds_toArray, List.set_cons_zero, List.set_cons_succ, List.getElem_toArray, List.getElem_cons_zero, List.getElem_cons_succ]
      refine wpAnyH_ready (rs := [31, 33]) (by kernel_rfl) (by simp) ?_
      refine AllReadyH.cons rfl (fun K hK => ?_) (AllReadyH.cons rfl (fun K hK => ?_) AllReadyH.nil)
      · go_simp
        refine hK.out _ _ trivial (fun _ => ?_)
        clear hK K
        try simp only [Act.put, List.setIfInBounds_toArray, List.set_cons_zero, List.set_cons_succ, List.getElem_toArray, List.getElem_cons_zero, List.getElem_cons_succ]
        refine wpAnyH_ready (rs := [33]) (by kernel_rfl) (by simp) ?_
        refine AllReadyH.cons rfl (fun K hK => ?_) AllReadyH.nil
        go_simp
        refine (HRB2.out _).mono ?_
        rintro e z6 ⟨rfl, hb_z6'⟩
        have hb_z6 := hb_z5.trans (hb_z6'.mono hb_z5.size)
        go_wp2_with fail
        refine hK.out _ _ trivial (fun hQ => ?_)
        clear hK K
        try simp only [Act.put, List.setIfInBounds_toArray, List.set_cons_zero, List.set_cons_succ, List.getElem_toArray, List.getElem_cons_zero, List.getElem_cons_succ]
        refine wpAnyH_take (i := 34) (v := ?v27) rfl (by kernel_rfl) (by kernel_rfl) (by kernel_rfl) (fun _ _ _ h => h) (Or.inl ⟨by rfl, fun w hSw => ?y27⟩) trivial ?r27
        case y27 => (try dsimp only at hSw); first | (go_simp; done) | (go_simp; with_reducible rfl)
        try simp only [Act.put, List.setIfInBounds_toArray, List.set_cons_zero, List.set_cons_succ, List.getElem_toArray, List.getElem_cons_zero, List.getElem_cons_succ]
        refine wpAnyH_take (i := 35) (v := ?v28) rfl (by kernel_rfl) (by kernel_rfl) (by kernel_rfl) (fun _ _ _ h => h) (Or.inl ⟨by rfl, fun w hSw => ?y28⟩) trivial ?r28
        case y28 => (try dsimp only at hSw); first | (go_simp; done) | (go_simp; with_reducible rfl)
        try simp only [Act.put, List.setIfInBounds_toArray, List.set_cons_zero, List.set_cons_succ, List.getElem_toArray, List.getElem_cons_zero, List.getElem_cons_succ]
        refine wpAnyH_take (i := 36) (v := ?v29) rfl (by kernel_rfl) (by kernel_rfl) (by kernel_rfl) (fun _ _ _ h => h) (Or.inl ⟨by rfl, fun w hSw => ?y29⟩) trivial ?r29
        case y29 => (try dsimp only at hSw); first | (go_simp; done) | (go_simp; with_reducible rfl)
        try simp only [Act.put, List.setIfInBounds_toArray, List.set_cons_zero, List.set_cons_succ, List.getElem_toArray, List.getElem_cons_zero, List.getElem_cons_succ]
        refine wpAnyH_done (by kernel_rfl) ?_ _
        have HBE := Lib.hid (HFIN.out.trans (hb_z6.mono HFIN.out.size))
        go_wp2_with fail
        go_ret
        exact ⟨rfl, HBE.out⟩
      · go_simp
        refine (HRB2.out _).mono ?_
        rintro e z6 ⟨rfl, hb_z6'⟩
        have cv_z6 := conv_row K2.length cap_z5 (hr_z5.below hb_z6') rfl
        have hb_z6 := hb_z5.trans (hb_z6'.mono hb_z5.size)
        go_wp2_with fail
        refine hK.out _ _ trivial (fun _ => ?_)
        clear hK K
        try simp only [Act.put, List.setIfInBounds_toArray, List.set_cons_zero, List.set_cons_succ, List.getElem_toArray, List.getElem_cons_zero, List.getElem_cons_succ]
        refine wpAnyH_ready (rs := [31]) (by kernel_rfl) (by simp) ?_
        refine AllReadyH.cons rfl (fun K hK => ?_) AllReadyH.nil
        go_simp
        refine hK.out _ _ trivial (fun hQ => ?_)
        clear hK K
        try simp only [Act.put, List.setIfInBounds_toArray, List.set_cons_zero, List.set_cons_succ, List.getElem_toArray, List.getElem_cons_zero, List.getElem_cons_succ]
        refine wpAnyH_take (i := 34) (v := ?v30) rfl (by kernel_rfl) (by kernel_rfl) (by kernel_rfl) (fun _ _ _ h => h) (Or.inl ⟨by rfl, fun w hSw => ?y30⟩) trivial ?r30
        case y30 => (try dsimp only at hSw); first | (go_simp; done) | (go_simp; with_reducible rfl)
        try simp only [Act.put, List.setIfInBounds_toArray, List.set_cons_zero, List.set_cons_succ, List.getElem_toArray, List.getElem_cons_zero, List.getElem_cons_succ]
        refine wpAnyH_take (i := 35) (v := ?v31) rfl (by kernel_rfl) (by kernel_rfl) (by kernel_rfl) (fun _ _ _ h => h) (Or.inl ⟨by rfl, fun w hSw => ?y31⟩) trivial ?r31
        case y31 => (try dsimp only at hSw); first | (go_simp; done) | (go_simp; with_reducible rfl)
        try simp only [Act.put, List.setIfInBounds_toArray, List.set_cons_zero, List.set_cons_succ, List.getElem_toArray, List.getElem_cons_zero, List.getElem_cons_succ]
        refine wpAnyH_take (i := 36) (v := ?v32) rfl (by kernel_rfl) (by kernel_rfl) (by kernel_rfl) (fun _ _ _ h => h) (Or.inl ⟨by rfl, fun w hSw => ?y32⟩) trivial ?r32
        case y32 => (try dsimp only at hSw); first | (go_simp; done) | (go_simp; with_reducible rfl)
        try simp only [Act.put, List.setIfInBounds_toArray, List.set_cons_zero, List.set_cons_succ, List.getElem_toArray, List.getElem_cons_zero, List.getElem_cons_succ]
        refine wpAnyH_done (by kernel_rfl) ?_ _
        have HBE := Lib.hid (HFIN.out.trans (hb_z6.mono HFIN.out.size))
        go_wp2_with fail
        go_ret
        exact ⟨rfl, HBE.out⟩
    · go_simp
      refine (HRB1.out _).mono ?_
      rintro e z4 ⟨rfl, hb_z4'⟩
      have cv_z4 := conv_row K1.length cap_z3 (hr_z3.below hb_z4') rfl
      have hb_z4 := hb_z3.trans (hb_z4'.mono hb_z3.size)
      go_wp2_with fail
      refine hK.out _ _ trivial (fun _ => ?_)
      clear hK K
      try simp only [Act.put, List.setIfInBounds_toArray, List.set_cons_zero, List.set_cons_succ, List.getElem_toArray, List.getElem_cons_zero, List.getElem_cons_succ]
      refine wpAnyH_ready (rs := [16]) (by kernel_rfl) (by simp) ?_
      refine AllReadyH.cons rfl (fun K hK => ?_) AllReadyH.nil
      go_simp
      refine hK.out _ _ trivial (fun hQ => ?_)
      clear hK K
      try simp only [Act.put, List.setIfInBounds_toArray, List.set_cons_zero, List.set_cons_succ, List.getElem_toArray, List.getElem_cons_zero, List.getElem_cons_succ]
      refine wpAnyH_take (i := 19) (v := ?v33) rfl (by kernel_rfl) (by kernel_rfl) (by kernel_rfl) (fun _ _ _ h => h) (Or.inl ⟨by rfl, fun w hSw => ?y33⟩) trivial ?r33
      case y33 => (try dsimp only at hSw); first | (go_simp; done) | (go_simp; with_reducible rfl)
      try simp only [Act.put, List.setIfInBounds_toArray, List.set_cons_zero, List.set_cons_succ, List.getElem_toArray, List.getElem_cons_zero, List.getElem_cons_succ]
      refine wpAnyH_take (i := 20) (v := ?v34) rfl (by kernel_rfl) (by kernel_rfl) (by kernel_rfl) (fun _ _ _ h => h) (Or.inl ⟨by rfl, fun w hSw => ?y34⟩) trivial ?r34
      case y34 => (try dsimp only at hSw); first | (go_simp; done) | (go_simp; with_reducible rfl)
      try simp only [Act.put, List.setIfInBounds_toArray, List.set_cons_zero, List.set_cons_succ, List.getElem_toArray, List.getElem_cons_zero, List.getElem_cons_succ]
      refine wpAnyH_take (i := 21) (v := ?v35) rfl (by kernel_rfl) (by kernel_rfl) (by kernel_rfl) (fun _ _ _ h => h) (Or.inl ⟨by rfl, fun w hSw => ?y35⟩) trivial ?r35
      case y35 => (try dsimp only at hSw); first | (go_simp; done) | (go_simp; with_reducible rfl)
      try simp only [Act.put, List.setIfInBounds_toArray, List.set_cons_zero, List.set_cons_succ, List.getElem_toArray, List.getElem_cons_zero, List.getElem_cons_succ]
      refine wpAnyH_take (i := 22) (v := ?v36) rfl (by kernel_rfl) (by kernel_rfl) (by kernel_rfl) (fun _ _ _ h => h) (Or.inl ⟨by rfl, fun w hSw => ?y36⟩) trivial ?r36
      case y36 => (try dsimp only at hSw); first | (go_simp; done) | (go_simp; with_reducible rfl)
      try simp only [Act.put, List.setIfInBounds_toArray, List.set_cons_zero, List.set_cons_succ, List.getElem_toArray, List.getElem_cons_zero, List.getElem_cons_succ]
      refine wpAnyH_take (i := 24) (v := ?v37) rfl (by kernel_rfl) (by kernel_rfl) (by kernel_rfl) (fun _ _ _ h => h) (Or.inl ⟨by rfl, fun w hSw => ?y37⟩) trivial ?r37
      case y37 => (try dsimp only at hSw); first | (go_simp; done) | (go_simp; with_reducible rfl)
      try simp only [Act.put, List.setIfInBounds_toArray, List.set_cons_zero, List.set_cons_succ, List.getElem_toArray, List.getElem_cons_zero, List.getElem_cons_succ]
      refine wpAnyH_take (i := 25) (v := ?v38) rfl (by kernel_rfl) (by kernel_rfl) (by kernel_rfl) (fun _ _ _ h => h) (Or.inl ⟨by rfl, fun w hSw => ?y38⟩) trivial ?r38
      case y38 => (try dsimp only at hSw); first | (go_simp; done) | (go_simp; with_reducible rfl)
      try simp only [Act.put, List.setIfInBounds_toArray, List.set_cons_zero, List.set_cons_succ, List.getElem_toArray, List.getElem_cons_zero, List.getElem_cons_succ]
      refine wpAnyH_ready (rs := [23]) (by kernel_rfl) (by simp) ?_
      refine AllReadyH.cons rfl (fun K hK => ?_) AllReadyH.nil
      go_simp
      refine (HLEN2.out _ hb_z4).mono ?_
      rintro e zz ⟨rfl, rfl⟩
      go_wp2_with fail
      refine hK.out _ _ trivial (fun hQ => ?_)
      clear hK K
      try simp only [Act.put, List.setIfInBounds_toArray, List.set_cons_zero, List.set_cons_succ, List.getElem_toArray, List.getElem_cons_zero, List.getElem_cons_succ]
      refine wpAnyH_take (i := 26) (v := ?v39) rfl (by kernel_rfl) (by kernel_rfl) (by kernel_rfl) (fun _ _ _ h => h) (Or.inl ⟨by rfl, fun w hSw => ?y39⟩) trivial ?r39
      case y39 => (try dsimp only at hSw); first | (go_simp; done) | (go_simp; with_reducible rfl)
      try simp only [Act.put, List.setIfInBounds_toArray, List.set_cons_zero, List.set_cons_succ, List.getElem_toArray, List.getElem_cons_zero, List.getElem_cons_succ]
      refine wpAnyH_take (i := 27) (v := ?v40) rfl (by kernel_rfl) (by kernel_rfl) (by kernel_rfl) (fun _ _ _ h => h) (Or.inl ⟨by rfl, fun w hSw => ?y40⟩) trivial ?r40
      case y40 => (try dsimp only at hSw); first | (go_simp; done) | (go_simp; with_reducible rfl)
      try simp only [Act.put, List.setIfInBounds_toArray, List.set_cons_zero, List.set_cons_succ, List.getElem_toArray, List.getElem_cons_zero, List.getElem_cons_succ]
      refine wpAnyH_take (i := 28) (v := ?v41) rfl (by kernel_rfl) (by kernel_rfl) (by kernel_rfl) (fun _ _ _ h => h) (Or.inl ⟨by rfl, fun w hSw => ?y41⟩) trivial ?r41
      case y41 => (try dsimp only at hSw); first | (go_simp; done) | (go_simp; with_reducible rfl)
      try simp only [Act.put, List.setIfInBounds_toArray, List.set_cons_zero, List.set_cons_succ, List.getElem_toArray, List.getElem_cons_zero, List.getElem_cons_succ]
      refine wpAnyH_take (i := 29) (v := ?v42) rfl (by kernel_rfl) (by kernel_rfl) (by kernel_rfl) (fun _ _ _ h => h) (Or.inl ⟨by rfl, fun w hSw => ?y42⟩) trivial ?r42
      case y42 => (try dsimp only at hSw); first | (go_simp; done) | (go_simp; with_reducible rfl)
      try simp only [Act.put, List.setIfInBounds_toArray, List.set_cons_zero, List.set_cons_succ, List.getElem_toArray, List.getElem_cons_zero, List.getElem_cons_succ]
      refine wpAnyH_take (i := 32) (v := ?v43) rfl (by kernel_rfl) (by kernel_rfl) (by kernel_rfl) (fun _ _ _ h => h) (Or.inl ⟨by rfl, fun w hSw => ?y43⟩) trivial ?r43
      case y43 => (try dsimp only at hSw); first | (go_simp; done) | (go_simp; with_reducible rfl)
      try simp only [Act.put, List.setIfInBounds_toArray, List.set_cons_zero, List.set_cons_succ, List.getElem_toArray, List.getElem_cons_zero, List.getElem_cons_succ]
      refine wpAnyH_ready (rs := [30]) (by kernel_rfl) (by simp) ?_
      refine AllReadyH.cons rfl (fun K hK => ?_) AllReadyH.nil
      go_simp
      refine (HBY2.out _ hb_z4).mono ?_
      rintro e z5 ⟨hb_z5', q_z5, cap_z5, rfl, hr_z5, _⟩
      have cv_z5 := conv_row K2.length cap_z5 hr_z5 rfl
      have hb_z5 := hb_z4.trans (hb_z5'.mono hb_z4.size)
      go_wp2_with fail
      refine hK.out _ _ trivial (fun hQ => ?_)
      clear hK K
      try simp only [Act.put, List.setIfInBounds_toArray, List.set_cons_zero, List.set_cons_succ, List.getElem_toArray, List.getElem_cons_zero, List.getElem_cons_succ]
      refine wpAnyH_ready (rs := [31, 33]) (by kernel_rfl) (by simp) ?_
      refine AllReadyH.cons rfl (fun K hK => ?_) (AllReadyH.cons rfl (fun K hK => ?_) AllReadyH.nil)
      · go_simp
        refine hK.out _ _ trivial (fun _ => ?_)
        clear hK K
        try simp only [Act.put, List.setIfInBounds_toArray, List.set_cons_zero, List.set_cons_succ, List.getElem_toArray, List.getElem_cons_zero, List.getElem_cons_succ]
        refine wpAnyH_ready (rs := [33]) (by kernel_rfl) (by simp) ?_
        refine AllReadyH.cons rfl (fun K hK => ?_) AllReadyH.nil
        go_simp
        refine (HRB2.out _).mono ?_
        rintro e z6 ⟨rfl, hb_z6'⟩
        have hb_z6 := hb_z5.trans (hb_z6'.mono hb_z5.size)
        go_wp2_with fail
        refine hK.out _ _ trivial (fun hQ => ?_)
        clear hK K
        try simp only [Act.put, List.setIfInBounds_toArray, List.set_cons_zero, List.set_cons_succ, List.getElem_toArray, List.getElem_cons_zero, List.getElem_cons_succ]
        refine wpAnyH_take (i := 34) (v := ?v44) rfl (by kernel_rfl) (by kernel_rfl) (by kernel_rfl) (fun _ _ _ h => h) (Or.inl ⟨by rfl, fun w hSw => ?y44⟩) trivial ?r44
        case y44 => (try dsimp only at hSw); first | (go_simp; done) | (go_simp; with_reducible rfl)
        try simp only [Act.put, List.setIfInBounds_toArray, List.set_cons_zero, List.set_cons_succ, List.getElem_toArray, List.getElem_cons_zero, List.getElem_cons_succ]
        refine wpAnyH_take (i := 35) (v := ?v45) rfl (by kernel_rfl) (by kernel_rfl) (by kernel_rfl) (fun _ _ _ h => h) (Or.inl ⟨by rfl, fun w hSw => ?y45⟩) trivial ?r45
        case y45 => (try dsimp only at hSw); first | (go_simp; done) | (go_simp; with_reducible rfl)
        try simp only [Act.put, List.setIfInBounds_toArray, List.set_cons_zero, List.set_cons_succ, List.getElem_toArray, List.getElem_cons_zero, List.getElem_cons_succ]
        refine wpAnyH_take (i := 36) (v := ?v46) rfl (by kernel_rfl) (by kernel_rfl) (by kernel_rfl) (fun _ _ _ h => h) (Or.inl ⟨by rfl, fun w hSw => ?y46⟩) trivial ?r46
        case y46 => (try dsimp only at hSw); first | (go_simp; done) | (go_simp; with_reducible rfl)
        try simp only [Act.put, List.setIfInBounds_toArray, List.set_cons_zero, List.set_cons_succ, List.getElem_toArray, List.getElem_cons_zero, List.getElem_cons_succ]
        refine wpAnyH_done (by kernel_rfl) ?_ _
        have HBE := Lib.hid (HFIN.out.trans (hb_z6.mono HFIN.out.size))
        go_wp2_with fail
        go_ret
        exact ⟨rfl, HBE.out⟩
      · go_simp
        refine (HRB2.out _).mono ?_
        rintro e z6 ⟨rfl, hb_z6'⟩
        have cv_z6 := conv_row K2.length cap_z5 (hr_z5.below hb_z6') rfl
        have hb_z6 := hb_z5.trans (hb_z6'.mono hb_z5.size)
        go_wp2_with fail
        refine hK.out _ _ trivial (fun _ => ?_)
        clear hK K
        try simp only [Act.put, List.setIfInBounds_toArray, List.set_cons_zero, List.set_cons_succ, List.getElem_toArray, List.getElem_cons_zero, List.getElem_cons_succ]
        refine wpAnyH_ready (rs := [31]) (by kernel_rfl) (by simp) ?_
        refine AllReadyH.cons rfl (fun K hK => ?_) AllReadyH.nil
        go_simp
        refine hK.out _ _ trivial (fun hQ => ?_)
        clear hK K
        try simp only [Act.put, List.setIfInBounds_toArray, List.set_cons_zero, List.set_cons_succ, List.getElem_toArray, List.getElem_cons_zero, List.getElem_cons_succ]
        refine wpAnyH_take (i := 34) (v := ?v47) rfl (by kernel_rfl) (by kernel_rfl) (by kernel_rfl) (fun _ _ _ h => h) (Or.inl ⟨by rfl, fun w hSw => ?y47⟩) trivial ?r47
        case y47 => (try dsimp only at hSw); first | (go_simp; done) | (go_simp; with_reducible rfl)
        try simp only [Act.put, List.setIfInBounds_toArray, List.set_cons_zero, List.set_cons_succ, List.getElem_toArray, List.getElem_cons_zero, List.getElem_cons_succ]
        refine wpAnyH_take (i := 35) (v := ?v48) rfl (by kernel_rfl) (by kernel_rfl) (by kernel_rfl) (fun _ _ _ h => h) (Or.inl ⟨by rfl, fun w hSw => ?y48⟩) trivial ?r48
        case y48 => (try dsimp only at hSw); first | (go_simp; done) | (go_simp; with_reducible rfl)
        try simp only [Act.put, List.setIfInBounds_toArray, List.set_cons_zero, List.set_cons_succ, List.getElem_toArray, List.getElem_cons_zero, List.getElem_cons_succ]
        refine wpAnyH_take (i := 36) (v := ?v49) rfl (by kernel_rfl) (by kernel_rfl) (by kernel_rfl) (fun _ _ _ h => h) (Or.inl ⟨by rfl, fun w hSw => ?y49⟩) trivial ?r49
        case y49 => (try dsimp only at hSw); first | (go_simp; done) | (go_simp; with_reducible rfl)
        try simp only [Act.put, List.setIfInBounds_toArray, List.set_cons_zero, List.set_cons_succ, List.getElem_toArray, List.getElem_cons_zero, List.getElem_cons_succ]
        refine wpAnyH_done (by kernel_rfl) ?_ _
        have HBE := Lib.hid (HFIN.out.trans (hb_z6.mono HFIN.out.size))
        go_wp2_with fail
        go_ret
        exact ⟨rfl, HBE.out⟩

end Go.Proofs.YtgddpjnikgcamaaDoor.Mh

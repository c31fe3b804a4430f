
/- The document's Least: the numbers sorted, and their sums. -/
import Derived.Test.YtefniglinligeaaLpX
namespace Go.Proofs.Ytefniglinligeaa.Lp
open Go.RowKit Go.Proofs.Ytefniglinligeaa.Oct Go.Proofs.Ytefniglinligeaa.Lm
set_option linter.unusedVariables false
set_option linter.unusedSimpArgs false
set_option maxRecDepth 100000

/-- what so many of the greatest come to -/
def preS (f : List Nat) (i : Nat) : Nat := ((isort f).reverse.take i).sum
theorem preS_succ (f : List Nat) (i : Nat) (h : i < f.length) : preS f (i + 1) = preS f i + (isort f).reverse.getD i 0 := by
  have hl : i < (isort f).reverse.length := by rw [List.length_reverse, isort_length]; exact h
  unfold preS
  rw [List.take_succ_eq_append_getElem hl, List.sum_append, List.getD_eq_getElem?_getD, List.getElem?_eq_getElem hl]
  simp
theorem preS_tail (f : List Nat) (g : Nat) (h : g ≤ f.length) : preS f f.length = preS f g + sumH (isort f) (f.length - g) := by
  have hl : (isort f).length = f.length := isort_length f
  unfold preS sumH
  rw [List.take_of_length_le (by rw [List.length_reverse, hl]; omega), List.take_reverse, List.sum_reverse, List.sum_reverse, hl]
  have e : (isort f).sum = ((isort f).take (f.length - g)).sum + ((isort f).drop (f.length - g)).sum := by rw [← List.sum_append, List.take_append_drop]
  omega
theorem preS_le (f : List Nat) (i : Nat) : preS f i ≤ f.sum := by
  have h := sumH_le (isort f).reverse i
  rw [List.sum_reverse, isort_sum] at h
  exact h
def sumsL (f : List Nat) (k : Nat) : List Nat := (List.range (k + 1)).map (preS f)
theorem sumsL_succ (f : List Nat) (k : Nat) : sumsL f (k + 1) = sumsL f k ++ [preS f (k + 1)] := by
  unfold sumsL
  rw [List.range_succ, List.map_append]
  rfl
theorem sumsL_get (f : List Nat) (k i : Nat) (h : i ≤ k) : (sumsL f k).getD i 0 = preS f i := by
  unfold sumsL
  rw [List.getD_eq_getElem?_getD, List.getElem?_map, List.getElem?_range (by omega)]
  rfl
theorem intsOf_append (a b : List Nat) : intsOf (a ++ b) = intsOf a ++ intsOf b := by simp [intsOf]
theorem intsOf_length (a : List Nat) : (intsOf a).length = a.length := by simp [intsOf]
/-- what the search is told of, once it has sorted and summed -/
structure Pre (f : List Nat) (w : World) (q2 qs : Option Addr) (C : Nat) : Prop where
  r2 : VRow w C q2 (ints (intsOf (isort f).reverse))
  rs : VRow w C qs (ints (intsOf (sumsL f f.length)))
  sz : C ≤ w.heap.size
def LeastP (w : World) (f : List Nat) (mx : Nat) (e : Ending) (w' : World) : Prop := ∃ best : Nat, e = .returned (.int .i64 (best : Int)) ∧ Bst f mx best ∧ Below w.heap.size w w'
set_option maxHeartbeats 8000000 in
theorem least_any (p : Option Addr) (len cap mx : Nat) (zs : List Int) (w : World) (hr : VRow w w.heap.size p (ints zs)) (hx : zs.length = len) (hl : len ≤ 300) (hz : ∀ z ∈ zs, 0 ≤ z ∧ z ≤ 1073741824) (f : List Nat) (hf : f = come (natsOf zs)) (h2 : 2 ≤ f.length) (h40 : f.length ≤ 40) (hm : mx ≤ 30) :
    Calls Try.prog 13 #[.slice p len cap, .int .i64 (mx : Int)] w (LeastP w f mx) := by
  have hc := coming_any p len cap zs w hr hx (by omega)
  have HCI : Hid (comI zs = intsOf f) := by show _ = _; rw [hf]; exact comI_nat zs (fun z hz' => (hz z hz').1)
  have HSUM : Hid (f.sum ≤ 40 * 1073741824) := by
    show f.sum ≤ _
    have hb : ∀ x ∈ f, x ≤ 1073741824 := by rw [hf]; exact come_le zs hz
    have : ∀ (g : List Nat), (∀ x ∈ g, x ≤ 1073741824) → g.sum ≤ g.length * 1073741824 := by
      intro g
      induction g with
      | nil => intro _; simp
      | cons x g ih =>
        intro h
        have h1 := ih (fun y hy => h y (List.mem_cons_of_mem _ hy))
        have h2 := h x (List.mem_cons_self ..)
        rw [List.sum_cons, List.length_cons]
        omega
    have h9 := this f hb
    exact Nat.le_trans h9 (Nat.mul_le_mul_right _ h40)
  obtain ⟨n, hn⟩ : ∃ n, n = f.length := ⟨_, rfl⟩
  have HN : Hid (n = f.length ∧ 2 ≤ n ∧ n ≤ 40) := ⟨hn, by omega, by omega⟩
  have hn40 : n ≤ 40 := by omega
  have hn2 : 2 ≤ n := by omega
  clear hr hx hl hz hf h2 h40 hn
  go_enter Try.func13, Try.ntmps13
  go_wp2_with fail
  refine hc.mono ?_
  clear hc
  rintro e w1 ⟨v, rfl, ho1, hb1⟩
  rw [HCI.out] at ho1
  obtain ⟨q1, c1, hu1, _, _, _, hv1⟩ := ho1.shape
  subst hu1
  have HB1 : Hid (Below w.heap.size w w1) := hb1
  have hs := sorted_any q1 n c1 (intsOf f) w1 hv1 (by rw [intsOf_length, HN.out.1]) (by omega)
  rw [intsOf_length, ← HN.out.1]
  clear ho1 hb1 hv1
  go_wp2_with fail
  refine hs.mono ?_
  clear hs
  rintro e w2 ⟨v2, D, rfl, ho2, hp2, hd2, hb2⟩
  have hD := desc_is hp2 hd2
  subst hD
  obtain ⟨q2, c2, hu2, _, _, _, hv2⟩ := ho2.shape
  subst hu2
  have hln : (intsOf (isort f).reverse).length = n := by rw [intsOf_length, List.length_reverse, isort_length, HN.out.1]
  rw [hln]
  have HB2 : Hid (Below w.heap.size w w2) := HB1.out.trans (hb2.mono HB1.out.size)
  have HV2 := Lib.hid hv2
  have HLN := Lib.hid hln
  have HS0 : Hid (IOwn (w2.alloc (.cells #[.int .i64 0] 3)) w2.heap.size (.slice (some ⟨w2.heap.size, 0, none⟩) 1 1) (intsOf (sumsL f 0)) ∧ Below w2.heap.size w2 (w2.alloc (.cells #[.int .i64 0] 3))) := ⟨own_made w2 [0] (by simp), (Below.refl _ w2).alloc (Nat.le_refl _) _⟩
  clear ho2 hp2 hd2 hb2 hv2 hln
  go_wp2_with fail
  go_loopg [7, 8] n (fun kx s7 s8 wr => ∃ (k : Nat), s8 = .int .i64 (k : Int) ∧ k ≤ n ∧ n - k ≤ kx ∧ Hid (IOwn wr w2.heap.size s7 (intsOf (sumsL f k)) ∧ Below w2.heap.size w2 wr))
  case atStart => exact ⟨0, rfl, by omega, by omega, HS0⟩
  case round =>
    clear HS0
    obtain ⟨k, rfl, hk, hkx, HK⟩ := hrel
    by_cases hlt : k < n
    · have hkz : (k : Int) < (n : Int) := by omega
      have hk0 : (0 : Int) ≤ (k : Int) := by omega
      obtain ⟨qs, cs, hus, hqs0, _, _, hvs⟩ := HK.out.1.shape
      subst hus
      have hsl : (intsOf (sumsL f k)).length = k + 1 := by rw [intsOf_length]; simp [sumsL]
      obtain ⟨bs, os, hps, hbs⟩ := hvs.addr (by rw [ints_length, hsl]; omega)
      subst hps
      obtain ⟨b2, o2, hp2, hbl2⟩ := HV2.out.addr (by rw [ints_length, HLN.out]; omega)
      subst hp2
      have g1 := hvs.intD k (by omega)
      have g2 := (HK.out.2.cell (p := ⟨b2, o2 + k, none⟩) hbl2).trans (HV2.out.intD k (by rw [HLN.out]; exact hlt))
      rw [getD_ints, sumsL_get f k k (Nat.le_refl _)] at g1
      rw [getD_ints] at g2
      have HST : Hid (intsOf (sumsL f (k + 1)) = intsOf (sumsL f k) ++ [((preS f k + (isort f).reverse.getD k 0 : Nat) : Int)]) := by
        show _ = _
        rw [sumsL_succ, intsOf_append, preS_succ f k (by rw [← HN.out.1]; exact hlt)]; rfl
      have hb1 := preS_le f k
      have hb2 := preS_le f (k + 1)
      rw [preS_succ f k (by rw [← HN.out.1]; exact hlt)] at hb2
      have hbb := HSUM.out
      have wsum : IntKind.i64.wrap (((preS f k : Nat) : Int) + (((isort f).reverse.getD k 0 : Nat) : Int)) = ((preS f k + (isort f).reverse.getD k 0 : Nat) : Int) := by rw [IntKind.wrap_i64]; omega
      generalize preS f k + (isort f).reverse.getD k 0 = s2 at HST wsum hb2
      generalize preS f k = s1 at g1 wsum hb1
      generalize (isort f).reverse.getD k 0 = x at g2 wsum
      rw [hsl]
      have i1 : (k : Int) < (((k + 1 : Nat)) : Int) := by omega
      have i2 : (k : Int) < (k : Int) + 1 := by omega
      have g1' : wr.drew.cell? ⟨bs, os + k, none⟩ = some (.int .i64 (s1 : Int)) := g1
      have g2' : wr.drew.cell? ⟨b2, o2 + k, none⟩ = some (.int .i64 (x : Int)) := g2
      have HOW : Hid (IOwn (wr.drew.alloc (.cells #[.int .i64 (s2 : Int)] 3)) w2.heap.size (.slice (some ⟨bs, os, none⟩) (k + 1) cs) (intsOf (sumsL f k))) := by
        have h9 := HK.out.1.below (((Below.refl _ wr).drew).alloc (Nat.le_refl _) (.cells #[.int .i64 (s2 : Int)] 3))
        rw [hsl] at h9
        exact h9
      have HRW : Hid (VRow (wr.drew.alloc (.cells #[.int .i64 (s2 : Int)] 3)) (wr.drew.alloc (.cells #[.int .i64 (s2 : Int)] 3)).heap.size (some ⟨wr.heap.size, 0, none⟩) (ints [(s2 : Int)])) := one_row wr.drew (s2 : Int)
      have hsz : w2.heap.size ≤ (wr.drew.alloc (.cells #[.int .i64 (s2 : Int)] 3)).heap.size := by have := HK.out.2.size; simp; omega
      have HBW : Hid (Below w2.heap.size w2 (wr.drew.alloc (.cells #[.int .i64 (s2 : Int)] 3))) := (HK.out.2.drew).alloc HK.out.2.size _
      have hbbs : b2 < wr.heap.size := by have := HK.out.2.size; omega
      clear hvs hqs0 hb1 hb2 hbb
      go_wp2_with fail
      go_region_law (refine step_append_int rfl _ _ rfl w2.heap.size (.slice (some ⟨bs, os, none⟩) (k + 1) cs) (intsOf (sumsL f k)) (by simp [Act.eval, Act.put]) HOW.out (some ⟨wr.heap.size, 0, none⟩) 1 1 [(s2 : Int)] (by simp [Act.eval, Act.put]) HRW.out rfl (fun h => by cases h) (by rw [hsl]; omega) hsz ?_; intro v6 w6 ho6 hb6)
      all_goals
        have HNX : Hid (IOwn w6 w2.heap.size v6 (intsOf (sumsL f (k + 1))) ∧ Below w2.heap.size w2 w6) := by rw [HST.out]; exact ⟨ho6, HBW.out.trans hb6⟩
        clear ho6 hb6
        go_wp2_with fail
        go_roundg (n - (k + 1))
        case measure => omega
        case rel => exact ⟨k + 1, by go_num, by omega, Nat.le_refl _, HNX⟩
    · have hkz : ¬ (k : Int) < (n : Int) := by omega
      have hkn : n = k := by omega
      subst hkn
      obtain ⟨wA, rfl⟩ : ∃ wA, wA = wr := ⟨wr, rfl⟩
      obtain ⟨qs, cs, hus, hqs0, _, _, hvs⟩ := HK.out.1.shape
      subst hus
      have hsl : (intsOf (sumsL f n)).length = n + 1 := by rw [intsOf_length]; simp [sumsL]
      rw [hsl]
      have HPRE : Hid (Pre f wA q2 qs wA.heap.size ∧ Below w.heap.size w wA) := by
        refine ⟨⟨(HV2.out.below HK.out.2 (Nat.le_refl _)).mono HK.out.2.size, ?_, Nat.le_refl _⟩, HB2.out.trans (HK.out.2.mono HB2.out.size)⟩
        rw [← HN.out.1]
        exact hvs
      have HBD : Hid (Bld wA.heap.size (2 * n + 1) 0 (.slice none 0 0) (fun _ => 0) (fun _ => 0) wA ∧ Below wA.heap.size wA wA) := ⟨Bld.start wA _, Below.refl _ _⟩
      have w2n : IntKind.i64.wrap (2 * (n : Int)) = 2 * (n : Int) := by rw [IntKind.wrap_i64]; omega
      clear hvs hsl hqs0 HK hkx hk hlt
      go_wp2_with fail
      go_loopg [9, 10] (n + 1) (fun kx s9 s10 wr => ∃ (g : Nat) (rb rc : Nat → Nat), s10 = .int .i64 (g : Int) ∧ g ≤ n + 1 ∧ n + 1 - g ≤ kx ∧ Hid (Bld wA.heap.size (2 * n + 1) g s9 rb rc wr ∧ Below wA.heap.size wA wr))
      case atStart => exact ⟨0, _, _, rfl, by omega, by omega, HBD⟩
      case round =>
        clear HBD
        obtain ⟨g, rb, rc, rfl, hg, hkx, HG⟩ := hrel
        by_cases hgn : g ≤ n
        · have hgz : (g : Int) ≤ (n : Int) := by omega
          obtain ⟨wB, rfl⟩ : ∃ wB, wB = wr := ⟨wr, rfl⟩
          have HI0 : Hid (IOwn wB wB.heap.size (.slice none 0 0) (List.replicate 0 farI) ∧ Below wB.heap.size wB wB) := ⟨IOwn.nil wB, Below.refl _ _⟩
          go_wp2_with fail
          go_loopg [11, 12] (2 * n + 1) (fun kx s11 s12 wr => ∃ (o : Nat), s12 = .int .i64 (o : Int) ∧ o ≤ 2 * n + 1 ∧ 2 * n + 1 - o ≤ kx ∧ Hid (IOwn wr wB.heap.size s11 (List.replicate o farI) ∧ Below wB.heap.size wB wr))
          case atStart => exact ⟨0, rfl, by omega, by omega, HI0⟩
          case round =>
            clear HI0
            obtain ⟨o, rfl, ho, hkx2, HO⟩ := hrel
            by_cases hon : o ≤ 2 * n
            · have hoz : (o : Int) ≤ 2 * (n : Int) := by omega
              have hod : decide ((o : Int) ≤ 2 * (n : Int)) = true := decide_eq_true hoz
              have hbs : wB.heap.size ≤ (wr.alloc (.cells #[.int .i64 1152921504606846976] 3)).heap.size := by have := HO.out.2.size; simp; omega
              go_wp2_with (at_builtin; refine wpList_append_int rfl _ _ rfl wB.heap.size _ (List.replicate o farI) rfl (HO.out.1.below ((Below.refl _ _).alloc (Nat.le_refl _) _)) _ 1 1 [1152921504606846976] rfl (one_row _ 1152921504606846976) rfl (fun h => by cases h) (by rw [List.length_replicate]; omega) hbs ?_; intro v5 w5 ho5 hb5)
              have HNX : Hid (IOwn w5 wB.heap.size v5 (List.replicate (o + 1) farI) ∧ Below wB.heap.size wB w5) := ⟨by rw [List.replicate_succ']; exact ho5, (HO.out.2.alloc HO.out.2.size _).trans hb5⟩
              clear ho5 hb5
              go_roundg (2 * n + 1 - (o + 1))
              case measure => omega
              case rel => exact ⟨o + 1, by go_num, by omega, Nat.le_refl _, HNX⟩
            · have hod : decide ((o : Int) ≤ 2 * (n : Int)) = false := decide_eq_false (by omega)
              have hoe : o = 2 * n + 1 := by omega
              obtain ⟨b, cb, cur, hub, hb1, hb2, hb3, hb4⟩ := HO.out.1.block (by rw [List.length_replicate]; omega)
              subst hub
              rw [List.length_replicate] at hb4 ⊢
              have HRF : Hid (RowF wr b (2 * n + 1) ∧ Bld wA.heap.size (2 * n + 1) g u9 rb rc wr ∧ wA.heap.size ≤ b ∧ (∀ j, j < g → rb j ≠ b) ∧ u9.ownBlock ≠ some b ∧ wA.heap.size ≤ wr.heap.size ∧ Below wA.heap.size wA wr) := by
                have h1 := HG.out.1
                have h2 := HG.out.2.size
                have h3 := HO.out.2.size
                refine ⟨⟨cur, hb3, fun i hi => ?_⟩, h1.keep HO.out.2, by omega, fun j hj e => ?_, fun e => ?_, by omega, HG.out.2.trans (HO.out.2.mono h2)⟩
                · rw [hb4 i (by omega), List.getD_eq_getElem?_getD, List.getElem?_replicate, if_pos (by omega)]; rfl
                · have := (h1.row j hj).lt; omega
                · have := (World.ownsRow.lt h1.own b e).2; omega
              clear hb1 hb2 hb3 hb4 HO hkx2 ho
              subst hoe
              go_wp2_with (at_builtin; refine wpList_append_row rfl _ _ rfl wA.heap.size (2 * n + 1) g b _ _ rb rc rfl HRF.out.2.1 HRF.out.1 HRF.out.2.2.1 HRF.out.2.2.2.1 HRF.out.2.2.2.2.1 rfl rfl (by omega) HRF.out.2.2.2.2.2.1 ?_; intro v6 w6 rb' rc' hb6 hbw6)
              have HNX : Hid (Bld wA.heap.size (2 * n + 1) (g + 1) v6 rb' rc' w6 ∧ Below wA.heap.size wA w6) := ⟨hb6, HRF.out.2.2.2.2.2.2.trans hbw6⟩
              clear hb6 hbw6
              go_roundg (n + 1 - (g + 1))
              case measure => omega
              case rel => exact ⟨g + 1, rb', rc', by go_num, by omega, Nat.le_refl _, HNX⟩
        · have hgz : ¬ (g : Int) ≤ (n : Int) := by omega
          have hge : g = n + 1 := by omega
          subst hge
          obtain ⟨tb, ct, hut, hT0⟩ := HG.out.1.tab
          subst hut
          have HT0 : Hid (TabC wA.heap.size wr.heap.size n tb rb rc (fun _ _ => far) wr ∧ Below wA.heap.size wA wr) := ⟨hT0, HG.out.2⟩
          have e1 := hT0.c1 0 (by omega)
          have e2 := hT0.c2 0 (by omega) 1 (by omega)
          have e3 := hT0.fz 0 (by omega) 1
          have hset := hT0.set (a := 0) (b := 1) (c := 0) (by omega) (by omega)
          have hbe : Below wA.heap.size wA (wr.setCell ⟨rb 0, 1, none⟩ (.int .i64 ((0 : Nat) : Int))) := HG.out.2.setCell (p := ⟨rb 0, 1, none⟩) (hT0.l2 0 (by omega)).1 _
          have HLV : Hid (∃ hi t best, TabC wA.heap.size hi n tb rb rc t (wr.setCell ⟨rb 0, 1, none⟩ (.int .i64 0)) ∧ Lv f 0 t ∧ best = far ∧ Bst f 0 best ∧ Below wA.heap.size wA (wr.setCell ⟨rb 0, 1, none⟩ (.int .i64 0))) := ⟨_, _, far, hset, Lv.start f, rfl, Bst.start (by have := HN.out; omega), hbe⟩
          generalize rb 0 = rb0 at e1 e2 e3 HLV
          clear hT0 hset hbe HG HT0
          go_wp2_with fail
          go_loopg [9, 13, 14] mx (fun kx s9 s13 s14 wr => ∃ (k best tb ct : Nat) (rb rc : Nat → Nat) (t : Nat → Nat → Nat) (hi : Nat), s14 = .int .i64 ((k : Int) + 1) ∧ s13 = .int .i64 (best : Int) ∧ s9 = .slice (some ⟨tb, 0, none⟩) (n + 1) ct ∧ k ≤ mx ∧ mx - k ≤ kx ∧ Hid (TabC wA.heap.size hi n tb rb rc t wr ∧ Lv f k t ∧ Bst f k best ∧ Below wA.heap.size wA wr))
          case atStart =>
            obtain ⟨hi, t, best, h1, h2, h3, h4, h5⟩ := HLV.out
            exact ⟨0, best, tb, ct, rb, rc, t, hi, by rfl, by rw [h3]; rfl, rfl, by omega, by omega, ⟨h1, h2, h4, h5⟩⟩
          case round =>
            clear HLV e1 e2 e3
            obtain ⟨k, best, tb, ct, rb, rc, t, hi, rfl, rfl, rfl, hk, hkx, HL⟩ := hrel
            obtain ⟨wC, rfl⟩ : ∃ wC, wC = wr := ⟨wr, rfl⟩
            by_cases hkm : k < mx
            · have hkz : decide ((k : Int) + 1 ≤ (mx : Int)) = true := decide_eq_true (by omega)
              have HBD2 : Hid (Bld wC.heap.size (2 * n + 1) 0 (.slice none 0 0) (fun _ => 0) (fun _ => 0) wC ∧ Below wC.heap.size wC wC) := ⟨Bld.start wC _, Below.refl _ _⟩
              go_wp2_with fail
              go_loopg [15, 16] (n + 1) (fun kx s15 s16 wr => ∃ (g : Nat) (rn rd : Nat → Nat), s16 = .int .i64 (g : Int) ∧ g ≤ n + 1 ∧ n + 1 - g ≤ kx ∧ Hid (Bld wC.heap.size (2 * n + 1) g s15 rn rd wr ∧ Below wC.heap.size wC wr))
              case atStart => exact ⟨0, _, _, rfl, by omega, by omega, HBD2⟩
              case round =>
                clear HBD2
                obtain ⟨g, rn, rd, rfl, hg, hkx, HG⟩ := hrel
                by_cases hgn : g ≤ n
                · have hgz : (g : Int) ≤ (n : Int) := by omega
                  obtain ⟨wE, rfl⟩ : ∃ wE, wE = wr := ⟨wr, rfl⟩
                  have HI0 : Hid (IOwn wE wE.heap.size (.slice none 0 0) (List.replicate 0 farI) ∧ Below wE.heap.size wE wE) := ⟨IOwn.nil wE, Below.refl _ _⟩
                  go_wp2_with fail
                  go_loopg [17, 18] (2 * n + 1) (fun kx s17 s18 wr => ∃ (o : Nat), s18 = .int .i64 (o : Int) ∧ o ≤ 2 * n + 1 ∧ 2 * n + 1 - o ≤ kx ∧ Hid (IOwn wr wE.heap.size s17 (List.replicate o farI) ∧ Below wE.heap.size wE wr))
                  case atStart => exact ⟨0, rfl, by omega, by omega, HI0⟩
                  case round =>
                    clear HI0
                    obtain ⟨o, rfl, ho, hkx2, HO⟩ := hrel
                    by_cases hon : o ≤ 2 * n
                    · have hoz : (o : Int) ≤ 2 * (n : Int) := by omega
                      have hod : decide ((o : Int) ≤ 2 * (n : Int)) = true := decide_eq_true hoz
                      have hbs : wE.heap.size ≤ (wr.alloc (.cells #[.int .i64 1152921504606846976] 3)).heap.size := by have := HO.out.2.size; simp; omega
                      go_wp2_with (at_builtin; refine wpList_append_int rfl _ _ rfl wE.heap.size _ (List.replicate o farI) rfl (HO.out.1.below ((Below.refl _ _).alloc (Nat.le_refl _) _)) _ 1 1 [1152921504606846976] rfl (one_row _ 1152921504606846976) rfl (fun h => by cases h) (by rw [List.length_replicate]; omega) hbs ?_; intro v5 w5 ho5 hb5)
                      have HNX : Hid (IOwn w5 wE.heap.size v5 (List.replicate (o + 1) farI) ∧ Below wE.heap.size wE w5) := ⟨by rw [List.replicate_succ']; exact ho5, (HO.out.2.alloc HO.out.2.size _).trans hb5⟩
                      clear ho5 hb5
                      go_roundg (2 * n + 1 - (o + 1))
                      case measure => omega
                      case rel => exact ⟨o + 1, by go_num, by omega, Nat.le_refl _, HNX⟩
                    · have hod : decide ((o : Int) ≤ 2 * (n : Int)) = false := decide_eq_false (by omega)
                      have hoe : o = 2 * n + 1 := by omega
                      obtain ⟨b, cb, cur, hub, hb1, hb2, hb3, hb4⟩ := HO.out.1.block (by rw [List.length_replicate]; omega)
                      subst hub
                      rw [List.length_replicate] at hb4 ⊢
                      have HRF : Hid (RowF wr b (2 * n + 1) ∧ Bld wC.heap.size (2 * n + 1) g u15 rn rd wr ∧ wC.heap.size ≤ b ∧ (∀ j, j < g → rn j ≠ b) ∧ u15.ownBlock ≠ some b ∧ wC.heap.size ≤ wr.heap.size ∧ Below wC.heap.size wC wr) := by
                        have h1 := HG.out.1
                        have h2 := HG.out.2.size
                        have h3 := HO.out.2.size
                        refine ⟨⟨cur, hb3, fun i hi => ?_⟩, h1.keep HO.out.2, by omega, fun j hj e => ?_, fun e => ?_, by omega, HG.out.2.trans (HO.out.2.mono h2)⟩
                        · rw [hb4 i (by omega), List.getD_eq_getElem?_getD, List.getElem?_replicate, if_pos (by omega)]; rfl
                        · have := (h1.row j hj).lt; omega
                        · have := (World.ownsRow.lt h1.own b e).2; omega
                      clear hb1 hb2 hb3 hb4 HO hkx2 ho
                      subst hoe
                      go_wp2_with (at_builtin; refine wpList_append_row rfl _ _ rfl wC.heap.size (2 * n + 1) g b _ _ rn rd rfl HRF.out.2.1 HRF.out.1 HRF.out.2.2.1 HRF.out.2.2.2.1 HRF.out.2.2.2.2.1 rfl rfl (by omega) HRF.out.2.2.2.2.2.1 ?_; intro v6 w6 rn' rd' hb6 hbw6)
                      have HNX : Hid (Bld wC.heap.size (2 * n + 1) (g + 1) v6 rn' rd' w6 ∧ Below wC.heap.size wC w6) := ⟨hb6, HRF.out.2.2.2.2.2.2.trans hbw6⟩
                      clear hb6 hbw6
                      go_roundg (n + 1 - (g + 1))
                      case measure => omega
                      case rel => exact ⟨g + 1, rn', rd', by go_num, by omega, Nat.le_refl _, HNX⟩
                · have hgz : ¬ (g : Int) ≤ (n : Int) := by omega
                  have hge : g = n + 1 := by omega
                  subst hge
                  obtain ⟨tn, cn, hun, hTN⟩ := HG.out.1.tab
                  subst hun
                  have hnl : n = f.length := HN.out.1
                  have HCX : Hid (TabC wA.heap.size hi n tb rb rc t wC ∧ Lv f k t ∧ Bst f k best ∧ Below wA.heap.size wA wC ∧ VRow wC wC.heap.size qs (ints (intsOf (sumsL f n)))) := by
                    refine ⟨HL.out.1, HL.out.2.1, HL.out.2.2.1, HL.out.2.2.2, ?_⟩
                    have h9 := HPRE.out.1.rs
                    rw [← hnl] at h9
                    exact (h9.below HL.out.2.2.2 (Nat.le_refl _)).mono HL.out.2.2.2.size
                  obtain ⟨bs, os, hqs, hbs⟩ := HCX.out.2.2.2.2.addr (by rw [ints_length, intsOf_length]; simp [sumsL])
                  subst hqs
                  obtain ⟨hD, hhD⟩ : ∃ hD, hD = wr.heap.size := ⟨_, rfl⟩
                  rw [← hhD] at hTN
                  have HM0 : Hid (TabC wC.heap.size hD n tn rn rd (fun _ _ => far) wr ∧ Mid f k t (Seen 0 0 0) (fun _ _ => far) ∧ Below wC.heap.size wC wr) := ⟨hTN, (Mid.start f k t).less (fun g o h hs _ _ _ _ => by unfold Seen at hs; omega), HG.out.2⟩
                  clear hTN HG hhD hnl
                  go_wp2_with fail
                  go_loopg [19] (n + 1) (fun kx s19 wr => ∃ (G : Nat) (nx : Nat → Nat → Nat), s19 = .int .i64 (G : Int) ∧ G ≤ n + 1 ∧ n + 1 - G ≤ kx ∧ Hid (TabC wC.heap.size hD n tn rn rd nx wr ∧ Mid f k t (Seen G 0 0) nx ∧ Below wC.heap.size wC wr))
                  case atStart => exact ⟨0, _, rfl, by omega, by omega, HM0⟩
                  case round =>
                    clear HM0
                    obtain ⟨G, nx, rfl, hG, hkx7, H7⟩ := hrel
                    by_cases hGn : G ≤ n
                    · have hGz : (G : Int) ≤ (n : Int) := by omega
                      have HM8 : Hid (TabC wC.heap.size hD n tn rn rd nx wr ∧ Mid f k t (Seen G 0 0) nx ∧ Below wC.heap.size wC wr) := H7
                      clear H7
                      go_wp2_with fail
                      go_loopg [20] (n + 1) (fun kx s20 wr => ∃ (O : Nat) (nx : Nat → Nat → Nat), s20 = .int .i64 (O : Int) ∧ O ≤ n + 1 ∧ n + 1 - O ≤ kx ∧ Hid (TabC wC.heap.size hD n tn rn rd nx wr ∧ Mid f k t (Seen G O 0) nx ∧ Below wC.heap.size wC wr))
                      case atStart => exact ⟨0, nx, rfl, by omega, by omega, HM8⟩
                      case round =>
                        clear HM8
                        obtain ⟨O, nx, rfl, hO, hkx8, H8⟩ := hrel
                        by_cases hOn : O ≤ n
                        · have hOz : (O : Int) ≤ (n : Int) := by omega
                          have hG0 : (0 : Int) ≤ (G : Int) := by omega
                          have hO0 : (0 : Int) ≤ (O : Int) := by omega
                          have iG : (G : Int) < (n : Int) + 1 := by omega
                          have iO : (O : Int) < 2 * (n : Int) + 1 := by omega
                          have hct := HCX.out.1.keep (H8.out.2.2.mono HCX.out.1.sz)
                          have e1 : ∀ j, (wr.drewN j).cell? ⟨tb, G, none⟩ = some (.slice (some ⟨rb G, 0, none⟩) (2 * n + 1) (rc G)) := fun j => hct.c1 G hGn
                          have e2 : ∀ j, (wr.drewN j).cell? ⟨rb G, O, none⟩ = some (.int .i64 ((t G O : Nat) : Int)) := fun j => hct.c2 G hGn O (by omega)
                          have e3 : ∀ j, (wr.drewN j).cell? ⟨bs, os + n, none⟩ = some (.int .i64 ((preS f n : Nat) : Int)) := fun j => by
                            have h9 := (H8.out.2.2.cell (p := ⟨bs, os + n, none⟩) hbs).trans (HCX.out.2.2.2.2.intD n (by rw [intsOf_length]; simp [sumsL]))
                            rw [getD_ints, sumsL_get f n n (Nat.le_refl _)] at h9
                            exact h9
                          have e4 : ∀ j, (wr.drewN j).cell? ⟨bs, os + G, none⟩ = some (.int .i64 ((preS f G : Nat) : Int)) := fun j => by
                            have h9 := (H8.out.2.2.cell (p := ⟨bs, os + G, none⟩) hbs).trans (HCX.out.2.2.2.2.intD G (by rw [intsOf_length]; simp [sumsL]; omega))
                            rw [getD_ints, sumsL_get f n G hGn] at h9
                            exact h9
                          have e1' := e1 0
                          have e2' := e2 0
                          have hnG : (n : Int) - (G : Int) = ((n - G : Nat) : Int) := by omega
                          have wnG : IntKind.i64.wrap ((n : Int) - (G : Int)) = ((n - G : Nat) : Int) := by rw [IntKind.wrap_i64]; omega
                          obtain ⟨T, hT⟩ : ∃ T, T = t G O := ⟨_, rfl⟩
                          obtain ⟨rbG, hrbG⟩ : ∃ r, r = rb G := ⟨_, rfl⟩
                          have HT : Hid (T = t G O ∧ rbG = rb G) := ⟨hT, hrbG⟩
                          obtain ⟨nG, hnG2⟩ : ∃ x, x = n - G := ⟨_, rfl⟩
                          have HNG : Hid (nG = n - G) := hnG2
                          rw [← hT] at e2 e2'
                          rw [← hrbG] at e1 e2 e1' e2'
                          rw [← hnG2] at wnG
                          have e1' : wr.cell? ⟨tb, G, none⟩ = some (.slice (some ⟨rbG, 0, none⟩) (2 * n + 1) (rc G)) := e1'
                          have e2' : wr.cell? ⟨rbG, O, none⟩ = some (.int .i64 (T : Int)) := e2'
                          have hHN := HN.out.1
                          have HSKIP : Hid ((T = far ∨ nG < O) → Mid f k t (Seen G (O + 1) 0) nx) := fun hc => H8.out.2.1.less (fun g o h hs q1 q2 q3 q4 => by
                            have hT9 := HT.out.1
                            have hn9 := HNG.out
                            unfold Seen at hs ⊢
                            by_cases hgo : g = G ∧ o = O
                            · exfalso
                              rcases hc with hc | hc
                              · rw [hgo.1, hgo.2, ← hT9] at q1
                                exact q1 hc
                              · rw [hgo.1, hgo.2] at q2
                                omega
                            · omega)
                          clear hct hT hrbG hnG hnG2
                          by_cases hfar : T = far
                          · have d1 : (((T : Nat) : Int) == 1152921504606846976) = true := by rw [hfar]; rfl
                            have HN8 : Hid (TabC wC.heap.size hD n tn rn rd nx wr ∧ Mid f k t (Seen G (O + 1) 0) nx ∧ Below wC.heap.size wC wr) := ⟨H8.out.1, HSKIP.out (.inl hfar), H8.out.2.2⟩
                            clear hfar e1 e2 e3 e4 hHN
                            go_wp2_with fail
                            go_roundg (n + 1 - (O + 1))
                            case measure => omega
                            case rel => exact ⟨O + 1, nx, by go_num, by omega, Nat.le_refl _, HN8⟩
                          · have d1 : (((T : Nat) : Int) == 1152921504606846976) = false := beq_eq_false_iff_ne.2 (fun e => hfar (by unfold far; omega))
                            by_cases hOG : nG < O
                            · have d2 : decide ((nG : Int) < (O : Int)) = true := decide_eq_true (by omega)
                              have HN8 : Hid (TabC wC.heap.size hD n tn rn rd nx wr ∧ Mid f k t (Seen G (O + 1) 0) nx ∧ Below wC.heap.size wC wr) := ⟨H8.out.1, HSKIP.out (.inr hOG), H8.out.2.2⟩
                              clear hfar e1 e2 e3 e4 hHN
                              go_wp2_with fail
                              go_roundg (n + 1 - (O + 1))
                              case measure => omega
                              case rel => exact ⟨O + 1, nx, by go_num, by omega, Nat.le_refl _, HN8⟩
                            · have d2 : decide ((nG : Int) < (O : Int)) = false := decide_eq_false (by omega)
                              have hkf : T ≤ 30 * (40 * 1073741824) := by
                                rcases HCX.out.2.1.snd G O with h9 | h9
                                · exact absurd (HT.out.1.trans h9) hfar
                                · have h8 := reach_bd h9
                                  rw [← HT.out.1] at h8
                                  have h7 : k * f.sum ≤ 30 * (40 * 1073741824) := Nat.mul_le_mul (by omega) HSUM.out
                                  omega
                              have hps := preS_tail f G (by rw [← hHN]; exact hGn)
                              rw [← hHN] at hps
                              have hpb := preS_le f n
                              have hsb := HSUM.out
                              obtain ⟨C, hC⟩ : ∃ C, C = T + sumH (isort f) (n - G) := ⟨_, rfl⟩
                              have wTP : IntKind.i64.wrap ((T : Int) + ((preS f n : Nat) : Int)) = ((T + preS f n : Nat) : Int) := by rw [IntKind.wrap_i64]; omega
                              have wTC : IntKind.i64.wrap (((T + preS f n : Nat) : Int) - ((preS f G : Nat) : Int)) = (C : Int) := by rw [IntKind.wrap_i64]; omega
                              have HC : Hid (C = T + sumH (isort f) (n - G)) := hC
                              generalize T + preS f n = TP at wTP wTC
                              generalize preS f n = PN at e3 wTP
                              generalize preS f G = PG at e4 wTC
                              have HNF : Hid (T ≠ far) := hfar
                              have HOG : Hid (O ≤ n - G) := by have := HNG.out; show O ≤ _; omega
                              have hnGn : nG ≤ n := by have := HNG.out; omega
                              clear hkf hps hpb hsb hC hfar hHN
                              have hB9 : Hid (∀ j, TabC wC.heap.size hD n tn rn rd nx (wr.drewN j) ∧ Mid f k t (Seen G O 0) nx ∧ Below wC.heap.size wC (wr.drewN j)) := fun j => ⟨H8.out.1.keep ⟨rfl, rfl, rfl, Nat.le_refl _, fun _ _ => rfl⟩, H8.out.2.1, H8.out.2.2.trans ⟨rfl, rfl, rfl, Nat.le_refl _, fun _ _ => rfl⟩⟩
                              have w2O : IntKind.i64.wrap (2 * (O : Int)) = 2 * (O : Int) := by rw [IntKind.wrap_i64]; omega
                              go_upto_region 40 with fail
                              go_quiet (fail)
                              clear e1 e2 e3 e4 e1' e2' wTP wTC
                              have HM9 := Lib.hid (hB9.out nq)
                              generalize wr.drewN nq = wq at HM9 ⊢
                              go_wp2_with fail
                              go_loopg [22] (2 * O + 1) (fun kx s22 wr => ∃ (E : Nat) (nx : Nat → Nat → Nat), s22 = .int .i64 (E : Int) ∧ E ≤ 2 * O + 1 ∧ 2 * O + 1 - E ≤ kx ∧ Hid (TabC wC.heap.size hD n tn rn rd nx wr ∧ Mid f k t (Seen G O E) nx ∧ Below wC.heap.size wC wr))
                              case atStart => exact ⟨0, nx, rfl, by omega, by omega, HM9⟩
                              case round =>
                                clear HM9 hB9
                                obtain ⟨E, nx, rfl, hE, hkx9, H9⟩ := hrel
                                by_cases hE2 : E ≤ 2 * O
                                · have x1 : decide ((E : Int) ≤ 2 * (O : Int)) = true := decide_eq_true (by omega)
                                  obtain ⟨GE, hGEd⟩ : ∃ x, x = G + E := ⟨_, rfl⟩
                                  have wGE : IntKind.i64.wrap ((G : Int) + (E : Int)) = (GE : Int) := by rw [IntKind.wrap_i64]; omega
                                  by_cases hGE : GE ≤ n
                                  · have x2 : decide ((GE : Int) ≤ (n : Int)) = true := decide_eq_true (by omega)
                                    have hng2 := HNG.out
                                    have hog2 := HOG.out
                                    obtain ⟨L0, hL0⟩ : ∃ x, x = 2 * O - E := ⟨_, rfl⟩
                                    obtain ⟨R, hRd⟩ : ∃ x, x = nG - E := ⟨_, rfl⟩
                                    have wL0 : IntKind.i64.wrap (2 * (O : Int) - (E : Int)) = (L0 : Int) := by rw [IntKind.wrap_i64]; omega
                                    have wR : IntKind.i64.wrap ((nG : Int) - (E : Int)) = (R : Int) := by rw [IntKind.wrap_i64]; omega
                                    have hrelax := Mid.relax H9.out.2.1 HCX.out.2.1 (g := G) (o := O) (e := E) (by rw [← HT.out.1]; exact HNF.out) (by rw [← HN.out.1]; exact hog2) hE2 (by rw [← HN.out.1, ← hGEd]; exact hGE)
                                    rw [← HN.out.1, ← hGEd, ← HT.out.1, ← HC.out] at hrelax
                                    by_cases hm9 : R < L0
                                    · have x3 : decide ((R : Int) < (L0 : Int)) = true := decide_eq_true (by omega)
                                      obtain ⟨L, hLd⟩ : ∃ L, L = R := ⟨_, rfl⟩
                                      have hmin : min (2 * O - E) (n - G - E) = L := by omega
                                      rw [hmin] at hrelax
                                      have HRX : Hid (Mid f k t (Seen G O (E + 1)) (better nx GE L C)) := hrelax.less (fun g o h hs _ _ _ _ => by unfold Seen at hs ⊢; omega)
                                      have hLn : L ≤ n := by omega
                                      rw [← hLd] at x3 wR
                                      have hm10 : L < L0 := by omega
                                      clear hrelax hmin hng2 hog2 hL0
                                      have k1 := H9.out.1.c1 GE (by omega)
                                      have k2 := H9.out.1.c2 GE (by omega) L (by omega)
                                      have k3 := H9.out.1.fz GE (by omega) L
                                      have k4 := H9.out.1.l2 GE (by omega)
                                      have k5 := H9.out.1.sz
                                      have HST : Hid (TabC wC.heap.size hD n tn rn rd (upd nx GE L C) (wr.setCell ⟨rn GE, L, none⟩ (.int .i64 (C : Int))) ∧ Below wC.heap.size wC (wr.setCell ⟨rn GE, L, none⟩ (.int .i64 (C : Int)))) := ⟨H9.out.1.set (by omega) (by omega), H9.out.2.2.setCell (p := ⟨rn GE, L, none⟩) k4.1 _⟩
                                      have k6 : rn GE < wr.heap.size := by omega
                                      have HBT : Hid ((C < nx GE L → better nx GE L C = upd nx GE L C) ∧ (¬ C < nx GE L → better nx GE L C = nx)) := ⟨better_store, better_same⟩
                                      generalize rn GE = rnG at k1 k2 k3 k4 k6 HST
                                      generalize hV : nx GE L = V at k2 HBT
                                      have iL : (L : Int) < 2 * (n : Int) + 1 := by omega
                                      have iL0 : (0 : Int) ≤ (L : Int) := by omega
                                      have iGE : (GE : Int) < (n : Int) + 1 := by omega
                                      have iGE0 : (0 : Int) ≤ (GE : Int) := by omega
                                      clear hV hGEd hLd hRd k4 k5
                                      by_cases hcv : C < V
                                      · have y1 : decide ((C : Int) < (V : Int)) = true := decide_eq_true (by omega)
                                        have HNX : Hid (TabC wC.heap.size hD n tn rn rd (upd nx GE L C) (wr.setCell ⟨rnG, L, none⟩ (.int .i64 (C : Int))) ∧ Mid f k t (Seen G O (E + 1)) (upd nx GE L C) ∧ Below wC.heap.size wC (wr.setCell ⟨rnG, L, none⟩ (.int .i64 (C : Int)))) := ⟨HST.out.1, by rw [← HBT.out.1 hcv]; exact HRX.out, HST.out.2⟩
                                        go_wp2_with fail
                                        go_roundg (2 * O + 1 - (E + 1))
                                        case measure => omega
                                        case rel => exact ⟨E + 1, upd nx GE L C, by go_num, by omega, Nat.le_refl _, HNX⟩
                                      · have y1 : decide ((C : Int) < (V : Int)) = false := decide_eq_false (by omega)
                                        have HNX : Hid (TabC wC.heap.size hD n tn rn rd nx wr ∧ Mid f k t (Seen G O (E + 1)) nx ∧ Below wC.heap.size wC wr) := ⟨H9.out.1, by have h9 := HRX.out; rw [HBT.out.2 hcv] at h9; exact h9, H9.out.2.2⟩
                                        go_wp2_with fail
                                        go_roundg (2 * O + 1 - (E + 1))
                                        case measure => omega
                                        case rel => exact ⟨E + 1, nx, by go_num, by omega, Nat.le_refl _, HNX⟩
                                    · have x3 : decide ((R : Int) < (L0 : Int)) = false := decide_eq_false (by omega)
                                      obtain ⟨L, hLd⟩ : ∃ L, L = L0 := ⟨_, rfl⟩
                                      have hmin : min (2 * O - E) (n - G - E) = L := by omega
                                      rw [hmin] at hrelax
                                      have HRX : Hid (Mid f k t (Seen G O (E + 1)) (better nx GE L C)) := hrelax.less (fun g o h hs _ _ _ _ => by unfold Seen at hs ⊢; omega)
                                      have hLn : L ≤ n := by omega
                                      rw [← hLd] at x3 wL0
                                      have hm10 : ¬ R < L := by omega
                                      clear hrelax hmin hng2 hog2 hL0
                                      have k1 := H9.out.1.c1 GE (by omega)
                                      have k2 := H9.out.1.c2 GE (by omega) L (by omega)
                                      have k3 := H9.out.1.fz GE (by omega) L
                                      have k4 := H9.out.1.l2 GE (by omega)
                                      have k5 := H9.out.1.sz
                                      have HST : Hid (TabC wC.heap.size hD n tn rn rd (upd nx GE L C) (wr.setCell ⟨rn GE, L, none⟩ (.int .i64 (C : Int))) ∧ Below wC.heap.size wC (wr.setCell ⟨rn GE, L, none⟩ (.int .i64 (C : Int)))) := ⟨H9.out.1.set (by omega) (by omega), H9.out.2.2.setCell (p := ⟨rn GE, L, none⟩) k4.1 _⟩
                                      have k6 : rn GE < wr.heap.size := by omega
                                      have HBT : Hid ((C < nx GE L → better nx GE L C = upd nx GE L C) ∧ (¬ C < nx GE L → better nx GE L C = nx)) := ⟨better_store, better_same⟩
                                      generalize rn GE = rnG at k1 k2 k3 k4 k6 HST
                                      generalize hV : nx GE L = V at k2 HBT
                                      have iL : (L : Int) < 2 * (n : Int) + 1 := by omega
                                      have iL0 : (0 : Int) ≤ (L : Int) := by omega
                                      have iGE : (GE : Int) < (n : Int) + 1 := by omega
                                      have iGE0 : (0 : Int) ≤ (GE : Int) := by omega
                                      clear hV hGEd hLd hRd k4 k5
                                      by_cases hcv : C < V
                                      · have y1 : decide ((C : Int) < (V : Int)) = true := decide_eq_true (by omega)
                                        have HNX : Hid (TabC wC.heap.size hD n tn rn rd (upd nx GE L C) (wr.setCell ⟨rnG, L, none⟩ (.int .i64 (C : Int))) ∧ Mid f k t (Seen G O (E + 1)) (upd nx GE L C) ∧ Below wC.heap.size wC (wr.setCell ⟨rnG, L, none⟩ (.int .i64 (C : Int)))) := ⟨HST.out.1, by rw [← HBT.out.1 hcv]; exact HRX.out, HST.out.2⟩
                                        go_wp2_with fail
                                        go_roundg (2 * O + 1 - (E + 1))
                                        case measure => omega
                                        case rel => exact ⟨E + 1, upd nx GE L C, by go_num, by omega, Nat.le_refl _, HNX⟩
                                      · have y1 : decide ((C : Int) < (V : Int)) = false := decide_eq_false (by omega)
                                        have HNX : Hid (TabC wC.heap.size hD n tn rn rd nx wr ∧ Mid f k t (Seen G O (E + 1)) nx ∧ Below wC.heap.size wC wr) := ⟨H9.out.1, by have h9 := HRX.out; rw [HBT.out.2 hcv] at h9; exact h9, H9.out.2.2⟩
                                        go_wp2_with fail
                                        go_roundg (2 * O + 1 - (E + 1))
                                        case measure => omega
                                        case rel => exact ⟨E + 1, nx, by go_num, by omega, Nat.le_refl _, HNX⟩
                                  · have x2 : decide ((GE : Int) ≤ (n : Int)) = false := decide_eq_false (by omega)
                                    have HN8 : Hid (TabC wC.heap.size hD n tn rn rd nx wr ∧ Mid f k t (Seen G (O + 1) 0) nx ∧ Below wC.heap.size wC wr) := ⟨H9.out.1, H9.out.2.1.less (fun g o h hs q1 q2 q3 q4 => by have := HN.out.1; unfold Seen at hs ⊢; omega), H9.out.2.2⟩
                                    clear hGEd
                                    go_wp2_with fail
                                    go_roundg (n + 1 - (O + 1))
                                    case measure => omega
                                    case rel => exact ⟨O + 1, nx, by go_num, by omega, Nat.le_refl _, HN8⟩
                                · have x1 : decide ((E : Int) ≤ 2 * (O : Int)) = false := decide_eq_false (by omega)
                                  have HN8 : Hid (TabC wC.heap.size hD n tn rn rd nx wr ∧ Mid f k t (Seen G (O + 1) 0) nx ∧ Below wC.heap.size wC wr) := ⟨H9.out.1, H9.out.2.1.less (fun g o h hs q1 q2 q3 q4 => by have := HN.out.1; unfold Seen at hs ⊢; omega), H9.out.2.2⟩
                                  go_wp2_with fail
                                  go_roundg (n + 1 - (O + 1))
                                  case measure => omega
                                  case rel => exact ⟨O + 1, nx, by go_num, by omega, Nat.le_refl _, HN8⟩
                        · have hOz : ¬ (O : Int) ≤ (n : Int) := by omega
                          have hnf := HN.out.1
                          have HN7 : Hid (TabC wC.heap.size hD n tn rn rd nx wr ∧ Mid f k t (Seen (G + 1) 0 0) nx ∧ Below wC.heap.size wC wr) := ⟨H8.out.1, H8.out.2.1.less (fun g o h hs q1 q2 q3 q4 => by unfold Seen at hs ⊢; omega), H8.out.2.2⟩
                          clear hnf
                          go_wp2_with fail
                          go_roundg (n + 1 - (G + 1))
                          case measure => omega
                          case rel => exact ⟨G + 1, nx, by go_num, by omega, Nat.le_refl _, HN7⟩
                    · have hGz : ¬ (G : Int) ≤ (n : Int) := by omega
                      have hnf := HN.out.1
                      have hkf : k * f.sum < far := by
                        have h1 : k * f.sum ≤ 30 * (40 * 1073741824) := Nat.mul_le_mul (by omega) HSUM.out
                        unfold far; omega
                      have hlv : Lv f (k + 1) nx := H7.out.2.1.done HCX.out.2.1 (fun g o e q1 q2 => by unfold Seen; omega) hkf
                      have e1 := H7.out.1.c1 n (Nat.le_refl _)
                      have e2 := H7.out.1.c2 n (Nat.le_refl _) 0 (by omega)
                      have HNB : Hid (TabC wA.heap.size hD n tn rn rd nx wr ∧ Lv f (k + 1) nx ∧ Bst f (k + 1) (if nx n 0 < best then nx n 0 else best) ∧ Below wA.heap.size wA wr) := by
                        have h8 := H7.out.1
                        have h7 := HCX.out.2.2.2.1
                        have h9 := HCX.out.2.2.1.next hlv (by rw [← hnf]; omega)
                        rw [← hnf] at h9
                        exact ⟨⟨h8.c1, h8.c2, h8.fz, ⟨by have := h8.l1.1; have := h7.size; omega, h8.l1.2⟩, fun g hg => ⟨by have := (h8.l2 g hg).1; have := h7.size; omega, (h8.l2 g hg).2⟩, h8.inj, h8.ne, h8.sz⟩, hlv, h9, h7.trans (H7.out.2.2.mono h7.size)⟩
                      generalize rn n = rnn at e1 e2
                      have i0 : (n : Int) < (n : Int) + 1 := by omega
                      have i1 : (0 : Int) < 2 * (n : Int) + 1 := by omega
                      have hn0 : (0 : Int) ≤ (n : Int) := by omega
                      have hk1m : k + 1 ≤ mx := by omega
                      clear hlv hkf hnf
                      by_cases hbt : nx n 0 < best
                      · have d1 : decide (((nx n 0 : Nat) : Int) < (best : Int)) = true := decide_eq_true (by omega)
                        rw [if_pos hbt] at HNB
                        generalize nx n 0 = nb at e2 d1 HNB hbt
                        go_wp2_with fail
                        go_roundg (mx - (k + 1))
                        case measure => omega
                        case rel => exact ⟨k + 1, nb, tn, _, rn, rd, nx, hD, by first | rfl | go_num | (congr 1; omega), rfl, rfl, hk1m, Nat.le_refl _, HNB⟩
                      · have d1 : decide (((nx n 0 : Nat) : Int) < (best : Int)) = false := decide_eq_false (by omega)
                        rw [if_neg hbt] at HNB
                        generalize nx n 0 = nb at e2 d1 hbt
                        go_wp2_with fail
                        go_roundg (mx - (k + 1))
                        case measure => omega
                        case rel => exact ⟨k + 1, best, tn, _, rn, rd, nx, hD, by first | rfl | go_num | (congr 1; omega), rfl, rfl, hk1m, Nat.le_refl _, HNB⟩
            · have hkz : decide ((k : Int) + 1 ≤ (mx : Int)) = false := decide_eq_false (by omega)
              have hkm2 : k = mx := by omega
              go_wp2_with fail
              go_ret
              refine ⟨best, rfl, ?_, ?_⟩
              · rw [← hkm2]; exact HL.out.2.2.1
              · exact HPRE.out.2.trans (HL.out.2.2.2.mono HPRE.out.2.size)
end Go.Proofs.Ytefniglinligeaa.Lp

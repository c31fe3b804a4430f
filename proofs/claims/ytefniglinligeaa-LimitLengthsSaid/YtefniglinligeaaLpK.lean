
/- Lengths. -/
import Derived.Test.YtefniglinligeaaLpJ
namespace Go.Proofs.Ytefniglinligeaa.Lp
open Go.RowKit Go.Proofs.Ytefniglinligeaa.Oct Go.Proofs.Ytefniglinligeaa.Lm
set_option linter.unusedVariables false
set_option linter.unusedSimpArgs false
set_option maxRecDepth 100000

/-- what Lengths gives -/
def LenP (w : World) (zs : List Int) (most : Int) (e : Ending) (w' : World) : Prop :=
  Below w.heap.size w w' ∧
  ((okB zs most = false ∧ e = .returned (.tuple #[.slice none 0 0, .int .i64 1])) ∨
   (okB zs most = true ∧ 2 ^ most.toNat < (come (natsOf zs)).length ∧ e = .returned (.tuple #[.slice none 0 0, .int .i64 5])) ∨
   (okB zs most = true ∧ (come (natsOf zs)).length ≤ 2 ^ most.toNat ∧ ∃ bl ls, e = .returned (.tuple #[.slice (some ⟨bl, 0, none⟩) zs.length zs.length, .int .i64 0]) ∧ LRow w' bl ls ∧ w.heap.size ≤ bl ∧ Fine zs most.toNat ls))
theorem okB_parts {zs : List Int} {most : Int} (h : okB zs most = true) : 1 ≤ most ∧ most ≤ 30 ∧ zs.length ≤ 300 ∧ ∀ z ∈ zs, 0 ≤ z ∧ z ≤ 1073741824 := by
  unfold okB at h
  simp only [Bool.and_eq_true, decide_eq_true_eq, Bool.not_eq_true'] at h
  obtain ⟨⟨⟨h1, h2⟩, h3⟩, h4⟩ := h
  refine ⟨h1, h2, h3, fun z hz => ?_⟩
  have := List.any_eq_false.1 h4 z hz
  unfold badZ at this
  simp at this
  omega
theorem come_le (zs : List Int) (h : ∀ z ∈ zs, 0 ≤ z ∧ z ≤ 1073741824) : ∀ x ∈ come (natsOf zs), x ≤ 1073741824 := by
  intro x hx
  obtain ⟨z, hz, rfl⟩ := List.mem_map.1 (List.mem_filter.1 hx).1
  have := h z hz
  omega
theorem come_few (zs : List Int) : (come (natsOf zs)).length ≤ zs.length := by
  have := List.length_filter_le (fun x => decide (0 < x)) (natsOf zs)
  unfold come natsOf at *
  rwa [List.length_map] at this
theorem Try.infoInt3 : (Try.prog.info? 3).map (fun i => (i.zero, i.size, i.bytes)) = some (some (.int .i64 0), 1, 8) := by kernel_rfl
theorem lrow_made (w : World) (n : Nat) : LRow (w.alloc (.cells (madeCells (Value.int .i64 0).cells (n * 1)) 3)) w.heap.size (List.replicate n 0) := by
  unfold LRow
  rw [heap_alloc_last]
  have e : madeCells (Value.int .i64 0).cells (n * 1) = (nats (List.replicate n 0)).toArray := by
    apply Array.ext'
    have := toList_madeCells_one (.int .i64 0) n
    rw [Nat.mul_one]
    rw [show (Value.int .i64 0).cells = #[.int .i64 0] from rfl, this]
    simp [nats]
  rw [e]
set_option maxHeartbeats 8000000 in
theorem lengths_any (p : Option Addr) (len cap : Nat) (most : Int) (zs : List Int) (w : World) (hr : VRow w w.heap.size p (ints zs)) (hx : zs.length = len) : Calls Try.prog 8 #[.slice p len cap, .int .i64 most] w (LenP w zs most) := by
  have HA := Lib.hid (allowed_any p len cap most zs w hr hx)
  have HS : Hid (len ≤ 300 → Calls Try.prog 15 #[.slice p len cap] w (SymP w zs)) := fun h => symbols_any p len cap zs w hr hx (by omega)
  have HX := Lib.hid hx
  clear hr hx
  cases hok : okB zs most with
  | false =>
    have ha := HA.out
    rw [hok] at ha
    have HOK := Lib.hid hok
    clear hok
    go_enter Try.func8, Try.ntmps8
    go_wp2_with (go_at_call 14; refine ha.mono ?_; rintro e w' ⟨rfl, rfl⟩)
    go_ret2
    exact ⟨Below.refl _ _, .inl ⟨HOK.out, rfl⟩⟩
  | true =>
    have ha := HA.out
    rw [hok] at ha
    have HOK := Lib.hid hok
    obtain ⟨h1, h2, h3, h4⟩ := okB_parts hok
    have hsy := HS.out (by rw [← HX.out]; exact h3)
    rw [HX.out] at h3
    obtain ⟨m, rfl⟩ : ∃ m : Nat, most = (m : Int) := ⟨most.toNat, by omega⟩
    have HZ : Hid (∀ z ∈ zs, 0 ≤ z ∧ z ≤ 1073741824) := h4
    have hm1 : 1 ≤ m := by omega
    have hm2 : m ≤ 30 := by omega
    clear hok h4 h1 h2
    have hpw : (2 : Nat) ^ m ≤ 2 ^ 30 := Nat.pow_le_pow_right (by omega) hm2
    have hcast : ((2 : Int) ^ m) = ((2 ^ m : Nat) : Int) := by simp
    have hw2 : wrap64 ((2 : Int) ^ m) = ((2 ^ m : Nat) : Int) := by
      rw [hcast]
      have : (2 : Nat) ^ 30 = 1073741824 := by decide
      generalize (2 : Nat) ^ m = x at hpw ⊢
      unfold wrap64
      omega
    have HN : Hid ((syms zs zs.length).length = (come (natsOf zs)).length ∧ syms zs zs.length = symsC zs 0) := ⟨by rw [syms_all]; exact (sgl zs).len, syms_all zs⟩
    by_cases hbig : 2 ^ m < (syms zs zs.length).length
    · have hd1 : decide (wrap64 ((2 : Int) ^ m) < ((syms zs zs.length).length : Int)) = true := decide_eq_true (by rw [hw2]; omega)
      have HBG := Lib.hid hbig
      clear hw2 hcast hpw hbig
      go_enter Try.func8, Try.ntmps8
      go_wp2_with (first | (go_at_call 14; refine ha.mono ?_; rintro e w' ⟨rfl, rfl⟩) | (go_at_call 15; refine hsy.mono ?_; rintro e w1 ⟨v, rfl, ho1, hb1⟩; obtain ⟨q, c, rfl, hq0, hqc, hqm, hpv, hqb⟩ := ho1.shape))
      go_ret2
      exact ⟨hb1, .inr (.inl ⟨HOK.out, by have := HBG.out; rw [HN.out.1] at this; exact this, rfl⟩)⟩
    · have hd1 : decide (wrap64 ((2 : Int) ^ m) < ((syms zs zs.length).length : Int)) = false := decide_eq_false (by rw [hw2]; omega)
      have HBG : Hid ((come (natsOf zs)).length ≤ 2 ^ m) := by show _ ≤ _; rw [← HN.out.1]; omega
      have hfew : (syms zs zs.length).length ≤ len := by rw [HN.out.1, ← HX.out]; exact come_few zs
      clear hw2 hcast hpw hbig
      by_cases h1 : (syms zs zs.length).length = 1
      · have hd2 : (((syms zs zs.length).length : Int) == 1) = true := by rw [h1]; rfl
        have hpos : 0 < (syms zs zs.length).length := by omega
        have hd3 : (0 : Int) < ((syms zs zs.length).length : Int) := by omega
        have HH1 : Hid ((come (natsOf zs)).length = 1) := by rw [← HN.out.1]; exact h1
        have HSYM : Hid (∀ W g, PRow W g (syms zs zs.length) → W.cell? ⟨g, 1, none⟩ = some (.int .i64 ((ixOf zs 0 : Nat) : Int))) := fun W g hW => by
          have h9 := (hW 0 hpos).2.1
          have h8 := (sgl zs).leaf 0 (by have := HH1.out; omega)
          have h7 : (syms zs zs.length)[0] = (symsC zs 0).getD 0 default := by
            rw [syms_get zs 0 (by rw [← HN.out.2]; exact hpos)]
            simp only [HN.out.2]
          rw [h7] at h9
          have h6 : ((symsC zs 0).getD 0 default).sym = ((ixOf zs 0 : Nat) : Int) := h8.2.1
          rw [h6] at h9
          simpa using h9
        have hixl : ixOf zs 0 < len := by rw [← HX.out]; exact ix_lt zs 0 (by have := HH1.out; omega)
        have HF := Lib.hid (fine_one hm1 HH1.out)
        rw [HX.out] at HF
        obtain ⟨x, hx⟩ : ∃ x, x = ixOf zs 0 := ⟨_, rfl⟩
        rw [← hx] at HSYM hixl HF
        have hx1 : (0 : Int) ≤ (x : Int) := by omega
        have hx2 : (x : Int) < (len : Int) := by omega
        clear h1 hx
        go_enter Try.func8, Try.ntmps8
        go_wp2_with (first | (go_at_call 14; refine ha.mono ?_; rintro e w' ⟨rfl, rfl⟩) | (go_at_call 15; refine hsy.mono ?_; rintro e w1 ⟨v, rfl, ho1, hb1⟩; obtain ⟨q, c, rfl, hq0, hqc, hqm, hpv, hqb⟩ := ho1.shape; obtain ⟨g, rfl, hg, hrow⟩ := hpv hpos; have hgc := HSYM.out w1 g hrow) | (at_make; refine wpList_make_cells rfl _ _ rfl Try.underlying22 Try.infoInt3 len rfl rfl (by omega) (by omega) ?_; have hl2 := lrow_made w1 len; have hb2 : Below w'.heap.size w' (w1.alloc (.cells (madeCells (Value.int .i64 0).cells (len * 1)) 3)) := hb1.alloc hb1.size _; have hgc2 : World.cell? (w1.alloc (.cells (madeCells (Value.int .i64 0).cells (len * 1)) 3)) ⟨g, 1, none⟩ = some (.int .i64 (x : Int)) := (World.cell?_alloc_lt _ _ _ hg).trans hgc; have hcs := lrow_cell hl2 x (show x < (List.replicate len 0).length from Nat.lt_of_lt_of_eq hixl List.length_replicate.symm); have hfz := blk_frozen hl2; have hs2 : w1.heap.size < (w1.alloc (.cells (madeCells (Value.int .i64 0).cells (len * 1)) 3)).heap.size := hl2.lt; have HL2 := Lib.hid hl2; have HB2 := Lib.hid hb2; have hgs : g < (w1.alloc (.cells (madeCells (Value.int .i64 0).cells (len * 1)) 3)).heap.size := Nat.lt_trans hg hs2; clear hl2 hb2 hgc hrow ho1; generalize (w1.alloc (.cells (madeCells (Value.int .i64 0).cells (len * 1)) 3)) = w2 at hgc2 hcs hfz hs2 HL2 HB2 hgs ⊢))
        go_ret2
        have hne : w'.heap.size ≤ w1.heap.size := hb1.size
        refine ⟨HB2.out.setCell (p := ⟨w1.heap.size, x, none⟩) hne _, .inr (.inr ⟨HOK.out, HBG.out, w1.heap.size, (List.replicate len 0).set x 1, by rw [HX.out]; rfl, lrow_set HL2.out x 1, hne, HF.out⟩)⟩
      · have hd2 : (((syms zs zs.length).length : Int) == 1) = false := beq_eq_false_iff_ne.2 (by omega)
        have HH1 : Hid ((come (natsOf zs)).length ≠ 1) := by rw [← HN.out.1]; exact h1
        have hlen1 : (syms zs zs.length).length ≤ 1000 := by omega
        clear h1
        go_enter Try.func8, Try.ntmps8
        go_wp2_with (first | (go_at_call 14; refine ha.mono ?_; rintro e w' ⟨rfl, rfl⟩) | (go_at_call 15; refine hsy.mono ?_; rintro e w1 ⟨v, rfl, ho1, hb1⟩; obtain ⟨q, c, rfl, hq0, hqc, hqm, hpv, hqb⟩ := ho1.shape) | (at_make; refine wpList_make_cells rfl _ _ rfl Try.underlying22 Try.infoInt3 len rfl rfl (by omega) (by omega) ?_; have hl2 := lrow_made w1 len; have hb2 : Below w'.heap.size w' (w1.alloc (.cells (madeCells (Value.int .i64 0).cells (len * 1)) 3)) := hb1.alloc hb1.size _; have hs2 : w1.heap.size < (w1.alloc (.cells (madeCells (Value.int .i64 0).cells (len * 1)) 3)).heap.size := hl2.lt; have HL2 := Lib.hid hl2; have HB2 := Lib.hid hb2; have HPV2 : Hid (PV (w1.alloc (.cells (madeCells (Value.int .i64 0).cells (len * 1)) 3)) w1.heap.size q (syms zs zs.length)) := (hpv.below ((Below.refl _ w1).alloc (Nat.le_refl _) _) (Nat.le_refl _)); clear hl2 hb2 hpv ho1; generalize (w1.alloc (.cells (madeCells (Value.int .i64 0).cells (len * 1)) 3)) = w2 at hs2 HL2 HB2 HPV2 ⊢))
        have HBW : Hid (w'.heap.size ≤ w1.heap.size) := hb1.size
        have HQ : Hid (q = none → c = 0) := hq0
        have hli := lightest_any q (syms zs zs.length).length c m (syms zs zs.length) (come (natsOf zs)) (ixOf zs) w2 (by rw [HN.out.2]; exact sgl zs) rfl (HPV2.out.mono (by omega)) hq0 hlen1 hm1 hm2 (come_pos _) (come_le zs HZ.out) HBG.out
        clear hb1 hq0 hqc hqm hqb
        generalize hKK : 2 * ((come (natsOf zs)).length - 1) = K at hli
        refine hli.mono ?_
        rintro e w3 ⟨p3, lb, c3, z, rfl, e1, e2, e3, e4, e5, e6⟩
        rw [hKK] at e5
        have HK : Hid (2 * ((come (natsOf zs)).length - 1) = K) := hKK
        have hK600 : K ≤ 600 := by rw [← hKK]; have := HN.out.1; omega
        have HL : Hid ((2 ≤ (come (natsOf zs)).length → p3 = some ⟨lb, 0, none⟩ ∧ w2.heap.size ≤ lb ∧ lb < w3.heap.size) ∧ PRow w3 lb (z.map Prod.snd) ∧ (∀ x ∈ z, Mn w3 w2.heap.size lb (ixOf zs) x.1 x.2) ∧ LevelR (come (natsOf zs)) m (z.map Prod.fst) ∧ K ≤ z.length ∧ Below w2.heap.size w2 w3) := ⟨e1, e2, e3, e4, e5, e6⟩
        have HST : Hid (LRow w3 w1.heap.size (addA (ixOf zs) ((z.map Prod.fst).take 0) (List.replicate len 0)) ∧ Only (· = w1.heap.size) w3 w3) := ⟨(e6.block _ hs2).trans HL2.out, Only.refl _ _⟩
        clear hli e1 e2 e3 e4 e5 e6 hKK
        have hkk : (2 * ((come (natsOf zs)).length - 1)) = K := HK.out
        rw [hkk]
        clear hkk
        go_wp2_with fail
        go_loopg [38] K (fun kx s38 wr => ∃ (k : Nat), s38 = .int .i64 (k : Int) ∧ k ≤ K ∧ K - k ≤ kx ∧ Hid (LRow wr w1.heap.size (addA (ixOf zs) ((z.map Prod.fst).take k) (List.replicate len 0)) ∧ Only (· = w1.heap.size) w3 wr))
        case atStart => exact ⟨0, rfl, by omega, by omega, HST⟩
        case round =>
          clear HST
          obtain ⟨k, rfl, hk, hkx, HR⟩ := hrel
          by_cases hlt : k < K
          · obtain ⟨e1, e2, e3, e4, e5, e6⟩ := HL.out
            have h2f : 2 ≤ (come (natsOf zs)).length := by have := HK.out; omega
            obtain ⟨hp3, l1, l2⟩ := e1 h2f
            subst hp3
            have hkz0 : k < z.length := by omega
            have hq := e2 k (by rw [List.length_map]; exact hkz0)
            have hmn := e3 _ (List.getElem_mem hkz0)
            rw [List.getElem_map] at hq
            have hmem : z[k].1 ∈ z.map Prod.fst := List.mem_map_of_mem (List.getElem_mem hkz0)
            have hin := level_in (ix := ixOf zs) (n := len) (fun r hr => by rw [← HX.out]; exact ix_lt zs r hr) e4 _ hmem
            have hbd := (level_bound (come_le zs HZ.out) e4 _ hmem).2
            have hadd : addA (ixOf zs) ((z.map Prod.fst).take (k + 1)) (List.replicate len 0) = addL (ixOf zs) z[k].1 (addA (ixOf zs) ((z.map Prod.fst).take k) (List.replicate len 0)) := by
              rw [List.take_succ_eq_append_getElem (by rw [List.length_map]; exact hkz0), addA_append, List.getElem_map]; rfl
            have hsz3 := HR.out.2.2.2.2.1
            have hblk : ∀ j, w2.heap.size ≤ j → j < w3.heap.size → wr.heap[j]? = w3.heap[j]? := fun j h1 h2 => HR.out.2.2.2.2.2 j h2 (by omega)
            obtain ⟨c1, c2, c3'⟩ := hq.keep (hblk lb l1 l2)
            have hmnr := hmn.keep (Nat.le_refl _) (fun j h1 h2 => hblk j h1 (by omega))
            have hpw30 : (2 : Nat) ^ m ≤ 2 ^ 30 := Nat.pow_le_pow_right (by omega) hm2
            have h30 : (2 : Nat) ^ 30 = 1073741824 := by decide
            have hM : ∀ t ∈ (z.map Prod.fst).take k, sizeT t ≤ 536870912 := fun t ht => by
              have := (level_bound (come_le zs HZ.out) e4 t (List.mem_of_mem_take ht)).2
              omega
            have hle := addA_le (ixOf zs) (B := 0) (M := 536870912) ((z.map Prod.fst).take k) (List.replicate len 0) hM (fun x hx => by have := List.eq_of_mem_replicate hx; omega)
            have hlen2 : len = (addA (ixOf zs) ((z.map Prod.fst).take k) (List.replicate len 0)).length := by rw [addA_length, List.length_replicate]
            have HS : Hid (len = (addA (ixOf zs) ((z.map Prod.fst).take k) (List.replicate len 0)).length ∧ Mn wr w2.heap.size lb (ixOf zs) z[k].1 z[k].2 ∧ InT (ixOf zs) len z[k].1 ∧ (∀ x ∈ addA (ixOf zs) ((z.map Prod.fst).take k) (List.replicate len 0), x + sizeT z[k].1 ≤ 4611686018427387904) ∧ addA (ixOf zs) ((z.map Prod.fst).take (k + 1)) (List.replicate len 0) = addL (ixOf zs) z[k].1 (addA (ixOf zs) ((z.map Prod.fst).take k) (List.replicate len 0)) ∧ lb ≤ wr.heap.size) :=
              ⟨hlen2, hmnr, hin, fun x hx => by have h9 := hle x hx; rw [List.length_take] at h9; have h8 : min k (z.map Prod.fst).length * 536870912 ≤ 600 * 536870912 := Nat.mul_le_mul_right _ (by have := Nat.min_le_left k (z.map Prod.fst).length; omega); omega, hadd, by omega⟩
            have hkz : (k : Int) < (K : Int) := by omega
            have hk0 : (0 : Int) ≤ (k : Int) := by omega
            have hl2' : lb < wr.heap.size := by omega
            generalize z[k].1 = t at HS
            generalize z[k].2 = pk at HS c1 c2 c3'
            clear e1 e2 e3 e4 e5 e6 h2f hkz0 hq hmn hmem hin hbd hadd hsz3 hblk hmnr hpw30 h30 hM hle hlen2
            go_wp2_with fail
            have hsame : ∀ j, w2.heap.size ≤ j → j < lb → (wr.alloc (.cells #[.int .i64 pk.wt, .int .i64 pk.sym, .slice pk.ptr pk.len pk.cap] 39)).heap[j]? = wr.heap[j]? := fun j h1 h2 => (only_alloc (fun _ => False) wr _).2.2.2.2 j (by omega) (fun h => h)
            have hl1 := HR.out.1.only (S := fun _ => False) (only_alloc _ wr (.cells #[.int .i64 pk.wt, .int .i64 pk.sym, .slice pk.ptr pk.len pk.cap] 39)) (fun h => h)
            have hc := lengthen_ok w2.heap.size lb w1.heap.size len len (ixOf zs) hs2 t pk _ (wr.alloc (.cells #[.int .i64 pk.wt, .int .i64 pk.sym, .slice pk.ptr pk.len pk.cap] 39)) HS.out.1 (HS.out.2.1.keep (Nat.le_refl _) hsame) hl1 (by simp; omega) HS.out.2.2.1 HS.out.2.2.2.1
            refine hc.mono ?_
            rintro e w4 ⟨rfl, k1, o1⟩
            have HNX : Hid (LRow w4 w1.heap.size (addA (ixOf zs) ((z.map Prod.fst).take (k + 1)) (List.replicate len 0)) ∧ Only (· = w1.heap.size) w3 w4) := ⟨by rw [HS.out.2.2.2.2.1]; exact k1, HR.out.2.trans ((only_alloc _ _ _).trans o1)⟩
            clear hc k1 o1 hl1 hsame
            go_wp2
            go_roundg (K - (k + 1))
            case measure => omega
            case rel => exact ⟨k + 1, by go_num, by omega, Nat.le_refl _, HNX⟩
          · have hkz : ¬ (k : Int) < (K : Int) := by omega
            have hkk : k = K := by omega
            subst hkk
            go_wp2
            go_ret2
            obtain ⟨e1, e2, e3, e4, e5, e6⟩ := HL.out
            have hB3 : Below w'.heap.size w' w3 := HB2.out.trans (e6.mono HB2.out.size)
            have hbw := HBW.out
            refine ⟨hB3.trans (HR.out.2.below hB3.size (fun j hj hje => by omega)), .inr (.inr ⟨HOK.out, HBG.out, w1.heap.size, _, by rw [HX.out]; rfl, HR.out.1, hbw, ?_⟩)⟩
            rw [← HX.out, ← HK.out]
            by_cases h2f : 2 ≤ (come (natsOf zs)).length
            · exact fine_trees (fun z hz => (HZ.out z hz).1) h2f hm1 hm2 e4 (by rw [List.length_map, HK.out]; exact e5)
            · have h0 : (come (natsOf zs)).length = 0 := by have := HH1.out; omega
              rw [h0]
              exact fine_none h0
end Go.Proofs.Ytefniglinligeaa.Lp

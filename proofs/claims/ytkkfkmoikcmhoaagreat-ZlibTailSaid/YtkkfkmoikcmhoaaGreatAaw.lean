/- LpK, LmF, DfV, DfF: merged. -/
import Derived.Test.YtkkfkmoikcmhoaaGreatAao
import Derived.Test.YtkkfkmoikcmhoaaGreatAap
import Derived.Test.YtkkfkmoikcmhoaaGreatAaq
import Derived.Test.YtkkfkmoikcmhoaaGreatAat
import Derived.Test.YtkkfkmoikcmhoaaGreatAav
set_option linter.unusedVariables false
set_option linter.unusedSimpArgs false
namespace Go.Proofs.YtkkfkmoikcmhoaaGreat.Lp
open Go.RowKit Oct Lm
set_option maxRecDepth 100000
def Yvq (w : World) (zs : List Int) (most : Int) (e : Ending) (w' : World) : Prop :=
 Below w.heap.size w w' ∧
 ((okB zs most = false ∧ e = .returned (.tuple #[.slice none 0 0, .int .i64 1])) ∨
  (okB zs most = true ∧ 2 ^ most.toNat < (come (Y0d zs)).length ∧ e = .returned (.tuple #[.slice none 0 0, .int .i64 5])) ∨
  (okB zs most = true ∧ (come (Y0d zs)).length ≤ 2 ^ most.toNat ∧ ∃ bl ls, e = .returned (.tuple #[.slice (some ⟨bl, 0, none⟩) zs.length zs.length, .int .i64 0]) ∧ LRow w' bl ls ∧ w.heap.size ≤ bl ∧ Fine zs most.toNat ls))
theorem Ypo {zs : List Int} {most : Int} (h : okB zs most = true) : 1 ≤ most ∧ most ≤ 30 ∧ zs.length ≤ 300 ∧ ∀ z ∈ zs, 0 ≤ z ∧ z ≤ 1073741824 := by
 unfold okB at h
 simp only [Bool.and_eq_true, decide_eq_true_eq, Bool.not_eq_true'] at h
 obtain ⟨⟨⟨h1, h2⟩, h3⟩, h4⟩ := h
 refine ⟨h1, h2, h3, fun z hz => ?_⟩
 have := List.any_eq_false.1 h4 z hz
 unfold Yil at this
 simp at this
 omega
theorem Yh3 (zs : List Int) (h : ∀ z ∈ zs, 0 ≤ z ∧ z ≤ 1073741824) : ∀ x ∈ come (Y0d zs), x ≤ 1073741824 := by
 intro x hx
 obtain ⟨z, hz, rfl⟩ := List.mem_map.1 (List.mem_filter.1 hx).1
 have := h z hz
 omega
theorem Yiw (zs : List Int) : (come (Y0d zs)).length ≤ zs.length := by
 have := List.length_filter_le (fun x => decide (0 < x)) (Y0d zs)
 unfold come Y0d at *
 rwa [List.length_map] at this
theorem Tryz.infoInt3 : (Tryz.prog.info? 3).map (fun i => (i.zero, i.size, i.bytes)) = some (some (.int .i64 0), 1, 8) := by kernel_rfl
theorem Yfm (w : World) (n : Nat) : LRow (w.alloc (.cells (madeCells (Value.int .i64 0).cells (n * 1)) 3)) w.heap.size (List.replicate n 0) := by
 unfold LRow
 rw [heap_alloc_last]
 have e : madeCells (Value.int .i64 0).cells (n * 1) = (nats (List.replicate n 0)).toArray := by
  apply Array.ext'
  have := toList_madeCells_one (.int .i64 0) n
  rw [Nat.mul_one]
  rw [show (Value.int .i64 0).cells = #[.int .i64 0] from rfl, this]
  simp [nats]
 rw [e]
set_option maxHeartbeats 8000000 in
theorem Yhn (p : Option Addr) (len cap : Nat) (most : Int) (zs : List Int) (w : World) (hr : VRow w w.heap.size p (ints zs)) (hx : zs.length = len) : Calls Tryz.prog 112 #[.slice p len cap, .int .i64 most] w (Yvq w zs most) := by
 have HA := Lib.hid (Ygy p len cap most zs w hr hx)
 have HS : Hid (len ≤ 300 → Calls Tryz.prog 145 #[.slice p len cap] w (SymP w zs)) := fun h => Yid p len cap zs w hr hx (by omega)
 have HX := Lib.hid hx
 clear hr hx
 cases hok : okB zs most with
 | false =>
  have ha := HA.out
  rw [hok] at ha
  have HOK := Lib.hid hok
  clear hok
  go_enter Tryz.func112, Tryz.ntmps112
  go_wp2_with (go_at_call 144; refine ha.mono ?_; rintro e w' ⟨rfl, rfl⟩)
  go_ret2
  exact ⟨Below.refl _ _, .inl ⟨HOK.out, rfl⟩⟩
 | true =>
  have ha := HA.out
  rw [hok] at ha
  have HOK := Lib.hid hok
  obtain ⟨h1, h2, h3, h4⟩ := Ypo hok
  have hsy := HS.out (by rw [← HX.out]; exact h3)
  rw [HX.out] at h3
  obtain ⟨m, rfl⟩ : ∃ m : Nat, most = (m : Int) := ⟨most.toNat, by omega⟩
  have HZ : Hid (∀ z ∈ zs, 0 ≤ z ∧ z ≤ 1073741824) := h4
  have hm1 : 1 ≤ m := by omega
  have hm2 : m ≤ 30 := by omega
  clear hok h4 h1 h2
  have hpw : (2 : Nat) ^ m ≤ 2 ^ 30 := Nat.pow_le_pow_right (by omega) hm2
  have hcast : ((2 : Int) ^ m) = ((2 ^ m : Nat) : Int) := by simp
  have hw2 : wrap64 ((2 : Int) ^ m) = ((2 ^ m : Nat) : Int) := by
   rw [hcast]
   have : (2 : Nat) ^ 30 = 1073741824 := by decide
   generalize (2 : Nat) ^ m = x at hpw ⊢
   unfold wrap64
   omega
  have HN : Hid ((syms zs zs.length).length = (come (Y0d zs)).length ∧ syms zs zs.length = Y0y zs 0) := ⟨by rw [Yk6]; exact (sgl zs).len, Yk6 zs⟩
  by_cases hbig : 2 ^ m < (syms zs zs.length).length
  ·have hd1 : decide (wrap64 ((2 : Int) ^ m) < ((syms zs zs.length).length : Int)) = true := decide_eq_true (by rw [hw2]; omega)
   have HBG := Lib.hid hbig
   clear hw2 hcast hpw hbig
   go_enter Tryz.func112, Tryz.ntmps112
   go_wp2_with (first | (go_at_call 144; refine ha.mono ?_; rintro e w' ⟨rfl, rfl⟩) | (go_at_call 145; refine hsy.mono ?_; rintro e w1 ⟨v, rfl, ho1, hb1⟩; obtain ⟨q, c, rfl, hq0, hqc, hqm, hpv, hqb⟩ := ho1.shape))
   go_ret2
   exact ⟨hb1, .inr (.inl ⟨HOK.out, by have := HBG.out; rw [HN.out.1] at this; exact this, rfl⟩)⟩
  ·have hd1 : decide (wrap64 ((2 : Int) ^ m) < ((syms zs zs.length).length : Int)) = false := decide_eq_false (by rw [hw2]; omega)
   have HBG : Hid ((come (Y0d zs)).length ≤ 2 ^ m) := by show _ ≤ _; rw [← HN.out.1]; omega
   have hfew : (syms zs zs.length).length ≤ len := by rw [HN.out.1, ← HX.out]; exact Yiw zs
   clear hw2 hcast hpw hbig
   by_cases h1 : (syms zs zs.length).length = 1
   ·have hd2 : (((syms zs zs.length).length : Int) == 1) = true := by rw [h1]; rfl
    have hpos : 0 < (syms zs zs.length).length := by omega
    have hd3 : (0 : Int) < ((syms zs zs.length).length : Int) := by omega
    have HH1 : Hid ((come (Y0d zs)).length = 1) := by rw [← HN.out.1]; exact h1
    have HSYM : Hid (∀ W g, PRow W g (syms zs zs.length) → W.cell? ⟨g, 1, none⟩ = some (.int .i64 ((ixOf zs 0 : Nat) : Int))) := fun W g hW => by
     have h9 := (hW 0 hpos).2.1
     have h8 := (sgl zs).leaf 0 (by have := HH1.out; omega)
     have h7 : (syms zs zs.length)[0] = (Y0y zs 0).getD 0 default := by
      rw [Y44 zs 0 (by rw [← HN.out.2]; exact hpos)]
      simp only [HN.out.2]
     rw [h7] at h9
     have h6 : ((Y0y zs 0).getD 0 default).sym = ((ixOf zs 0 : Nat) : Int) := h8.2.1
     rw [h6] at h9
     simpa using h9
    have hixl : ixOf zs 0 < len := by rw [← HX.out]; exact Yt3 zs 0 (by have := HH1.out; omega)
    have HF := Lib.hid (Ysr hm1 HH1.out)
    rw [HX.out] at HF
    obtain ⟨x, hx⟩ : ∃ x, x = ixOf zs 0 := ⟨_, rfl⟩
    rw [← hx] at HSYM hixl HF
    have hx1 : (0 : Int) ≤ (x : Int) := by omega
    have hx2 : (x : Int) < (len : Int) := by omega
    clear h1 hx
    go_enter Tryz.func112, Tryz.ntmps112
    go_wp2_with (first | (go_at_call 144; refine ha.mono ?_; rintro e w' ⟨rfl, rfl⟩) | (go_at_call 145; refine hsy.mono ?_; rintro e w1 ⟨v, rfl, ho1, hb1⟩; obtain ⟨q, c, rfl, hq0, hqc, hqm, hpv, hqb⟩ := ho1.shape; obtain ⟨g, rfl, hg, hrow⟩ := hpv hpos; have hgc := HSYM.out w1 g hrow) | (at_make; refine Y1q rfl _ _ rfl Tryz.underlying74 Tryz.infoInt3 len rfl rfl (by omega) (by omega) ?_; have hl2 := Yfm w1 len; have hb2 : Below w'.heap.size w' (w1.alloc (.cells (madeCells (Value.int .i64 0).cells (len * 1)) 3)) := hb1.alloc hb1.size _; have hgc2 : World.cell? (w1.alloc (.cells (madeCells (Value.int .i64 0).cells (len * 1)) 3)) ⟨g, 1, none⟩ = some (.int .i64 (x : Int)) := (World.cell?_alloc_lt _ _ _ hg).trans hgc; have hcs := Yfl hl2 x (show x < (List.replicate len 0).length from Nat.lt_of_lt_of_eq hixl List.length_replicate.symm); have hfz := Y23 hl2; have hs2 : w1.heap.size < (w1.alloc (.cells (madeCells (Value.int .i64 0).cells (len * 1)) 3)).heap.size := hl2.lt; have HL2 := Lib.hid hl2; have HB2 := Lib.hid hb2; have hgs : g < (w1.alloc (.cells (madeCells (Value.int .i64 0).cells (len * 1)) 3)).heap.size := Nat.lt_trans hg hs2; clear hl2 hb2 hgc hrow ho1; generalize (w1.alloc (.cells (madeCells (Value.int .i64 0).cells (len * 1)) 3)) = w2 at hgc2 hcs hfz hs2 HL2 HB2 hgs ⊢))
    go_ret2
    have hne : w'.heap.size ≤ w1.heap.size := hb1.size
    refine ⟨HB2.out.setCell (p := ⟨w1.heap.size, x, none⟩) hne _, .inr (.inr ⟨HOK.out, HBG.out, w1.heap.size, (List.replicate len 0).set x 1, by rw [HX.out]; rfl, Yjc HL2.out x 1, hne, HF.out⟩)⟩
   ·have hd2 : (((syms zs zs.length).length : Int) == 1) = false := beq_eq_false_iff_ne.2 (by omega)
    have HH1 : Hid ((come (Y0d zs)).length ≠ 1) := by rw [← HN.out.1]; exact h1
    have hlen1 : (syms zs zs.length).length ≤ 1000 := by omega
    clear h1
    go_enter Tryz.func112, Tryz.ntmps112
    go_wp2_with (first | (go_at_call 144; refine ha.mono ?_; rintro e w' ⟨rfl, rfl⟩) | (go_at_call 145; refine hsy.mono ?_; rintro e w1 ⟨v, rfl, ho1, hb1⟩; obtain ⟨q, c, rfl, hq0, hqc, hqm, hpv, hqb⟩ := ho1.shape) | (at_make; refine Y1q rfl _ _ rfl Tryz.underlying74 Tryz.infoInt3 len rfl rfl (by omega) (by omega) ?_; have hl2 := Yfm w1 len; have hb2 : Below w'.heap.size w' (w1.alloc (.cells (madeCells (Value.int .i64 0).cells (len * 1)) 3)) := hb1.alloc hb1.size _; have hs2 : w1.heap.size < (w1.alloc (.cells (madeCells (Value.int .i64 0).cells (len * 1)) 3)).heap.size := hl2.lt; have HL2 := Lib.hid hl2; have HB2 := Lib.hid hb2; have HPV2 : Hid (PV (w1.alloc (.cells (madeCells (Value.int .i64 0).cells (len * 1)) 3)) w1.heap.size q (syms zs zs.length)) := (hpv.below ((Below.refl _ w1).alloc (Nat.le_refl _) _) (Nat.le_refl _)); clear hl2 hb2 hpv ho1; generalize (w1.alloc (.cells (madeCells (Value.int .i64 0).cells (len * 1)) 3)) = w2 at hs2 HL2 HB2 HPV2 ⊢))
    have HBW : Hid (w'.heap.size ≤ w1.heap.size) := hb1.size
    have HQ : Hid (q = none → c = 0) := hq0
    have hli := Yfj q (syms zs zs.length).length c m (syms zs zs.length) (come (Y0d zs)) (ixOf zs) w2 (by rw [HN.out.2]; exact sgl zs) rfl (HPV2.out.mono (by omega)) hq0 hlen1 hm1 hm2 (Y92 _) (Yh3 zs HZ.out) HBG.out
    clear hb1 hq0 hqc hqm hqb
    generalize hKK : 2 * ((come (Y0d zs)).length - 1) = K at hli
    refine hli.mono ?_
    rintro e w3 ⟨p3, lb, c3, z, rfl, e1, e2, e3, e4, e5, e6⟩
    rw [hKK] at e5
    have HK : Hid (2 * ((come (Y0d zs)).length - 1) = K) := hKK
    have hK600 : K ≤ 600 := by rw [← hKK]; have := HN.out.1; omega
    have HL : Hid ((2 ≤ (come (Y0d zs)).length → p3 = some ⟨lb, 0, none⟩ ∧ w2.heap.size ≤ lb ∧ lb < w3.heap.size) ∧ PRow w3 lb (z.map Prod.snd) ∧ (∀ x ∈ z, Mn w3 w2.heap.size lb (ixOf zs) x.1 x.2) ∧ Y2w (come (Y0d zs)) m (z.map Prod.fst) ∧ K ≤ z.length ∧ Below w2.heap.size w2 w3) := ⟨e1, e2, e3, e4, e5, e6⟩
    have HST : Hid (LRow w3 w1.heap.size (Y8x (ixOf zs) ((z.map Prod.fst).take 0) (List.replicate len 0)) ∧ Only (· = w1.heap.size) w3 w3) := ⟨(e6.block _ hs2).trans HL2.out, Only.refl _ _⟩
    clear hli e1 e2 e3 e4 e5 e6 hKK
    have hkk : (2 * ((come (Y0d zs)).length - 1)) = K := HK.out
    rw [hkk]
    clear hkk
    go_wp2_with fail
    go_loopg [38] K (fun kx s38 wr => ∃ (k : Nat), s38 = .int .i64 (k : Int) ∧ k ≤ K ∧ K - k ≤ kx ∧ Hid (LRow wr w1.heap.size (Y8x (ixOf zs) ((z.map Prod.fst).take k) (List.replicate len 0)) ∧ Only (· = w1.heap.size) w3 wr))
    case atStart => exact ⟨0, rfl, by omega, by omega, HST⟩
    case round =>
     clear HST
     obtain ⟨k, rfl, hk, hkx, HR⟩ := hrel
     by_cases hlt : k < K
     ·obtain ⟨e1, e2, e3, e4, e5, e6⟩ := HL.out
      have h2f : 2 ≤ (come (Y0d zs)).length := by have := HK.out; omega
      obtain ⟨hp3, l1, l2⟩ := e1 h2f
      subst hp3
      have hkz0 : k < z.length := by omega
      have hq := e2 k (by rw [List.length_map]; exact hkz0)
      have hmn := e3 _ (List.getElem_mem hkz0)
      rw [List.getElem_map] at hq
      have hmem : z[k].1 ∈ z.map Prod.fst := List.mem_map_of_mem (List.getElem_mem hkz0)
      have hin := Yd6 (ix := ixOf zs) (n := len) (fun r hr => by rw [← HX.out]; exact Yt3 zs r hr) e4 _ hmem
      have hbd := (Y4u (Yh3 zs HZ.out) e4 _ hmem).2
      have hadd : Y8x (ixOf zs) ((z.map Prod.fst).take (k + 1)) (List.replicate len 0) = Y6y (ixOf zs) z[k].1 (Y8x (ixOf zs) ((z.map Prod.fst).take k) (List.replicate len 0)) := by
       rw [List.take_succ_eq_append_getElem (by rw [List.length_map]; exact hkz0), Ygw, List.getElem_map]; rfl
      have hsz3 := HR.out.2.2.2.2.1
      have hblk : ∀ j, w2.heap.size ≤ j → j < w3.heap.size → wr.heap[j]? = w3.heap[j]? := fun j h1 h2 => HR.out.2.2.2.2.2 j h2 (by omega)
      obtain ⟨c1, c2, c3'⟩ := hq.keep (hblk lb l1 l2)
      have hmnr := hmn.keep (Nat.le_refl _) (fun j h1 h2 => hblk j h1 (by omega))
      have hpw30 : (2 : Nat) ^ m ≤ 2 ^ 30 := Nat.pow_le_pow_right (by omega) hm2
      have h30 : (2 : Nat) ^ 30 = 1073741824 := by decide
      have hM : ∀ t ∈ (z.map Prod.fst).take k, Y34 t ≤ 536870912 := fun t ht => by
       have := (Y4u (Yh3 zs HZ.out) e4 t (List.mem_of_mem_take ht)).2
       omega
      have hle := Yn9 (ixOf zs) (B := 0) (M := 536870912) ((z.map Prod.fst).take k) (List.replicate len 0) hM (fun x hx => by have := List.eq_of_mem_replicate hx; omega)
      have hlen2 : len = (Y8x (ixOf zs) ((z.map Prod.fst).take k) (List.replicate len 0)).length := by rw [Y6e, List.length_replicate]
      have HS : Hid (len = (Y8x (ixOf zs) ((z.map Prod.fst).take k) (List.replicate len 0)).length ∧ Mn wr w2.heap.size lb (ixOf zs) z[k].1 z[k].2 ∧ InT (ixOf zs) len z[k].1 ∧ (∀ x ∈ Y8x (ixOf zs) ((z.map Prod.fst).take k) (List.replicate len 0), x + Y34 z[k].1 ≤ 4611686018427387904) ∧ Y8x (ixOf zs) ((z.map Prod.fst).take (k + 1)) (List.replicate len 0) = Y6y (ixOf zs) z[k].1 (Y8x (ixOf zs) ((z.map Prod.fst).take k) (List.replicate len 0)) ∧ lb ≤ wr.heap.size) :=
       ⟨hlen2, hmnr, hin, fun x hx => by have h9 := hle x hx; rw [List.length_take] at h9; have h8 : min k (z.map Prod.fst).length * 536870912 ≤ 600 * 536870912 := Nat.mul_le_mul_right _ (by have := Nat.min_le_left k (z.map Prod.fst).length; omega); omega, hadd, by omega⟩
      have hkz : (k : Int) < (K : Int) := by omega
      have hk0 : (0 : Int) ≤ (k : Int) := by omega
      have hl2' : lb < wr.heap.size := by omega
      generalize z[k].1 = t at HS
      generalize z[k].2 = pk at HS c1 c2 c3'
      clear e1 e2 e3 e4 e5 e6 h2f hkz0 hq hmn hmem hin hbd hadd hsz3 hblk hmnr hpw30 h30 hM hle hlen2
      go_wp2_with fail
      have hsame : ∀ j, w2.heap.size ≤ j → j < lb → (wr.alloc (.cells #[.int .i64 pk.wt, .int .i64 pk.sym, .slice pk.ptr pk.len pk.cap] 221)).heap[j]? = wr.heap[j]? := fun j h1 h2 => (Y18 (fun _ => False) wr _).2.2.2.2 j (by omega) (fun h => h)
      have hl1 := HR.out.1.only (S := fun _ => False) (Y18 _ wr (.cells #[.int .i64 pk.wt, .int .i64 pk.sym, .slice pk.ptr pk.len pk.cap] 221)) (fun h => h)
      have hc := Y6k w2.heap.size lb w1.heap.size len len (ixOf zs) hs2 t pk _ (wr.alloc (.cells #[.int .i64 pk.wt, .int .i64 pk.sym, .slice pk.ptr pk.len pk.cap] 221)) HS.out.1 (HS.out.2.1.keep (Nat.le_refl _) hsame) hl1 (by simp; omega) HS.out.2.2.1 HS.out.2.2.2.1
      refine hc.mono ?_
      rintro e w4 ⟨rfl, k1, o1⟩
      have HNX : Hid (LRow w4 w1.heap.size (Y8x (ixOf zs) ((z.map Prod.fst).take (k + 1)) (List.replicate len 0)) ∧ Only (· = w1.heap.size) w3 w4) := ⟨by rw [HS.out.2.2.2.2.1]; exact k1, HR.out.2.trans ((Y18 _ _ _).trans o1)⟩
      clear hc k1 o1 hl1 hsame
      go_wp2
      go_roundg (K - (k + 1))
      case measure => omega
      case rel => exact ⟨k + 1, by go_num, by omega, Nat.le_refl _, HNX⟩
     ·have hkz : ¬ (k : Int) < (K : Int) := by omega
      have hkk : k = K := by omega
      subst hkk
      go_wp2
      go_ret2
      obtain ⟨e1, e2, e3, e4, e5, e6⟩ := HL.out
      have hB3 : Below w'.heap.size w' w3 := HB2.out.trans (e6.mono HB2.out.size)
      have hbw := HBW.out
      refine ⟨hB3.trans (HR.out.2.below hB3.size (fun j hj hje => by omega)), .inr (.inr ⟨HOK.out, HBG.out, w1.heap.size, _, by rw [HX.out]; rfl, HR.out.1, hbw, ?_⟩)⟩
      rw [← HX.out, ← HK.out]
      by_cases h2f : 2 ≤ (come (Y0d zs)).length
      ·exact Yl9 (fun z hz => (HZ.out z hz).1) h2f hm1 hm2 e4 (by rw [List.length_map, HK.out]; exact e5)
      ·have h0 : (come (Y0d zs)).length = 0 := by have := HH1.out; omega
       rw [h0]
       exact Yof h0
end Go.Proofs.YtkkfkmoikcmhoaaGreat.Lp
namespace Go.Proofs.YtkkfkmoikcmhoaaGreat.Lm
open Bit Hf
theorem Ygb (L : List Nat) : ∀ n, startN L (n + 1) = ((L.filter fun x => 1 ≤ x ∧ x ≤ n).map share).sum
 | 0 => by
  rw [Y66]
  have : L.filter (fun x => decide (1 ≤ x ∧ x ≤ 0)) = [] := by
   rw [List.filter_eq_nil_iff]
   intro x _
   simp
   omega
  rw [this]
  rfl
 | n + 1 => by
  rw [Y3m L (n + 1) (by omega), Ygb L n]
  induction L with
  | nil => simp
  | cons y L ih =>
   rw [List.count_cons, List.filter_cons, List.filter_cons]
   by_cases h1 : 1 ≤ y ∧ y ≤ n
   ·have h2 : 1 ≤ y ∧ y ≤ n + 1 := ⟨h1.1, by omega⟩
    have h3 : (y == n + 1) = false := by rw [beq_eq_false_iff_ne]; omega
    rw [decide_eq_true h1, decide_eq_true h2, h3]
    simp only [if_true, List.map_cons, List.sum_cons, Bool.false_eq_true, if_false, Nat.add_zero]
    omega
   ·by_cases h3 : y = n + 1
    ·have h2 : 1 ≤ y ∧ y ≤ n + 1 := by omega
     have h4 : (y == n + 1) = true := by rw [beq_iff_eq]; exact h3
     rw [decide_eq_false h1, decide_eq_true h2, h4]
     simp only [if_true, List.map_cons, List.sum_cons, Bool.false_eq_true, if_false]
     rw [Nat.add_mul, Nat.one_mul, h3]
     omega
    ·have h2 : ¬ (1 ≤ y ∧ y ≤ n + 1) := by omega
     have h4 : (y == n + 1) = false := by rw [beq_eq_false_iff_ne]; exact h3
     rw [decide_eq_false h1, decide_eq_false h2, h4]
     simp only [Bool.false_eq_true, if_false, Nat.add_zero]
     exact ih
theorem Yb1 (L : List Nat) (h : ∀ x ∈ L, x ≤ 30) : startN L 31 = kraft (L.filter (0 < ·)) := by
 rw [Ygb L 30]
 unfold kraft
 congr 2
 refine List.filter_congr fun x hx => ?_
 have := h x hx
 rw [decide_eq_decide]
 omega
theorem Y5f : ∀ (o l : List Nat), l.length = o.length → (∀ i, i < o.length → o.getD i 0 = 0 → l.getD i 0 = 0) → (∀ x ∈ Y4d o l, 1 ≤ x) → Y4d o l = l.filter (0 < ·)
 | [], [], _, _, _ => rfl
 | x :: o, y :: l, hl, hz, h1 => by
  have ih := Y5f o l (by simpa using hl) (fun i hi h => by have := hz (i + 1) (by simpa using hi); simpa using this h)
  by_cases hx : 0 < x
  ·simp only [Y4d, if_pos hx] at h1 ⊢
   have hy := h1 y List.mem_cons_self
   rw [List.filter_cons, if_pos (by simp; omega), ih (fun z hz => h1 z (List.mem_cons_of_mem _ hz))]
  ·simp only [Y4d, if_neg hx] at h1 ⊢
   have hy : y = 0 := by
    have := hz 0 (by simp) (by simp; omega)
    simpa using this
   rw [List.filter_cons, if_neg (by simp [hy]), ih h1]
 | [], y :: l, hl, _, _ => by simp at hl
 | x :: o, [], hl, _, _ => by simp at hl
theorem Yol {o : List Nat} {L : Nat} {l : List Nat} (hlen : l.length = o.length) (hz : ∀ i, i < o.length → o.getD i 0 = 0 → l.getD i 0 = 0) (h : Least (come o) L (Y4d o l)) (h2 : 2 ≤ (come o).length) (hL : L ≤ 30) (h30 : ∀ x ∈ l, x ≤ 30) : startN l 31 = 1073741824 := by
 rw [Yb1 l h30, ← Y5f o l hlen hz h.ok.lo]
 exact h.full hL h2 (Y92 o)
end Go.Proofs.YtkkfkmoikcmhoaaGreat.Lm
namespace Go.Proofs.YtkkfkmoikcmhoaaGreat.Df
open Bit Hf Oct Inf
set_option maxRecDepth 100000
def Y58 (t : Lzt.Tok) : Prop := t.len = 0 ∨ (3 ≤ t.len ∧ t.len ≤ 258 ∧ 1 ≤ t.dist ∧ t.dist ≤ 32768)
def Y1z (l : List Nat) (few : Nat) : Nat → Nat
 | 0 => 0
 | k + 1 => if few < k + 1 ∧ l.getD k 0 = 0 then Y1z l few k else k + 1
theorem Y53 (l : List Nat) (few : Nat) : ∀ k, Y1z l few k ≤ k
 | 0 => Nat.le_refl _
 | k + 1 => by rw [Y1z]; split <;> (try have := Y53 l few k) <;> omega
theorem Y3p (l : List Nat) (few : Nat) : ∀ k, few ≤ k → few ≤ Y1z l few k
 | 0, h => h
 | k + 1, h => by
  rw [Y1z]
  split
  ·exact Y3p l few k (by omega)
  ·exact h
theorem Y8m (l : List Nat) (few : Nat) : ∀ k i, Y1z l few k ≤ i → i < k → l.getD i 0 = 0
 | 0, i, h1, h2 => by omega
 | k + 1, i, h1, h2 => by
  rw [Y1z] at h1
  split at h1
  ·rename_i hc
   by_cases e : i = k
   ·rw [e]; exact hc.2
   ·exact Y8m l few k i h1 (by omega)
  ·omega
def bump (L : List Nat) (i : Nat) : List Nat := L.set i (L.getD i 0 + 1)
theorem Y1j (L : List Nat) (i : Nat) : (bump L i).length = L.length := by simp [bump]
def Y8z (ops : List (Nat × Nat)) : List Nat := ops.foldl (fun c op => bump c op.1) (List.replicate 19 0)
theorem Ycn (L : List Nat) (i M : Nat) (h : ∀ x ∈ L, x ≤ M) : ∀ x ∈ bump L i, x ≤ M + 1 := fun x hx => by
 unfold bump at hx
 rcases List.mem_or_eq_of_mem_set hx with e | e
 ·have := h x e; omega
 ·rw [e, List.getD_eq_getElem?_getD]
  rcases hg : L[i]? with _ | y
  ·simp
  ·have := h y (List.mem_of_getElem? hg)
   simp
   exact this
theorem Y9s (ops : List (Nat × Nat)) : (Y8z ops).length = 19 ∧ ∀ x ∈ Y8z ops, x ≤ ops.length := by
 have key : ∀ (ops : List (Nat × Nat)) (L : List Nat) (M : Nat), (∀ x ∈ L, x ≤ M) → (ops.foldl (fun c op => bump c op.1) L).length = L.length ∧ ∀ x ∈ ops.foldl (fun c op => bump c op.1) L, x ≤ M + ops.length := by
  intro ops
  induction ops with
  | nil => intro L M h; exact ⟨rfl, h⟩
  | cons op ops ih =>
   intro L M h
   obtain ⟨h1, h2⟩ := ih (bump L op.1) (M + 1) (Ycn L op.1 M h)
   rw [List.foldl_cons]
   refine ⟨by rw [h1, Y1j], fun x hx => ?_⟩
   have := h2 x hx
   rw [List.length_cons]
   omega
 obtain ⟨h1, h2⟩ := key ops (List.replicate 19 0) 0 (fun x hx => by rw [(List.mem_replicate.1 hx).2]; exact Nat.le_refl _)
 exact ⟨by unfold Y8z; rw [h1]; simp, fun x hx => by have := h2 x hx; omega⟩
theorem Ynz (ops : List (Nat × Nat)) (k : Nat) (h : k < ops.length) : Y8z (ops.take (k + 1)) = bump (Y8z (ops.take k)) ops[k].1 := by
 rw [List.take_succ_eq_append_getElem h, Y8z, List.foldl_append]
 rfl
def Y56 (l : List Nat) : List Nat := order.map fun s => l.getD s 0
theorem Y13 (l : List Nat) : (Y56 l).length = 19 := by unfold Y56; rw [List.length_map]; rfl
theorem Ydk : ∀ k, k < 19 → order.getD k 0 < 19 := by decide
theorem Ydj (l : List Nat) (k : Nat) (h : k < 19) : (Y56 l)[k]? = some (l.getD (order.getD k 0) 0) := by
 have hk : k < order.length := h
 unfold Y56
 rw [List.getElem?_map, List.getElem?_eq_getElem hk, List.getD_eq_getElem?_getD (l := order), List.getElem?_eq_getElem hk]
 rfl
theorem Ypt (l : List Nat) (k : Nat) (h : k < 19) : (Y56 l).take (k + 1) = (Y56 l).take k ++ [l.getD (order.getD k 0) 0] := by
 rw [List.take_add_one, Ydj l k h]
 rfl
def Y6b (c : List Nat × List Nat) (t : Lzt.Tok) : List Nat × List Nat :=
 if t.len = 0 then (bump c.1 t.lit.toNat, c.2) else (bump c.1 (257 + placeN false t.len.toNat), bump c.2 (placeN true t.dist.toNat))
def Yit : List Nat × List Nat := ((List.replicate 286 0).set 256 1, List.replicate 30 0)
def Y49 (l : List Lzt.Tok) : List Nat × List Nat := l.foldl Y6b Yit
def Y5d (l : List Lzt.Tok) : List Nat × List Nat := if l = [] then ((Y49 l).1.set 0 1, (Y49 l).2) else Y49 l
theorem Yny (l : List Lzt.Tok) (k : Nat) (h : k < l.length) : Y49 (l.take (k + 1)) = Y6b (Y49 (l.take k)) l[k] := by
 rw [List.take_succ_eq_append_getElem h, Y49, List.foldl_append]
 rfl
theorem Yw4 (c : List Nat × List Nat) (t : Lzt.Tok) (M : Nat) (h : c.1.length = 286 ∧ c.2.length = 30 ∧ (∀ x ∈ c.1, x ≤ M) ∧ ∀ x ∈ c.2, x ≤ M) :
  (Y6b c t).1.length = 286 ∧ (Y6b c t).2.length = 30 ∧ (∀ x ∈ (Y6b c t).1, x ≤ M + 1) ∧ ∀ x ∈ (Y6b c t).2, x ≤ M + 1 := by
 obtain ⟨h1, h2, h3, h4⟩ := h
 unfold Y6b
 split
 ·exact ⟨by rw [Y1j]; exact h1, h2, Ycn _ _ _ h3, fun x hx => by have := h4 x hx; omega⟩
 ·exact ⟨by rw [Y1j]; exact h1, by rw [Y1j]; exact h2, Ycn _ _ _ h3, Ycn _ _ _ h4⟩
theorem Ycp (l : List Lzt.Tok) : (Y49 l).1.length = 286 ∧ (Y49 l).2.length = 30 ∧ (∀ x ∈ (Y49 l).1, x ≤ l.length + 1) ∧ ∀ x ∈ (Y49 l).2, x ≤ l.length + 1 := by
 have key : ∀ (l : List Lzt.Tok) (c : List Nat × List Nat) (M : Nat), (c.1.length = 286 ∧ c.2.length = 30 ∧ (∀ x ∈ c.1, x ≤ M) ∧ ∀ x ∈ c.2, x ≤ M) →
   (l.foldl Y6b c).1.length = 286 ∧ (l.foldl Y6b c).2.length = 30 ∧ (∀ x ∈ (l.foldl Y6b c).1, x ≤ M + l.length) ∧ ∀ x ∈ (l.foldl Y6b c).2, x ≤ M + l.length := by
  intro l
  induction l with
  | nil => intro c M h; exact h
  | cons t l ih =>
   intro c M h
   obtain ⟨h1, h2, h3, h4⟩ := ih _ _ (Yw4 c t M h)
   rw [List.foldl_cons]
   exact ⟨h1, h2, fun x hx => by have := h3 x hx; rw [List.length_cons]; omega, fun x hx => by have := h4 x hx; rw [List.length_cons]; omega⟩
 obtain ⟨h1, h2, h3, h4⟩ := key l Yit 1 ⟨by simp [Yit], by simp [Yit], fun x hx => by
  rcases List.mem_or_eq_of_mem_set hx with e | e
  ·rw [(List.mem_replicate.1 e).2]; omega
  ·omega, fun x hx => by rw [(List.mem_replicate.1 hx).2]; omega⟩
 exact ⟨h1, h2, fun x hx => by have := h3 x hx; omega, fun x hx => by have := h4 x hx; omega⟩
theorem Yom {L : List Nat} {M : Nat} (h : ∀ x ∈ L, x ≤ M) (i : Nat) : L.getD i 0 ≤ M := by
 rw [List.getD_eq_getElem?_getD]
 rcases hg : L[i]? with _ | y
 ·simp
 ·exact h y (List.mem_of_getElem? hg)
end Go.Proofs.YtkkfkmoikcmhoaaGreat.Df
namespace Go.Proofs.YtkkfkmoikcmhoaaGreat.Df
open Go.RowKit Oct Bit Hf Inf
set_option maxRecDepth 100000
def BookP (w : World) (L : List Nat) (e : Ending) (w' : World) : Prop := Below w.heap.size w w' ∧ ∃ g F, e = .returned (.pointer (some ⟨g, 0, none⟩)) ∧ BoS w' F g (Y03 L) ∧ ∀ k, F k → w.heap.size ≤ k
set_option maxHeartbeats 1000000 in
theorem Y71 (w : World) (E0 : Ke) (v : Value) (l : List Bool) (p : Option Addr) (n cap : Nat) (L : List Nat) (h : En w E0 v l) (hr : VRow w w.heap.size p (ints (Y05 L))) (hx : L.length = n) (hn : n ≤ 1000) (h30 : ∀ x ∈ L, x ≤ 30) (hT : startN L 31 ≤ 1073741824) :
  Calls Tryz.prog 75 #[.pointer (some ⟨E0.e, 0, none⟩), .slice p n cap] w (BookP w L) := by
 have hc := Yel p n cap (Y05 L) w hr (by rw [Y02]; exact hx) (by omega)
 have hok := Ynt L h30 hT
 have HC := Lib.hid hc
 have HOK := Lib.hid hok
 have H := Lib.hid h
 have HG := Lib.hid (Y9o L h30 hT)
 have HS := Lib.hid (Y9p L h30)
 have HX := Lib.hid hx
 clear hc hok h hr hx h30 hT
 go_enter Tryz.func75, Tryz.ntmps75
 go_wp2_with fail
 refine HC.out.mono ?_
 rintro e w1 ⟨hb1, hres⟩
 rcases hres with ⟨hne, _⟩ | ⟨_, q, c, rfl, hv, hq, hlc, hcm, hlo⟩
 ·exact absurd HOK.out hne
 ·rw [Y02, HX.out] at hlc ⊢
  rw [Y3c] at hv ⊢
  have HV := Lib.hid hv
  have HQ := Lib.hid hq
  have HB1 := Lib.hid hb1
  clear hv hq hb1 hlo
  have hE1 := H.out.below HB1.out
  have HK1 := Lib.hid (Y78 w1 E0 v l hE1)
  clear hE1
  go_wp2_with fail
  refine HK1.out.mono ?_
  rintro e w2 ⟨rfl, hb2⟩
  have HB2 := Lib.hid hb2
  have hv2 := (HV.out.below hb2 (Nat.le_refl _)).mono hb2.size
  have HN := Lib.hid (Ytf q q n c c (Y2z L) (strs (Y2z L)) w2 hv2 (by rw [Y28]; exact HX.out) HQ.out hv2 (by rw [Y14, Y28]; exact HX.out) HQ.out (by omega) (by exact Ydz) HS.out)
  clear hb2 hv2
  go_wp2_with fail
  refine HN.out.mono ?_
  rintro e w3 ⟨hb3, hres⟩
  rcases hres with ⟨c3, _, _, hbad⟩ | ⟨g, rfl, hg1, hg2, hBK⟩
  ·exact absurd HG.out hbad
  ·have HBK := Lib.hid hBK
   have HB3 := Lib.hid hb3
   have hE3 := ((H.out.below HB1.out).below HB2.out).below hb3
   have HK3 := Lib.hid (Y78 w3 E0 v l hE3)
   clear hBK hb3 hE3
   go_wp2_with fail
   refine HK3.out.mono ?_
   rintro e w4 ⟨rfl, hb4⟩
   have HB4 := Lib.hid hb4
   clear hb4
   go_wp2_with fail
   go_ret
   have z1 := HB1.out.size
   have z2 := HB2.out.size
   have z3 := HB3.out.size
   refine ⟨((HB1.out.trans (HB2.out.mono z1)).trans (HB3.out.mono (by omega))).trans (HB4.out.mono (by omega)), g, fun k => w2.heap.size ≤ k ∧ k < w3.heap.size, rfl, ?_, fun k hk => by omega⟩
   have hB : BoS w3 (fun k => w2.heap.size ≤ k ∧ k < w3.heap.size) g (Y03 L) := ⟨w3.heap.size, strs (Y2z L), fun k hk => hk.2, fun w' hz hs => HBK.out.at w' fun k h1 h2 => hs k ⟨h1, h2⟩⟩
   exact hB.below HB4.out
def Yys (c : List Nat) (most : Nat) (ls : List Nat) : Prop := Lp.Fine (Y05 c) most ls
def Yrx (w : World) (c : List Nat) (most : Nat) (e : Ending) (w' : World) : Prop := Below w.heap.size w w' ∧ ∃ bl ls, e = .returned (.slice (some ⟨bl, 0, none⟩) c.length c.length) ∧ Foot (· = bl) (fun w' => VRow w' w'.heap.size (some ⟨bl, 0, none⟩) (ints (Y05 ls))) w' ∧ w.heap.size ≤ bl ∧ ls.length = c.length ∧ Yys c most ls
theorem Yhs (c : List Nat) : Lp.Y0d (Y05 c) = c := Y3c c
theorem Yoj {w : World} {bl : Nat} {ls : List Nat} (h : Lp.LRow w bl ls) : Foot (· = bl) (fun w' => VRow w' w'.heap.size (some ⟨bl, 0, none⟩) (ints (Y05 ls))) w := by
 have e : Lp.nats ls = ints (Y05 ls) := by unfold Lp.nats ints Y05; rw [List.map_map]; rfl
 unfold Lp.LRow at h
 rw [e] at h
 have hlt : bl < w.heap.size := by
  rcases Nat.lt_or_ge bl w.heap.size with hlt | hge
  ·exact hlt
  ·rw [Array.getElem?_eq_none hge] at h; cases h
 exact ⟨fun k hk => by rw [hk]; exact hlt, fun w' hz hs => Y3a ((hs bl rfl).trans h) (by omega)⟩
set_option maxHeartbeats 1000000 in
theorem Y5z (w : World) (E0 : Ke) (v : Value) (l : List Bool) (p : Option Addr) (n cap most : Nat) (c : List Nat) (h : En w E0 v l) (hr : VRow w w.heap.size p (ints (Y05 c))) (hx : c.length = n) (hn : n ≤ 300) (hc : ∀ x ∈ c, x ≤ 1073741824) (h1 : 1 ≤ most) (hm : most ≤ 30) (h2 : n ≤ 2 ^ most) :
  Calls Tryz.prog 82 #[.pointer (some ⟨E0.e, 0, none⟩), .slice p n cap, .int .i64 (most : Int)] w (Yrx w c most) := by
 have hL := Lp.Yhn p n cap (most : Int) (Y05 c) w hr (by rw [Y02]; exact hx)
 have hok : Lp.okB (Y05 c) (most : Int) = true := by
  unfold Lp.okB
  simp only [Bool.and_eq_true, decide_eq_true_eq, Bool.not_eq_true']
  refine ⟨⟨⟨by omega, by omega⟩, by rw [Y02]; omega⟩, List.any_eq_false.2 fun z hz => ?_⟩
  obtain ⟨x, hxm, rfl⟩ := List.mem_map.1 hz
  have := hc x hxm
  unfold Lp.Yil
  simp
  omega
 have hcf := Lp.Yiw (Y05 c)
 rw [Y02, hx] at hcf
 have HL := Lib.hid hL
 have HOK := Lib.hid hok
 have H := Lib.hid h
 have HX := Lib.hid hx
 have HCF : Hid (¬ 2 ^ (most : Int).toNat < (Lm.come (Lp.Y0d (Y05 c))).length) := Lib.hid (by rw [Int.toNat_natCast]; omega)
 clear hL hok h hr hx hc h2 hcf
 go_enter Tryz.func82, Tryz.ntmps82
 go_wp2_with fail
 refine HL.out.mono ?_
 rintro e w1 ⟨hb1, hres⟩
 rcases hres with ⟨hf, _⟩ | ⟨_, hf, _⟩ | ⟨_, _, bl, ls, rfl, hrow, hbl, hfine⟩
 ·rw [HOK.out] at hf; cases hf
 ·exact absurd hf HCF.out
 ·rw [Y02, HX.out]
  have HB1 := Lib.hid hb1
  have HF := Lib.hid (Yoj hrow)
  have hln : ls.length = c.length := by have := hfine.len; rwa [Y02] at this
  rw [Int.toNat_natCast] at hfine
  have HFI := Lib.hid hfine
  have HLN := Lib.hid hln
  have HK1 := Lib.hid (Y78 w1 E0 v l (H.out.below hb1))
  clear hb1 hrow hfine hln
  go_wp2_with fail
  refine HK1.out.mono ?_
  rintro e w2 ⟨rfl, hb2⟩
  have HB2 := Lib.hid hb2
  clear hb2
  go_wp2_with fail
  go_ret
  exact ⟨HB1.out.trans (HB2.out.mono HB1.out.size), bl, ls, by rw [HX.out]; rfl, HF.out.below HB2.out, hbl, HLN.out, HFI.out⟩
theorem Y4o {w : World} {C : Nat} {b off : Nat} {L : List Nat} (h : VRow w C (some ⟨b, off, none⟩) (ints (Y05 L))) (i : Nat) (hi : i < L.length) : w.cell? ⟨b, off + i, none⟩ = some (.int .i64 ((L.getD i 0 : Nat) : Int)) := by
 have := h.int i (by rw [Y02]; exact hi)
 rw [this]
 simp [Y05, List.getD_eq_getElem?_getD, List.getElem?_eq_getElem hi]
def Yjx : Value → Nat
 | .slice _ n _ => n
 | _ => 0
def Ys0 (w : World) (b off cap : Nat) (l : List Nat) (few : Nat) (e : Ending) (w' : World) : Prop := e = .returned (.slice (some ⟨b, off, none⟩) (Y1z l few l.length) cap) ∧ Drawn w w'
set_option maxHeartbeats 1000000 in
theorem Ye6 (w : World) (b off n cap few : Nat) (l : List Nat) (hr : VRow w w.heap.size (some ⟨b, off, none⟩) (ints (Y05 l))) (hx : l.length = n) (hn : n ≤ 1000) (hc : n ≤ cap) (hc2 : cap ≤ maxLen) (hf : few ≤ 1000) :
  Calls Tryz.prog 113 #[.slice (some ⟨b, off, none⟩) n cap, .int .i64 (few : Int)] w (Ys0 w b off cap l few) := by
 have HC : Hid (∀ V i, Drawn w V → i < n → V.cell? ⟨b, off + i, none⟩ = some (.int .i64 ((l.getD i 0 : Nat) : Int))) := Lib.hid fun V i hd hi => by
  obtain ⟨m, rfl⟩ := hd
  exact Y4o hr i (by omega)
 have HX := Lib.hid hx
 have hcm : cap ≤ 9223372036854775807 := by unfold maxLen at hc2; omega
 clear hr hx hc2
 go_enter Tryz.func113, Tryz.ntmps113
 go_wp2_with fail
 go_loopw [0] (fun s wr => ∃ k : Nat, k ≤ n ∧ s = .slice (some ⟨b, off, none⟩) k cap ∧ Drawn w wr ∧ Hid (Y1z l few k = Y1z l few n)) (fun s _ => Yjx s)
 case atStart => exact ⟨n, Nat.le_refl _, rfl, ⟨0, rfl⟩, Lib.hid rfl⟩
 case round =>
  obtain ⟨k, hk, rfl, hdr, HT⟩ := hrel
  by_cases hlt : few < k
  ·obtain ⟨j, rfl⟩ : ∃ j, k = j + 1 := ⟨k - 1, by omega⟩
   have q1 : decide ((few : Int) < ((j + 1 : Nat) : Int)) = true := decide_eq_true (by omega)
   have hcell := HC.out wr j hdr (by omega)
   have j0 : (0 : Int) ≤ (j : Int) := by omega
   have j1 : (j : Int) < ((j + 1 : Nat) : Int) := by omega
   have j2 : (j : Int) ≤ (cap : Int) := by omega
   have HDR := Lib.hid hdr
   clear hdr
   by_cases hz : l.getD j 0 = 0
   ·have hst : Y1z l few (j + 1) = Y1z l few j := by rw [Y1z, if_pos ⟨hlt, hz⟩]
    have HT2 := Lib.hid (hst ▸ HT.out)
    rw [hz] at hcell
    clear hst HT hz
    go_wp2_with fail
    go_roundw
    case rel => exact ⟨j, by omega, rfl, HDR.out, HT2⟩
    case measure => simp [Yjx]
   ·have hst : Y1z l few (j + 1) = j + 1 := by rw [Y1z, if_neg (fun h => hz h.2)]
    have hres : Y1z l few n = j + 1 := HT.out.symm.trans hst
    have HRES := Lib.hid hres
    have q2 : (((l.getD j 0 : Nat) : Int) == 0) = false := by simp; exact hz
    generalize l.getD j 0 = x at hcell q2
    clear hst HT hz hres
    go_wp2_with fail
    go_ret
    refine ⟨?_, HDR.out⟩
    rw [HX.out, HRES.out]
    rfl
  ·have q1 : decide ((few : Int) < (k : Int)) = false := decide_eq_false (by omega)
   have hst : Y1z l few k = k := by
    cases k with
    | zero => rfl
    | succ j => rw [Y1z, if_neg (fun h => hlt h.1)]
   have hres : Y1z l few n = k := HT.out.symm.trans hst
   have HRES := Lib.hid hres
   have HDR := Lib.hid hdr
   clear hst HT hres hdr
   go_wp2_with fail
   go_ret
   refine ⟨?_, HDR.out⟩
   rw [HX.out, HRES.out]
   rfl
end Go.Proofs.YtkkfkmoikcmhoaaGreat.Df

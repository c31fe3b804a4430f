/- DfD, IgB, IgC, IgD, IgE: merged. -/
import Derived.Test.YtkkfkmoikcmhoaaGreatAan
import Derived.Test.YtkkfkmoikcmhoaaGreatAao
set_option linter.unusedVariables false
set_option linter.unusedSimpArgs false
namespace Go.Proofs.YtkkfkmoikcmhoaaGreat.Df
open Go.RowKit Oct Bit Hf Inf
set_option maxRecDepth 100000
def BoS (w : World) (F : Nat → Prop) (g : Nat) (W : List (List Bool)) : Prop := ∃ C ms, Foot F (fun w' => Bk w' C g (Y27 W) ms) w
theorem BoS.only {F S : Nat → Prop} {w w' : World} {g : Nat} {W : List (List Bool)} (h : BoS w F g W) (ho : Only S w w') (hS : ∀ k, F k → ¬ S k) : BoS w' F g W := by
 obtain ⟨C, ms, hf⟩ := h
 exact ⟨C, ms, hf.only ho hS⟩
theorem BoS.below {F : Nat → Prop} {w w' : World} {g : Nat} {W : List (List Bool)} (h : BoS w F g W) (hb : Below w.heap.size w w') : BoS w' F g W :=
 h.only (S := fun _ => False) (Only.of_below hb) fun _ _ e => e
theorem BoS.ent {F : Nat → Prop} {w w' : World} {g : Nat} {W : List (List Bool)} {K : Ke} {v : Value} (h : BoS w F g W) (hf : Far K v F) (ho : Only (Mine K.gw v) w w') : BoS w' F g W := by
 obtain ⟨C, ms, hb⟩ := h
 exact ⟨C, ms, hb.ent hf ho⟩
set_option maxHeartbeats 1000000 in
theorem Y3y (w : World) (E0 : Ke) (v : Value) (l : List Bool) (F : Nat → Prop) (g : Nat) (W : List (List Bool)) (i x n : Nat) (m : List Bool) (h : En w E0 v l) (hB : BoS w F g W) (hi : W[i]? = some m) (hm : m ≠ []) (hn : n ≤ 13) (hx : x < 2 ^ n) (hl : l.length + m.length + n ≤ 2000000) :
  Calls Tryz.prog 104 #[.pointer (some ⟨E0.e, 0, none⟩), .pointer (some ⟨g, 0, none⟩), .agg #[.int .i64 (i : Int), .int .i64 (x : Int), .int .i64 (n : Int)]] w fun e w' => e = .returned (.tuple #[]) ∧ EnT w E0 v (l ++ (m ++ Y07 true x n)) w' := by
 obtain ⟨C, ms, hf⟩ := hB
 obtain ⟨wa, hwa⟩ : ∃ wa, wa = w.alloc (.cells #[.int .i64 (i : Int), .int .i64 (x : Int), .int .i64 (n : Int)] 166) := ⟨_, rfl⟩
 have hba : Below w.heap.size w wa := by rw [hwa]; exact (Below.refl _ w).alloc (Nat.le_refl _) _
 have hbd : Below w.heap.size w wa.drew := hba.trans ((show Drawn wa wa.drew from ⟨1, rfl⟩).below _)
 have hEd := h.below hbd
 have hwr := Ynr wa.drew C g _ ms E0.gw v l m true i (hf.below hbd).now (by rw [Y27]; simp [hi]) hm hEd.ws (by omega)
 have hmk : Mk wa w.heap.size (.int .i64 (i : Int)) (.int .i64 (x : Int)) (.int .i64 (n : Int)) := by rw [hwa]; exact Array.getElem?_push_size
 have k0 : wa.drew.cell? ⟨E0.e, 0, none⟩ = some (.pointer (some ⟨E0.gw, 0, none⟩)) := hEd.c0
 have k1 : wa.drew.cell? ⟨w.heap.size, 0, none⟩ = some (.int .i64 (i : Int)) := hmk.c0
 have hx2 : x < 4294967296 := Nat.lt_of_lt_of_le hx (Nat.le_trans (Nat.pow_le_pow_right (by omega) hn) (by decide))
 have HWR := Lib.hid hwr
 have HED := Lib.hid hEd
 have HBD := Lib.hid hbd
 have HMK := Lib.hid hmk
 have HWA := Lib.hid hwa
 have hgl := h.ge
 have hkl := h.lt'
 have hvl := Lib.hid (own_lt h)
 have hz : wa.drew.heap.size = w.heap.size + 1 := by show wa.heap.size = _; rw [hwa]; simp
 clear hwr hEd hbd hmk h hf hwa hba
 go_enter Tryz.func104, Tryz.ntmps104
 go_wp2_with fail
 rw [← HWA.out]
 refine wp_region_held_drew (S := (fun w' => w'.cell? ⟨E0.e, 0, none⟩ = some (.pointer (some ⟨E0.gw, 0, none⟩)) ∧ w'.cell? ⟨w.heap.size, 0, none⟩ = some (.int .i64 (i : Int)))) (by kernel_rfl) ⟨k0, k1⟩ (fun hHeld => ?_)
 refine wpAnyH_take (i := 0) (v := ?v1) rfl (by kernel_rfl) (by kernel_rfl) (by kernel_rfl) (fun _ _ _ h => h) (Or.inl ⟨by rfl, fun w hSw => ?y1⟩) hHeld ?r1
 case y1 => (try dsimp only at hSw); first | (go_simp; done) | (go_simp; with_reducible rfl)
 try simp only [Act.put, List.setIfInBounds_toArray, List.set_cons_zero, List.set_cons_succ, List.getElem_toArray, List.getElem_cons_zero, List.getElem_cons_succ]
 refine wpAnyH_take (i := 1) (v := ?v2) rfl (by kernel_rfl) (by kernel_rfl) (by kernel_rfl) (fun _ _ _ h => h) (Or.inl ⟨by rfl, fun w hSw => ?y2⟩) hHeld ?r2
 case y2 => (try dsimp only at hSw); first | (go_simp; done) | (go_simp; with_reducible rfl)
 try simp only [Act.put, List.setIfInBounds_toArray, List.set_cons_zero, List.set_cons_succ, List.getElem_toArray, List.getElem_cons_zero, List.getElem_cons_succ]
 refine wpAnyH_take (i := 2) (v := ?v3) rfl (by kernel_rfl) (by kernel_rfl) (by kernel_rfl) (fun _ _ _ h => h) (Or.inl ⟨by rfl, fun w hSw => ?y3⟩) hHeld ?r3
 case y3 => (try dsimp only at hSw); first | (go_simp; done) | (go_simp; with_reducible rfl)
 try simp only [Act.put, List.setIfInBounds_toArray, List.set_cons_zero, List.set_cons_succ, List.getElem_toArray, List.getElem_cons_zero, List.getElem_cons_succ]
 refine wpAnyH_take (i := 3) (v := ?v4) rfl (by kernel_rfl) (by kernel_rfl) (by kernel_rfl) (fun _ _ _ h => h) (Or.inl ⟨by rfl, fun w hSw => ?y4⟩) hHeld ?r4
 case y4 => (try dsimp only at hSw); first | (go_simp; done) | (go_simp; with_reducible rfl)
 try simp only [Act.put, List.setIfInBounds_toArray, List.set_cons_zero, List.set_cons_succ, List.getElem_toArray, List.getElem_cons_zero, List.getElem_cons_succ]
 refine wpAnyH_take (i := 4) (v := ?v5) rfl (by kernel_rfl) (by kernel_rfl) (by kernel_rfl) (fun _ _ _ h => h) (Or.inl ⟨by rfl, fun w hSw => ?y5⟩) hHeld ?r5
 case y5 => (try dsimp only at hSw); first | (go_simp; done) | (go_simp; with_reducible rfl)
 try simp only [Act.put, List.setIfInBounds_toArray, List.set_cons_zero, List.set_cons_succ, List.getElem_toArray, List.getElem_cons_zero, List.getElem_cons_succ]
 refine wpAnyH_take (i := 5) (v := ?v6) rfl (by kernel_rfl) (by kernel_rfl) (by kernel_rfl) (fun _ _ _ h => h) (Or.inl ⟨by rfl, fun w hSw => ?y6⟩) hHeld ?r6
 case y6 => (try dsimp only at hSw); first | (go_simp; done) | (go_simp; with_reducible rfl)
 try simp only [Act.put, List.setIfInBounds_toArray, List.set_cons_zero, List.set_cons_succ, List.getElem_toArray, List.getElem_cons_zero, List.getElem_cons_succ]
 refine wpAnyH_take (i := 6) (v := ?v7) rfl (by kernel_rfl) (by kernel_rfl) (by kernel_rfl) (fun _ _ _ h => h) (Or.inl ⟨by rfl, fun w hSw => ?y7⟩) hHeld ?r7
 case y7 => (try dsimp only at hSw); first | (go_simp; done) | (go_simp; with_reducible rfl)
 try simp only [Act.put, List.setIfInBounds_toArray, List.set_cons_zero, List.set_cons_succ, List.getElem_toArray, List.getElem_cons_zero, List.getElem_cons_succ]
 refine wpAnyH_take (i := 7) (v := ?v8) rfl (by kernel_rfl) (by kernel_rfl) (by kernel_rfl) (fun _ _ _ h => h) (Or.inl ⟨by rfl, fun w hSw => ?y8⟩) hHeld ?r8
 case y8 => (try dsimp only at hSw); first | (go_simp; done) | (go_simp; with_reducible rfl)
 try simp only [Act.put, List.setIfInBounds_toArray, List.set_cons_zero, List.set_cons_succ, List.getElem_toArray, List.getElem_cons_zero, List.getElem_cons_succ]
 refine wpAnyH_ready (rs := [8]) (by kernel_rfl) (by simp) ?_
 refine AllReadyH.cons rfl (fun K hK => ?_) AllReadyH.nil
 go_simp
 refine HWR.out.mono ?_
 rintro e w1 ⟨rfl, ht⟩
 obtain ⟨v1, hE1, ho1, hd1⟩ := HED.out.wst ht
 have hfar : ∀ k, k = w.heap.size → ¬ Mine E0.gw v k := fun k hk e => by
  subst hk
  rcases e with e | e
  ·omega
  ·have := hvl.out _ e; omega
 have hm1 : Mk w1 w.heap.size (.int .i64 (i : Int)) (.int .i64 (x : Int)) (.int .i64 (n : Int)) := (ho1.2.2.2.2 _ (by omega) (hfar _ rfl)).trans (show wa.drew.heap[w.heap.size]? = _ from HMK.out)
 have hS1 : w1.cell? ⟨E0.e, 0, none⟩ = some (.pointer (some ⟨E0.gw, 0, none⟩)) ∧ w1.cell? ⟨w.heap.size, 0, none⟩ = some (.int .i64 (i : Int)) := ⟨hE1.c0, hm1.c0⟩
 have HKE := Lib.hid (Y78 w1 E0 v1 _ hE1)
 have HE1 := Lib.hid hE1
 have HO1 := Lib.hid ho1
 have HD1 := Lib.hid hd1
 have HM1 := Lib.hid hm1
 clear hE1 ho1 hd1 hm1 ht hfar
 go_wp2_with fail
 refine hK.out _ _ hS1 (fun hHeld1 => ?_)
 clear hK K
 try simp only [Act.put, List.setIfInBounds_toArray, List.set_cons_zero, List.set_cons_succ, List.getElem_toArray, List.getElem_cons_zero, List.getElem_cons_succ]
 refine wpAnyH_ready (rs := [9]) (by kernel_rfl) (by simp) ?_
 refine AllReadyH.cons rfl (fun K hK => ?_) AllReadyH.nil
 go_simp
 refine HKE.out.mono ?_
 rintro e w2 ⟨rfl, hb2⟩
 have hE2 := HE1.out.below hb2
 have hm2 := HM1.out.below hb2 HM1.out.lt
 have hS2 : w2.cell? ⟨E0.e, 0, none⟩ = some (.pointer (some ⟨E0.gw, 0, none⟩)) ∧ w2.cell? ⟨w.heap.size, 0, none⟩ = some (.int .i64 (i : Int)) := ⟨hE2.c0, hm2.c0⟩
 have HE2 := Lib.hid hE2
 have HM2 := Lib.hid hm2
 have HB2 := Lib.hid hb2
 clear hE2 hm2 hb2
 go_wp2_with fail
 refine hK.out _ _ hS2 (fun hHeld2 => ?_)
 clear hK K
 try simp only [Act.put, List.setIfInBounds_toArray, List.set_cons_zero, List.set_cons_succ, List.getElem_toArray, List.getElem_cons_zero, List.getElem_cons_succ]
 refine wpAnyH_done (by kernel_rfl) ?_ _
 have c1 := HM2.out.c1
 have c2 := HM2.out.c2
 have HNU := Lib.hid (Y0r w2 E0 v1 _ x n HE2.out (by omega) hx hx2 (by rw [List.length_append]; omega))
 clear k0 k1
 go_wp2_with fail
 refine HNU.out.mono ?_
 rintro e w3 ⟨rfl, ht⟩
 have HT := Lib.hid ht
 clear ht
 go_wp2_with fail
 go_end0
 refine ⟨rfl, ?_⟩
 have h1 : EnT w1 E0 v1 (l ++ m ++ Y07 true x n) w3 := EnT.more ((Only.of_below (S := fun _ => False) HB2.out).mono (fun _ _ e => False.elim e)) (fun _ e => .inl e) HT.out
 have h2 := EnT.more HO1.out HD1.out h1
 rw [List.append_assoc] at h2
 exact EnT.more ((Only.of_below (S := fun _ => False) HBD.out).mono (fun _ _ e => False.elim e)) (fun _ e => .inl e) h2
end Go.Proofs.YtkkfkmoikcmhoaaGreat.Df
namespace Go.Proofs.YtkkfkmoikcmhoaaGreat.Inf
open Go.RowKit Oct Bit Hf
set_option maxRecDepth 100000
def NumP (w : World) (K : Kon) (v : Value) (out : List UInt8) (F : Option Fix) (a n from_ : Nat) (e : Ending) (w' : World) : Prop :=
 ((∃ m, Y36 (Y01 true K.xs) a n = .ok (m, a + n) ∧ m < 2 ^ n ∧ e = .returned (.tuple #[.int .i64 ((from_ + m : Nat) : Int), .int .i64 0]) ∧ De w' K (a + n) v out F) ∨
   (Y36 (Y01 true K.xs) a n = .error 2 ∧ e = .returned (.tuple #[.int .i64 0, .int .i64 2]))) ∧ Only (Y0x K v) w w'
theorem Y0w {K : Kon} {v : Value} {w w' : World} (h : Only (· = K.gr) w w') : Only (Y0x K v) w w' := h.mono fun k _ e => .inr (.inl e)
theorem Y2b {xs : List UInt8} {a n m b : Nat} (h : Y36 (Y01 true xs) a n = .ok (m, b)) (hn : n ≤ 32) : m < 2 ^ n ∧ b = a + n := by
 by_cases hc : a + n ≤ 8 * xs.length
 ·rw [Yvg hc hn] at h
  cases h
  exact ⟨Yjh true xs a n hn, rfl⟩
 ·rw [Ypm hc] at h; cases h
theorem Ydf {xs : List UInt8} {a n c : Nat} (h : Y36 (Y01 true xs) a n = .error c) : c = 2 := by
 unfold Y36 at h
 split at h
 ·cases h
 ·cases h; rfl
theorem Y8f (g : Nat) (p : Option Addr) (cap : Nat) (xs : List UInt8) (a n m b : Nat) (hn : n ≤ 32) (w : World) (hR : Rd w g p cap xs a true) (hx : Y36 (Y01 true xs) a n = .ok (m, b)) :
  Calls Tryz.prog 55 #[.pointer (some ⟨g, 0, none⟩), .int .i64 (n : Int)] w fun e w' => e = .returned (.tuple #[.int .u32 (m : Int), .int .i64 0]) ∧ Rd w' g p cap xs b true ∧ Only (· = g) w w' := by
 refine (Yju g p cap xs a n hn w hR).mono ?_
 rintro e w' ⟨h, ho, hz⟩
 rcases h with ⟨v, h1, _, h3, h4⟩ | ⟨h1, _⟩
 ·rw [hx] at h1
  cases h1
  exact ⟨h3, h4, ho⟩
 ·rw [hx] at h1; cases h1
theorem Y64 (g : Nat) (p : Option Addr) (cap : Nat) (xs : List UInt8) (a n c : Nat) (hn : n ≤ 32) (w : World) (hR : Rd w g p cap xs a true) (hx : Y36 (Y01 true xs) a n = .error c) :
  Calls Tryz.prog 55 #[.pointer (some ⟨g, 0, none⟩), .int .i64 (n : Int)] w fun e w' => e = .returned (.tuple #[.int .u32 0, .int .i64 2]) ∧ Only (· = g) w w' := by
 refine (Yju g p cap xs a n hn w hR).mono ?_
 rintro e w' ⟨h, ho, hz⟩
 rcases h with ⟨v, h1, _⟩ | ⟨h1, h2, _⟩
 ·rw [hx] at h1; cases h1
 ·exact ⟨h2, ho⟩
set_option maxHeartbeats 1000000 in
theorem Y0r (w : World) (K : Kon) (a : Nat) (v : Value) (out : List UInt8) (F : Option Fix) (from_ n : Nat) (h : De w K a v out F) (hf : from_ ≤ 100000) (hn : n ≤ 13) :
  Calls Tryz.prog 125 #[.pointer (some ⟨K.d, 0, none⟩), .agg #[.int .i64 (from_ : Int), .int .i64 (n : Int)]] w (NumP w K v out F a n from_) := by
 obtain ⟨wb, hwb⟩ : ∃ wb, wb = w.alloc (.cells #[.int .i64 (from_ : Int), .int .i64 (n : Int)] 102) := ⟨_, rfl⟩
 have hob : Only (fun _ => False) w wb := by rw [hwb]; exact Only.of_below ((Below.refl _ w).alloc (Nat.le_refl _) _)
 have hD := h.keep hob
 have k0 := hD.c0
 have b0 : wb.cell? ⟨w.heap.size, 0, none⟩ = some (.int .i64 (from_ : Int)) := by rw [hwb]; simp
 have b1 : wb.cell? ⟨w.heap.size, 1, none⟩ = some (.int .i64 (n : Int)) := by
  rw [hwb]
  simp only [World.cell?, World.alloc, Array.getElem?_push_size]
  rfl
 have hdl := hD.lt
 have hlo := hD.lo
 have hwlt := h.lt
 have hsz : wb.heap.size = w.heap.size + 1 := by rw [hwb]; exact Array.size_push _
 have HKP : Hid (∀ w2, Only (· = K.gr) wb.drew w2 → w2.cell? ⟨K.d, 0, none⟩ = some (.pointer (some ⟨K.gr, 0, none⟩)) ∧ w2.cell? ⟨w.heap.size, 0, none⟩ = some (.int .i64 (from_ : Int)) ∧ w2.cell? ⟨w.heap.size, 1, none⟩ = some (.int .i64 (n : Int))) := Lib.hid (by
  intro w2 ho
  have e1 : ∀ k, k < wb.heap.size → k ≠ K.gr → ∀ i, w2.cell? ⟨k, i, none⟩ = wb.cell? ⟨k, i, none⟩ := fun k h1 h2 i => World.cell?_of_block (ho.2.2.2.2 k h1 h2)
  exact ⟨(e1 _ hdl (by omega) 0).trans k0, (e1 _ (by omega) (by omega) 0).trans b0, (e1 _ (by omega) (by omega) 1).trans b1⟩)
 have HDD := Lib.hid (hD.drawn (w' := wb.drew) ⟨1, rfl⟩)
 have HOB := Lib.hid (hob.trans (Only.drawn (fun _ => False) (w := wb) (w' := wb.drew) ⟨1, rfl⟩))
 have HWB := Lib.hid hwb
 have HN := Lib.hid hn
 clear hD hob h hwb
 rcases hx : Y36 (Y01 true K.xs) a n with c | ⟨m, b⟩
 ·have HRD := Lib.hid (Y64 K.gr K.p K.cap K.xs a n c (by omega) wb.drew HDD.out.rd hx)
  have HX := Lib.hid hx
  have HE := Lib.hid (Ydf hx)
  clear hx
  go_enter Tryz.func125, Tryz.ntmps125
  go_wp2_with fail
  rw [← HWB.out]
  go_region_held3 (fun w2 => w2.cell? ⟨K.d, 0, none⟩ = some (.pointer (some ⟨K.gr, 0, none⟩)) ∧ w2.cell? ⟨w.heap.size, 0, none⟩ = some (.int .i64 (from_ : Int)) ∧ w2.cell? ⟨w.heap.size, 1, none⟩ = some (.int .i64 (n : Int))) (first | exact ⟨k0, b0, b1⟩ | exact HKP.out _ HO2.out) (first | (go_at_call 55; refine HRD.out.mono ?_; rintro e w2 ⟨rfl, ho2⟩; have HO2 := Lib.hid ho2; clear ho2))
  all_goals
   go_wp2_with fail
   go_ret2
   refine ⟨.inr ⟨by rw [HX.out, HE.out], rfl⟩, Y0w ((HOB.out.mono fun _ _ e => e.elim).trans HO2.out)⟩
 ·have HRD := Lib.hid (Y8f K.gr K.p K.cap K.xs a n m b (by omega) wb.drew HDD.out.rd hx)
  obtain ⟨hm, rfl⟩ := Y2b hx (by omega)
  have HX := Lib.hid hx
  have hm2 : m < 8192 := Nat.lt_of_lt_of_le hm (Nat.pow_le_pow_right (by decide) HN.out)
  have HM := Lib.hid hm
  clear hx hm
  go_enter Tryz.func125, Tryz.ntmps125
  go_wp2_with fail
  rw [← HWB.out]
  go_region_held3 (fun w2 => w2.cell? ⟨K.d, 0, none⟩ = some (.pointer (some ⟨K.gr, 0, none⟩)) ∧ w2.cell? ⟨w.heap.size, 0, none⟩ = some (.int .i64 (from_ : Int)) ∧ w2.cell? ⟨w.heap.size, 1, none⟩ = some (.int .i64 (n : Int))) (first | exact ⟨k0, b0, b1⟩ | exact HKP.out _ HO2.out) (first | (go_at_call 55; refine HRD.out.mono ?_; rintro e w2 ⟨rfl, hr2, ho2⟩; have HO2 := Lib.hid ho2; have HR2 := Lib.hid hr2; clear ho2 hr2))
  all_goals
   obtain ⟨_, d0, d1⟩ := HKP.out _ HO2.out
   go_wp2_with fail
   go_ret2
   refine ⟨.inl ⟨m, HX.out, HM.out, ?_, HDD.out.moved HO2.out HR2.out⟩, Y0w ((HOB.out.mono fun _ _ e => e.elim).trans HO2.out)⟩
   first | rfl | (push_cast; rfl)
end Go.Proofs.YtkkfkmoikcmhoaaGreat.Inf
namespace Go.Proofs.YtkkfkmoikcmhoaaGreat.Inf
open Go.RowKit Oct Bit Hf
set_option maxRecDepth 100000
def Yva (w : World) (K : Kon) (a : Nat) (v : Value) (out : List UInt8) (F : Option Fix) (n d : Nat) (e : Ending) (w' : World) : Prop :=
 if out.length < d then e = .returned (.int .i64 3) ∧ Only (Y0x K v) w w'
 else if K.most < out.length + n then e = .returned (.int .i64 8) ∧ Only (Y0x K v) w w'
 else e = .returned (.int .i64 0) ∧ DeT w K v a (Y2g out d n) F w'
theorem DeT.refl {w : World} {K : Kon} {a : Nat} {v : Value} {out : List UInt8} {F : Option Fix} (h : De w K a v out F) : DeT w K v a out F w := ⟨v, h, Only.refl _ _, fun _ hk => .inl hk⟩
set_option maxHeartbeats 4000000 in
theorem Y8g (w : World) (K : Kon) (a : Nat) (v : Value) (out : List UInt8) (F : Option Fix) (n d : Nat) (h : De w K a v out F) (hn : n ≤ 100000) (hd1 : 1 ≤ d) (hd2 : d ≤ 100000) :
  Calls Tryz.prog 150 #[.pointer (some ⟨K.d, 0, none⟩), .int .i64 (n : Int), .int .i64 (d : Int)] w (Yva w K a v out F n d) := by
 obtain ⟨i0, hi, hz0, hz1, hz2⟩ := info_parts Tryz.infoByte
 obtain ⟨p, cap, hv, hc1, hc2, hnil, hrow⟩ := h.form
 have k1 := h.c1
 have k2 := h.c2
 rw [hv] at k1
 have hom := h.om
 have hsz := h.sz
 by_cases hfar : out.length < d
 ·have HR : Hid (∀ e w', (e = .returned (.int .i64 3) ∧ w = w') → Yva w K a v out F n d e w') := Lib.hid (by
   rintro e w' ⟨rfl, rfl⟩
   unfold Yva
   rw [if_pos hfar]
   exact ⟨rfl, Only.refl _ _⟩)
  have hd0 : decide ((d : Int) > (out.length : Int)) = true := by simp; omega
  clear h hrow hnil
  go_enter Tryz.func150, Tryz.ntmps150
  go_wp2_with fail
  go_ret
  exact HR.out _ _ ⟨rfl, rfl⟩
 have hd0 : decide ((d : Int) > (out.length : Int)) = false := by simp; omega
 by_cases hfull : K.most < out.length + n
 ·have HR : Hid (∀ e w', (e = .returned (.int .i64 8) ∧ Drawn w w') → Yva w K a v out F n d e w') := Lib.hid (by
   rintro e w' ⟨rfl, h2⟩
   unfold Yva
   rw [if_neg hfar, if_pos hfull]
   exact ⟨rfl, Only.drawn _ h2⟩)
  have hd1 : decide ((n : Int) > (K.most : Int) - (out.length : Int)) = true := by simp; omega
  clear h hrow hnil
  go_enter Tryz.func150, Tryz.ntmps150
  go_wp2_with fail
  go_quiet (fail)
  go_wp2_with fail
  go_ret
  exact HR.out _ _ ⟨rfl, ⟨_, rfl⟩⟩
 ·have hd1 : decide ((n : Int) > (K.most : Int) - (out.length : Int)) = false := by simp; omega
  have HR : Hid (∀ e w', (e = .returned (.int .i64 0) ∧ DeT w K v a (Y2g out d n) F w') → Yva w K a v out F n d e w') := Lib.hid (by
   rintro e w' ⟨rfl, h2⟩
   unfold Yva
   rw [if_neg hfar, if_neg hfull]
   exact ⟨rfl, h2⟩)
  have H := Lib.hid h
  clear h hrow hnil hv
  go_enter Tryz.func150, Tryz.ntmps150
  go_wp2_with fail
  go_quiet (fail)
  go_wp2_with fail
  go_loopw [27] (fun i wr => ∃ (j : Nat) (out2 : List UInt8), j ≤ n ∧ i = .int .i64 (j : Int) ∧ Hid (Y2g out2 d (n - j) = Y2g out d n) ∧ out2.length = out.length + j ∧ Hid (DeT w K v a out2 F wr)) (fun i wr => n - (intOf i).toNat)
  case atStart => exact ⟨0, out, by omega, rfl, Lib.hid rfl, rfl, Lib.hid (DeT.refl (H.out.drawn (w' := w.drewN nq) ⟨nq, rfl⟩) |>.more (Only.drawn _ ⟨nq, rfl⟩) (fun _ hk => .inl hk))⟩
  case round =>
   obtain ⟨j, out2, hj, rfl, HCP, hlen, HT⟩ := hrel
   obtain ⟨v2, hD2, ho2, hb2⟩ := HT.out
   by_cases hjn : j < n
   ·have hlt : decide ((j : Int) < (n : Int)) = true := by simpa using hjn
    obtain ⟨p2, cap2, hv2, hc21, hc22, hnil2, hrow2⟩ := hD2.form
    obtain ⟨g2, off2, rfl, hg2, hcells2⟩ := hrow2 (by omega)
    have hoff2 : off2 = 0 := by
     rcases hD2.own.2 with ⟨e, _⟩ | ⟨g', c', cur, e, _⟩
     ·rw [hv2] at e; cases e
     ·rw [hv2] at e; injection e with e; injection e with e; injection e
    subst hoff2
    unfold maxLen at hc22
    obtain ⟨z, hz⟩ : ∃ z, out2.length - d = z := ⟨_, rfl⟩
    have hzl : z < out2.length := by omega
    obtain ⟨x, hx⟩ : ∃ x, out2[z] = x := ⟨_, rfl⟩
    have hzi : (out2.length : Int) - (d : Int) = (z : Int) := by omega
    obtain ⟨wd, hwd⟩ : ∃ wd, wd = (wr.alloc (.cells #[.int .u8 (x.toNat : Int)] 5)).drew := ⟨_, rfl⟩
    have hod : Only (fun _ => False) wr wd := by rw [hwd]; exact (Only.of_below ((Below.refl _ wr).alloc (Nat.le_refl _) _)).trans (Only.drawn _ ⟨1, rfl⟩)
    have hsz2 : wd.heap.size = wr.heap.size + 1 := by rw [hwd]; exact Array.size_push _
    have hD3 := hD2.keep hod
    have q1 : wr.drew.cell? ⟨K.d, 1, none⟩ = some (.slice (some ⟨g2, 0, none⟩) out2.length cap2) := by rw [← hv2]; exact hD2.c1
    have q2 : wr.drew.cell? ⟨g2, z, none⟩ = some (.int .u8 (x.toNat : Int)) := by
     have := hcells2 z hzl
     rw [hx, Nat.zero_add] at this
     exact this
    have q3 : (wr.alloc (.cells #[.int .u8 (x.toNat : Int)] 5)).drew.cell? ⟨K.d, 1, none⟩ = some (.slice (some ⟨g2, 0, none⟩) out2.length cap2) := by
     rw [← hwd, ← hv2]; exact hD3.c1
    have hnw : ∀ i u, (cellsOf [x])[i]? = some u → wd.cell? ((⟨wr.heap.size, 0, none⟩ : Addr).add i) = some u := by rw [hwd]; exact news8 wr x
    have hOne := hD2.one x (by omega) hod
    have HNEXT : Hid (Y2g (out2 ++ [x]) d (n - (j + 1)) = Y2g out d n) := Lib.hid (by
     rw [← HCP.out, show n - j = (n - (j + 1)) + 1 from by omega, Y2g, hz]
     congr 3
     rw [List.getD_eq_getElem?_getD, List.getElem?_eq_getElem hzl, hx]
     rfl)
    have HOWN3 := Lib.hid hD3.own
    have HNW := Lib.hid hnw
    have HONE := Lib.hid hOne
    have HWD := Lib.hid hwd
    have HSZ := Lib.hid hsz2
    have HV2 := Lib.hid hv2
    have HO2 := Lib.hid ho2
    have HB2 := Lib.hid hb2
    have hxb : x.toNat < 256 := x.toNat_lt
    have hzn0 : (0 : Int) ≤ (z : Int) := by omega
    have hzn1 : (z : Int) < (out2.length : Int) := by omega
    have hwz : IntKind.i64.wrap (z : Int) = (z : Int) := IntWalk.i64_in _ (by omega)
    have hkm : out2.length + 1 ≤ 300000 := by omega
    have HL := Lib.hid hlen
    clear hlen hrow2 hcells2 hnil2 hg2 hnw hx hD2 hD3 ho2 hb2 hod hwd hsz2 hOne k1 k2 hfar hfull hd0 hd1 hz hv2 HT
    go_wp2_with fail
    go_region_law (rw [← HWD.out]; refine step_append_lies _ rfl _ _ 22 rfl 0 5 i0 (.int .u8 0) 1 1 Tryz.underlying22 hi hz0 hz1 hz2 rfl (by decide) (.slice (some ⟨g2, 0, none⟩) out2.length cap2) out2.length (cellsOf out2) (by simp [Act.eval, Act.put]) (by have := HOWN3.out; rwa [HV2.out] at this) ⟨wr.heap.size, 0, none⟩ 1 1 (cellsOf [x]) (by simp [Act.eval, Act.put]) rfl HNW.out Y4r (by omega) (by unfold maxLen; omega) (by omega) (Nat.zero_le _) (wr.heap.size + 1) HSZ.out ?_; intro g1 cap1 w1 hown1 hgrow1 hat1 hlt1; have HON1 := Lib.hid (HONE.out g1 cap1 w1 hown1 (by rw [HV2.out]; exact hgrow1) (by rw [HV2.out, HSZ.out]; exact hat1)); have hfz1 := HON1.out.1.1; have hcl1 : w1.cell? ⟨K.d, 1, none⟩ = some (.slice (some ⟨g2, 0, none⟩) out2.length cap2) := by rw [← HV2.out]; exact HON1.out.1.2)
    all_goals
     clear hown1 hgrow1 hat1
     go_wp2_with fail
     go_roundw
     case rel => exact ⟨j + 1, out2 ++ [x], by omega, by first | rfl | (congr 1; omega) | (push_cast; rfl), HNEXT, by rw [List.length_append, HL.out]; simp; omega, Lib.hid (HON1.out.2.more HO2.out HB2.out)⟩
     case measure => simp [intOf]; omega
   ·have hjn2 : j = n := by omega
    subst hjn2
    have HRES := Lib.hid (HR.out _ _ ⟨rfl, by have := HT.out; rwa [show out2 = Y2g out d j from by rw [← HCP.out, Nat.sub_self]; rfl] at this⟩)
    clear hD2 ho2 hb2
    go_wp2_with fail
    go_ret
    exact HRES.out
end Go.Proofs.YtkkfkmoikcmhoaaGreat.Inf
namespace Go.Proofs.YtkkfkmoikcmhoaaGreat.Inf
open Go.RowKit Oct Bit Hf
set_option maxRecDepth 100000
theorem Yjb (W : List (List Bool)) : ∀ (l p : List Bool) (i k : Nat), Y1i W p l = .ok (i, k) → i < W.length
 | [], p, i, k, h => by cases h
 | b :: t, p, i, k, h => by
  rw [Y1i] at h
  split at h
  ·rename_i hm
   cases h
   exact List.idxOf_lt_length_of_mem hm
  ·split at h
   ·exact Yjb W t _ i k h
   ·cases h
theorem Yj9 (W : List (List Bool)) : ∀ (l p : List Bool) (c : Nat), Y1i W p l = .error c → c = 2 ∨ c = 6
 | [], p, c, h => by cases h; exact .inl rfl
 | b :: t, p, c, h => by
  rw [Y1i] at h
  split at h
  ·cases h
  ·split at h
   ·exact Yj9 W t _ c h
   ·cases h; exact .inr rfl
theorem Ydc {W : List (List Bool)} {L : List Bool} {a k b : Nat} (h : Y1r W L a = .ok (k, b)) : k < W.length := by
 unfold Y1r at h
 rcases hx : Y1i W [] (L.drop a) with e | ⟨i, j⟩
 ·rw [hx] at h; cases h
 ·rw [hx] at h; cases h; exact Yjb W _ _ _ _ hx
theorem Y62 {W : List (List Bool)} {L : List Bool} {a c : Nat} (h : Y1r W L a = .error c) : c = 2 ∨ c = 6 := by
 unfold Y1r at h
 rcases hx : Y1i W [] (L.drop a) with e | ⟨i, j⟩
 ·rw [hx] at h; cases h; exact Yj9 W _ _ _ hx
 ·rw [hx] at h; cases h
theorem Y1p (n : Nat) : (places n).length = n := by simp [places, ints]
theorem Ym9 {n i : Nat} {v : Value} (h : (places n)[i]? = some v) : v = .int .i64 (i : Int) := by
 unfold places ints at h
 rw [List.map_map, List.getElem?_map] at h
 rcases hr : (List.range n)[i]? with _ | j
 ·rw [hr] at h; cases h
 ·rw [hr] at h
  obtain ⟨hj, rfl⟩ := List.getElem?_eq_some_iff.1 hr
  cases h
  simp
theorem Yih (w : World) (K : Kon) (a : Nat) (v : Value) (out : List UInt8) (F : Option Fix) (B C g k b : Nat) (W : List (List Bool)) (h : De w K a v out F) (hb : Bo w B C g W) (hB : K.gr < B) (hx : Y1r W (Y01 true K.xs) a = .ok (k, b)) :
  Calls Tryz.prog 122 #[.pointer (some ⟨g, 0, none⟩), .pointer (some ⟨K.gr, 0, none⟩)] w fun e w' => e = .returned (.tuple #[.int .i64 (k : Int), .int .i64 0]) ∧ De w' K b v out F ∧ Only (· = K.gr) w w' := by
 refine (Yc2 w B C g W (places W.length) K.gr K.p K.cap K.xs a true hb hB h.rd (Y1p _)).mono ?_
 rintro e w' ⟨hres, ho, hz⟩
 unfold Y1r at hx
 rcases hres with ⟨i, j, u, h1, h2, rfl, h4⟩ | ⟨c, j, h1, _⟩
 ·rw [h1] at hx
  cases hx
  rw [Ym9 h2]
  exact ⟨rfl, h.moved ho h4, ho⟩
 ·rw [h1] at hx; cases hx
theorem Ye8 (w : World) (K : Kon) (a : Nat) (v : Value) (out : List UInt8) (F : Option Fix) (B C g c : Nat) (W : List (List Bool)) (h : De w K a v out F) (hb : Bo w B C g W) (hB : K.gr < B) (hx : Y1r W (Y01 true K.xs) a = .error c) :
  Calls Tryz.prog 122 #[.pointer (some ⟨g, 0, none⟩), .pointer (some ⟨K.gr, 0, none⟩)] w fun e w' => e = .returned (.tuple #[.int .i64 0, .int .i64 (c : Int)]) ∧ Only (· = K.gr) w w' := by
 refine (Yc2 w B C g W (places W.length) K.gr K.p K.cap K.xs a true hb hB h.rd (Y1p _)).mono ?_
 rintro e w' ⟨hres, ho, hz⟩
 unfold Y1r at hx
 rcases hres with ⟨i, j, u, h1, _⟩ | ⟨c', j, h1, rfl, _⟩
 ·rw [h1] at hx; cases hx
 ·rw [h1] at hx
  cases hx
  exact ⟨rfl, ho⟩
def Res (w : World) (K : Kon) (v : Value) (F : Option Fix) (x : R (List UInt8)) (e : Ending) (w' : World) : Prop :=
 (∃ o a, x = .ok (o, a) ∧ e = .returned (.int .i64 0) ∧ DeT w K v a o F w') ∨ ∃ c, x = .error c ∧ c ≠ 0 ∧ e = .returned (.int .i64 (c : Int)) ∧ Only (Y0x K v) w w'
def Y6h (B : List (List Bool)) (L : List Bool) (most i a : Nat) (out : List UInt8) : R (List UInt8) :=
 (Y1x false L i a).then fun n a => (Y1r B L a).then fun k a => (Y1x true L k a).then fun d a =>
  if out.length < d then .error 3 else if most < out.length + n then .error 8 else .ok (Y2g out d n, a)
theorem Yf8 : ∀ far : Bool, ∀ i, i < (froms far).length → 1 ≤ (froms far).getD i 0 ∧ (froms far).getD i 0 ≤ 30000 ∧ (extras far).getD i 0 ≤ 13 := by decide +kernel
set_option maxHeartbeats 4000000 in
theorem Yl0 (w : World) (K : Kon) (a : Nat) (v : Value) (out : List UInt8) (F : Option Fix) (B C g i : Nat) (W : List (List Bool)) (h : De w K a v out F) (hb : Bo w B C g W) (hc : Clr K v B C) (hW : W.length ≤ 30) (hi : i ≤ 100000) :
  Calls Tryz.prog 123 #[.pointer (some ⟨K.d, 0, none⟩), .int .i64 (i : Int), .pointer (some ⟨g, 0, none⟩)] w (Res w K v F (Y6h W (Y01 true K.xs) K.most i a out)) := by
 obtain ⟨L, hL⟩ : ∃ L, L = Y01 true K.xs := ⟨_, rfl⟩
 rw [← hL]
 have c3 := h.c3
 have hlo := h.lo
 have hcB := hc.1
 have hcl := h.cl
 by_cases hi2 : i < (froms false).length
 ·have hi3 : i < 29 := hi2
  have hd0 : decide ((i : Int) ≥ 29) = false := by simp; omega
  obtain ⟨f1, f2⟩ := h.tbl.now.1 i hi2
  obtain ⟨fb0, fb1, fb2⟩ := Yf8 false i hi2
  obtain ⟨from_, hfrom⟩ : ∃ x, (froms false).getD i 0 = x := ⟨_, rfl⟩
  obtain ⟨ext, hext⟩ : ∃ x, (extras false).getD i 0 = x := ⟨_, rfl⟩
  rw [hfrom] at f1 fb0 fb1
  rw [hext] at f2 fb2
  have HNM := Lib.hid (Y0r w K a v out F from_ ext h (by omega) fb2)
  have i0 : (0 : Int) ≤ (i : Int) := by omega
  have i1 : (i : Int) < 29 := by omega
  have H := Lib.hid h
  have HL := Lib.hid hL
  clear h
  go_enter Tryz.func123, Tryz.ntmps123
  go_wp2_with fail
  refine HNM.out.mono ?_
  rintro e w1 ⟨hres, ho1⟩
  rcases hres with ⟨m, hx1, hm1, rfl, hD1⟩ | ⟨hx1, rfl⟩
  case inr =>
   have HRES : Hid (Res w K v F (Y6h W L K.most i a out) (.returned (.int .i64 2)) w1) := Lib.hid (.inr ⟨2, by unfold Y6h Y1x; rw [if_pos hi2, hext, HL.out, hx1]; rfl, by decide, rfl, ho1⟩)
   clear hx1 ho1
   go_wp2_with fail
   go_ret
   exact HRES.out
  case inl =>
   have hnum : Y1x false L i a = .ok (from_ + m, a + ext) := by unfold Y1x; rw [if_pos hi2, hext, hfrom, HL.out, hx1]; rfl
   have hm2 : m < 8192 := Nat.lt_of_lt_of_le hm1 (Nat.pow_le_pow_right (by decide) fb2)
   rcases hx2 : Y1r W (Y01 true K.xs) (a + ext) with c | ⟨k, b⟩
   ·have HW := Lib.hid (Ye8 w1 K (a + ext) v out F B C g c W hD1 (hb.only hc hlo ho1) (by omega) hx2)
    have HRES : Hid (∀ w2, Only (· = K.gr) w1 w2 → Res w K v F (Y6h W L K.most i a out) (.returned (.int .i64 (c : Int))) w2) := Lib.hid fun w2 ho2 =>
     .inr ⟨c, by unfold Y6h; rw [hnum, R.then_ok, HL.out, hx2]; rfl, by have := Y62 hx2; omega, rfl, ho1.trans (Y0w ho2)⟩
    have hc0 : ((c : Int) != 0) = true := by have := Y62 hx2; simp; omega
    have d0 := hD1.c0
    clear hx2 hx1 ho1 hD1 c3 f1 f2 hnum
    go_wp2_with fail
    refine HW.out.mono ?_
    rintro e w2 ⟨rfl, ho2⟩
    have HRES2 := Lib.hid (HRES.out w2 ho2)
    clear ho2
    go_wp2_with fail
    go_ret
    exact HRES2.out
   ·have hkl : k < 30 := by have := Ydc hx2; omega
    have HW := Lib.hid (Yih w1 K (a + ext) v out F B C g k b W hD1 (hb.only hc hlo ho1) (by omega) hx2)
    have HX1 := Lib.hid hnum
    have HX2 := Lib.hid hx2
    have HO1 := Lib.hid ho1
    have d0 := hD1.c0
    clear hx2 hx1 ho1 hD1 c3 f1 f2 hnum
    go_wp2_with fail
    refine HW.out.mono ?_
    rintro e w2 ⟨rfl, hD2, ho2⟩
    have c4 := hD2.c4
    obtain ⟨f1, f2⟩ := hD2.tbl.now.2 k hkl
    obtain ⟨gb0, gb1, gb2⟩ := Yf8 true k hkl
    obtain ⟨from2, hfrom2⟩ : ∃ x, (froms true).getD k 0 = x := ⟨_, rfl⟩
    obtain ⟨ext2, hext2⟩ : ∃ x, (extras true).getD k 0 = x := ⟨_, rfl⟩
    rw [hfrom2] at f1 gb0 gb1
    rw [hext2] at f2 gb2
    have HNM2 := Lib.hid (Y0r w2 K b v out F from2 ext2 hD2 (by omega) gb2)
    have k0 : (0 : Int) ≤ (k : Int) := by omega
    have k1 : (k : Int) < 30 := by omega
    have HO2 := Lib.hid ho2
    clear ho2 hD2 d0
    go_wp2_with fail
    refine HNM2.out.mono ?_
    rintro e w3 ⟨hres3, ho3⟩
    have HO3 := Lib.hid ((HO1.out.trans (Y0w HO2.out)).trans ho3)
    clear ho3 f1 f2 c4
    rcases hres3 with ⟨m2, hx3, hm3, rfl, hD3⟩ | ⟨hx3, rfl⟩
    case inr =>
     have HRES : Hid (Res w K v F (Y6h W L K.most i a out) (.returned (.int .i64 2)) w3) := Lib.hid (.inr ⟨2, by
      unfold Y6h; rw [HX1.out, R.then_ok, HL.out, HX2.out, R.then_ok]; unfold Y1x; rw [if_pos (show k < (froms true).length from hkl), hext2, hx3]; rfl, by decide, rfl, HO3.out⟩)
     clear hx3
     go_wp2_with fail
     go_ret
     exact HRES.out
    case inl =>
     have hm4 : m2 < 8192 := Nat.lt_of_lt_of_le hm3 (Nat.pow_le_pow_right (by decide) gb2)
     have HEQ : Hid (Y6h W L K.most i a out = if out.length < from2 + m2 then .error 3 else if K.most < out.length + (from_ + m) then .error 8 else .ok (Y2g out (from2 + m2) (from_ + m), b + ext2)) := Lib.hid (by
      unfold Y6h; rw [HX1.out, R.then_ok, HL.out, HX2.out, R.then_ok]; unfold Y1x; rw [if_pos (show k < (froms true).length from hkl), hext2, hfrom2, hx3]; rfl)
     have HREP := Lib.hid (Y8g w3 K (b + ext2) v out F (from_ + m) (from2 + m2) hD3 (by omega) (by omega) (by omega))
     clear hx3 hD3
     go_wp2_with fail
     refine HREP.out.mono ?_
     intro e w4 hR
     unfold Yva at hR
     have HRES : Hid (Res w K v F (Y6h W L K.most i a out) e w4) := Lib.hid (by
      rw [HEQ.out]
      by_cases h1 : out.length < from2 + m2
      ·rw [if_pos h1] at hR; rw [if_pos h1]
       exact .inr ⟨3, rfl, by decide, hR.1, HO3.out.trans hR.2⟩
      ·rw [if_neg h1] at hR; rw [if_neg h1]
       by_cases h2 : K.most < out.length + (from_ + m)
       ·rw [if_pos h2] at hR; rw [if_pos h2]
        exact .inr ⟨8, rfl, by decide, hR.1, HO3.out.trans hR.2⟩
       ·rw [if_neg h2] at hR; rw [if_neg h2]
        exact .inl ⟨_, _, rfl, hR.1, hR.2.more HO3.out (fun _ hk => .inl hk)⟩)
     have hE : ∃ r, e = .returned (.int .i64 r) := by
      split at hR
      ·exact ⟨_, hR.1⟩
      ·split at hR
       ·exact ⟨_, hR.1⟩
       ·exact ⟨_, hR.1⟩
     obtain ⟨r, rfl⟩ := hE
     clear hR
     go_wp2_with fail
     go_ret
     exact HRES.out
 ·have hi3 : 29 ≤ i := Nat.le_of_not_lt hi2
  have HRES : Hid (Res w K v F (Y6h W L K.most i a out) (.returned (.int .i64 6)) w) := Lib.hid (.inr ⟨6, by unfold Y6h Y1x; rw [if_neg hi2]; rfl, by decide, rfl, Only.refl _ _⟩)
  have hd0 : decide ((i : Int) ≥ 29) = true := by simp; omega
  clear h
  go_enter Tryz.func123, Tryz.ntmps123
  go_wp2_with fail
  go_ret
  exact HRES.out
end Go.Proofs.YtkkfkmoikcmhoaaGreat.Inf
namespace Go.Proofs.YtkkfkmoikcmhoaaGreat.Inf
open Go.RowKit Oct Bit Hf
set_option maxRecDepth 100000
theorem Yb4 {α β γ : Type} (x : R α) (f : α → Nat → R β) (g : β → Nat → R γ) : (x.then f).then g = x.then fun v a => (f v a).then g := by
 rcases x with e | ⟨v, a⟩ <;> rfl
theorem Ykr (A B : List (List Bool)) (L : List Bool) (most at_ : Nat) (out : List UInt8) (h : at_ ≤ L.length) : Y1s A B L most at_ out = (Y1r A L at_).then fun v a =>
  if v = 256 then .ok (out, a)
  else if v < 256 then (if most ≤ out.length then .error 8 else Y1s A B L most a (out ++ [UInt8.ofNat v]))
  else (Y6h B L most (v - 257) a out).then fun o a => Y1s A B L most a o := by
 rw [Y5b A B L most at_ out h]
 refine Y0b fun v a _ => ?_
 split
 ·rfl
 ·split
  ·rfl
  ·unfold Y6h
   rw [Yb4]
   refine Y0b fun n b _ => ?_
   rw [Yb4]
   refine Y0b fun k c _ => ?_
   rw [Yb4]
   refine Y0b fun d e _ => ?_
   split
   ·rfl
   ·split
    ·rfl
    ·rfl
def Ytq (w : World) (g : Nat) : Nat := match w.cell? ⟨g, 1, none⟩ with
 | some v => (intOf v).toNat
 | none => 0
theorem Yau {w : World} {g : Nat} {p : Option Addr} {cap : Nat} {xs : List UInt8} {at_ : Nat} {low : Bool} (h : Rd w g p cap xs at_ low) : Ytq w g = at_ := by
 unfold Ytq; rw [h.c1]; simp [intOf]
theorem De.own_lt {w : World} {K : Kon} {a : Nat} {v : Value} {out : List UInt8} {F : Option Fix} (h : De w K a v out F) (k : Nat) (hk : v.ownBlock = some k) : k < w.heap.size := (h.own.lt k hk).2
def Yrw (wb : World) (K : Kon) (v : Value) (F : Option Fix) (W1 W2 : List (List Bool)) (X : R (List UInt8)) (wr : World) : Prop :=
 ∃ a v2 out, De wr K a v2 out F ∧ Only (Y0x K v) wb wr ∧ (∀ k, v2.ownBlock = some k → v.ownBlock = some k ∨ wb.heap.size ≤ k) ∧ Y1s W1 W2 (Y01 true K.xs) K.most a out = X
set_option maxHeartbeats 4000000 in
theorem Y4c (w : World) (K : Kon) (a : Nat) (v : Value) (out : List UInt8) (F : Option Fix) (B C ga gb : Nat) (W1 W2 : List (List Bool)) (h : De w K a v out F) (h1 : Bo w B C ga W1) (h2 : Bo w B C gb W2) (hc : Clr K v B C)
  (hW1 : W1.length ≤ 300) (hW2 : W2.length ≤ 30) :
  Calls Tryz.prog 92 #[.pointer (some ⟨K.d, 0, none⟩), .agg #[.pointer (some ⟨ga, 0, none⟩), .pointer (some ⟨gb, 0, none⟩)]] w (Res w K v F (Y1s W1 W2 (Y01 true K.xs) K.most a out)) := by
 obtain ⟨X, hX⟩ : ∃ X, X = Y1s W1 W2 (Y01 true K.xs) K.most a out := ⟨_, rfl⟩
 rw [← hX]
 obtain ⟨wb, hwb⟩ : ∃ wb, wb = w.alloc (.cells #[.pointer (some ⟨ga, 0, none⟩), .pointer (some ⟨gb, 0, none⟩)] 57) := ⟨_, rfl⟩
 have hob : Only (fun _ => False) w wb := by rw [hwb]; exact Only.of_below ((Below.refl _ w).alloc (Nat.le_refl _) _)
 have hsz : wb.heap.size = w.heap.size + 1 := by rw [hwb]; exact Array.size_push _
 have hbx : wb.heap[w.heap.size]? = some (.cells #[.pointer (some ⟨ga, 0, none⟩), .pointer (some ⟨gb, 0, none⟩)] 57 (0, 0)) := by rw [hwb]; exact Array.getElem?_push_size
 have hlt := h.lt
 have hlo := h.lo
 have hown := h.own_lt
 have hcB := hc.1
 have HBX : Hid (∀ wr, Only (Y0x K v) wb wr → wr.heap[w.heap.size]? = some (.cells #[.pointer (some ⟨ga, 0, none⟩), .pointer (some ⟨gb, 0, none⟩)] 57 (0, 0))) := Lib.hid fun wr ho =>
  (ho.2.2.2.2 w.heap.size (by omega) (fun e => by
   rcases e with e | e | e
   ·omega
   ·omega
   ·have := hown _ e; omega)).trans hbx
 have HS : Hid (Yrw wb K v F W1 W2 X wb) := Lib.hid ⟨a, v, out, h.keep hob, Only.refl _ _, fun k hk => .inl hk, hX.symm⟩
 have HB1 := Lib.hid (h1.same hob (fun _ _ _ e => e))
 have HB2 := Lib.hid (h2.same hob (fun _ _ _ e => e))
 have HC := Lib.hid hc
 have HOB := Lib.hid (hob.mono (S' := Y0x K v) fun _ _ e => e.elim)
 have HWB := Lib.hid hwb
 have HBL := Lib.hid (Y04 true K.xs)
 clear h h1 h2 hc hX hob hwb hbx hown
 go_enter Tryz.func92, Tryz.ntmps92
 go_wp2_with fail
 rw [← HWB.out]
 go_loopw [5, 6] (fun _ _ wr => Hid (Yrw wb K v F W1 W2 X wr)) (fun _ _ wr => 8 * K.xs.length - Ytq wr K.gr)
 case atStart => exact HS
 case round =>
  obtain ⟨a2, v2, out2, hD, ho, hv2, hrun⟩ := hrel.out
  have hcl2 : Clr K v2 B C := HC.out.on (w' := wr) HB1.out hv2
  have hb1 := HB1.out.only HC.out hlo ho
  have hb2 := HB2.out.only HC.out hlo ho
  have hbx2 := HBX.out wr ho
  have hpos : Ytq wr K.gr = a2 := Yau hD.rd
  have hab := hD.rd.2.2.1
  have k0 := hD.c0
  have b0 : wr.cell? ⟨w.heap.size, 0, none⟩ = some (.pointer (some ⟨ga, 0, none⟩)) := by simp [World.cell?, hbx2]
  have hwz := ho.2.2.2.1
  have HKP : Hid (∀ w2, Only (· = K.gr) wr.drew w2 → w2.cell? ⟨K.d, 0, none⟩ = some (.pointer (some ⟨K.gr, 0, none⟩)) ∧ w2.cell? ⟨w.heap.size, 0, none⟩ = some (.pointer (some ⟨ga, 0, none⟩))) := Lib.hid (by
   intro w2 ho2
   have e1 : ∀ k, k < wr.heap.size → k ≠ K.gr → ∀ i, w2.cell? ⟨k, i, none⟩ = wr.cell? ⟨k, i, none⟩ := fun k h1 h2 i => World.cell?_of_block (ho2.2.2.2.2 k h1 h2)
   exact ⟨(e1 _ hD.lt (by omega) 0).trans k0, (e1 _ (by omega) (by omega) 0).trans b0⟩)
  have HDD : Hid (De wr.drew K a2 v2 out2 F) := Lib.hid (hD.drawn ⟨1, rfl⟩)
  have hb1d := hb1.same (w' := wr.drew) (S := fun _ => False) (Only.drawn _ (⟨1, rfl⟩ : Drawn wr wr.drew)) (fun _ _ _ e => e)
  have HO := Lib.hid (ho.trans (Only.drawn (w' := wr.drew) (Y0x K v) ⟨1, rfl⟩))
  have HV2 := Lib.hid hv2
  have HPOS := Lib.hid hpos
  have HB2r := Lib.hid (hb2.same (w' := wr.drew) (S := fun _ => False) (Only.drawn _ (⟨1, rfl⟩ : Drawn wr wr.drew)) (fun _ _ _ e => e))
  have HCL2 := Lib.hid hcl2
  have hrun2 := hrun
  rw [Ykr W1 W2 _ K.most a2 out2 (by rw [HBL.out]; exact hab)] at hrun2
  have hcg : K.gr < B := by omega
  rcases hx : Y1r W1 (Y01 true K.xs) a2 with c | ⟨s, b⟩
  ·have HW := Lib.hid (Ye8 wr.drew K a2 v2 out2 F B C ga c W1 HDD.out hb1d hcg hx)
   have hc0 : ((c : Int) != 0) = true := by have := Y62 hx; simp; omega
   have HRES : Hid (∀ w2, Only (· = K.gr) wr.drew w2 → Res w K v F X (.returned (.int .i64 (c : Int))) w2) := Lib.hid fun w2 ho2 =>
    .inr ⟨c, by rw [← hrun2, hx]; rfl, by have := Y62 hx; omega, rfl, (HOB.out.trans HO.out).trans (Y0w ho2)⟩
   clear hx hrun hrun2 hD ho hv2 hpos hb1 hb2 hbx2 hb1d hcl2
   go_wp2_with fail
   go_region_held3 (fun w2 => w2.cell? ⟨K.d, 0, none⟩ = some (.pointer (some ⟨K.gr, 0, none⟩)) ∧ w2.cell? ⟨w.heap.size, 0, none⟩ = some (.pointer (some ⟨ga, 0, none⟩))) (first | exact ⟨k0, b0⟩ | exact HKP.out _ HO2.out) (first | (go_at_call 122; refine HW.out.mono ?_; rintro e w2 ⟨rfl, ho2⟩; have HO2 := Lib.hid ho2; clear ho2))
   all_goals
    go_wp2_with fail
    go_ret
    exact HRES.out _ HO2.out
  ·have hs300 : s < 300 := by have := Ydc hx; omega
   have hsb := (Y2t W1 a2).le (by rw [HBL.out]; exact hab) hx
   have hsl := Yht hx
   have HW := Lib.hid (Yih wr.drew K a2 v2 out2 F B C ga s b W1 HDD.out hb1d hcg hx)
   rw [hx, R.then_ok] at hrun2
   rw [HBL.out] at hsb
   have HRUN := Lib.hid hrun2
   clear hx hrun hrun2 hD ho hv2 hpos hb1 hb2 hbx2 hb1d hcl2
   go_wp2_with fail
   go_region_held3 (fun w2 => w2.cell? ⟨K.d, 0, none⟩ = some (.pointer (some ⟨K.gr, 0, none⟩)) ∧ w2.cell? ⟨w.heap.size, 0, none⟩ = some (.pointer (some ⟨ga, 0, none⟩))) (first | exact ⟨k0, b0⟩ | exact HKP.out _ HO2.out) (first | (go_at_call 122; refine HW.out.mono ?_; rintro e w2 ⟨rfl, hd2, ho2⟩; have HO2 := Lib.hid ho2; have HD2 := Lib.hid hd2; clear ho2 hd2))
   all_goals
    have HO3 := Lib.hid (HO.out.trans (Y0w HO2.out))
    by_cases h256 : s = 256
    ·have q6 : ((s : Int) == 256) = true := by simp; omega
     have HRES : Hid (Res w K v F X (.returned (.int .i64 0)) w2) := Lib.hid (by
      have := HRUN.out
      rw [if_pos h256] at this
      exact .inl ⟨out2, b, this.symm, rfl, DeT.more (HOB.out.trans HO3.out) (fun k hk => (HV2.out k hk).imp id (fun e => by omega)) (DeT.refl HD2.out)⟩)
     clear h256
     go_wp2_with fail
     go_ret
     exact HRES.out
    ·have q6 : ((s : Int) == 256) = false := by simp; omega
     by_cases hlt : s < 256
     ·have ql : decide ((s : Int) < 256) = true := by simp; omega
      have hby : (((UInt8.ofNat s).toNat : Nat) : Int) = (s : Int) := by rw [UInt8.toNat_ofNat']; omega
      have HL := Yac w2 K b v2 out2 F (UInt8.ofNat s) HD2.out
      rw [hby] at HL
      have HLIT := Lib.hid HL
      have hw8 : IntKind.u8.wrap (s : Int) = (s : Int) := by rw [IntKind.wrap_u8]; omega
      clear HL hby
      by_cases hfull : K.most < out2.length + 1
      ·have HRES : Hid (∀ w3, Only (Y0x K v2) w2 w3 → Res w K v F X (.returned (.int .i64 8)) w3) := Lib.hid (by
        intro w3 h3
        have := HRUN.out
        rw [if_neg h256, if_pos hlt, if_pos (by omega)] at this
        exact .inr ⟨8, this.symm, by decide, rfl, HOB.out.trans (Y3i HO3.out HV2.out h3)⟩)
       clear h256
       go_wp2_with fail
       refine HLIT.out.mono ?_
       intro e w3 hL
       unfold Yv8 at hL
       rw [if_pos (by simpa using hfull)] at hL
       obtain ⟨rfl, ho3⟩ := hL
       have HRES2 := Lib.hid (HRES.out w3 ho3)
       clear ho3
       go_wp2_with fail
       go_ret
       exact HRES2.out
      ·have HNX : Hid (Y1s W1 W2 (Y01 true K.xs) K.most b (out2 ++ [UInt8.ofNat s]) = X) := Lib.hid (by
        have := HRUN.out
        rwa [if_neg h256, if_pos hlt, if_neg (by omega)] at this)
       clear h256
       go_wp2_with fail
       refine HLIT.out.mono ?_
       intro e w3 hL
       unfold Yv8 at hL
       rw [if_neg (by simpa using hfull)] at hL
       obtain ⟨rfl, v3, hD3, ho3, hv3⟩ := hL
       have HN : Hid (Yrw wb K v F W1 W2 X w3 ∧ Ytq w3 K.gr = b) := Lib.hid ⟨⟨b, v3, _, hD3, Y3i HO3.out HV2.out ho3, fun k hk => by
        rcases hv3 k hk with e | e
        ·exact HV2.out k e
        ·exact .inr (Nat.le_trans HO3.out.2.2.2.1 e), HNX.out⟩, Yau hD3.rd⟩
       clear hD3 ho3 hv3
       go_wp2_with fail
       go_roundw
       case rel => exact Lib.hid HN.out.1
       case measure => rw [HN.out.2, HPOS.out]; omega
     ·have ql : decide ((s : Int) < 256) = false := by simp; omega
      have HB2q := Lib.hid (HB2r.out.same (S := (· = K.gr)) HO2.out (fun k h1 h2 e => by omega))
      have HCP := Yl0 w2 K b v2 out2 F B C gb (s - 257) W2 HD2.out HB2q.out HCL2.out hW2 (by omega)
      have hs7 : ((s - 257 : Nat) : Int) = (s : Int) - 257 := by omega
      rw [hs7] at HCP
      have HCOP := Lib.hid HCP
      have b1 : w2.cell? ⟨w.heap.size, 1, none⟩ = some (.pointer (some ⟨gb, 0, none⟩)) := by simp [World.cell?, HBX.out w2 HO3.out]
      have hnx := HRUN.out
      rw [if_neg h256, if_neg hlt] at hnx
      have HNX := Lib.hid hnx
      clear HCP hs7 hnx h256
      go_wp2_with fail
      refine HCOP.out.mono ?_
      rintro e w3 hR
      rcases hR with ⟨o, b3, hx3, rfl, v3, hD3, ho3, hv3⟩ | ⟨c, hx3, hcne, rfl, ho3⟩
      ·have hle3 : b ≤ b3 ∧ b3 ≤ 8 * K.xs.length := by
        have h0 : Hon b (fun L => Y6h W2 L K.most (s - 257) b out2) := (Y24 false _ b).then fun n b hb => (Y2t W2 b).then fun k c hc => (Y24 true k c).then fun d e he => Hon.ite (Hon.err e 3) (Hon.ite (Hon.err e 8) (Hon.ok e _))
        have := h0.le (by rw [HBL.out]; exact hsb.2) hx3
        rwa [HBL.out] at this
       have HN : Hid (Yrw wb K v F W1 W2 X w3 ∧ Ytq w3 K.gr = b3) := Lib.hid ⟨⟨b3, v3, _, hD3, Y3i HO3.out HV2.out ho3, fun k hk => by
        rcases hv3 k hk with e | e
        ·exact HV2.out k e
        ·exact .inr (Nat.le_trans HO3.out.2.2.2.1 e), by rw [← HNX.out, hx3]; rfl⟩, Yau hD3.rd⟩
       clear hD3 ho3 hv3 hx3
       go_wp2_with fail
       go_roundw
       case rel => exact Lib.hid HN.out.1
       case measure => rw [HN.out.2, HPOS.out]; omega
      ·have hc0 : ((c : Int) != 0) = true := by simp; omega
       have HRES : Hid (Res w K v F X (.returned (.int .i64 (c : Int))) w3) := Lib.hid (.inr ⟨c, by rw [← HNX.out, hx3]; rfl, hcne, rfl, HOB.out.trans (Y3i HO3.out HV2.out ho3)⟩)
       clear hx3 ho3 hcne
       go_wp2_with fail
       go_ret
       exact HRES.out
end Go.Proofs.YtkkfkmoikcmhoaaGreat.Inf

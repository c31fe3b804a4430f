/- DfD, IgB, IgD, IgE, HfD, HfE: merged. -/
import Derived.Test.YtkkfkmoikcmhoaaGreatPaj
import Derived.Test.YtkkfkmoikcmhoaaGreatPan
import Derived.Test.YtkkfkmoikcmhoaaGreatPao
set_option linter.unusedVariables false
set_option linter.unusedSimpArgs false
namespace Go.Proofs.YtkkfkmoikcmhoaaGreat.Df
open Go.RowKit Oct Bit Hf Inf
set_option maxRecDepth 100000
def BoS (w : World) (F : Nat → Prop) (g : Nat) (W : List (List Bool)) : Prop := ∃ C ms, Foot F (fun w' => Bk w' C g (Y3f W) ms) w
theorem BoS.only {F S : Nat → Prop} {w w' : World} {g : Nat} {W : List (List Bool)} (h : BoS w F g W) (ho : Only S w w') (hS : ∀ k, F k → ¬ S k) : BoS w' F g W := by
 obtain ⟨C, ms, hf⟩ := h
 exact ⟨C, ms, hf.only ho hS⟩
theorem BoS.below {F : Nat → Prop} {w w' : World} {g : Nat} {W : List (List Bool)} (h : BoS w F g W) (hb : Below w.heap.size w w') : BoS w' F g W :=
 h.only (S := fun _ => False) (Only.of_below hb) fun _ _ e => e
theorem BoS.ent {F : Nat → Prop} {w w' : World} {g : Nat} {W : List (List Bool)} {K : Ke} {v : Value} (h : BoS w F g W) (hf : Far K v F) (ho : Only (Mine K.gw v) w w') : BoS w' F g W := by
 obtain ⟨C, ms, hb⟩ := h
 exact ⟨C, ms, hb.ent hf ho⟩
set_option maxHeartbeats 1000000 in
theorem Y48 (w : World) (E0 : Ke) (v : Value) (l : List Bool) (F : Nat → Prop) (g : Nat) (W : List (List Bool)) (i x n : Nat) (m : List Bool) (h : En w E0 v l) (hB : BoS w F g W) (hi : W[i]? = some m) (hm : m ≠ []) (hn : n ≤ 13) (hx : x < 2 ^ n) (hl : l.length + m.length + n ≤ 2000000) :
  Calls Tryz.prog 104 #[.pointer (some ⟨E0.e, 0, none⟩), .pointer (some ⟨g, 0, none⟩), .agg #[.int .i64 (i : Int), .int .i64 (x : Int), .int .i64 (n : Int)]] w fun e w' => e = .returned (.tuple #[]) ∧ EnT w E0 v (l ++ (m ++ Y07 true x n)) w' := by
 obtain ⟨C, ms, hf⟩ := hB
 obtain ⟨wa, hwa⟩ : ∃ wa, wa = w.alloc (.cells #[.int .i64 (i : Int), .int .i64 (x : Int), .int .i64 (n : Int)] 166) := ⟨_, rfl⟩
 have hba : Below w.heap.size w wa := by rw [hwa]; exact (Below.refl _ w).alloc (Nat.le_refl _) _
 have hbd : Below w.heap.size w wa.drew := hba.trans ((show Drawn wa wa.drew from ⟨1, rfl⟩).below _)
 have hEd := h.below hbd
 have hwr := Yob wa.drew C g _ ms E0.gw v l m true i (hf.below hbd).now (by rw [Y3f]; simp [hi]) hm hEd.ws (by omega)
 have hmk : Mk wa w.heap.size (.int .i64 (i : Int)) (.int .i64 (x : Int)) (.int .i64 (n : Int)) := by rw [hwa]; exact Array.getElem?_push_size
 have k0 : wa.drew.cell? ⟨E0.e, 0, none⟩ = some (.pointer (some ⟨E0.gw, 0, none⟩)) := hEd.c0
 have k1 : wa.drew.cell? ⟨w.heap.size, 0, none⟩ = some (.int .i64 (i : Int)) := hmk.c0
 have hx2 : x < 4294967296 := Nat.lt_of_lt_of_le hx (Nat.le_trans (Nat.pow_le_pow_right (by omega) hn) (by decide))
 have HWR := Lib.hid hwr
 have HED := Lib.hid hEd
 have HBD := Lib.hid hbd
 have HMK := Lib.hid hmk
 have HWA := Lib.hid hwa
 have hgl := h.ge
 have hkl := h.lt'
 have hvl := Lib.hid (Yk1 h)
 have hz : wa.drew.heap.size = w.heap.size + 1 := by show wa.heap.size = _; rw [hwa]; simp
 clear hwr hEd hbd hmk h hf hwa hba
 go_enter Tryz.func104, Tryz.ntmps104
 go_wp2_with fail
 rw [← HWA.out]
 refine wp_region_held_drew (S := (fun w' => w'.cell? ⟨E0.e, 0, none⟩ = some (.pointer (some ⟨E0.gw, 0, none⟩)) ∧ w'.cell? ⟨w.heap.size, 0, none⟩ = some (.int .i64 (i : Int)))) (by kernel_rfl) ⟨k0, k1⟩ (fun hHeld => ?_)
 refine wpAnyH_take (i := 0) (v := ?v1) rfl (by kernel_rfl) (by kernel_rfl) (by kernel_rfl) (fun _ _ _ h => h) (Or.inl ⟨by rfl, fun w hSw => ?y1⟩) hHeld ?r1
 case y1 => (try dsimp only at hSw); first | (go_simp; done) | (go_simp; with_reducible rfl)
 try simp only [Act.put, List.setIfInBounds_toArray, List.set_cons_zero, List.set_cons_succ, List.getElem_toArray, List.getElem_cons_zero, List.getElem_cons_succ]
 refine wpAnyH_take (i := 1) (v := ?v2) rfl (by kernel_rfl) (by kernel_rfl) (by kernel_rfl) (fun _ _ _ h => h) (Or.inl ⟨by rfl, fun w hSw => ?y2⟩) hHeld ?r2
 case y2 => (try dsimp only at hSw); first | (go_simp; done) | (go_simp; with_reducible rfl)
 try simp only [Act.put, List.setIfInBounds_toArray, List.set_cons_zero, List.set_cons_succ, List.getElem_toArray, List.getElem_cons_zero, List.getElem_cons_succ]
 refine wpAnyH_take (i := 2) (v := ?v3) rfl (by kernel_rfl) (by kernel_rfl) (by kernel_rfl) (fun _ _ _ h => h) (Or.inl ⟨by rfl, fun w hSw => ?y3⟩) hHeld ?r3
 case y3 => (try dsimp only at hSw); first | (go_simp; done) | (go_simp; with_reducible rfl)
 try simp only [Act.put, List.setIfInBounds_toArray, List.set_cons_zero, List.set_cons_succ, List.getElem_toArray, List.getElem_cons_zero, List.getElem_cons_succ]
 refine wpAnyH_take (i := 3) (v := ?v4) rfl (by kernel_rfl) (by kernel_rfl) (by kernel_rfl) (fun _ _ _ h => h) (Or.inl ⟨by rfl, fun w hSw => ?y4⟩) hHeld ?r4
 case y4 => (try dsimp only at hSw); first | (go_simp; done) | (go_simp; with_reducible rfl)
 try simp only [Act.put, List.setIfInBounds_toArray, List.set_cons_zero, List.set_cons_succ, List.getElem_toArray, List.getElem_cons_zero, List.getElem_cons_succ]
 refine wpAnyH_take (i := 4) (v := ?v5) rfl (by kernel_rfl) (by kernel_rfl) (by kernel_rfl) (fun _ _ _ h => h) (Or.inl ⟨by rfl, fun w hSw => ?y5⟩) hHeld ?r5
 case y5 => (try dsimp only at hSw); first | (go_simp; done) | (go_simp; with_reducible rfl)
 try simp only [Act.put, List.setIfInBounds_toArray, List.set_cons_zero, List.set_cons_succ, List.getElem_toArray, List.getElem_cons_zero, List.getElem_cons_succ]
 refine wpAnyH_take (i := 5) (v := ?v6) rfl (by kernel_rfl) (by kernel_rfl) (by kernel_rfl) (fun _ _ _ h => h) (Or.inl ⟨by rfl, fun w hSw => ?y6⟩) hHeld ?r6
 case y6 => (try dsimp only at hSw); first | (go_simp; done) | (go_simp; with_reducible rfl)
 try simp only [Act.put, List.setIfInBounds_toArray, List.set_cons_zero, List.set_cons_succ, List.getElem_toArray, List.getElem_cons_zero, List.getElem_cons_succ]
 refine wpAnyH_take (i := 6) (v := ?v7) rfl (by kernel_rfl) (by kernel_rfl) (by kernel_rfl) (fun _ _ _ h => h) (Or.inl ⟨by rfl, fun w hSw => ?y7⟩) hHeld ?r7
 case y7 => (try dsimp only at hSw); first | (go_simp; done) | (go_simp; with_reducible rfl)
 try simp only [Act.put, List.setIfInBounds_toArray, List.set_cons_zero, List.set_cons_succ, List.getElem_toArray, List.getElem_cons_zero, List.getElem_cons_succ]
 refine wpAnyH_take (i := 7) (v := ?v8) rfl (by kernel_rfl) (by kernel_rfl) (by kernel_rfl) (fun _ _ _ h => h) (Or.inl ⟨by rfl, fun w hSw => ?y8⟩) hHeld ?r8
 case y8 => (try dsimp only at hSw); first | (go_simp; done) | (go_simp; with_reducible rfl)
 try simp only [Act.put, List.setIfInBounds_toArray, List.set_cons_zero, List.set_cons_succ, List.getElem_toArray, List.getElem_cons_zero, List.getElem_cons_succ]
 refine wpAnyH_ready (rs := [8]) (by kernel_rfl) (by simp) ?_
 refine AllReadyH.cons rfl (fun K hK => ?_) AllReadyH.nil
 go_simp
 refine HWR.out.mono ?_
 rintro e w1 ⟨rfl, ht⟩
 obtain ⟨v1, hE1, ho1, hd1⟩ := HED.out.wst ht
 have hfar : ∀ k, k = w.heap.size → ¬ Mine E0.gw v k := fun k hk e => by
  subst hk
  rcases e with e | e
  ·omega
  ·have := hvl.out _ e; omega
 have hm1 : Mk w1 w.heap.size (.int .i64 (i : Int)) (.int .i64 (x : Int)) (.int .i64 (n : Int)) := (ho1.2.2.2.2 _ (by omega) (hfar _ rfl)).trans (show wa.drew.heap[w.heap.size]? = _ from HMK.out)
 have hS1 : w1.cell? ⟨E0.e, 0, none⟩ = some (.pointer (some ⟨E0.gw, 0, none⟩)) ∧ w1.cell? ⟨w.heap.size, 0, none⟩ = some (.int .i64 (i : Int)) := ⟨hE1.c0, hm1.c0⟩
 have HKE := Lib.hid (Y7o w1 E0 v1 _ hE1)
 have HE1 := Lib.hid hE1
 have HO1 := Lib.hid ho1
 have HD1 := Lib.hid hd1
 have HM1 := Lib.hid hm1
 clear hE1 ho1 hd1 hm1 ht hfar
 go_wp2_with fail
 refine hK.out _ _ hS1 (fun hHeld1 => ?_)
 clear hK K
 try simp only [Act.put, List.setIfInBounds_toArray, List.set_cons_zero, List.set_cons_succ, List.getElem_toArray, List.getElem_cons_zero, List.getElem_cons_succ]
 refine wpAnyH_ready (rs := [9]) (by kernel_rfl) (by simp) ?_
 refine AllReadyH.cons rfl (fun K hK => ?_) AllReadyH.nil
 go_simp
 refine HKE.out.mono ?_
 rintro e w2 ⟨rfl, hb2⟩
 have hE2 := HE1.out.below hb2
 have hm2 := HM1.out.below hb2 HM1.out.lt
 have hS2 : w2.cell? ⟨E0.e, 0, none⟩ = some (.pointer (some ⟨E0.gw, 0, none⟩)) ∧ w2.cell? ⟨w.heap.size, 0, none⟩ = some (.int .i64 (i : Int)) := ⟨hE2.c0, hm2.c0⟩
 have HE2 := Lib.hid hE2
 have HM2 := Lib.hid hm2
 have HB2 := Lib.hid hb2
 clear hE2 hm2 hb2
 go_wp2_with fail
 refine hK.out _ _ hS2 (fun hHeld2 => ?_)
 clear hK K
 try simp only [Act.put, List.setIfInBounds_toArray, List.set_cons_zero, List.set_cons_succ, List.getElem_toArray, List.getElem_cons_zero, List.getElem_cons_succ]
 refine wpAnyH_done (by kernel_rfl) ?_ _
 have c1 := HM2.out.c1
 have c2 := HM2.out.c2
 have HNU := Lib.hid (Y1b w2 E0 v1 _ x n HE2.out (by omega) hx hx2 (by rw [List.length_append]; omega))
 clear k0 k1
 go_wp2_with fail
 refine HNU.out.mono ?_
 rintro e w3 ⟨rfl, ht⟩
 have HT := Lib.hid ht
 clear ht
 go_wp2_with fail
 go_end0
 refine ⟨rfl, ?_⟩
 have h1 : EnT w1 E0 v1 (l ++ m ++ Y07 true x n) w3 := EnT.more ((Only.of_below (S := fun _ => False) HB2.out).mono (fun _ _ e => False.elim e)) (fun _ e => .inl e) HT.out
 have h2 := EnT.more HO1.out HD1.out h1
 rw [List.append_assoc] at h2
 exact EnT.more ((Only.of_below (S := fun _ => False) HBD.out).mono (fun _ _ e => False.elim e)) (fun _ e => .inl e) h2
end Go.Proofs.YtkkfkmoikcmhoaaGreat.Df
namespace Go.Proofs.YtkkfkmoikcmhoaaGreat.Inf
open Go.RowKit Oct Bit Hf
set_option maxRecDepth 100000
theorem Y73 {K : Kon} {v : Value} {w w' : World} (h : Only (· = K.gr) w w') : Only (Y5n K v) w w' := h.mono fun k _ e => .inr (.inl e)
theorem Y2r {xs : List UInt8} {a n m b : Nat} (h : Y1k (Y02 true xs) a n = .ok (m, b)) (hn : n ≤ 32) : m < 2 ^ n ∧ b = a + n := by
 by_cases hc : a + n ≤ 8 * xs.length
 ·rw [Ywx hc hn] at h
  cases h
  exact ⟨Yjw true xs a n hn, rfl⟩
 ·rw [Yqf hc] at h; cases h
theorem Yyl {xs : List UInt8} {a n c : Nat} (h : Y1k (Y02 true xs) a n = .error c) : c = 2 := by
 unfold Y1k at h
 split at h
 ·cases h
 ·cases h; rfl
theorem Yij (g : Nat) (p : Option Addr) (cap : Nat) (xs : List UInt8) (a n m b : Nat) (hn : n ≤ 32) (w : World) (hR : Rd w g p cap xs a true) (hx : Y1k (Y02 true xs) a n = .ok (m, b)) :
  Calls Tryz.prog 55 #[.pointer (some ⟨g, 0, none⟩), .int .i64 (n : Int)] w fun e w' => e = .returned (.tuple #[.int .u32 (m : Int), .int .i64 0]) ∧ Rd w' g p cap xs b true ∧ Only (· = g) w w' := by
 refine (Yka g p cap xs a n hn w hR).mono ?_
 rintro e w' ⟨h, ho, hz⟩
 rcases h with ⟨v, h1, _, h3, h4⟩ | ⟨h1, _⟩
 ·rw [hx] at h1
  cases h1
  exact ⟨h3, h4, ho⟩
 ·rw [hx] at h1; cases h1
theorem Yk9 (g : Nat) (p : Option Addr) (cap : Nat) (xs : List UInt8) (a n c : Nat) (hn : n ≤ 32) (w : World) (hR : Rd w g p cap xs a true) (hx : Y1k (Y02 true xs) a n = .error c) :
  Calls Tryz.prog 55 #[.pointer (some ⟨g, 0, none⟩), .int .i64 (n : Int)] w fun e w' => e = .returned (.tuple #[.int .u32 0, .int .i64 2]) ∧ Only (· = g) w w' := by
 refine (Yka g p cap xs a n hn w hR).mono ?_
 rintro e w' ⟨h, ho, hz⟩
 rcases h with ⟨v, h1, _⟩ | ⟨h1, h2, _⟩
 ·rw [hx] at h1; cases h1
 ·exact ⟨h2, ho⟩
end Go.Proofs.YtkkfkmoikcmhoaaGreat.Inf
namespace Go.Proofs.YtkkfkmoikcmhoaaGreat.Inf
open Go.RowKit Oct Bit Hf
set_option maxRecDepth 100000
theorem Yjq (W : List (List Bool)) : ∀ (l p : List Bool) (i k : Nat), Y24 W p l = .ok (i, k) → i < W.length
 | [], p, i, k, h => by cases h
 | b :: t, p, i, k, h => by
  rw [Y24] at h
  split at h
  ·rename_i hm
   cases h
   exact List.idxOf_lt_length_of_mem hm
  ·split at h
   ·exact Yjq W t _ i k h
   ·cases h
def Res (w : World) (K : Kon) (v : Value) (F : Option Fix) (x : R (List UInt8)) (e : Ending) (w' : World) : Prop :=
 (∃ o a, x = .ok (o, a) ∧ e = .returned (.int .i64 0) ∧ DeT w K v a o F w') ∨ ∃ c, x = .error c ∧ c ≠ 0 ∧ e = .returned (.int .i64 (c : Int)) ∧ Only (Y5n K v) w w'
def Yhe (B : List (List Bool)) (L : List Bool) (most i a : Nat) (out : List UInt8) : R (List UInt8) :=
 (Y1r false L i a).then fun n a => (Y1p B L a).then fun k a => (Y1r true L k a).then fun d a =>
  if out.length < d then .error 3 else if most < out.length + n then .error 8 else .ok (Y2e out d n, a)
theorem Y62 : ∀ far : Bool, ∀ i, i < (froms far).length → 1 ≤ (froms far).getD i 0 ∧ (froms far).getD i 0 ≤ 30000 ∧ (extras far).getD i 0 ≤ 13 := by decide +kernel
end Go.Proofs.YtkkfkmoikcmhoaaGreat.Inf
namespace Go.Proofs.YtkkfkmoikcmhoaaGreat.Inf
open Go.RowKit Oct Bit Hf
set_option maxRecDepth 100000
theorem Ybi {α β γ : Type} (x : R α) (f : α → Nat → R β) (g : β → Nat → R γ) : (x.then f).then g = x.then fun v a => (f v a).then g := by
 rcases x with e | ⟨v, a⟩ <;> rfl
theorem Yl8 (A B : List (List Bool)) (L : List Bool) (most at_ : Nat) (out : List UInt8) (h : at_ ≤ L.length) : Y1d A B L most at_ out = (Y1p A L at_).then fun v a =>
  if v = 256 then .ok (out, a)
  else if v < 256 then (if most ≤ out.length then .error 8 else Y1d A B L most a (out ++ [UInt8.ofNat v]))
  else (Yhe B L most (v - 257) a out).then fun o a => Y1d A B L most a o := by
 rw [Y5s A B L most at_ out h]
 refine Y0e fun v a _ => ?_
 split
 ·rfl
 ·split
  ·rfl
  ·unfold Yhe
   rw [Ybi]
   refine Y0e fun n b _ => ?_
   rw [Ybi]
   refine Y0e fun k c _ => ?_
   rw [Ybi]
   refine Y0e fun d e _ => ?_
   split
   ·rfl
   ·split
    ·rfl
    ·rfl
def X0y (w : World) (g : Nat) : Nat := match w.cell? ⟨g, 1, none⟩ with
 | some v => (intOf v).toNat
 | none => 0
theorem Yr1 {w : World} {g : Nat} {p : Option Addr} {cap : Nat} {xs : List UInt8} {at_ : Nat} {low : Bool} (h : Rd w g p cap xs at_ low) : X0y w g = at_ := by
 unfold X0y; rw [h.c1]; simp [intOf]
end Go.Proofs.YtkkfkmoikcmhoaaGreat.Inf
namespace Go.Proofs.YtkkfkmoikcmhoaaGreat.Hf
open Go.RowKit Oct Bit
set_option maxRecDepth 100000
theorem Yro (L : List Nat) (h : L.length ≤ 100000) : startN L 31 ≤ 3328599654400000 := by
 have := Ygi L 31
 generalize startN L 31 = T at this ⊢
 omega
def okZ (zs : List Int) : Bool := zs.all fun z => decide (0 ≤ z ∧ z ≤ 30)
def Y1v (zs : List Int) : List Nat := zs.map Int.toNat
theorem Y2b (zs : List Int) : (Y1v zs).length = zs.length := by simp [Y1v]
def Yef (zs : List Int) : Int := if okZ zs then (if startN (Y1v zs) 31 ≤ 1073741824 then 0 else 3) else 1
def Y42 (L : List Nat) : List (List UInt8) := (Y04 L).map fun m => m.map dig
theorem Y2g (L : List Nat) : (Y42 L).length = L.length := by simp [Y42, Y0c]
theorem Y8g (L : List Nat) (i : Nat) (h : i < (Y42 L).length) (h' : i < L.length) : (Y42 L)[i] = (Y0n (pos L L[i] i) L[i]).map dig := by
 simp only [Y42, List.getElem_map]
 rw [Y2u L i _ h']
def Ywn (w : World) (zs : List Int) (e : Ending) (w' : World) : Prop :=
 Below w.heap.size w w' ∧ ((Yef zs ≠ 0 ∧ e = .returned (.tuple #[.slice none 0 0, .bool false, .int .i64 (Yef zs)])) ∨
  (Yef zs = 0 ∧ ∃ q c, e = .returned (.tuple #[.slice q zs.length c, .bool (decide (startN (Y1v zs) 31 = 1073741824)), .int .i64 0]) ∧ VRow w' w'.heap.size q (strs (Y42 (Y1v zs))) ∧ (q = none → c = 0) ∧ zs.length ≤ c ∧ c ≤ maxLen ∧ ∀ a, q = some a → w.heap.size ≤ a.block))
theorem Yjy (zs : List Int) (k : Nat) (h : k < zs.length) (h1 : okZ (zs.take k) = true) (h2 : 0 ≤ zs[k]) (h3 : zs[k] ≤ 30) : okZ (zs.take (k + 1)) = true := by
 unfold okZ at *
 rw [List.take_succ_eq_append_getElem h, List.all_append, h1]
 simp [h2, h3]
theorem Yqj (zs : List Int) (k : Nat) (h : k < zs.length) (h1 : zs[k] < 0 ∨ 30 < zs[k]) : Yef zs = 1 := by
 have : okZ zs = false := by
  unfold okZ
  rw [List.all_eq_false]
  exact ⟨zs[k], List.getElem_mem h, by simp; omega⟩
 unfold Yef
 rw [this]
 rfl
theorem Yi9 (zs : List Int) (h : okZ zs = true) (k : Nat) (hk : k < zs.length) : 0 ≤ zs[k] ∧ zs[k] ≤ 30 := by
 unfold okZ at h
 rw [List.all_eq_true] at h
 have := h _ (List.getElem_mem hk)
 simpa using this
theorem Yam (zs : List Int) (k : Nat) (h : k < (Y1v zs).length) (h' : k < zs.length) : (Y1v zs)[k] = zs[k].toNat := by simp [Y1v]
theorem Ylg (zs : List Int) (k m : Nat) (h : k < zs.length) (hm : zs[k] = (m : Int)) : (fun j => (Y1v (zs.take (k + 1))).count j) = fun j => if j = m then (Y1v (zs.take k)).count m + 1 else (Y1v (zs.take k)).count j := by
 funext j
 rw [List.take_succ_eq_append_getElem h]
 unfold Y1v
 rw [List.map_append, List.count_append, hm]
 by_cases hj : j = m
 ·subst hj; simp
 ·rw [if_neg hj]
  have : ¬ m = j := fun e => hj e.symm
  simp [this]
def Y5z (vs : List Value) (z : Value) (k : Nat) : List Value := vs.take k ++ List.replicate (vs.length - k) z
theorem Y60 (vs : List Value) (z : Value) (k : Nat) (h : k ≤ vs.length) : (Y5z vs z k).length = vs.length := by simp [Y5z]; omega
theorem Yll (vs : List Value) (z : Value) : Y5z vs z 0 = List.replicate vs.length z := by simp [Y5z]
theorem Yp1 (vs : List Value) (z : Value) : Y5z vs z vs.length = vs := by simp [Y5z]
theorem Ylk (vs : List Value) (z : Value) (k : Nat) (h : k < vs.length) : (Y5z vs z k).set k vs[k] = Y5z vs z (k + 1) := by
 unfold Y5z
 rw [List.set_append, if_neg (by simp; omega), List.take_succ_eq_append_getElem h, List.append_assoc]
 congr 1
 rw [List.length_take, Nat.min_eq_left (by omega), Nat.sub_self, show vs.length - k = (vs.length - (k + 1)) + 1 by omega, List.replicate_succ]
 simp
theorem Ylj (vs : List Value) (z : Value) (k : Nat) (h : k < vs.length) (hz : vs[k] = z) : Y5z vs z k = Y5z vs z (k + 1) := by
 unfold Y5z
 rw [List.take_succ_eq_append_getElem h, List.append_assoc, show vs.length - k = (vs.length - (k + 1)) + 1 by omega, List.replicate_succ, hz]
 rfl
theorem Yao (z : Value) (n : Nat) : (madeCells #[z] n).toList = List.replicate n z := by
 simp [madeCells]
 apply List.ext_getElem <;> simp [Nat.mod_one]
def Y7r (L : List Nat) (k j : Nat) : Nat := if j = 0 then 0 else pos L j k
theorem Ymc (L : List Nat) : Y9p (Y3b L 31) = Y9p (Y7r L 0) := by
 unfold Y9p
 refine congrArg List.toArray (List.map_congr_left fun j hj => ?_)
 have hj : j < 31 := by simpa using hj
 unfold Y3b Y7r
 rw [if_pos hj]
 split
 ·rename_i h; subst h; rfl
 ·rw [Y5c]
theorem Ymb (L : List Nat) (k n : Nat) (h : k < L.length) (hn : L[k] = n) (h0 : n ≠ 0) : (fun i => if i = n then Y7r L k n + share n else Y7r L k i) = Y7r L (k + 1) := by
 funext i
 unfold Y7r
 by_cases hi : i = n
 ·subst hi
  rw [if_pos rfl, if_neg h0, if_neg h0, Y5b L i k h, if_pos hn]
 ·rw [if_neg hi]
  split
  ·rfl
  ·rw [Y5b L i k h, if_neg (fun e => hi (e.symm.trans hn)), Nat.add_zero]
theorem Yma (L : List Nat) (k : Nat) (h : k < L.length) (hn : L[k] = 0) : Y9p (Y7r L k) = Y9p (Y7r L (k + 1)) := by
 congr 1
 funext i
 unfold Y7r
 split
 ·rfl
 ·rename_i hi
  rw [Y5b L i k h, if_neg (fun e => hi (e.symm.trans hn)), Nat.add_zero]
structure CanM (W : World) (nn nw : Nat) (L : List Nat) (vs : List Value) (k : Nat) : Prop where
 b1 : W.heap[nn]? = some (.cells (Y9p (Y7r L k)) 202 (0, 0))
 b2 : W.heap[nw]? = some (.cells (Y5z vs (.string ByteArray.empty) k).toArray 9 (0, 0))
 ne : nn ≠ nw
theorem CanM.lt1 {W : World} {nn nw k : Nat} {L : List Nat} {vs : List Value} (h : CanM W nn nw L vs k) : nn < W.heap.size := by
 rcases Nat.lt_or_ge nn W.heap.size with hlt | hge
 ·exact hlt
 ·have := h.b1; rw [Array.getElem?_eq_none hge] at this; cases this
theorem CanM.lt2 {W : World} {nn nw k : Nat} {L : List Nat} {vs : List Value} (h : CanM W nn nw L vs k) : nw < W.heap.size := by
 rcases Nat.lt_or_ge nw W.heap.size with hlt | hge
 ·exact hlt
 ·have := h.b2; rw [Array.getElem?_eq_none hge] at this; cases this
theorem CanM.below {W W' : World} {nn nw k : Nat} {L : List Nat} {vs : List Value} (h : CanM W nn nw L vs k) (hb : Below W.heap.size W W') : CanM W' nn nw L vs k :=
 ⟨(hb.block nn h.lt1).trans h.b1, (hb.block nw h.lt2).trans h.b2, h.ne⟩
theorem CanM.skip {W : World} {nn nw k : Nat} {L : List Nat} {vs : List Value} (h : CanM W nn nw L vs k) (hk : k < L.length) (hn : L[k] = 0) (hv : k < vs.length) (hz : vs[k] = .string ByteArray.empty) : CanM W nn nw L vs (k + 1) :=
 ⟨by rw [← Yma L k hk hn]; exact h.b1, by rw [← Ylj vs _ k hv hz]; exact h.b2, h.ne⟩
theorem CanM.put {W : World} {nn nw k n : Nat} {L : List Nat} {vs : List Value} (h : CanM W nn nw L vs k) (hk : k < L.length) (hn : L[k] = n) (h0 : n ≠ 0) (hv : k < vs.length) :
  CanM ((W.setCell ⟨nw, k, none⟩ vs[k]).drew.setCell ⟨nn, n, none⟩ (.int .u64 ((Y7r L k n + share n : Nat) : Int))) nn nw L vs (k + 1) := by
 refine ⟨?_, ?_, h.ne⟩
 ·have h1 : (W.setCell ⟨nw, k, none⟩ vs[k]).drew.heap[nn]? = some (.cells (Y9p (Y7r L k)) 202 (0, 0)) := Y51 h.b1 h.ne.symm k vs[k]
  rw [Y2f h1, Ykv, Ymb L k n hk hn h0]
 ·have h2 : (W.setCell ⟨nw, k, none⟩ vs[k]).drew.heap[nw]? = some (.cells ((Y5z vs (.string ByteArray.empty) k).toArray.setIfInBounds k vs[k]) 9 (0, 0)) := Y2f h.b2 k vs[k]
  rw [List.setIfInBounds_toArray, Ylk vs _ k hv] at h2
  exact Y51 h2 h.ne n _
theorem Y5i {ops : Array Oper} {rest : List Oper} {op : Oper} {a : Act} {w : World} {Q : Exit → Act → World → Prop} (hgd : op.guard = none) (ty : TypeId) (x y : Operand) (ho : op.op = .store ty x y)
  (c cells : Array Value) (hx : a.eval x = .pointer (some ⟨w.heap.size, 0, none⟩)) (hy : a.eval y = .agg cells)
  (hi : (Tryz.prog.info? ty).map (·.size) = some cells.size) (hc : c.size = cells.size) (h1 : cells.all (·.oneCell') = true)
  (h : wpList Tryz.prog ops Q rest (a.put op.dst undef) (w.alloc (.cells cells ty))) : wpList Tryz.prog ops Q (op :: rest) a (w.alloc (.cells c ty)) :=
 wpList_plain hgd fun _ hK => by
  unfold Oper.wp execOp
  simp only [ho, hx, hy, Sem.run_bind, Sem.run_pure, Result.andThen_ok, run_storeAt_new w ty c cells hi hc h1]
  exact hK _ _ h
theorem Ykw (zs : List Int) : Ybq (fun j => (Y1v (zs.take 0)).count j) = (#[.int .i64 0, .int .i64 0, .int .i64 0, .int .i64 0, .int .i64 0, .int .i64 0, .int .i64 0, .int .i64 0, .int .i64 0, .int .i64 0, .int .i64 0, .int .i64 0, .int .i64 0, .int .i64 0, .int .i64 0, .int .i64 0, .int .i64 0, .int .i64 0, .int .i64 0, .int .i64 0, .int .i64 0, .int .i64 0, .int .i64 0, .int .i64 0, .int .i64 0, .int .i64 0, .int .i64 0, .int .i64 0, .int .i64 0, .int .i64 0, .int .i64 0] : Array Value) := by
 have e : (fun j => (Y1v (zs.take 0)).count j) = fun _ => 0 := by funext j; simp [Y1v]
 rw [e, Ysg]
 rfl
set_option maxHeartbeats 2000000 in
theorem Yof (p : Option Addr) (len cap : Nat) (zs : List Int) (w : World) (hr : VRow w w.heap.size p (ints zs)) (hx : zs.length = len) (hl : len ≤ 100000) :
  Calls Tryz.prog 106 #[.slice p len cap] w (Ywn w zs) := by
 obtain ⟨i0, hi, hz0, hz1, hz2⟩ := info_parts Tryz.infoStr
 have hB0 : Below w.heap.size w (w.alloc (.cells (Ybq (fun j => (Y1v (zs.take 0)).count j)) 201)) := (Below.refl _ w).alloc (Nat.le_refl _) _
 have hM0 : (w.alloc (.cells (Ybq (fun j => (Y1v (zs.take 0)).count j)) 201)).heap[w.heap.size]? = some (.cells (Ybq (fun j => (Y1v (zs.take 0)).count j)) 201 (0, 0)) := heap_alloc_last w _
 have hM1 : Hid ((w.alloc (.cells (#[.int .i64 0, .int .i64 0, .int .i64 0, .int .i64 0, .int .i64 0, .int .i64 0, .int .i64 0, .int .i64 0, .int .i64 0, .int .i64 0, .int .i64 0, .int .i64 0, .int .i64 0, .int .i64 0, .int .i64 0, .int .i64 0, .int .i64 0, .int .i64 0, .int .i64 0, .int .i64 0, .int .i64 0, .int .i64 0, .int .i64 0, .int .i64 0, .int .i64 0, .int .i64 0, .int .i64 0, .int .i64 0, .int .i64 0, .int .i64 0, .int .i64 0] : Array Value) 201)).heap[w.heap.size]? = some (.cells (Ybq (fun j => (Y1v (zs.take 0)).count j)) 201 (0, 0))) := by
  rw [Ykw] at hM0 ⊢
  exact hM0
 rw [Ykw] at hB0
 have HB0 := Lib.hid hB0
 have HX := Lib.hid hx
 have HR := Lib.hid hr
 clear hB0 hx hr hM0
 go_enter Tryz.func106, Tryz.ntmps106
 go_wp2_with fail
 go_loopw [7, 15] (fun u i wr => ∃ k : Nat, k ≤ len ∧ i = .int .i64 (k : Int) ∧ Hid (okZ (zs.take k) = true) ∧ Hid (wr.heap[w.heap.size]? = some (.cells (Ybq (fun j => (Y1v (zs.take k)).count j)) 201 (0, 0))) ∧ Hid (Below w.heap.size w wr)) (fun _ i _ => len - (intOf i).toNat)
 case atStart => exact ⟨0, by omega, rfl, rfl, hM1, HB0⟩
 case round =>
  obtain ⟨k, hk, rfl, HO, HM, HB⟩ := hrel
  by_cases hlt : k < len
  ·have hkz : k < zs.length := by rw [HX.out]; exact hlt
   obtain ⟨b, off, hp, hbl⟩ := HR.out.addr (by rw [Y06]; omega)
   subst hp
   have hc := (HB.out.cell (p := ⟨b, off + k, none⟩) hbl).trans (HR.out.int k hkz)
   have HT := Lib.hid (Yjy zs k hkz HO.out)
   have HBAD := Lib.hid (Yqj zs k hkz)
   have HCT := Lib.hid (fun m => Ylg zs k m hkz)
   generalize zs[k] = z at hc HT HBAD HCT
   have hd : decide ((k : Int) < (len : Int)) = true := by simp; omega
   have i1 : (0 : Int) ≤ (k : Int) := by omega
   have i2 : (k : Int) < (len : Int) := by omega
   by_cases h0 : z < 0
   ·have hd0 : decide (z < 0) = true := by simpa using h0
    have HE := Lib.hid (HBAD.out (.inl h0))
    go_wp2_with fail
    go_ret3
    exact ⟨HB.out, .inl ⟨by rw [HE.out]; decide, by rw [HE.out]; rfl⟩⟩
   ·have hd0 : decide (z < 0) = false := by simpa using h0
    by_cases h30 : 30 < z
    ·have hd1 : decide (30 < z) = true := by simpa using h30
     have HE := Lib.hid (HBAD.out (.inr h30))
     go_wp2_with fail
     go_ret3
     exact ⟨HB.out, .inl ⟨by rw [HE.out]; decide, by rw [HE.out]; rfl⟩⟩
    ·have hd1 : decide (30 < z) = false := by simpa using h30
     obtain ⟨m, rfl⟩ : ∃ m : Nat, z = (m : Int) := ⟨z.toNat, by omega⟩
     have HT2 := Lib.hid (HT.out (by omega) (by omega))
     have HM2 := Lib.hid (Y2f HM.out m (.int .i64 (((Y1v (zs.take k)).count m + 1 : Nat) : Int)))
     rw [Ywd, ← HCT.out m rfl] at HM2
     have hcm := Ygu HM.out m (by omega)
     have hfm := Y1h HM.out m
     have hcl : (Y1v (zs.take k)).count m ≤ 100000 := Nat.le_trans List.count_le_length (by rw [Y2b, List.length_take]; omega)
     have HB2 := Lib.hid (HB.out.setCell (p := ⟨w.heap.size, m, none⟩) (Nat.le_refl _) (.int .i64 (((Y1v (zs.take k)).count m + 1 : Nat) : Int)))
     generalize (Y1v (zs.take k)).count m = c at hcm hcl HM2 HB2
     have j1 : (0 : Int) ≤ (m : Int) := by omega
     have j2 : (m : Int) < 31 := by omega
     have HCC := Lib.hid (show ((c + 1 : Nat) : Int) = (c : Int) + 1 by omega)
     rw [HCC.out] at HM2 HB2
     clear HT HBAD HCT
     go_wp2_with fail
     go_roundw
     case rel => exact ⟨k + 1, by omega, by go_num, HT2, HM2, HB2⟩
     case measure => simp [intOf]; omega
  ·have hkl : k = len := by omega
   subst hkl
   have hd : decide ((k : Int) < (k : Int)) = false := by simp
   have hOk := HO.out
   have hM := HM.out
   rw [← HX.out, List.take_length] at hOk hM
   have hLl := Y2b zs
   obtain ⟨L, hL⟩ : ∃ L, L = Y1v zs := ⟨_, rfl⟩
   have hcE : Yef zs = if startN L 31 ≤ 1073741824 then 0 else 3 := by unfold Yef; rw [if_pos hOk, hL]
   rw [← hL] at hM hLl
   rw [HX.out] at hLl
   have HLL := Lib.hid hLl
   have HLE := Lib.hid hL
   have HCE := Lib.hid hcE
   have HOK := Lib.hid hOk
   have hrg := Yeo hM
   have hi31 : (Tryz.prog.info? 201).map (·.size) = some (Ybq (fun j => L.count j)).toList.length := by rw [Tryz.size31, Array.length_toList, Ysf]
   have HI31 := Lib.hid hi31
   have HRG := Lib.hid hrg
   have HST := Lib.hid (Yn3 L wr (by omega))
   generalize Ybq (fun j => L.count j) = cs at HI31 HRG HST
   clear hM hLl hL hcE hOk hrg hi31 HM HO
   go_wp2_with (refine wpList_load_mid rfl 201 _ rfl w.heap.size 0 rfl cs.toList _ HRG.out Tryz.underlying201 rfl HI31.out ?_)
   refine HST.out.mono ?_
   rintro e w2 ⟨rfl, hb2⟩
   have HB2 := Lib.hid (HB.out.trans (hb2.mono HB.out.size))
   have hT2 : startN L 31 ≤ 3328599654400000 := Yro L (by rw [HLL.out]; exact hl)
   have hiu : (Tryz.prog.info? 202).map (·.size) = some (Y9p (Y3b L 31)).size := by rw [Tryz.size31u, Ybm]
   have hnz := Ymc L
   have HV1 := Lib.hid (Yku (Y3b L 31))
   have HIU := Lib.hid hiu
   have HNZ := Lib.hid hnz
   have hsz31 : (Y9p (Y3b L 31)).size = 31 := Ybm _
   have HSZ := Lib.hid hsz31
   generalize Y9p (Y3b L 31) = fs at HV1 HIU HNZ HSZ
   generalize hTe : startN L 31 = T at HCE hT2 ⊢
   have HTE := Lib.hid hTe
   clear hb2 hiu hnz hsz31 hTe
   by_cases hover : 1073741824 < T
   ·have hdt : decide (1073741824 < (T : Int)) = true := by simp; omega
    have HE := Lib.hid (show Yef zs = 3 by rw [HCE.out, if_neg (by omega)])
    go_wp2_with (refine Y5i rfl 202 _ _ rfl _ fs rfl rfl HIU.out HSZ.out.symm HV1.out ?_)
    go_ret3
    exact ⟨HB2.out.alloc HB2.out.size _, .inl ⟨by rw [HE.out]; decide, by rw [HE.out]; rfl⟩⟩
   ·have hdt : decide (1073741824 < (T : Int)) = false := by simp; omega
    have hEQ : ((T : Int) == 1073741824) = decide (T = 1073741824) := by rw [Bool.eq_iff_iff]; simp; omega
    have HEQ := Lib.hid hEQ
    have hover' := Nat.le_of_not_lt hover
    have HE := Lib.hid (show Yef zs = 0 by rw [HCE.out, if_pos hover'])
    clear hEQ
    go_wp2_with (first | (refine Y5i rfl 202 _ _ rfl _ fs rfl rfl HIU.out HSZ.out.symm HV1.out ?_) | (at_make; refine wpList_make_full _ rfl _ _ 77 rfl (w2.alloc (.cells fs 202)).heap.size 9 i0 (.string ByteArray.empty) 1 Tryz.underlying77 hi hz0 hz1 .i64 .i64 (k : Int) (k : Int) k rfl rfl rfl rfl ?c2 ?c3 ?c4 ?_))
    case c2 => rw [hz2]; omega
    case c3 => unfold maxLen; omega
    case c4 => simp
    intro w3 hown hgrow
    have hb3 : Below (w2.alloc (.cells fs 202)).heap.size (w2.alloc (.cells fs 202)) w3 := (Below.refl _ _).grown hgrow (Nat.le_refl _) (fun k hk => by cases hk)
    have hnn : w3.heap[w2.heap.size]? = some (.cells fs 202 (0, 0)) := (hb3.block _ (by simp)).trans (heap_alloc_last w2 _)
    have hnw := Y2s hown
    have hLl := HLL.out
    obtain ⟨vs, hvs⟩ : ∃ vs, vs = strs (Y42 L) := ⟨_, rfl⟩
    have hvl : vs.length = k := by rw [hvs, Y0z, Y2g, hLl]
    rw [HNZ.out] at hnn
    rw [Yao, ← hvl, ← Yll] at hnw
    have HCM := Lib.hid (CanM.mk hnn hnw (by simp))
    have HB3 := Lib.hid (HB2.out.trans ((((Below.refl w2.heap.size w2).alloc (Nat.le_refl _) _).trans (hb3.mono (by simp))).mono HB2.out.size))
    have hn1 : w.heap.size ≤ w2.heap.size := HB2.out.size
    have hn2' : w.heap.size ≤ w2.heap.size + 1 := by omega
    have HVS := Lib.hid hvs
    have HVL := Lib.hid hvl
    generalize hnwe : w2.heap.size + 1 = nw at hnw HCM hn2' ⊢
    generalize w2.heap.size = nn at hnn HCM hn1 ⊢
    clear hnn hnw hown hgrow hb3 hLl hvs hvl HB2 HST HRG HI31 HNZ HV1 HIU HSZ hM1 HB0 hover HCE hT2 hnwe
    go_wp2_with fail
    go_loopw [11, 12, 43] (fun u v i wr => ∃ j : Nat, j ≤ k ∧ i = .int .i64 (j : Int) ∧ Hid (CanM wr nn nw L vs j) ∧ Hid (Below w.heap.size w wr)) (fun _ _ i _ => k - (intOf i).toNat)
    case atStart => exact ⟨0, by omega, rfl, HCM, HB3⟩
    case round =>
     obtain ⟨j, hj, rfl, HM, HB⟩ := hrel
     by_cases hlt : j < k
     ·have hjz : j < zs.length := by rw [HX.out]; exact hlt
      have hjL : j < L.length := by rw [HLL.out]; exact hlt
      have hjv : j < vs.length := by rw [HVL.out]; exact hlt
      obtain ⟨b, off, hp, hbl⟩ := HR.out.addr (by rw [Y06]; omega)
      subst hp
      have hc := (HB.out.cell (p := ⟨b, off + j, none⟩) hbl).trans (HR.out.int j hjz)
      obtain ⟨hz1', hz2'⟩ := Yi9 zs HOK.out j hjz
      have hLg : ∀ h : j < L.length, L[j] = zs[j].toNat := by
       intro h
       have := Yam zs j (by rw [Y2b]; exact hjz) hjz
       rw [← this]
       congr 1
      have hLj := hLg hjL
      generalize zs[j] = z at hc hz1' hz2' hLj
      obtain ⟨n, rfl⟩ : ∃ n : Nat, z = (n : Int) := ⟨z.toNat, by omega⟩
      have hLj : L[j] = n := hLj
      have hn30 : n ≤ 30 := by omega
      have hvj : vs[j] = .string (ds (Y0n (pos L n j) n)) := by
       have : ∀ h, vs[j]'h = .string (ds (Y0n (pos L n j) n)) := by
        rw [HVS.out]
        intro h
        simp only [strs, List.getElem_map]
        rw [Y8g L j _ hjL, hLj]
        rfl
       exact this hjv
      have HLJ := Lib.hid hLj
      have hd : decide ((j : Int) < (k : Int)) = true := by simp; omega
      have i1 : (0 : Int) ≤ (j : Int) := by omega
      have i2 : (j : Int) < (k : Int) := by omega
      clear hLg hLj
      by_cases h0 : n = 0
      ·subst h0
       have HM2 := Lib.hid (HM.out.skip hjL HLJ.out hjv hvj)
       clear hvj
       go_wp2_with fail
       go_roundw
       case rel => exact ⟨j + 1, by omega, by go_num, HM2, HB⟩
       case measure => simp [intOf]; omega
      ·have hd0 : decide ((0 : Int) < (n : Int)) = true := by simp; omega
       have j1 : (0 : Int) ≤ (n : Int) := by omega
       have j2 : (n : Int) < 31 := by omega
       have hpt := Ydz L n j hjL HLJ.out h0 hn30
       rw [HTE.out] at hpt
       have hsp := Y10 n
       have hcn := Ybl HM.out.b1 n (by omega)
       have hne : Y7r L j n = pos L n j := by unfold Y7r; rw [if_neg h0]
       have hnf := hne
       rw [hne] at hcn
       have HFB := Lib.hid (fun W => Yd8 (pos L n j) n W hn30 (by omega))
       have HPUT := Lib.hid (fun W (h : CanM W nn nw L vs j) => h.put hjL HLJ.out h0 hjv)
       rw [hne, hvj] at HPUT
       have HSH := Lib.hid (fun W => Ygf n W hn30)
       have HVJ := Lib.hid hvj
       generalize hpv : pos L n j = pv at *
       generalize hsv : share n = sv at *
       clear hpv hvj hne
       go_wp2_with fail
       refine (HFB.out _).mono ?_
       rintro e w4 ⟨rfl, hb4⟩
       have HM4 := Lib.hid (HM.out.below hb4)
       have HB4 := Lib.hid (HB.out.trans (hb4.mono HB.out.size))
       have hcell := HM4.out.b2
       have hw1 : w4.cell? ⟨nw, j, none⟩ = some ((Y5z vs (.string ByteArray.empty) j)[j]'(by rw [Y60 _ _ _ (by omega)]; exact hjv)) := by
        simp [World.cell?, hcell, Y60 vs (.string ByteArray.empty) j (by omega), hjv]
       generalize (Y5z vs (.string ByteArray.empty) j)[j]'(by rw [Y60 _ _ _ (by omega)]; exact hjv) = old at hw1
       have hw2 := Y1h hcell j
       clear hb4 hcell
       generalize hwd : ds (Y0n pv n) = wd at *
       clear hwd
       go_wp2_with fail
       have HC5 := Lib.hid (HPUT.out w4 HM4.out)
       have hc5 : (w4.setCell ⟨nw, j, none⟩ (.string wd)).drew.cell? ⟨nn, n, none⟩ = some (.int .u64 (pv : Int)) := by
        have := Y51 HM4.out.b1 HM4.out.ne.symm j (.string wd)
        exact (Ybl (W := w4.setCell ⟨nw, j, none⟩ (.string wd)) this n (by omega)).trans (by rw [hnf])
       have hf5 : (w4.setCell ⟨nw, j, none⟩ (.string wd)).drew.frozen? ⟨nn, n, none⟩ = false := by
        have := Y51 HM4.out.b1 HM4.out.ne.symm j (.string wd)
        exact Y1h (W := w4.setCell ⟨nw, j, none⟩ (.string wd)) this n
       have HB5 := Lib.hid ((HB4.out.setCell (p := ⟨nw, j, none⟩) hn2' (.string wd)).trans (Drawn.below (w' := (w4.setCell ⟨nw, j, none⟩ (.string wd)).drew) ⟨1, rfl⟩ w.heap.size))
       have HB6 := Lib.hid (HB5.out.setCell (p := ⟨nn, n, none⟩) hn1 (.int .u64 ((pv + sv : Nat) : Int)))
       have hwr : (pv : Int) + (sv : Int) < 18446744073709551616 := by omega
       have HCC := Lib.hid (show ((pv + sv : Nat) : Int) = (pv : Int) + (sv : Int) by omega)
       rw [HCC.out] at HC5 HB6
       generalize w4.setCell ⟨nw, j, none⟩ (.string wd) = W5 at *
       clear hw1 hw2 hcn HFB hpt hsp
       have hwrap : IntKind.u64.wrap ((pv : Int) + (sv : Int)) = (pv : Int) + (sv : Int) := IntWalk.u64_in _ (by omega)
       refine wp_region_held_drew (S := (fun _ => True)) (by kernel_rfl) trivial (fun hHeld => ?_)
       refine wpAnyH_take (i := 0) (v := ?v1) rfl (by kernel_rfl) (by kernel_rfl) (by kernel_rfl) (fun _ _ _ h => h) (Or.inl ⟨by rfl, fun w hSw => ?y1⟩) hHeld ?r1
       case y1 => (try dsimp only at hSw); first | (go_simp; done) | (go_simp; with_reducible rfl)
       try simp only [Act.put, List.setIfInBounds_toArray, List.set_cons_zero, List.set_cons_succ, List.getElem_toArray, List.getElem_cons_zero, List.getElem_cons_succ]
       refine wpAnyH_take (i := 1) (v := ?v2) rfl (by kernel_rfl) (by kernel_rfl) (by kernel_rfl) (fun _ _ _ h => h) (Or.inl ⟨by rfl, fun w hSw => ?y2⟩) hHeld ?r2
       case y2 => (try dsimp only at hSw); first | (go_simp; done) | (go_simp; with_reducible rfl)
       try simp only [Act.put, List.setIfInBounds_toArray, List.set_cons_zero, List.set_cons_succ, List.getElem_toArray, List.getElem_cons_zero, List.getElem_cons_succ]
       refine wpAnyH_take (i := 3) (v := ?v3) rfl (by kernel_rfl) (by kernel_rfl) (by kernel_rfl) (fun _ _ _ h => h) (Or.inl ⟨by rfl, fun w hSw => ?y3⟩) hHeld ?r3
       case y3 => (try dsimp only at hSw); first | (go_simp; done) | (go_simp; with_reducible rfl)
       try simp only [Act.put, List.setIfInBounds_toArray, List.set_cons_zero, List.set_cons_succ, List.getElem_toArray, List.getElem_cons_zero, List.getElem_cons_succ]
       refine wpAnyH_ready (rs := [2, 4]) (by kernel_rfl) (by simp) ?_
       refine AllReadyH.cons rfl (fun K hK => ?_) (AllReadyH.cons rfl (fun K hK => ?_) AllReadyH.nil)
       ·go_simp
        go_wp2_with fail
        refine hK.out _ _ trivial (fun hHeld1 => ?_)
        clear hK K
        try simp only [Act.put, List.setIfInBounds_toArray, List.set_cons_zero, List.set_cons_succ, List.getElem_toArray, List.getElem_cons_zero, List.getElem_cons_succ]
        refine wpAnyH_ready (rs := [4]) (by kernel_rfl) (by simp) ?_
        refine AllReadyH.cons rfl (fun K hK => ?_) AllReadyH.nil
        go_simp
        refine (HSH.out _).mono ?_
        rintro e w' ⟨rfl, rfl⟩
        go_wp2_with fail
        refine hK.out _ _ trivial (fun hHeld2 => ?_)
        clear hK K
        try simp only [Act.put, List.setIfInBounds_toArray, List.set_cons_zero, List.set_cons_succ, List.getElem_toArray, List.getElem_cons_zero, List.getElem_cons_succ]
        refine wpAnyH_take (i := 5) (v := ?v4) rfl (by kernel_rfl) (by kernel_rfl) (by kernel_rfl) (fun _ _ _ h => h) (Or.inl ⟨by rfl, fun w hSw => ?y4⟩) hHeld2 ?r4
        case y4 => (try dsimp only at hSw); first | (go_simp; done) | (go_simp; with_reducible rfl)
        try simp only [Act.put, List.setIfInBounds_toArray, List.set_cons_zero, List.set_cons_succ, List.getElem_toArray, List.getElem_cons_zero, List.getElem_cons_succ]
        refine wpAnyH_take (i := 6) (v := ?v5) rfl (by kernel_rfl) (by kernel_rfl) (by kernel_rfl) (fun _ _ _ h => h) (Or.inl ⟨by rfl, fun w hSw => ?y5⟩) hHeld2 ?r5
        case y5 => (try dsimp only at hSw); first | (go_simp; done) | (go_simp; with_reducible rfl)
        try simp only [Act.put, List.setIfInBounds_toArray, List.set_cons_zero, List.set_cons_succ, List.getElem_toArray, List.getElem_cons_zero, List.getElem_cons_succ]
        refine wpAnyH_ready (rs := [7]) (by kernel_rfl) (by simp) ?_
        refine AllReadyH.cons rfl (fun K hK => ?_) AllReadyH.nil
        go_simp
        go_wp2_with fail
        refine hK.out _ _ trivial (fun hHeld3 => ?_)
        clear hK K
        try simp only [Act.put, List.setIfInBounds_toArray, List.set_cons_zero, List.set_cons_succ, List.getElem_toArray, List.getElem_cons_zero, List.getElem_cons_succ]
        refine wpAnyH_done (by kernel_rfl) ?_ _
        go_wp2_with fail
        go_roundw
        case rel => exact ⟨j + 1, by omega, by go_num, HC5, HB6⟩
        case measure => simp [intOf]; omega
       ·go_simp
        refine (HSH.out _).mono ?_
        rintro e w' ⟨rfl, rfl⟩
        go_wp2_with fail
        refine hK.out _ _ trivial (fun hHeld1 => ?_)
        clear hK K
        try simp only [Act.put, List.setIfInBounds_toArray, List.set_cons_zero, List.set_cons_succ, List.getElem_toArray, List.getElem_cons_zero, List.getElem_cons_succ]
        refine wpAnyH_ready (rs := [2]) (by kernel_rfl) (by simp) ?_
        refine AllReadyH.cons rfl (fun K hK => ?_) AllReadyH.nil
        go_simp
        go_wp2_with fail
        refine hK.out _ _ trivial (fun hHeld2 => ?_)
        clear hK K
        try simp only [Act.put, List.setIfInBounds_toArray, List.set_cons_zero, List.set_cons_succ, List.getElem_toArray, List.getElem_cons_zero, List.getElem_cons_succ]
        refine wpAnyH_take (i := 5) (v := ?v6) rfl (by kernel_rfl) (by kernel_rfl) (by kernel_rfl) (fun _ _ _ h => h) (Or.inl ⟨by rfl, fun w hSw => ?y6⟩) hHeld2 ?r6
        case y6 => (try dsimp only at hSw); first | (go_simp; done) | (go_simp; with_reducible rfl)
        try simp only [Act.put, List.setIfInBounds_toArray, List.set_cons_zero, List.set_cons_succ, List.getElem_toArray, List.getElem_cons_zero, List.getElem_cons_succ]
        refine wpAnyH_take (i := 6) (v := ?v7) rfl (by kernel_rfl) (by kernel_rfl) (by kernel_rfl) (fun _ _ _ h => h) (Or.inl ⟨by rfl, fun w hSw => ?y7⟩) hHeld2 ?r7
        case y7 => (try dsimp only at hSw); first | (go_simp; done) | (go_simp; with_reducible rfl)
        try simp only [Act.put, List.setIfInBounds_toArray, List.set_cons_zero, List.set_cons_succ, List.getElem_toArray, List.getElem_cons_zero, List.getElem_cons_succ]
        refine wpAnyH_ready (rs := [7]) (by kernel_rfl) (by simp) ?_
        refine AllReadyH.cons rfl (fun K hK => ?_) AllReadyH.nil
        go_simp
        go_wp2_with fail
        refine hK.out _ _ trivial (fun hHeld3 => ?_)
        clear hK K
        try simp only [Act.put, List.setIfInBounds_toArray, List.set_cons_zero, List.set_cons_succ, List.getElem_toArray, List.getElem_cons_zero, List.getElem_cons_succ]
        refine wpAnyH_done (by kernel_rfl) ?_ _
        go_wp2_with fail
        go_roundw
        case rel => exact ⟨j + 1, by omega, by go_num, HC5, HB6⟩
        case measure => simp [intOf]; omega
     ·have hje : j = k := by omega
      subst hje
      have hd : decide ((j : Int) < (j : Int)) = false := by simp
      have hb2 := HM.out.b2
      have hlt2 := HM.out.lt2
      have hvl := HVL.out
      rw [show Y5z vs (.string ByteArray.empty) j = vs from by rw [← hvl]; exact Yp1 vs _] at hb2
      have HROW := Lib.hid (Y17 hb2 hlt2)
      have HX2 := Lib.hid (show zs.length = j from HX.out)
      have HFULL := Lib.hid (show ((T : Int) == 1073741824) = decide (startN (Y1v zs) 31 = 1073741824) by rw [HEQ.out, ← HTE.out, HLE.out])
      clear hb2 hlt2 hvl
      go_wp2_with fail
      go_ret3
      refine ⟨HB.out, .inr ⟨HE.out, some ⟨nw, 0, none⟩, j, by rw [HX2.out, ← HFULL.out]; rfl, ?_, (fun h => by cases h), by rw [HX2.out]; exact Nat.le_refl _, by unfold maxLen; omega, fun a h => by injection h with h; subst h; exact hn2'⟩⟩
      have := HROW.out
      rw [HVS.out, HLE.out] at this
      exact this
end Go.Proofs.YtkkfkmoikcmhoaaGreat.Hf
namespace Go.Proofs.YtkkfkmoikcmhoaaGreat.Hf
open Go.RowKit Oct Bit
set_option maxRecDepth 100000
def Y8d (w : World) (l : List Bool) (e : Ending) (w' : World) : Prop :=
 w = w' ∧ ((∃ a k, l = a ++ false :: List.replicate k true ∧ e = .returned (.tuple #[.string (ds (a ++ true :: zs k)), .bool true])) ∨
  (l = List.replicate l.length true ∧ e = .returned (.tuple #[.string ⟨#[]⟩, .bool false])))
def Yzz : Value → Nat
 | .string b => b.size
 | _ => 0
set_option maxHeartbeats 1000000 in
theorem Ydo (l : List Bool) (w : World) (hl : l.length ≤ 100000) : Calls Tryz.prog 96 #[.string (ds l)] w (Y8d w l) := by
 have hsz := Y0w l
 go_enter Tryz.func96, Tryz.ntmps96
 go_wp2_with fail
 go_loop [4, 5] (fun i s => ∃ k : Nat, k ≤ l.length ∧ i = .int .i64 ((l.length : Int) - 1 - (k : Int)) ∧ Hid (l.drop (l.length - k) = List.replicate k true)) (fun i _ => (intOf i + 1).toNat)
 case atStart => exact ⟨0, by omega, by go_num, Lib.hid (by simp)⟩
 case round =>
  obtain ⟨k, hk, rfl, hH⟩ := hrel
  by_cases hlt : k < l.length
  ·obtain ⟨i, hi⟩ : ∃ i : Nat, i = l.length - 1 - k := ⟨_, rfl⟩
   have hil : i < l.length := by omega
   have HIK := Lib.hid (show i + 1 + k = l.length by omega)
   rw [show (l.length : Int) - 1 - (k : Int) = (i : Int) by omega]
   obtain ⟨b, hb⟩ : ∃ b, b = l[i] := ⟨_, rfl⟩
   have hg : ∀ h, (ds l)[i]'h = dig b := fun h => (Yop l i h hil).trans (by rw [hb])
   have hdr : l.drop (l.length - k) = l.drop (i + 1) := by congr 1; omega
   have hcut : l.drop i = b :: l.drop (i + 1) := by rw [hb]; exact List.drop_eq_getElem_cons hil
   have HH := Lib.hid (hdr.symm.trans hH.out)
   have HCUT := Lib.hid hcut
   have i0 : (0 : Int) ≤ (i : Int) := by omega
   have hd : decide ((0 : Int) ≤ (i : Int)) = true := by simp
   clear hb hdr hcut hH hi hk hlt
   cases b
   ·have hz2 : (ds (l.take i)).size = i := by rw [Y0w, List.length_take]; omega
    have hx := Y4p l 0 i
    rw [List.drop_zero, Nat.sub_zero] at hx
    have hap : ds (l.take i) ++ { data := #[49] } = ds (l.take i ++ [true]) := Y21 (l.take i) [true]
    have hz1 : ({ data := #[49] } : ByteArray).size = 1 := rfl
    have hdb : (((dig false).toNat : Int) == 48) = true := rfl
    go_wp2_with fail
    generalize hae : l.take i = a at *
    have HA := Lib.hid hae.symm
    clear hae
    have HAL := Lib.hid (show a.length = i by rw [← Y0w]; exact hz2)
    have hn1 : decide ((0 : Int) ≤ (i : Int)) = true := hd
    clear hx hap hz2
    go_loop [5] (fun s => ∃ j : Nat, j ≤ k ∧ s = .string (ds (a ++ true :: zs j))) (fun s => l.length - Yzz s)
    case atStart => exact ⟨0, by omega, rfl⟩
    case round =>
     obtain ⟨j, hj, rfl⟩ := hrel
     have hzz : (ds (a ++ true :: zs j)).size = i + 1 + j := by
      rw [Y0w]; simp [Y0a, HAL.out]; omega
     by_cases hjk : j < k
     ·have hap : ds (a ++ true :: zs j) ++ { data := #[48] } = ds (a ++ true :: zs (j + 1)) := by
       refine (Y21 (a ++ true :: zs j) [false]).trans ?_
       rw [List.append_assoc, List.cons_append, show zs j ++ [false] = zs (j + 1) from by simp [zs, List.replicate_succ']]
      have hz0 : ({ data := #[48] } : ByteArray).size = 1 := rfl
      have HZ2 := Lib.hid (show (ds (a ++ true :: zs (j + 1))).size = (ds (a ++ true :: zs j)).size + 1 by rw [← hap, ByteArray.size_append]; rfl)
      have hb1 : (ds (a ++ true :: zs j)).size ≤ 100000 := by have := HIK.out; omega
      have hd4 : (ds (a ++ true :: zs j)).size < l.length := by have := HIK.out; omega
      clear hzz
      go_wp2_with fail
      go_round
      case rel => exact ⟨j + 1, by omega, rfl⟩
      case measure => simp only [Yzz, HZ2.out]; omega
     ·have hje : j = k := by omega
      subst hje
      have hd4 : ¬ (ds (a ++ true :: zs j)).size < l.length := by have := HIK.out; omega
      have hcat : l = a ++ false :: List.replicate j true := by rw [← HH.out, ← HCUT.out, HA.out, List.take_append_drop]
      have HC := Lib.hid hcat
      clear hzz hcat
      go_wp2_with fail
      go_ret2
      exact ⟨rfl, .inl ⟨a, j, HC.out, rfl⟩⟩
   ·have hdb : (((dig true).toNat : Int) == 48) = false := rfl
    go_wp2_with fail
    go_round
    case rel => exact ⟨k + 1, by have := HIK.out; omega, by have := HIK.out; go_num, Lib.hid (by rw [show l.length - (k + 1) = i by have := HIK.out; omega, HCUT.out, HH.out]; rfl)⟩
    case measure => simp [intOf]
  ·have hke : k = l.length := by omega
   subst hke
   have hH' := hH.out
   rw [Nat.sub_self, List.drop_zero] at hH'
   have HH := Lib.hid hH'
   have hneg : (l.length : Int) - 1 - (l.length : Int) = -1 := by omega
   rw [hneg]
   clear hH hH' hneg
   go_wp2_with fail
   go_ret2
   exact ⟨rfl, .inr ⟨HH.out, rfl⟩⟩
end Go.Proofs.YtkkfkmoikcmhoaaGreat.Hf

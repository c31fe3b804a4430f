/- DfY, DgA: merged. -/
import Derived.Test.YtkkfkmoikcmhoaaGreatAay
import Derived.Test.YtkkfkmoikcmhoaaGreatAaz
set_option linter.unusedVariables false
set_option linter.unusedSimpArgs false
namespace Go.Proofs.YtkkfkmoikcmhoaaGreat.Df
open Bit Hf Oct Inf
set_option maxRecDepth 100000
def wgt : List Lzt.Tok → Nat
 | [] => 0
 | t :: l => (if t.len = 0 then 1 else t.len.toNat) + wgt l
theorem Ycd : ∀ a b : List Lzt.Tok, wgt (a ++ b) = wgt a + wgt b
 | [], b => by rw [List.nil_append, wgt, Nat.zero_add]
 | t :: a, b => by rw [List.cons_append, wgt, wgt, Ycd a b, Nat.add_assoc]
theorem Yig {m : Int} : ∀ (l : List Lzt.Tok) (out o : List UInt8), Lzt.Y83 m l out = .ok o → o.length = out.length + wgt l
 | [], out, o, h => by cases h; rfl
 | t :: l, out, o, h => by
  rcases hs : Lzt.Y51 m t out with e | o1
  ·rw [Lzt.Y9z hs] at h; cases h
  ·rw [Lzt.Ya0 hs] at h
   have ih := Yig l o1 o h
   unfold Lzt.Y51 at hs
   rw [wgt]
   by_cases h0 : t.len = 0
   ·rw [if_pos h0] at hs ⊢
    split at hs
    ·cases hs
    ·cases hs
     rw [ih, List.length_append]
     simp
     omega
   ·rw [if_neg h0] at hs ⊢
    split at hs
    ·cases hs
    ·split at hs
     ·cases hs
     ·split at hs
      ·cases hs
      ·cases hs
       rw [ih, Lzt.Y19]
       omega
theorem Ye5 {A B : List (List Bool)} (hA : ∀ i, (A.getD i []).length ≤ 15) (hB : ∀ i, (B.getD i []).length ≤ 15) : ∀ l : List Lzt.Tok, (∀ t ∈ l, Y58 t) → (Y1y A B (l.map conv)).length ≤ 16 * wgt l + 15
 | [], _ => by
  have := hA 256
  rw [List.map_nil, Y1y, wgt]
  omega
 | t :: l, h => by
  have ih := Ye5 hA hB l fun u hu => h u (List.mem_cons_of_mem _ hu)
  have ht := h t List.mem_cons_self
  rw [List.map_cons, Y1y, List.length_append, wgt]
  have hk : (Yec A B (conv t)).length ≤ 16 * (if t.len = 0 then 1 else t.len.toNat) := by
   unfold Yec
   by_cases h0 : t.len = 0
   ·rw [if_pos (show (conv t).len = 0 from h0), if_pos h0]
    exact Nat.le_trans (hA _) (by decide)
   ·rw [if_neg (show ¬ (conv t).len = 0 from h0), if_neg h0]
    have h1 := hA (257 + placeN false (conv t).len.toNat)
    have h2 := hB (placeN true (conv t).dist.toNat)
    have h3 := Yag (conv t).len.toNat
    have h4 := Yjg (conv t).dist.toNat
    unfold Y58 at ht
    simp only [List.length_append]
    omega
  omega
theorem Yjm {us : List Lzt.Tok} {LA LB m : List Nat} (h : OwnM us LA LB m) (last : Bool) : (Yb9 LA LB m last us).length ≤ 4600 + 48 * us.length := by
 obtain ⟨hO, _⟩ := Y4k h
 have h15A : ∀ x ∈ tA LA, x ≤ 15 := fun x hx => h.fa.le x (List.mem_of_mem_take hx)
 have h15B : ∀ x ∈ tB LB, x ≤ 15 := fun x hx => h.fb.le x (List.mem_of_mem_take hx)
 have h1 := Yb6 (Y09 _ 15 h15A) (Y09 _ 15 h15B) (us.map conv)
 have h2 := Y4i hO.m7 (Yea LA LB)
 have h3 := Y3o (Yea LA LB) []
 rw [hO.os, List.length_append, List.length_nil] at h3
 have h4 : (Y5r ((order.take (kM m)).map fun s => m.getD s 0)).length ≤ 57 := by
  have := hO.k2
  rw [Y1m, List.length_map, List.length_take]
  omega
 have a2 := hO.a2
 have b2 := hO.b2
 rw [List.length_map] at h1
 unfold Yb9 Yjl
 simp only [List.length_append, Y00]
 omega
theorem Yxj {us : List Lzt.Tok} {LA LB m : List Nat} (h : OwnM us LA LB m) (hf : ∀ t ∈ us, Y58 t) (last : Bool) : (Yb9 LA LB m last us).length ≤ 4600 + 16 * wgt us := by
 obtain ⟨hO, _⟩ := Y4k h
 have h15A : ∀ x ∈ tA LA, x ≤ 15 := fun x hx => h.fa.le x (List.mem_of_mem_take hx)
 have h15B : ∀ x ∈ tB LB, x ≤ 15 := fun x hx => h.fb.le x (List.mem_of_mem_take hx)
 have h1 := Ye5 (Y09 _ 15 h15A) (Y09 _ 15 h15B) us hf
 have h2 := Y4i hO.m7 (Yea LA LB)
 have h3 := Y3o (Yea LA LB) []
 rw [hO.os, List.length_append, List.length_nil] at h3
 have h4 : (Y5r ((order.take (kM m)).map fun s => m.getD s 0)).length ≤ 57 := by
  have := hO.k2
  rw [Y1m, List.length_map, List.length_take]
  omega
 have a2 := hO.a2
 have b2 := hO.b2
 unfold Yb9 Yjl
 simp only [List.length_append, Y00]
 omega
theorem Y99 (S : List Nat) : ∀ (l : List Nat) (off : Nat) (S : List Nat), (∀ i, 0 < l.getD i 0 → off + i ∈ S) → l.countP (0 < ·) ≤ S.length
 | [], off, S, h => Nat.zero_le _
 | x :: l, off, S, h => by
  rw [List.countP_cons]
  by_cases hx : 0 < x
  ·have h0 : off ∈ S := by have := h 0 (by simpa using hx); simpa using this
   have ih := Y99 S l (off + 1) (S.erase off) (fun i hi => by
    have := h (i + 1) (by simpa using hi)
    rw [List.mem_erase_of_ne (by omega)]
    rwa [show off + (i + 1) = off + 1 + i from by omega] at this)
   rw [List.length_erase_of_mem h0] at ih
   have : 0 < S.length := List.length_pos_of_mem h0
   rw [if_pos (by simpa using hx)]
   omega
  ·have ih := Y99 S l (off + 1) S (fun i hi => by
    have := h (i + 1) (by simpa using hi)
    rwa [show off + (i + 1) = off + 1 + i from by omega] at this)
   rw [if_neg (by simpa using hx)]
   omega
theorem Y9m (L : List Nat) (i j : Nat) (h : 0 < (bump L i).getD j 0) : j = i ∨ 0 < L.getD j 0 := by
 by_cases e : i = j
 ·exact .inl e.symm
 ·right
  unfold bump at h
  rw [List.getD_eq_getElem?_getD (l := L.set i _), List.getElem?_set, if_neg e] at h
  rw [List.getD_eq_getElem?_getD]
  exact h
theorem Yiu : ∀ (l : List Lzt.Tok) (c : List Nat × List Nat),
  (∀ j, 0 < (l.foldl Y6b c).1.getD j 0 → 0 < c.1.getD j 0 ∨ ∃ t ∈ l, (t.len = 0 ∧ j = t.lit.toNat) ∨ (t.len ≠ 0 ∧ j = 257 + placeN false t.len.toNat)) ∧
  (∀ j, 0 < (l.foldl Y6b c).2.getD j 0 → 0 < c.2.getD j 0 ∨ ∃ t ∈ l, t.len ≠ 0 ∧ j = placeN true t.dist.toNat)
 | [], c => ⟨fun j h => .inl h, fun j h => .inl h⟩
 | s :: l, c => by
  obtain ⟨h1, h2⟩ := Yiu l (Y6b c s)
  rw [List.foldl_cons]
  refine ⟨fun j h => ?_, fun j h => ?_⟩
  ·rcases h1 j h with e | ⟨t, ht, e⟩
   ·unfold Y6b at e
    split at e
    ·rename_i h0
     rcases Y9m _ _ _ e with q | q
     ·exact .inr ⟨s, List.mem_cons_self, .inl ⟨h0, q⟩⟩
     ·exact .inl q
    ·rename_i h0
     rcases Y9m _ _ _ e with q | q
     ·exact .inr ⟨s, List.mem_cons_self, .inr ⟨h0, q⟩⟩
     ·exact .inl q
   ·exact .inr ⟨t, List.mem_cons_of_mem _ ht, e⟩
  ·rcases h2 j h with e | ⟨t, ht, e⟩
   ·unfold Y6b at e
    split at e
    ·exact .inl e
    ·rename_i h0
     rcases Y9m _ _ _ e with q | q
     ·exact .inr ⟨s, List.mem_cons_self, h0, q⟩
     ·exact .inl q
   ·exact .inr ⟨t, List.mem_cons_of_mem _ ht, e⟩
theorem Yes : (∀ j, 0 < Yit.1.getD j 0 → j = 256) ∧ (∀ j, 0 < Yit.2.getD j 0 → False) := by
 refine ⟨fun j h => ?_, fun j h => ?_⟩
 ·unfold Yit at h
  rw [List.getD_eq_getElem?_getD, List.getElem?_set] at h
  split at h
  ·rename_i e; exact e.symm
  ·rw [List.getElem?_replicate] at h
   split at h <;> exact absurd h (by decide)
 ·unfold Yit at h
  rw [List.getD_eq_getElem?_getD, List.getElem?_replicate] at h
  split at h <;> exact absurd h (by decide)
theorem Yxh {c : UInt8} {n : Nat} {LA LB m : List Nat} (hn1 : 1 ≤ n) (hn : n ≤ 100000) (h : OwnM (Lzt.Y0k c n) LA LB m) : (Y0m true (Yb9 LA LB m true (Lzt.Y0k c n))).length ≤ 100 + n / 32 := by
 obtain ⟨hO, _⟩ := Y4k h
 have h15A : ∀ x ∈ tA LA, x ≤ 15 := fun x hx => h.fa.le x (List.mem_of_mem_take hx)
 have h15B : ∀ x ∈ tB LB, x ≤ 15 := fun x hx => h.fb.le x (List.mem_of_mem_take hx)
 refine Ypz h15A h15B c n hO.k2 hn ?_
 refine Nat.le_trans (Y4i hO.m7 _) ?_
 have hms := Ybx (tA LA ++ tB LB) _ 0 (Nat.le_refl _) (Nat.zero_le _)
 have hz := Yvm (tA LA ++ tB LB) 0
 have hlen : (tA LA ++ tB LB).length ≤ 316 := by rw [List.length_append]; have := hO.a2; have := hO.b2; omega
 have hne : ¬ Lzt.Y0k c n = [] := by unfold Lzt.Y0k; rw [if_neg (by omega)]; exact List.cons_ne_nil _ _
 have hF : Y5d (Lzt.Y0k c n) = Y49 (Lzt.Y0k c n) := by unfold Y5d; rw [if_neg hne]
 obtain ⟨f1, f2⟩ := Yiu (Lzt.Y0k c n) Yit
 obtain ⟨mm, m1, m2, hall⟩ := Lzt.Yvx c n
 have hA : (tA LA).countP (0 < ·) ≤ [256, c.toNat, 257 + placeN false 258, 257 + placeN false mm].length := by
  refine Y99 [] (tA LA) 0 _ fun i hi => ?_
  rw [Y6r] at hi
  have hc : 0 < (Y49 (Lzt.Y0k c n)).1.getD i 0 := by
   rw [← hF]
   rcases Nat.eq_zero_or_pos ((Y5d (Lzt.Y0k c n)).1.getD i 0) with e | e
   ·rcases Nat.lt_or_ge i (Y5d (Lzt.Y0k c n)).1.length with q | q
    ·rw [h.fa.zero i q e] at hi; exact absurd hi (by decide)
    ·rw [Y3v (by rw [h.fa.len]; exact q)] at hi; exact absurd hi (by decide)
   ·exact e
  rw [Nat.zero_add]
  rcases f1 i hc with e | ⟨t, ht, e⟩
  ·rw [Yes.1 i e]; exact List.mem_cons_self
  ·rcases hall t ht with rfl | rfl | rfl
   ·rcases e with ⟨_, e⟩ | ⟨q, _⟩
    ·rw [e]; simp
    ·exact absurd rfl q
   ·rcases e with ⟨q, _⟩ | ⟨_, e⟩
    ·exact absurd q (by decide)
    ·rw [e]; simp
   ·rcases e with ⟨q, _⟩ | ⟨_, e⟩
    ·exact absurd q (by show ¬ (mm : Int) = 0; omega)
    ·rw [e]; simp
 have hB : (tB LB).countP (0 < ·) ≤ [placeN true 1].length := by
  refine Y99 [] (tB LB) 0 _ fun i hi => ?_
  rw [Yie] at hi
  have hc : 0 < (Y49 (Lzt.Y0k c n)).2.getD i 0 := by
   rw [← hF]
   rcases Nat.eq_zero_or_pos ((Y5d (Lzt.Y0k c n)).2.getD i 0) with e | e
   ·rcases Nat.lt_or_ge i (Y5d (Lzt.Y0k c n)).2.length with q | q
    ·rw [h.fb.zero i q e] at hi; exact absurd hi (by decide)
    ·rw [Y3v (by rw [h.fb.len]; exact q)] at hi; exact absurd hi (by decide)
   ·exact e
  rw [Nat.zero_add]
  rcases f2 i hc with e | ⟨t, ht, e0, e⟩
  ·exact (Yes.2 i e).elim
  ·rcases hall t ht with rfl | rfl | rfl
   ·exact absurd rfl e0
   ·rw [e]; exact List.mem_cons_self
   ·rw [e]; exact List.mem_cons_self
 have hnz : nzC (tA LA ++ tB LB) 0 ≤ 5 := by
  unfold nzC
  rw [List.drop_zero, List.countP_append]
  simp only [List.length_cons, List.length_nil] at hA hB
  omega
 unfold Yea
 have : ((tA LA ++ tB LB).length - 0) / 138 ≤ 2 := by omega
 omega
end Go.Proofs.YtkkfkmoikcmhoaaGreat.Df
namespace Go.Proofs.YtkkfkmoikcmhoaaGreat.Df
open Go.RowKit Oct Bit Hf Inf
set_option maxRecDepth 100000
def Yw9 (LA LB m : List Nat) : List Bool :=
 Y07 true ((tA LA).length - 257) 5 ++ (Y07 true ((tB LB).length - 1) 5 ++ (Y07 true (kM m - 4) 4 ++ (Y5r ((order.take (kM m)).map fun s => m.getD s 0) ++ (Yea LA LB).flatMap (Yeb (Y03 m)))))
theorem Ywa (LA LB m : List Nat) (l : List Tok) : Yjl (tA LA) (tB LB) m (kM m) (Yea LA LB) l = Yw9 LA LB m ++ Y1y (Y03 LA) (Y03 LB) l := by
 unfold Yjl Yw9
 rw [Ygm]
 simp only [List.append_assoc]
theorem Ygo {w : World} {C : Nat} {p : Option Addr} {L : List Nat} (h : VRow w C p (ints (Y05 L))) (k : Nat) : VRow w C p (ints (Y05 (L.take k))) := by
 intro hp
 have e : ints (Y05 (L.take k)) = (ints (Y05 L)).take k := by simp [ints, Y05, List.map_take]
 rw [e] at hp ⊢
 rw [List.length_take] at hp
 obtain ⟨b, off, rfl, hb, hc⟩ := h (by omega)
 exact ⟨b, off, rfl, hb, fun i hi => by rw [List.length_take] at hi; rw [hc i (by omega), List.getElem_take]⟩
theorem Ygt {L : List Nat} {i : Nat} (h : 1 ≤ L.getD i 0) : ∃ wd, (Y03 L)[i]? = some wd ∧ wd ≠ [] ∧ (Y03 L).getD i [] = wd := by
 have hi : i < L.length := by
  rcases Nat.lt_or_ge i L.length with q | q
  ·exact q
  ·rw [Y3v q] at h; exact absurd h (by decide)
 have hi2 : i < (Y03 L).length := by rw [Y0e]; exact hi
 refine ⟨_, List.getElem?_eq_getElem hi2, fun e => ?_, by rw [List.getD_eq_getElem?_getD, List.getElem?_eq_getElem hi2]; rfl⟩
 have h9 := Y4b L i hi2 hi
 rw [e] at h9
 rw [Y5n hi, ← h9] at h
 exact absurd h (by decide)
def DscP (w : World) (E0 : Ke) (v : Value) (l : List Bool) (LA LB : List Nat) (e : Ending) (w' : World) : Prop :=
 e = .returned (.tuple #[]) ∧ ∃ m, FineC (Y8z (Yea LA LB)) 7 m ∧ EnT w E0 v (l ++ Yw9 LA LB m) w'
theorem Yoe {c : List Nat} {most : Nat} {ls : List Nat} (h : Yys c most ls) : FineC c most ls := by
 have hn := Yhs c
 have h1 := h.len
 rw [Y02] at h1
 refine ⟨h1, fun i hi h0 => h.zero i (by rw [Y02]; exact hi) ?_, ?_⟩
 ·rw [List.getD_eq_getElem?_getD] at h0 ⊢
  rw [List.getElem?_eq_getElem hi] at h0
  simp only [Y05, List.getElem?_map, List.getElem?_eq_getElem hi]
  simpa using h0
 ·have h3 := h.least
  rw [hn] at h3
  exact h3
theorem Yxe {LA LB : List Nat} (hA : LA.length = 286) (hB : LB.length = 30) : (Yea LA LB).length ≤ 316 := by
 have h := Yaf (tA LA ++ tB LB) _ 0 (Nat.le_refl _)
 have h1 : (tA LA).length ≤ 286 := by unfold tA; rw [List.length_take]; omega
 have h2 : (tB LB).length ≤ 30 := by unfold tB; rw [List.length_take]; omega
 rw [List.length_append] at h
 unfold Yea
 omega
set_option maxHeartbeats 4000000 in
theorem Yex (w : World) (E0 : Ke) (v : Value) (l : List Bool) (b1 b2 : Nat) (ts : List Lzt.Tok) (LA LB : List Nat) (h : En w E0 v l)
  (hA : VRow w w.heap.size (some ⟨b1, 0, none⟩) (ints (Y05 LA))) (hB : VRow w w.heap.size (some ⟨b2, 0, none⟩) (ints (Y05 LB)))
  (fA : FineC (Y5d ts).1 15 LA) (fB : FineC (Y5d ts).2 15 LB) (hl : l.length ≤ 1900000) :
  Calls Tryz.prog 83 #[.pointer (some ⟨E0.e, 0, none⟩), .slice (some ⟨b1, 0, none⟩) 286 286, .slice (some ⟨b2, 0, none⟩) 30 30] w (DscP w E0 v l LA LB) := by
 have hlA : LA.length = 286 := by rw [fA.len]; exact (Y74 ts).1
 have hlB : LB.length = 30 := by rw [fB.len]; exact (Y74 ts).2
 obtain ⟨ka, hka⟩ : ∃ ka, ka = Y1z LA 257 LA.length := ⟨_, rfl⟩
 obtain ⟨kb, hkb⟩ : ∃ kb, kb = Y1z LB 1 LB.length := ⟨_, rfl⟩
 have ka1 := Y3p LA 257 LA.length (by omega)
 have ka2 := Y53 LA 257 LA.length
 have kb1 := Y3p LB 1 LB.length (by omega)
 have kb2 := Y53 LB 1 LB.length
 rw [← hka] at ka1 ka2
 rw [← hkb] at kb1 kb2
 have lA : (tA LA).length = ka := by unfold tA; rw [List.length_take]; omega
 have lB : (tB LB).length = kb := by unfold tB; rw [List.length_take]; omega
 have hT1 := Ye6 w b1 0 286 286 257 LA hA hlA (by omega) (by omega) (by unfold maxLen; omega) (by omega)
 unfold Ys0 at hT1
 rw [← hka] at hT1
 have HT1 := Lib.hid hT1
 have HT2 : Hid (∀ W, Below w.heap.size w W → Calls Tryz.prog 113 #[.slice (some ⟨b2, 0, none⟩) 30 30, .int .i64 1] W (fun e w' => e = .returned (.slice (some ⟨b2, 0, none⟩) kb 30) ∧ Drawn W w')) := Lib.hid fun W hW => by
  have := Ye6 W b2 0 30 30 1 LB ((hB.below hW (Nat.le_refl _)).mono hW.size) hlB (by omega) (by omega) (by unfold maxLen; omega) (by omega)
  unfold Ys0 at this
  rw [← hkb] at this
  exact this
 have HA := Lib.hid hA
 have HB := Lib.hid hB
 have H := Lib.hid h
 have HLA := Lib.hid lA
 have HLB := Lib.hid lB
 have HFA := Lib.hid fA
 have HFB := Lib.hid fB
 have HLL := Lib.hid (And.intro hlA hlB)
 clear hT1 hA hB h lA lB hka hkb
 go_enter Tryz.func83, Tryz.ntmps83
 go_wp2_with fail
 refine HT1.out.mono ?_
 rintro e w1 ⟨rfl, hd1⟩
 have hb1 := hd1.below w.heap.size
 have HB1 := Lib.hid hb1
 clear hd1 hb1 HT1
 go_wp2_with fail
 refine (HT2.out _ HB1.out).mono ?_
 rintro e w2 ⟨rfl, hd2⟩
 have hb2 := HB1.out.trans (hd2.below w.heap.size)
 obtain ⟨W, hW⟩ : ∃ W, W = w2.alloc (.cells #[.slice (some ⟨b1, 0, none⟩) ka 286, .slice (some ⟨b2, 0, none⟩) kb 30] 74) := ⟨_, rfl⟩
 have hbW : Below w.heap.size w W := by rw [hW]; exact hb2.alloc hb2.size _
 have hWz : W.heap.size = w2.heap.size + 1 := by rw [hW]; simp
 have hcw : W.heap[w2.heap.size]? = some (.cells #[.slice (some ⟨b1, 0, none⟩) ka 286, .slice (some ⟨b2, 0, none⟩) kb 30] 74 (0, 0)) := by rw [hW]; exact Array.getElem?_push_size
 have hRW : Yn4 W w2.heap.size [Y05 (tA LA), Y05 (tB LB)] := fun k hk => by
  have hk2 : k = 0 ∨ k = 1 := by simp at hk; omega
  rcases hk2 with rfl | rfl
  ·exact ⟨some ⟨b1, 0, none⟩, 286, by rw [show ([Y05 (tA LA), Y05 (tB LB)] : List (List Int))[0].length = ka from by show (Y05 (tA LA)).length = ka; rw [Y02, HLA.out]]; simp [World.cell?, hcw], Ygo ((HA.out.below hbW (Nat.le_refl _)).mono hbW.size) _, fun e => (by cases e), by show (Y05 (tA LA)).length ≤ 1000; rw [Y02, HLA.out]; omega⟩
  ·exact ⟨some ⟨b2, 0, none⟩, 30, by rw [show ([Y05 (tA LA), Y05 (tB LB)] : List (List Int))[1].length = kb from by show (Y05 (tB LB)).length = kb; rw [Y02, HLB.out]]; simp [World.cell?, hcw], Ygo ((HB.out.below hbW (Nat.le_refl _)).mono hbW.size) _, fun e => (by cases e), by show (Y05 (tB LB)).length ≤ 1000; rw [Y02, HLB.out]; omega⟩
 have hfl : ([Y05 (tA LA), Y05 (tB LB)] : List (List Int)).flatten = Y05 (tA LA ++ tB LB) := by simp [Y05]
 have hcat := Y9w w2.heap.size 2 [Y05 (tA LA), Y05 (tB LB)] W (by omega) hRW (by simp) (by simp)
 rw [hfl] at hcat
 have HCAT : Hid (Calls Tryz.prog 102 #[.slice (some ⟨w2.heap.size, 0, none⟩) 2 2] W (Yyq W (Y05 (tA LA ++ tB LB)))) := Lib.hid hcat
 have HBW := Lib.hid hbW
 have HW := Lib.hid hW
 clear hd2 hb2 HT2 HB1 hbW hW hWz hcw hRW hfl hcat
 go_wp2_with fail
 rw [← HW.out]
 refine HCAT.out.mono ?_
 rintro e w3 ⟨v3, rfl, hown, hb3⟩
 have hbw3 := HBW.out.trans (hb3.mono HBW.out.size)
 have hN : (tA LA ++ tB LB).length = ka + kb := by rw [List.length_append, HLA.out, HLB.out]
 obtain ⟨q3, c3, rfl, hq3, hc3, hc3m, hv3, hn3⟩ := Y2v hown (by rw [Y06, Y02])
 obtain ⟨qb3, qo3, hqe, _, _⟩ := hv3 (by rw [Y06, Y02, hN]; omega)
 subst hqe
 rw [Y02, hN] at hc3 ⊢
 have h15 : ∀ x ∈ tA LA ++ tB LB, x ≤ 15 := fun x hx => (List.mem_append.1 hx).elim (fun hx => HFA.out.le x (List.mem_of_mem_take hx)) (fun hx => HFB.out.le x (List.mem_of_mem_take hx))
 have HPK := Lib.hid (Ym6 w3 qb3 qo3 (ka + kb) c3 (tA LA ++ tB LB) hv3 hN (by omega) (by omega) hc3 hc3m h15)
 have hmo := (Yae h15).2
 have HMO : Hid (∀ op ∈ Yea LA LB, op.1 < 19 ∧ op.2 < 2 ^ wideV op.1) := Lib.hid hmo
 obtain ⟨ops, hops⟩ : ∃ ops, ops = Yea LA LB := ⟨_, rfl⟩
 have hol : ops.length ≤ 316 := by rw [hops]; exact Yxe HLL.out.1 HLL.out.2
 have HOP := Lib.hid hops
 have HB3 := Lib.hid hbw3
 clear hown hb3 hbw3 hN hv3 hn3 hq3 h15 hmo HCAT HW HBW hops
 go_wp2_with fail
 refine HPK.out.mono ?_
 rintro e w4 ⟨hb4, q4, c4, rfl, hf4, hn4⟩
 have e4 : Y17 (tA LA ++ tB LB) 0 = ops := HOP.out.symm
 rw [e4] at hf4 ⊢
 obtain ⟨N, hN⟩ : ∃ N, N = ops.length := ⟨_, rfl⟩
 rw [← hN] at hol ⊢
 have HNN := Lib.hid hN
 have hbw4 := HB3.out.trans (hb4.mono HB3.out.size)
 have HCM := Lib.hid (Ybf w4 q4 N c4 ops hf4 hN.symm (by omega) (fun op hop => (HMO.out op (by rw [← HOP.out]; exact hop)).1))
 have HF4 := Lib.hid hf4
 have HB4 := Lib.hid hbw4
 have HN4 : Hid (∀ k, At q4 k → w.heap.size ≤ k) := Lib.hid fun k hk => Nat.le_trans HB3.out.size (hn4 k hk)
 clear hf4 hb4 hbw4 hn4 HPK HB3 e4 hN
 go_wp2_with fail
 refine HCM.out.mono ?_
 rintro e w5 ⟨bl5, rfl, hb5, hr5, hn5⟩
 have hbw5 := HB4.out.trans (hb5.mono HB4.out.size)
 have hcl := Y9s ops
 have hln := Y5z w5 E0 v l (some ⟨bl5, 0, none⟩) 19 19 7 (Y8z ops) (H.out.below hbw5) hr5.foot.now hcl.1 (by omega) (fun x hx => by have := hcl.2 x hx; have := HNN.out; omega) (by omega) (by omega) (by decide)
 have HLN : Hid (Calls Tryz.prog 82 #[.pointer (some ⟨E0.e, 0, none⟩), .slice (some ⟨bl5, 0, none⟩) 19 19, .int .i64 7] w5 (Yrx w5 (Y8z ops) 7)) := Lib.hid hln
 have HF5 := Lib.hid (HF4.out.below hb5)
 have HB5 := Lib.hid hbw5
 clear hb5 hr5 hn5 hcl hln hbw5 HCM HF4 HB4
 go_wp2_with fail
 refine HLN.out.mono ?_
 rintro e w6 ⟨hb6, bl6, m, rfl, hf6, hn6, hml, hfm⟩
 rw [(Y9s ops).1] at hml ⊢
 have fm : FineC (Y8z ops) 7 m := Yoe hfm
 have hbw6 := HB5.out.trans (hb6.mono HB5.out.size)
 have HIO := Lib.hid (Yhf w6 bl6 0 19 m hf6.now hml)
 have HF6 := Lib.hid (HF5.out.below hb6)
 have HM6 := Lib.hid hf6
 have HB6 := Lib.hid hbw6
 have HFM := Lib.hid fm
 have HML := Lib.hid hml
 have HN6 : Hid (w.heap.size ≤ bl6) := Lib.hid (Nat.le_trans HB5.out.size hn6)
 clear hb6 hf6 hn6 hfm fm hbw6 hml HLN HF5 HB5
 go_wp2_with fail
 refine HIO.out.mono ?_
 rintro e w7 ⟨b7, o7, c7, rfl, hb7, hv7, hc7, hc7m, hn7⟩
 have hbw7 := HB6.out.trans (hb7.mono HB6.out.size)
 obtain ⟨km, hkm⟩ : ∃ km, km = kM m := ⟨_, rfl⟩
 have ht7 := Ye6 w7 b7 o7 19 c7 4 (Y56 m) hv7 (Y13 m) (by omega) hc7 hc7m (by omega)
 unfold Ys0 at ht7
 have HT7 : Hid (Calls Tryz.prog 113 #[.slice (some ⟨b7, o7, none⟩) 19 c7, .int .i64 4] w7 (fun e w' => e = .returned (.slice (some ⟨b7, o7, none⟩) km c7) ∧ Drawn w7 w')) := Lib.hid (by rw [hkm]; exact ht7)
 have km1 : 4 ≤ km := by rw [hkm]; exact Y3p (Y56 m) 4 _ (by rw [Y13]; omega)
 have km2 : km ≤ 19 := by rw [hkm]; have := Y53 (Y56 m) 4 (Y56 m).length; rw [Y13] at this; exact this
 have HKM := Lib.hid hkm
 have HF7 := Lib.hid (HF6.out.below hb7)
 have HM7 := Lib.hid (HM6.out.below hb7)
 have HV7 := Lib.hid (Y5l hv7 (by rw [Y06, Y02, Y13]; omega))
 have HB7 := Lib.hid hbw7
 have HN7 : Hid (w.heap.size ≤ b7) := Lib.hid (Nat.le_trans HB6.out.size hn7)
 clear hb7 hv7 hn7 hbw7 ht7 hkm HIO HF6 HM6 HB6
 go_wp2_with fail
 refine HT7.out.mono ?_
 rintro e w8 ⟨rfl, hd8⟩
 have hb8 := hd8.below w7.heap.size
 have hbw8 := HB7.out.trans (hb8.mono HB7.out.size)
 have HF8 := Lib.hid (HF7.out.below hb8)
 have HM8 := Lib.hid (HM7.out.below hb8)
 have HV8 := Lib.hid (HV7.out.below hb8)
 have HFar4 : Hid (Far E0 v (At q4)) := Lib.hid (Y2a H.out HN4.out)
 have HFar6 : Hid (Far E0 v (· = bl6)) := Lib.hid (Y2a H.out fun k hk => by rw [hk]; exact HN6.out)
 have HFar7 : Hid (Far E0 v (At (some ⟨b7, o7, none⟩))) := Lib.hid (Y2a H.out fun k hk => by obtain ⟨a, e, hk⟩ := hk; injection e with e; subst e; rw [← hk]; exact HN7.out)
 have HB8 := Lib.hid hbw8
 have hOW := (Y4k (ts := ts) ⟨HFA.out, HFB.out, by rw [← HOP.out]; exact HFM.out⟩).1
 rw [← HOP.out] at hOW
 have HOW := Lib.hid hOW
 have HU8 := Lib.hid (Und.start (H.out.below hbw8))
 have HNA : Hid (Calls Tryz.prog 72 #[.pointer (some ⟨E0.e, 0, none⟩), .int .i64 ((ka : Int) - 257), .int .i64 5] w8 (fun e w' => e = .returned (.tuple #[]) ∧ EnT w8 E0 v (l ++ Y07 true (ka - 257) 5) w')) := Lib.hid (by rw [show (ka : Int) - 257 = ((ka - 257 : Nat) : Int) from by omega]; exact Y0r w8 E0 v l (ka - 257) 5 HU8.out.en (by omega) (by omega) (by omega) (by omega))
 clear hd8 hb8 hbw8 hOW HT7 HF7 HM7 HV7 HB7 HA HB
 go_wp2_with fail
 refine HNA.out.mono ?_
 rintro e w9 ⟨rfl, ht⟩
 obtain ⟨v9, hU9⟩ := HU8.out.more ht
 have HNB : Hid (Calls Tryz.prog 72 #[.pointer (some ⟨E0.e, 0, none⟩), .int .i64 ((kb : Int) - 1), .int .i64 5] w9 (fun e w' => e = .returned (.tuple #[]) ∧ EnT w9 E0 v9 (l ++ Y07 true (ka - 257) 5 ++ Y07 true (kb - 1) 5) w')) := Lib.hid (by rw [show (kb : Int) - 1 = ((kb - 1 : Nat) : Int) from by omega]; exact Y0r w9 E0 v9 _ (kb - 1) 5 hU9.en (by omega) (by omega) (by omega) (by simp only [List.length_append, Y00]; omega))
 have HU9 := Lib.hid hU9
 clear ht hU9 HU8 HNA
 go_wp2_with fail
 refine HNB.out.mono ?_
 rintro e w10 ⟨rfl, ht⟩
 obtain ⟨v10, hU10⟩ := HU9.out.more ht
 have HNC : Hid (Calls Tryz.prog 72 #[.pointer (some ⟨E0.e, 0, none⟩), .int .i64 ((km : Int) - 4), .int .i64 4] w10 (fun e w' => e = .returned (.tuple #[]) ∧ EnT w10 E0 v10 (l ++ Y07 true (ka - 257) 5 ++ Y07 true (kb - 1) 5 ++ Y07 true (km - 4) 4) w')) := Lib.hid (by rw [show (km : Int) - 4 = ((km - 4 : Nat) : Int) from by omega]; exact Y0r w10 E0 v10 _ (km - 4) 4 hU10.en (by omega) (by omega) (by omega) (by simp only [List.length_append, Y00]; omega))
 have HU10 := Lib.hid hU10
 clear ht hU10 HU9 HNB
 go_wp2_with fail
 refine HNC.out.mono ?_
 rintro e w11 ⟨rfl, ht⟩
 obtain ⟨v11, hU11⟩ := HU10.out.more ht
 obtain ⟨l3, hl3⟩ : ∃ l3, l3 = l ++ Y07 true (ka - 257) 5 ++ Y07 true (kb - 1) 5 ++ Y07 true (km - 4) 4 := ⟨_, rfl⟩
 rw [← hl3] at hU11
 have hl3l : l3.length ≤ 1900014 := by rw [hl3]; simp only [List.length_append, Y00]; omega
 have HL3 := Lib.hid hl3
 have HU110 : Hid (Und w8 w11 E0 v v11 (l3 ++ Y5r ((Y56 m).take 0))) := Lib.hid (by rw [List.take_zero]; show Und w8 w11 E0 v v11 (l3 ++ []); rw [List.append_nil]; exact hU11)
 clear ht hU11 HU10 HNC hl3
 go_wp2_with fail
 go_loopw [47] (fun i wr => ∃ (k : Nat) (v' : Value), k ≤ km ∧ i = .int .i64 (k : Int) ∧ Hid (Und w8 wr E0 v v' (l3 ++ Y5r ((Y56 m).take k)))) (fun i _ => km - (intOf i).toNat)
 case atStart => exact ⟨0, v11, by omega, rfl, HU110⟩
 case round =>
  obtain ⟨k, v12, hkk, rfl, HU⟩ := hrel
  clear HU110
  by_cases hlt : k < km
  ·have ql : decide ((k : Int) < (km : Int)) = true := decide_eq_true (by omega)
   have hcell := Y4o (HU.out.foot HV8.out HFar7.out).now k (by rw [Y13]; omega)
   have hx8 : (Y56 m).getD k 0 < 8 := by
    have := HOW.out.m7
    rw [List.getD_eq_getElem?_getD, Ydj m k (by omega)]
    show m.getD (order.getD k 0) 0 < 8
    rcases Nat.lt_or_ge (order.getD k 0) m.length with q | q
    ·rw [Y5n q]; have := this _ (List.getElem_mem q); omega
    ·rw [Y3v q]; omega
   have htk : Y5r ((Y56 m).take (k + 1)) = Y5r ((Y56 m).take k) ++ Y07 true ((Y56 m).getD k 0) 3 := by
    have hk19 : k < (Y56 m).length := by rw [Y13]; omega
    rw [List.take_succ_eq_append_getElem hk19, Y5n hk19]
    unfold Y5r
    rw [List.flatMap_append]
    simp
   have hlen : (l3 ++ Y5r ((Y56 m).take k)).length ≤ 2000000 := by rw [List.length_append, Y1m, List.length_take]; omega
   generalize (Y56 m).getD k 0 = x at hcell hx8 htk
   have HNK : Hid (Calls Tryz.prog 72 #[.pointer (some ⟨E0.e, 0, none⟩), .int .i64 (x : Int), .int .i64 3] wr (fun e w' => e = .returned (.tuple #[]) ∧ EnT wr E0 v12 (l3 ++ Y5r ((Y56 m).take k) ++ Y07 true x 3) w')) := Lib.hid (Y0r wr E0 v12 _ x 3 HU.out.en (by omega) (by omega) (by omega) hlen)
   have k0 : (0 : Int) ≤ (k : Int) := by omega
   have k1 : (k : Int) < (km : Int) := by omega
   have HTK := Lib.hid htk
   clear hlen htk
   go_wp2_with fail
   refine HNK.out.mono ?_
   rintro e w12 ⟨rfl, ht⟩
   obtain ⟨v13, hU13⟩ := HU.out.more ht
   rw [List.append_assoc, ← HTK.out] at hU13
   have HU13 := Lib.hid hU13
   clear ht hU13 HNK HU
   go_wp2_with fail
   go_roundw
   case rel => exact ⟨k + 1, v13, by omega, by first | rfl | (push_cast; rfl), HU13⟩
   case measure => simp [intOf]; omega
  ·have hkn : k = km := by omega
   have ql : decide ((k : Int) < (km : Int)) = false := decide_eq_false (by omega)
   obtain ⟨l4, hl4⟩ : ∃ l4, l4 = l3 ++ Y5r ((Y56 m).take km) := ⟨_, rfl⟩
   have h12 := HU.out
   rw [hkn, ← hl4] at h12
   have hl4l : l4.length ≤ 1900071 := by rw [hl4, List.length_append, Y1m, List.length_take]; omega
   have HL4 := Lib.hid hl4
   have hbk := Y71 wr E0 v12 l4 (some ⟨bl6, 0, none⟩) 19 19 m h12.en (h12.foot HM8.out HFar6.out).now HML.out (by omega) (fun x hx => by have := HOW.out.m7 x hx; omega) (Nat.le_of_eq HOW.out.mf)
   have HBK := Lib.hid hbk
   have HU12 := Lib.hid h12
   have HM12 := Lib.hid (h12.foot HF8.out HFar4.out)
   have HFM12 := Lib.hid (h12.far HF8.out HFar4.out)
   clear hkn h12 hl4 hbk HU HV8 HM8
   go_wp2_with fail
   refine HBK.out.mono ?_
   rintro e w13 ⟨hb13, g, FG, rfl, hbo, hfn⟩
   have HFG : Hid (Far E0 v12 FG) := Lib.hid (Y2a HU12.out.en hfn)
   have HBO := Lib.hid hbo
   have HU13 := Lib.hid (HU12.out.below hb13)
   have HM13 := Lib.hid (HM12.out.below hb13)
   have HUB : Hid (Und w13 w13 E0 v12 v12 (l4 ++ (ops.take 0).flatMap (Yeb (Y03 m)))) := Lib.hid (by rw [List.take_zero]; show Und w13 w13 E0 v12 v12 (l4 ++ []); rw [List.append_nil]; exact Und.start HU13.out.en)
   clear hb13 hbo hfn HBK HU12 HM12
   go_wp2_with fail
   go_loopw [60] (fun i wr => ∃ (k : Nat) (v' : Value), k ≤ N ∧ i = .int .i64 (k : Int) ∧ Hid (Und w13 wr E0 v12 v' (l4 ++ (ops.take k).flatMap (Yeb (Y03 m))))) (fun i _ => N - (intOf i).toNat)
   case atStart => exact ⟨0, v12, by omega, rfl, HUB⟩
   case round =>
    obtain ⟨k, v14, hkk2, rfl, HU⟩ := hrel
    clear HUB
    by_cases hlt2 : k < N
    ·have ql2 : decide ((k : Int) < (N : Int)) = true := decide_eq_true (by omega)
     have hkl : k < ops.length := by rw [← HNN.out]; exact hlt2
     obtain ⟨b, off, hqe, _, hc⟩ := (HU.out.foot HM13.out HFM12.out).now.2 (by omega)
     have hqe2 := hqe
     subst hqe2
     clear hqe
     obtain ⟨m0, m1, m2⟩ := hc k hkl
     obtain ⟨o19, o1, o2⟩ := HOW.out.ou _ (List.getElem_mem hkl)
     have htk : (ops.take (k + 1)).flatMap (Yeb (Y03 m)) = (ops.take k).flatMap (Yeb (Y03 m)) ++ Yeb (Y03 m) ops[k] := by
      rw [List.take_succ_eq_append_getElem hkl, List.flatMap_append]
      simp
     obtain ⟨wd, w1, w2, w3⟩ := Ygt o1
     have hsl := Yk5 HOW.out.m7 ops[k]
     have hlb := Y4i HOW.out.m7 (ops.take k)
     rw [List.length_take] at hlb
     have hwv : wideV ops[k].1 ≤ 13 := by unfold wideV; split <;> (try split) <;> (try split) <;> omega
     obtain ⟨s, hs⟩ : ∃ s, s = ops[k].1 := ⟨_, rfl⟩
     obtain ⟨y, hy⟩ : ∃ y, y = ops[k].2 := ⟨_, rfl⟩
     obtain ⟨z, hz⟩ : ∃ z, z = wideV ops[k].1 := ⟨_, rfl⟩
     have hsym : Yeb (Y03 m) ops[k] = wd ++ Y07 true y z := by unfold Yeb; rw [w3, ← hy, ← hz]
     rw [hsym] at htk hsl
     rw [← hz] at m2 hwv o2
     rw [← hs] at m0 w1
     rw [← hy] at m1 o2
     rw [List.length_append, Y00] at hsl
     obtain ⟨wb, hwb⟩ : ∃ wb, wb = wr.alloc (.cells #[.int .i64 (s : Int), .int .i64 (y : Int), .int .i64 (z : Int)] 166) := ⟨_, rfl⟩
     have hbb : Below wr.heap.size wr wb := by rw [hwb]; exact (Below.refl _ wr).alloc (Nat.le_refl _) _
     have hUb := HU.out.below hbb
     have hbob : BoS wb FG g (Y03 m) := HBO.out.ent HFG.out hUb.only
     have HMA := Lib.hid (Y3y wb E0 v14 _ FG g (Y03 m) s y z wd hUb.en hbob w1 w2 hwv o2 (by rw [List.length_append]; omega))
     have HUb := Lib.hid hUb
     have HTK := Lib.hid htk
     have HWB := Lib.hid hwb
     have k0 : (0 : Int) ≤ (k : Int) := by omega
     have k1 : (k : Int) < (N : Int) := by omega
     clear hc hkl htk w1 w2 w3 hsl hlb hs hy hz hsym hwb hbb hUb hbob o19 o1 o2 hwv HU
     go_wp2_with fail
     rw [← HWB.out]
     refine HMA.out.mono ?_
     rintro e w15 ⟨rfl, ht⟩
     obtain ⟨v15, hU15⟩ := HUb.out.more ht
     rw [List.append_assoc, ← HTK.out] at hU15
     have HU15 := Lib.hid hU15
     clear ht hU15 HMA HUb m0 m1 m2
     go_wp2_with fail
     go_roundw
     case rel => exact ⟨k + 1, v15, by omega, by first | rfl | (push_cast; rfl), HU15⟩
     case measure => simp [intOf]; omega
    ·have hkn : k = N := by omega
     have ql2 : decide ((k : Int) < (N : Int)) = false := decide_eq_false (by omega)
     have h14 := HU.out
     rw [hkn, List.take_of_length_le (by rw [HNN.out]; exact Nat.le_refl _)] at h14
     have HRES : Hid (EnT w E0 v (l ++ Yw9 LA LB m) wr) := Lib.hid (by
      obtain ⟨v16, h16⟩ := HU13.out.more h14.ent
      have h17 := EnT.more ((Only.of_below (S := fun _ => False) HB8.out).mono (fun _ _ e => False.elim e)) (fun _ e => .inl e) h16.ent
      have e : l ++ Yw9 LA LB m = l4 ++ ops.flatMap (Yeb (Y03 m)) := by
       rw [HL4.out, HL3.out]
       unfold Yw9
       rw [HLA.out, HLB.out, ← HKM.out, ← HOP.out]
       have e2 : (Y56 m).take km = (order.take km).map fun s => m.getD s 0 := by unfold Y56; rw [List.map_take]
       rw [e2]
       simp only [List.append_assoc]
      rw [e]
      exact h17)
     clear hkn h14 HU
     go_wp2_with fail
     go_end0
     exact ⟨rfl, m, by rw [← HOP.out]; exact HFM.out, HRES.out⟩
end Go.Proofs.YtkkfkmoikcmhoaaGreat.Df

/- LmF, DfV, DfF: merged. -/
import Derived.Test.YtkkfkmoikcmhoaaGreatPao
import Derived.Test.YtkkfkmoikcmhoaaGreatPap
import Derived.Test.YtkkfkmoikcmhoaaGreatPaq
import Derived.Test.YtkkfkmoikcmhoaaGreatPas
import Derived.Test.YtkkfkmoikcmhoaaGreatPav
set_option linter.unusedVariables false
set_option linter.unusedSimpArgs false
namespace Go.Proofs.YtkkfkmoikcmhoaaGreat.Lm
open Bit Hf
theorem Ygj (L : List Nat) : ∀ n, startN L (n + 1) = ((L.filter fun x => 1 ≤ x ∧ x ≤ n).map share).sum
 | 0 => by
  rw [Y4z]
  have : L.filter (fun x => decide (1 ≤ x ∧ x ≤ 0)) = [] := by
   rw [List.filter_eq_nil_iff]
   intro x _
   simp
   omega
  rw [this]
  rfl
 | n + 1 => by
  rw [Y3t L (n + 1) (by omega), Ygj L n]
  induction L with
  | nil => simp
  | cons y L ih =>
   rw [List.count_cons, List.filter_cons, List.filter_cons]
   by_cases h1 : 1 ≤ y ∧ y ≤ n
   ·have h2 : 1 ≤ y ∧ y ≤ n + 1 := ⟨h1.1, by omega⟩
    have h3 : (y == n + 1) = false := by rw [beq_eq_false_iff_ne]; omega
    rw [decide_eq_true h1, decide_eq_true h2, h3]
    simp only [if_true, List.map_cons, List.sum_cons, Bool.false_eq_true, if_false, Nat.add_zero]
    omega
   ·by_cases h3 : y = n + 1
    ·have h2 : 1 ≤ y ∧ y ≤ n + 1 := by omega
     have h4 : (y == n + 1) = true := by rw [beq_iff_eq]; exact h3
     rw [decide_eq_false h1, decide_eq_true h2, h4]
     simp only [if_true, List.map_cons, List.sum_cons, Bool.false_eq_true, if_false]
     rw [Nat.add_mul, Nat.one_mul, h3]
     omega
    ·have h2 : ¬ (1 ≤ y ∧ y ≤ n + 1) := by omega
     have h4 : (y == n + 1) = false := by rw [beq_eq_false_iff_ne]; exact h3
     rw [decide_eq_false h1, decide_eq_false h2, h4]
     simp only [Bool.false_eq_true, if_false, Nat.add_zero]
     exact ih
theorem Ybf (L : List Nat) (h : ∀ x ∈ L, x ≤ 30) : startN L 31 = kraft (L.filter (0 < ·)) := by
 rw [Ygj L 30]
 unfold kraft
 congr 2
 refine List.filter_congr fun x hx => ?_
 have := h x hx
 rw [decide_eq_decide]
 omega
theorem Y5w : ∀ (o l : List Nat), l.length = o.length → (∀ i, i < o.length → o.getD i 0 = 0 → l.getD i 0 = 0) → (∀ x ∈ Y4o o l, 1 ≤ x) → Y4o o l = l.filter (0 < ·)
 | [], [], _, _, _ => rfl
 | x :: o, y :: l, hl, hz, h1 => by
  have ih := Y5w o l (by simpa using hl) (fun i hi h => by have := hz (i + 1) (by simpa using hi); simpa using this h)
  by_cases hx : 0 < x
  ·simp only [Y4o, if_pos hx] at h1 ⊢
   have hy := h1 y List.mem_cons_self
   rw [List.filter_cons, if_pos (by simp; omega), ih (fun z hz => h1 z (List.mem_cons_of_mem _ hz))]
  ·simp only [Y4o, if_neg hx] at h1 ⊢
   have hy : y = 0 := by
    have := hz 0 (by simp) (by simp; omega)
    simpa using this
   rw [List.filter_cons, if_neg (by simp [hy]), ih h1]
 | [], y :: l, hl, _, _ => by simp at hl
 | x :: o, [], hl, _, _ => by simp at hl
theorem Ypb {o : List Nat} {L : Nat} {l : List Nat} (hlen : l.length = o.length) (hz : ∀ i, i < o.length → o.getD i 0 = 0 → l.getD i 0 = 0) (h : Least (come o) L (Y4o o l)) (h2 : 2 ≤ (come o).length) (hL : L ≤ 30) (h30 : ∀ x ∈ l, x ≤ 30) : startN l 31 = 1073741824 := by
 rw [Ybf l h30, ← Y5w o l hlen hz h.ok.lo]
 exact h.full hL h2 (Y9g o)
end Go.Proofs.YtkkfkmoikcmhoaaGreat.Lm
namespace Go.Proofs.YtkkfkmoikcmhoaaGreat.Df
open Bit Hf Oct Inf
set_option maxRecDepth 100000
def Y5p (t : Lzt.Tok) : Prop := t.len = 0 ∨ (3 ≤ t.len ∧ t.len ≤ 258 ∧ 1 ≤ t.dist ∧ t.dist ≤ 32768)
def Y27 (l : List Nat) (few : Nat) : Nat → Nat
 | 0 => 0
 | k + 1 => if few < k + 1 ∧ l.getD k 0 = 0 then Y27 l few k else k + 1
theorem Y5f (l : List Nat) (few : Nat) : ∀ k, Y27 l few k ≤ k
 | 0 => Nat.le_refl _
 | k + 1 => by rw [Y27]; split <;> (try have := Y5f l few k) <;> omega
theorem Y3w (l : List Nat) (few : Nat) : ∀ k, few ≤ k → few ≤ Y27 l few k
 | 0, h => h
 | k + 1, h => by
  rw [Y27]
  split
  ·exact Y3w l few k (by omega)
  ·exact h
theorem Y8z (l : List Nat) (few : Nat) : ∀ k i, Y27 l few k ≤ i → i < k → l.getD i 0 = 0
 | 0, i, h1, h2 => by omega
 | k + 1, i, h1, h2 => by
  rw [Y27] at h1
  split at h1
  ·rename_i hc
   by_cases e : i = k
   ·rw [e]; exact hc.2
   ·exact Y8z l few k i h1 (by omega)
  ·omega
def bump (L : List Nat) (i : Nat) : List Nat := L.set i (L.getD i 0 + 1)
theorem Y1l (L : List Nat) (i : Nat) : (bump L i).length = L.length := by simp [bump]
def Y9a (ops : List (Nat × Nat)) : List Nat := ops.foldl (fun c op => bump c op.1) (List.replicate 19 0)
theorem Yd1 (L : List Nat) (i M : Nat) (h : ∀ x ∈ L, x ≤ M) : ∀ x ∈ bump L i, x ≤ M + 1 := fun x hx => by
 unfold bump at hx
 rcases List.mem_or_eq_of_mem_set hx with e | e
 ·have := h x e; omega
 ·rw [e, List.getD_eq_getElem?_getD]
  rcases hg : L[i]? with _ | y
  ·simp
  ·have := h y (List.mem_of_getElem? hg)
   simp
   exact this
theorem Ya6 (ops : List (Nat × Nat)) : (Y9a ops).length = 19 ∧ ∀ x ∈ Y9a ops, x ≤ ops.length := by
 have key : ∀ (ops : List (Nat × Nat)) (L : List Nat) (M : Nat), (∀ x ∈ L, x ≤ M) → (ops.foldl (fun c op => bump c op.1) L).length = L.length ∧ ∀ x ∈ ops.foldl (fun c op => bump c op.1) L, x ≤ M + ops.length := by
  intro ops
  induction ops with
  | nil => intro L M h; exact ⟨rfl, h⟩
  | cons op ops ih =>
   intro L M h
   obtain ⟨h1, h2⟩ := ih (bump L op.1) (M + 1) (Yd1 L op.1 M h)
   rw [List.foldl_cons]
   refine ⟨by rw [h1, Y1l], fun x hx => ?_⟩
   have := h2 x hx
   rw [List.length_cons]
   omega
 obtain ⟨h1, h2⟩ := key ops (List.replicate 19 0) 0 (fun x hx => by rw [(List.mem_replicate.1 hx).2]; exact Nat.le_refl _)
 exact ⟨by unfold Y9a; rw [h1]; simp, fun x hx => by have := h2 x hx; omega⟩
theorem Yok (ops : List (Nat × Nat)) (k : Nat) (h : k < ops.length) : Y9a (ops.take (k + 1)) = bump (Y9a (ops.take k)) ops[k].1 := by
 rw [List.take_succ_eq_append_getElem h, Y9a, List.foldl_append]
 rfl
def Y5m (l : List Nat) : List Nat := order.map fun s => l.getD s 0
theorem Y15 (l : List Nat) : (Y5m l).length = 19 := by unfold Y5m; rw [List.length_map]; rfl
theorem Ydt : ∀ k, k < 19 → order.getD k 0 < 19 := by decide
theorem Yds (l : List Nat) (k : Nat) (h : k < 19) : (Y5m l)[k]? = some (l.getD (order.getD k 0) 0) := by
 have hk : k < order.length := h
 unfold Y5m
 rw [List.getElem?_map, List.getElem?_eq_getElem hk, List.getD_eq_getElem?_getD (l := order), List.getElem?_eq_getElem hk]
 rfl
theorem Yqp (l : List Nat) (k : Nat) (h : k < 19) : (Y5m l).take (k + 1) = (Y5m l).take k ++ [l.getD (order.getD k 0) 0] := by
 rw [List.take_add_one, Yds l k h]
 rfl
def Y6r (c : List Nat × List Nat) (t : Lzt.Tok) : List Nat × List Nat :=
 if t.len = 0 then (bump c.1 t.lit.toNat, c.2) else (bump c.1 (257 + placeN false t.len.toNat), bump c.2 (placeN true t.dist.toNat))
def Yja : List Nat × List Nat := ((List.replicate 286 0).set 256 1, List.replicate 30 0)
def Y4m (l : List Lzt.Tok) : List Nat × List Nat := l.foldl Y6r Yja
def Y5u (l : List Lzt.Tok) : List Nat × List Nat := if l = [] then ((Y4m l).1.set 0 1, (Y4m l).2) else Y4m l
theorem Yoj (l : List Lzt.Tok) (k : Nat) (h : k < l.length) : Y4m (l.take (k + 1)) = Y6r (Y4m (l.take k)) l[k] := by
 rw [List.take_succ_eq_append_getElem h, Y4m, List.foldl_append]
 rfl
theorem Yxj (c : List Nat × List Nat) (t : Lzt.Tok) (M : Nat) (h : c.1.length = 286 ∧ c.2.length = 30 ∧ (∀ x ∈ c.1, x ≤ M) ∧ ∀ x ∈ c.2, x ≤ M) :
  (Y6r c t).1.length = 286 ∧ (Y6r c t).2.length = 30 ∧ (∀ x ∈ (Y6r c t).1, x ≤ M + 1) ∧ ∀ x ∈ (Y6r c t).2, x ≤ M + 1 := by
 obtain ⟨h1, h2, h3, h4⟩ := h
 unfold Y6r
 split
 ·exact ⟨by rw [Y1l]; exact h1, h2, Yd1 _ _ _ h3, fun x hx => by have := h4 x hx; omega⟩
 ·exact ⟨by rw [Y1l]; exact h1, by rw [Y1l]; exact h2, Yd1 _ _ _ h3, Yd1 _ _ _ h4⟩
theorem Yd4 (l : List Lzt.Tok) : (Y4m l).1.length = 286 ∧ (Y4m l).2.length = 30 ∧ (∀ x ∈ (Y4m l).1, x ≤ l.length + 1) ∧ ∀ x ∈ (Y4m l).2, x ≤ l.length + 1 := by
 have key : ∀ (l : List Lzt.Tok) (c : List Nat × List Nat) (M : Nat), (c.1.length = 286 ∧ c.2.length = 30 ∧ (∀ x ∈ c.1, x ≤ M) ∧ ∀ x ∈ c.2, x ≤ M) →
   (l.foldl Y6r c).1.length = 286 ∧ (l.foldl Y6r c).2.length = 30 ∧ (∀ x ∈ (l.foldl Y6r c).1, x ≤ M + l.length) ∧ ∀ x ∈ (l.foldl Y6r c).2, x ≤ M + l.length := by
  intro l
  induction l with
  | nil => intro c M h; exact h
  | cons t l ih =>
   intro c M h
   obtain ⟨h1, h2, h3, h4⟩ := ih _ _ (Yxj c t M h)
   rw [List.foldl_cons]
   exact ⟨h1, h2, fun x hx => by have := h3 x hx; rw [List.length_cons]; omega, fun x hx => by have := h4 x hx; rw [List.length_cons]; omega⟩
 obtain ⟨h1, h2, h3, h4⟩ := key l Yja 1 ⟨by simp [Yja], by simp [Yja], fun x hx => by
  rcases List.mem_or_eq_of_mem_set hx with e | e
  ·rw [(List.mem_replicate.1 e).2]; omega
  ·omega, fun x hx => by rw [(List.mem_replicate.1 hx).2]; omega⟩
 exact ⟨h1, h2, fun x hx => by have := h3 x hx; omega, fun x hx => by have := h4 x hx; omega⟩
theorem Ypc {L : List Nat} {M : Nat} (h : ∀ x ∈ L, x ≤ M) (i : Nat) : L.getD i 0 ≤ M := by
 rw [List.getD_eq_getElem?_getD]
 rcases hg : L[i]? with _ | y
 ·simp
 ·exact h y (List.mem_of_getElem? hg)
end Go.Proofs.YtkkfkmoikcmhoaaGreat.Df
namespace Go.Proofs.YtkkfkmoikcmhoaaGreat.Df
open Go.RowKit Oct Bit Hf Inf
set_option maxRecDepth 100000
def BookP (w : World) (L : List Nat) (e : Ending) (w' : World) : Prop := Below w.heap.size w w' ∧ ∃ g F, e = .returned (.pointer (some ⟨g, 0, none⟩)) ∧ BoS w' F g (Y04 L) ∧ ∀ k, F k → w.heap.size ≤ k
set_option maxHeartbeats 1000000 in
theorem Y7f (w : World) (E0 : Ke) (v : Value) (l : List Bool) (p : Option Addr) (n cap : Nat) (L : List Nat) (h : En w E0 v l) (hr : VRow w w.heap.size p (ints (Y05 L))) (hx : L.length = n) (hn : n ≤ 1000) (h30 : ∀ x ∈ L, x ≤ 30) (hT : startN L 31 ≤ 1073741824) :
  Calls Tryz.prog 75 #[.pointer (some ⟨E0.e, 0, none⟩), .slice p n cap] w (BookP w L) := by
 have hc := Yof p n cap (Y05 L) w hr (by rw [Y01]; exact hx) (by omega)
 have hok := Yod L h30 hT
 have HC := Lib.hid hc
 have HOK := Lib.hid hok
 have H := Lib.hid h
 have HG := Lib.hid (Yha L h30 hT)
 have HS := Lib.hid (Yhb L h30)
 have HX := Lib.hid hx
 clear hc hok h hr hx h30 hT
 go_enter Tryz.func75, Tryz.ntmps75
 go_wp2_with fail
 refine HC.out.mono ?_
 rintro e w1 ⟨hb1, hres⟩
 rcases hres with ⟨hne, _⟩ | ⟨_, q, c, rfl, hv, hq, hlc, hcm, hlo⟩
 ·exact absurd HOK.out hne
 ·rw [Y01, HX.out] at hlc ⊢
  rw [Y3l] at hv ⊢
  have HV := Lib.hid hv
  have HQ := Lib.hid hq
  have HB1 := Lib.hid hb1
  clear hv hq hb1 hlo
  have hE1 := H.out.below HB1.out
  have HK1 := Lib.hid (Y7o w1 E0 v l hE1)
  clear hE1
  go_wp2_with fail
  refine HK1.out.mono ?_
  rintro e w2 ⟨rfl, hb2⟩
  have HB2 := Lib.hid hb2
  have hv2 := (HV.out.below hb2 (Nat.le_refl _)).mono hb2.size
  have HN := Lib.hid (Yur q q n c c (Y42 L) (strs (Y42 L)) w2 hv2 (by rw [Y2g]; exact HX.out) HQ.out hv2 (by rw [Y0z, Y2g]; exact HX.out) HQ.out (by omega) (by exact Ye8) HS.out)
  clear hb2 hv2
  go_wp2_with fail
  refine HN.out.mono ?_
  rintro e w3 ⟨hb3, hres⟩
  rcases hres with ⟨c3, _, _, hbad⟩ | ⟨g, rfl, hg1, hg2, hBK⟩
  ·exact absurd HG.out hbad
  ·have HBK := Lib.hid hBK
   have HB3 := Lib.hid hb3
   have hE3 := ((H.out.below HB1.out).below HB2.out).below hb3
   have HK3 := Lib.hid (Y7o w3 E0 v l hE3)
   clear hBK hb3 hE3
   go_wp2_with fail
   refine HK3.out.mono ?_
   rintro e w4 ⟨rfl, hb4⟩
   have HB4 := Lib.hid hb4
   clear hb4
   go_wp2_with fail
   go_ret
   have z1 := HB1.out.size
   have z2 := HB2.out.size
   have z3 := HB3.out.size
   refine ⟨((HB1.out.trans (HB2.out.mono z1)).trans (HB3.out.mono (by omega))).trans (HB4.out.mono (by omega)), g, fun k => w2.heap.size ≤ k ∧ k < w3.heap.size, rfl, ?_, fun k hk => by omega⟩
   have hB : BoS w3 (fun k => w2.heap.size ≤ k ∧ k < w3.heap.size) g (Y04 L) := ⟨w3.heap.size, strs (Y42 L), fun k hk => hk.2, fun w' hz hs => HBK.out.at w' fun k h1 h2 => hs k ⟨h1, h2⟩⟩
   exact hB.below HB4.out
def X03 (c : List Nat) (most : Nat) (ls : List Nat) : Prop := Lp.Fine (Y05 c) most ls
def Yt5 (w : World) (c : List Nat) (most : Nat) (e : Ending) (w' : World) : Prop := Below w.heap.size w w' ∧ ∃ bl ls, e = .returned (.slice (some ⟨bl, 0, none⟩) c.length c.length) ∧ Foot (· = bl) (fun w' => VRow w' w'.heap.size (some ⟨bl, 0, none⟩) (ints (Y05 ls))) w' ∧ w.heap.size ≤ bl ∧ ls.length = c.length ∧ X03 c most ls
theorem Yi6 (c : List Nat) : Lp.Y0h (Y05 c) = c := Y3l c
theorem Yp9 {w : World} {bl : Nat} {ls : List Nat} (h : Lp.LRow w bl ls) : Foot (· = bl) (fun w' => VRow w' w'.heap.size (some ⟨bl, 0, none⟩) (ints (Y05 ls))) w := by
 have e : Lp.nats ls = ints (Y05 ls) := by unfold Lp.nats ints Y05; rw [List.map_map]; rfl
 unfold Lp.LRow at h
 rw [e] at h
 have hlt : bl < w.heap.size := by
  rcases Nat.lt_or_ge bl w.heap.size with hlt | hge
  ·exact hlt
  ·rw [Array.getElem?_eq_none hge] at h; cases h
 exact ⟨fun k hk => by rw [hk]; exact hlt, fun w' hz hs => Y17 ((hs bl rfl).trans h) (by omega)⟩
set_option maxHeartbeats 1000000 in
theorem Y6i (w : World) (E0 : Ke) (v : Value) (l : List Bool) (p : Option Addr) (n cap most : Nat) (c : List Nat) (h : En w E0 v l) (hr : VRow w w.heap.size p (ints (Y05 c))) (hx : c.length = n) (hn : n ≤ 300) (hc : ∀ x ∈ c, x ≤ 1073741824) (h1 : 1 ≤ most) (hm : most ≤ 30) (h2 : n ≤ 2 ^ most) :
  Calls Tryz.prog 82 #[.pointer (some ⟨E0.e, 0, none⟩), .slice p n cap, .int .i64 (most : Int)] w (Yt5 w c most) := by
 have hL := Lp.Yhz p n cap (most : Int) (Y05 c) w hr (by rw [Y01]; exact hx)
 have hok : Lp.okB (Y05 c) (most : Int) = true := by
  unfold Lp.okB
  simp only [Bool.and_eq_true, decide_eq_true_eq, Bool.not_eq_true']
  refine ⟨⟨⟨by omega, by omega⟩, by rw [Y01]; omega⟩, List.any_eq_false.2 fun z hz => ?_⟩
  obtain ⟨x, hxm, rfl⟩ := List.mem_map.1 hz
  have := hc x hxm
  unfold Lp.Yj4
  simp
  omega
 have hcf := Lp.Yjd (Y05 c)
 rw [Y01, hx] at hcf
 have HL := Lib.hid hL
 have HOK := Lib.hid hok
 have H := Lib.hid h
 have HX := Lib.hid hx
 have HCF : Hid (¬ 2 ^ (most : Int).toNat < (Lm.come (Lp.Y0h (Y05 c))).length) := Lib.hid (by rw [Int.toNat_natCast]; omega)
 clear hL hok h hr hx hc h2 hcf
 go_enter Tryz.func82, Tryz.ntmps82
 go_wp2_with fail
 refine HL.out.mono ?_
 rintro e w1 ⟨hb1, hres⟩
 rcases hres with ⟨hf, _⟩ | ⟨_, hf, _⟩ | ⟨_, _, bl, ls, rfl, hrow, hbl, hfine⟩
 ·rw [HOK.out] at hf; cases hf
 ·exact absurd hf HCF.out
 ·rw [Y01, HX.out]
  have HB1 := Lib.hid hb1
  have HF := Lib.hid (Yp9 hrow)
  have hln : ls.length = c.length := by have := hfine.len; rwa [Y01] at this
  rw [Int.toNat_natCast] at hfine
  have HFI := Lib.hid hfine
  have HLN := Lib.hid hln
  have HK1 := Lib.hid (Y7o w1 E0 v l (H.out.below hb1))
  clear hb1 hrow hfine hln
  go_wp2_with fail
  refine HK1.out.mono ?_
  rintro e w2 ⟨rfl, hb2⟩
  have HB2 := Lib.hid hb2
  clear hb2
  go_wp2_with fail
  go_ret
  exact ⟨HB1.out.trans (HB2.out.mono HB1.out.size), bl, ls, by rw [HX.out]; rfl, HF.out.below HB2.out, hbl, HLN.out, HFI.out⟩
theorem Y50 {w : World} {C : Nat} {b off : Nat} {L : List Nat} (h : VRow w C (some ⟨b, off, none⟩) (ints (Y05 L))) (i : Nat) (hi : i < L.length) : w.cell? ⟨b, off + i, none⟩ = some (.int .i64 ((L.getD i 0 : Nat) : Int)) := by
 have := h.int i (by rw [Y01]; exact hi)
 rw [this]
 simp [Y05, List.getD_eq_getElem?_getD, List.getElem?_eq_getElem hi]
def Yke : Value → Nat
 | .slice _ n _ => n
 | _ => 0
def Yt8 (w : World) (b off cap : Nat) (l : List Nat) (few : Nat) (e : Ending) (w' : World) : Prop := e = .returned (.slice (some ⟨b, off, none⟩) (Y27 l few l.length) cap) ∧ Drawn w w'
set_option maxHeartbeats 1000000 in
theorem Yee (w : World) (b off n cap few : Nat) (l : List Nat) (hr : VRow w w.heap.size (some ⟨b, off, none⟩) (ints (Y05 l))) (hx : l.length = n) (hn : n ≤ 1000) (hc : n ≤ cap) (hc2 : cap ≤ maxLen) (hf : few ≤ 1000) :
  Calls Tryz.prog 113 #[.slice (some ⟨b, off, none⟩) n cap, .int .i64 (few : Int)] w (Yt8 w b off cap l few) := by
 have HC : Hid (∀ V i, Drawn w V → i < n → V.cell? ⟨b, off + i, none⟩ = some (.int .i64 ((l.getD i 0 : Nat) : Int))) := Lib.hid fun V i hd hi => by
  obtain ⟨m, rfl⟩ := hd
  exact Y50 hr i (by omega)
 have HX := Lib.hid hx
 have hcm : cap ≤ 9223372036854775807 := by unfold maxLen at hc2; omega
 clear hr hx hc2
 go_enter Tryz.func113, Tryz.ntmps113
 go_wp2_with fail
 go_loopw [0] (fun s wr => ∃ k : Nat, k ≤ n ∧ s = .slice (some ⟨b, off, none⟩) k cap ∧ Drawn w wr ∧ Hid (Y27 l few k = Y27 l few n)) (fun s _ => Yke s)
 case atStart => exact ⟨n, Nat.le_refl _, rfl, ⟨0, rfl⟩, Lib.hid rfl⟩
 case round =>
  obtain ⟨k, hk, rfl, hdr, HT⟩ := hrel
  by_cases hlt : few < k
  ·obtain ⟨j, rfl⟩ : ∃ j, k = j + 1 := ⟨k - 1, by omega⟩
   have q1 : decide ((few : Int) < ((j + 1 : Nat) : Int)) = true := decide_eq_true (by omega)
   have hcell := HC.out wr j hdr (by omega)
   have j0 : (0 : Int) ≤ (j : Int) := by omega
   have j1 : (j : Int) < ((j + 1 : Nat) : Int) := by omega
   have j2 : (j : Int) ≤ (cap : Int) := by omega
   have HDR := Lib.hid hdr
   clear hdr
   by_cases hz : l.getD j 0 = 0
   ·have hst : Y27 l few (j + 1) = Y27 l few j := by rw [Y27, if_pos ⟨hlt, hz⟩]
    have HT2 := Lib.hid (hst ▸ HT.out)
    rw [hz] at hcell
    clear hst HT hz
    go_wp2_with fail
    go_roundw
    case rel => exact ⟨j, by omega, rfl, HDR.out, HT2⟩
    case measure => simp [Yke]
   ·have hst : Y27 l few (j + 1) = j + 1 := by rw [Y27, if_neg (fun h => hz h.2)]
    have hres : Y27 l few n = j + 1 := HT.out.symm.trans hst
    have HRES := Lib.hid hres
    have q2 : (((l.getD j 0 : Nat) : Int) == 0) = false := by simp; exact hz
    generalize l.getD j 0 = x at hcell q2
    clear hst HT hz hres
    go_wp2_with fail
    go_ret
    refine ⟨?_, HDR.out⟩
    rw [HX.out, HRES.out]
    rfl
  ·have q1 : decide ((few : Int) < (k : Int)) = false := decide_eq_false (by omega)
   have hst : Y27 l few k = k := by
    cases k with
    | zero => rfl
    | succ j => rw [Y27, if_neg (fun h => hlt h.1)]
   have hres : Y27 l few n = k := HT.out.symm.trans hst
   have HRES := Lib.hid hres
   have HDR := Lib.hid hdr
   clear hst HT hres hdr
   go_wp2_with fail
   go_ret
   refine ⟨?_, HDR.out⟩
   rw [HX.out, HRES.out]
   rfl
end Go.Proofs.YtkkfkmoikcmhoaaGreat.Df

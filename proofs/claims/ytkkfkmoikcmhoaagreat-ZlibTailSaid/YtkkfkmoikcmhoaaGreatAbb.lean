/- DfE: merged. -/
import Derived.Test.YtkkfkmoikcmhoaaGreatAae
import Derived.Test.YtkkfkmoikcmhoaaGreatAap
import Derived.Test.YtkkfkmoikcmhoaaGreatAaw
set_option linter.unusedVariables false
set_option linter.unusedSimpArgs false
namespace Go.Proofs.YtkkfkmoikcmhoaaGreat.Df
open Go.RowKit Oct Bit Hf Inf
set_option maxRecDepth 100000
def Yii (A B : List (List Bool)) (t : Lzt.Tok) : Prop :=
 (t.len = 0 → A.getD t.lit.toNat [] ≠ []) ∧ (t.len ≠ 0 → A.getD (257 + placeN false t.len.toNat) [] ≠ [] ∧ B.getD (placeN true t.dist.toNat) [] ≠ [])
def Y5a (A B : List (List Bool)) (l : List Lzt.Tok) : List Bool := l.flatMap fun t => Yec A B (conv t)
theorem Ycc (A B : List (List Bool)) : ∀ l : List Lzt.Tok, Y1y A B (l.map conv) = Y5a A B l ++ A.getD 256 []
 | [] => rfl
 | t :: l => by rw [List.map_cons, Y1y, Ycc A B l, Y5a, Y5a, List.flatMap_cons, List.append_assoc]
theorem Ykp (A B : List (List Bool)) (l : List Lzt.Tok) (k : Nat) (h : k < l.length) : Y5a A B (l.take (k + 1)) = Y5a A B (l.take k) ++ Yec A B (conv l[k]) := by
 rw [List.take_succ_eq_append_getElem h, Y5a, List.flatMap_append]
 simp [Y5a]
theorem Ys6 (A B : List (List Bool)) (l : List Lzt.Tok) (k : Nat) : (Y5a A B (l.take k)).length ≤ (Y5a A B l).length := by
 conv => rhs; rw [← List.take_append_drop k l]
 unfold Y5a
 rw [List.flatMap_append, List.length_append]
 omega
theorem Y4e {W : List (List Bool)} {i : Nat} (h : W.getD i [] ≠ []) : W[i]? = some (W.getD i []) := by
 rw [List.getD_eq_getElem?_getD] at h ⊢
 rcases hx : W[i]? with _ | m
 ·rw [hx] at h; exact absurd rfl h
 ·rfl
structure Amb (w : World) (E0 : Ke) (v : Value) (FT FA FB : Nat → Prop) (p : Option Addr) (ts : List Lzt.Tok) (ga gb bx : Nat) (A B : List (List Bool)) : Prop where
 toks : Foot FT (fun w' => Lzt.Toks w' w'.heap.size p ts) w
 ba : BoS w FA ga A
 bb : BoS w FB gb B
 box : w.heap[bx]? = some (.cells #[.pointer (some ⟨ga, 0, none⟩), .pointer (some ⟨gb, 0, none⟩)] 130 (0, 0))
 ft : Far E0 v FT
 fa : Far E0 v FA
 fb : Far E0 v FB
 fx : bx ≠ E0.gw ∧ v.ownBlock ≠ some bx
structure Cst (w1 wr : World) (E0 : Ke) (v v' : Value) (l : List Bool) (FT FA FB : Nat → Prop) (p : Option Addr) (ts : List Lzt.Tok) (ga gb bx : Nat) (A B : List (List Bool)) : Prop where
 en : En wr E0 v' l
 amb : Amb wr E0 v' FT FA FB p ts ga gb bx A B
 only : Only (Mine E0.gw v) w1 wr
 own : ∀ k, v'.ownBlock = some k → v.ownBlock = some k ∨ w1.heap.size ≤ k
section
variable {w1 wr w2 : World} {E0 : Ke} {v v' : Value} {l l2 : List Bool} {FT FA FB : Nat → Prop} {p : Option Addr} {ts : List Lzt.Tok} {ga gb bx : Nat} {A B : List (List Bool)}
theorem Amb.bxlt (h : Amb wr E0 v FT FA FB p ts ga gb bx A B) : bx < wr.heap.size := by
 rcases Nat.lt_or_ge bx wr.heap.size with hlt | hge
 ·exact hlt
 ·have := h.box; rw [Array.getElem?_eq_none hge] at this; cases this
theorem Amb.ent (h : Amb wr E0 v FT FA FB p ts ga gb bx A B) (ho : Only (Mine E0.gw v) wr w2) (hd : ∀ k, v'.ownBlock = some k → v.ownBlock = some k ∨ wr.heap.size ≤ k) : Amb w2 E0 v' FT FA FB p ts ga gb bx A B := by
 have hbx := h.bxlt
 refine ⟨h.toks.ent h.ft ho, h.ba.ent h.fa ho, h.bb.ent h.fb ho, ?_, Far.ent h.toks h.ft hd, ?_, ?_, h.fx.1, ?_⟩
 ·refine (ho.2.2.2.2 bx hbx (fun e => ?_)).trans h.box
  rcases e with e | e
  ·exact h.fx.1 e
  ·exact h.fx.2 e
 ·obtain ⟨C, ms, hf⟩ := h.ba
  exact Far.ent hf h.fa hd
 ·obtain ⟨C, ms, hf⟩ := h.bb
  exact Far.ent hf h.fb hd
 ·intro e
  rcases hd bx e with e | e
  ·exact h.fx.2 e
  ·omega
theorem Cst.on {v2 : Value} (h : Cst w1 wr E0 v v' l FT FA FB p ts ga gb bx A B) (hE : En w2 E0 v2 l2) (ho : Only (Mine E0.gw v') wr w2) (hd : ∀ k, v2.ownBlock = some k → v'.ownBlock = some k ∨ wr.heap.size ≤ k) : Cst w1 w2 E0 v v2 l2 FT FA FB p ts ga gb bx A B := by
 refine ⟨hE, h.amb.ent ho hd, ?_, fun k hk => ?_⟩
 ·have hz := h.only.2.2.2.1
  refine ⟨ho.1.trans h.only.1, ho.2.1.trans h.only.2.1, ho.2.2.1.trans h.only.2.2.1, Nat.le_trans hz ho.2.2.2.1, fun k hk hn => ?_⟩
  refine (ho.2.2.2.2 k (by omega) (fun hm => hn ?_)).trans (h.only.2.2.2.2 k hk hn)
  rcases hm with e | e
  ·exact .inl e
  ·rcases h.own k e with e | e
   ·exact .inr e
   ·omega
 ·have hz := h.only.2.2.2.1
  rcases hd k hk with e | e
  ·exact h.own k e
  ·exact .inr (by omega)
theorem Cst.more (h : Cst w1 wr E0 v v' l FT FA FB p ts ga gb bx A B) (ht : EnT wr E0 v' l2 w2) : ∃ v2, Cst w1 w2 E0 v v2 l2 FT FA FB p ts ga gb bx A B := by
 obtain ⟨v2, hE, ho, hd⟩ := ht
 exact ⟨v2, h.on hE ho hd⟩
theorem Cst.below (h : Cst w1 wr E0 v v' l FT FA FB p ts ga gb bx A B) (hb : Below wr.heap.size wr w2) : Cst w1 w2 E0 v v' l FT FA FB p ts ga gb bx A B :=
 ⟨h.en.below hb, h.amb.ent ((Only.of_below (S := fun _ => False) hb).mono (fun _ _ e => False.elim e)) (fun _ e => .inl e),
  ⟨hb.os.trans h.only.1, hb.tape.trans h.only.2.1, hb.output.trans h.only.2.2.1, Nat.le_trans h.only.2.2.2.1 hb.size, fun k hk hn => (hb.block k (by have := h.only.2.2.2.1; omega)).trans (h.only.2.2.2.2 k hk hn)⟩, h.own⟩
theorem Cst.tok (h : Cst w1 wr E0 v v' l FT FA FB p ts ga gb bx A B) (k : Nat) (hk : k < ts.length) : ∃ b off, p = some ⟨b, off, none⟩ ∧ Lzt.Yn5 wr b off k ts[k] := by
 obtain ⟨b, off, e, hlt, hc⟩ := h.amb.toks.now.2 (by omega)
 exact ⟨b, off, e, hc k hk⟩
theorem Cst.b0 (h : Cst w1 wr E0 v v' l FT FA FB p ts ga gb bx A B) : wr.cell? ⟨bx, 0, none⟩ = some (.pointer (some ⟨ga, 0, none⟩)) := by simp [World.cell?, h.amb.box]
theorem Cst.b1 (h : Cst w1 wr E0 v v' l FT FA FB p ts ga gb bx A B) : wr.cell? ⟨bx, 1, none⟩ = some (.pointer (some ⟨gb, 0, none⟩)) := by simp [World.cell?, h.amb.box]
end
def Tbx (w : World) (d : Nat) (t : Lzt.Tok) : Prop := w.heap[d]? = some (.cells #[.int .u8 (t.lit.toNat : Int), .int .i64 t.len, .int .i64 t.dist] 134 (0, 0))
section
variable {w w' : World} {d : Nat} {t : Lzt.Tok}
theorem Tbx.c1 (h : Tbx w d t) : w.cell? ⟨d, 1, none⟩ = some (.int .i64 t.len) := by unfold Tbx at h; simp [World.cell?, h]
theorem Tbx.c2 (h : Tbx w d t) : w.cell? ⟨d, 2, none⟩ = some (.int .i64 t.dist) := by unfold Tbx at h; simp [World.cell?, h]
theorem Tbx.lt (h : Tbx w d t) : d < w.heap.size := by
 rcases Nat.lt_or_ge d w.heap.size with hlt | hge
 ·exact hlt
 ·unfold Tbx at h; rw [Array.getElem?_eq_none hge] at h; cases h
theorem Tbx.below {B : Nat} (h : Tbx w d t) (hb : Below B w w') (hd : d < B) : Tbx w' d t := (hb.block d hd).trans h
end
theorem Ywd : ∀ i, i < (froms false).length → (extras false).getD i 0 ≤ 13 := by decide +kernel
theorem Yz2 : ∀ i, i < (froms true).length → (extras true).getD i 0 ≤ 13 := by decide +kernel
theorem Ycf (x : Nat) : Y07 true x 0 = [] := List.length_eq_zero_iff.1 (Y00 _ _ _)
set_option maxHeartbeats 4000000 in
theorem Y4c (w : World) (E0 : Ke) (v : Value) (l : List Bool) (FT FA FB : Nat → Prop) (p : Option Addr) (n cap : Nat) (ts : List Lzt.Tok) (ga gb : Nat) (A B : List (List Bool)) (h : En w E0 v l)
  (hT : Foot FT (fun w' => Lzt.Toks w' w'.heap.size p ts) w) (hA : BoS w FA ga A) (hB : BoS w FB gb B) (ft : Far E0 v FT) (fa : Far E0 v FA) (fb : Far E0 v FB) (hx : ts.length = n) (hn : n ≤ 100000)
  (hfit : ∀ t ∈ ts, Y58 t ∧ Yii A B t) (h256 : A.getD 256 [] ≠ []) (hl : l.length + (Y1y A B (ts.map conv)).length ≤ 2000000) :
  Calls Tryz.prog 74 #[.pointer (some ⟨E0.e, 0, none⟩), .slice p n cap, .agg #[.pointer (some ⟨ga, 0, none⟩), .pointer (some ⟨gb, 0, none⟩)]] w fun e w' => e = .returned (.tuple #[]) ∧ EnT w E0 v (l ++ Y1y A B (ts.map conv)) w' := by
 rw [Ycc] at hl ⊢
 rw [List.length_append] at hl
 obtain ⟨w1, hw1⟩ : ∃ w1, w1 = w.alloc (.cells #[.pointer (some ⟨ga, 0, none⟩), .pointer (some ⟨gb, 0, none⟩)] 130) := ⟨_, rfl⟩
 have hb1 : Below w.heap.size w w1 := by rw [hw1]; exact (Below.refl _ w).alloc (Nat.le_refl _) _
 have hge := h.ge
 have hlt' := h.lt'
 obtain ⟨bx, hbx⟩ : ∃ bx, bx = w.heap.size := ⟨_, rfl⟩
 have HST : Hid (Cst w1 w1 E0 v v l FT FA FB p ts ga gb bx A B) := Lib.hid ⟨h.below hb1, ⟨hT.below hb1, hA.below hb1, hB.below hb1, by rw [hbx, hw1]; exact Array.getElem?_push_size, ft, fa, fb, by omega, fun e => by have := own_lt h _ e; omega⟩, Only.refl _ _, fun _ e => .inl e⟩
 have HW1 := Lib.hid hw1
 have HB1 := Lib.hid hb1
 have HX := Lib.hid hx
 have HFIT := Lib.hid hfit
 have H256 := Lib.hid h256
 have HL := Lib.hid hl
 clear h hT hA hB ft fa fb hx hfit h256 hl hw1 hb1 hge hlt'
 go_enter Tryz.func74, Tryz.ntmps74
 go_wp2_with fail
 rw [← hbx, ← HW1.out]
 clear hbx
 go_loopw [11] (fun i wr => ∃ (k : Nat) (v' : Value), k ≤ n ∧ i = .int .i64 (k : Int) ∧ Hid (Cst w1 wr E0 v v' (l ++ Y5a A B (ts.take k)) FT FA FB p ts ga gb bx A B)) (fun i _ => n - (intOf i).toNat)
 case atStart => exact ⟨0, v, by omega, rfl, by rw [List.take_zero, show Y5a A B [] = [] from rfl, List.append_nil]; exact HST⟩
 case round =>
  obtain ⟨k, v', hk, rfl, HS⟩ := hrel
  by_cases hlt : k < n
  ·have ql : decide ((k : Int) < (n : Int)) = true := decide_eq_true (by omega)
   have hkl : k < ts.length := by rw [HX.out]; exact hlt
   obtain ⟨b, off, rfl, ta0, ta1, ta2⟩ := HS.out.tok k hkl
   have hmem : ts[k] ∈ ts := List.getElem_mem hkl
   obtain ⟨hft, hwd⟩ := HFIT.out _ hmem
   have hbt := Ykp A B ts k hkl
   have hble := Ys6 A B ts (k + 1)
   rw [hbt, List.length_append] at hble
   have HBT := Lib.hid hbt
   have HBLE := Lib.hid hble
   have hlen8 : ts[k].lit.toNat < 256 := ts[k].lit.toNat_lt
   generalize ts[k] = t at ta0 ta1 ta2 hft hwd hbt HBT HBLE hble hmem hlen8
   clear hbt hble hmem
   have hi0 : (0 : Int) ≤ (k : Int) := by omega
   by_cases hz : t.len = 0
   ·have qz : (t.len == 0) = true := by simp [hz]
    have hwl := hwd.1 hz
    have htb : Yec A B (conv t) = A.getD t.lit.toNat [] := by unfold Yec conv; rw [if_pos (show t.len = 0 from hz)]
    rw [htb] at HBT HBLE
    have hbt : Below wr.heap.size wr (wr.alloc (.cells #[.int .u8 (t.lit.toNat : Int), .int .i64 t.len, .int .i64 t.dist] 134)) := (Below.refl _ wr).alloc (Nat.le_refl _) _
    have hS2 := HS.out.below hbt
    have HMA : Hid (Calls Tryz.prog 104 #[.pointer (some ⟨E0.e, 0, none⟩), .pointer (some ⟨ga, 0, none⟩), .agg #[.int .i64 (t.lit.toNat : Int), .int .i64 0, .int .i64 0]] _ _) := Lib.hid (Y3y _ E0 v' (l ++ Y5a A B (ts.take k)) FA ga A t.lit.toNat 0 0 _ hS2.en hS2.amb.ba (Y4e hwl) hwl (by omega) (by decide) (by have := HL.out; have := HBLE.out; rw [List.length_append]; omega))
    have b0 := HS.out.b0
    have hbl := HS.out.amb.bxlt
    have HS2 := Lib.hid hS2
    clear hS2 hbt hwl htb hwd hft hz
    go_wp2_with fail
    refine HMA.out.mono ?_
    rintro e w2 ⟨rfl, ht⟩
    rw [Ycf, List.append_nil] at ht
    obtain ⟨v2, hS3⟩ := HS2.out.more ht
    rw [List.append_assoc, ← HBT.out] at hS3
    have HS3 := Lib.hid hS3
    clear ht hS3 HMA
    go_wp2_with fail
    go_roundw
    case rel => exact ⟨k + 1, v2, by omega, by first | rfl | (push_cast; rfl), HS3⟩
    case measure => simp [intOf]; omega
   ·have qz : (t.len == 0) = false := by simp [hz]
    obtain ⟨hw1, hw2⟩ := hwd.2 hz
    have hft2 : 3 ≤ t.len ∧ t.len ≤ 258 ∧ 1 ≤ t.dist ∧ t.dist ≤ 32768 := by
     rcases hft with e | e
     ·exact absurd e hz
     ·exact e
    obtain ⟨len, hlen⟩ : ∃ len : Nat, t.len = (len : Int) := ⟨t.len.toNat, by omega⟩
    obtain ⟨dist, hdist⟩ : ∃ dist : Nat, t.dist = (dist : Int) := ⟨t.dist.toNat, by omega⟩
    obtain ⟨W0, hW0⟩ : ∃ W0, W0 = wr.alloc (.cells #[.int .u8 (t.lit.toNat : Int), .int .i64 (len : Int), .int .i64 (dist : Int)] 134) := ⟨_, rfl⟩
    have hbt : Below wr.heap.size wr W0 := by rw [hW0]; exact (Below.refl _ wr).alloc (Nat.le_refl _) _
    have htx : Tbx W0 wr.heap.size t := by rw [hW0]; unfold Tbx; rw [hlen, hdist]; exact Array.getElem?_push_size
    obtain ⟨tb, htb⟩ : ∃ tb, tb = wr.heap.size := ⟨_, rfl⟩
    rw [← htb] at htx
    have htl := htx.lt
    have hS2 := HS.out.below hbt
    have hl3 : 3 ≤ len ∧ len ≤ 258 := by omega
    have hd3 : 1 ≤ dist ∧ dist ≤ 32768 := by omega
    have htk : Yec A B (conv t) = A.getD (257 + placeN false len) [] ++ (Y4w false len ++ (B.getD (placeN true dist) [] ++ Y4w true dist)) := by
     unfold Yec conv
     rw [if_neg (show ¬ t.len = 0 from hz), show t.len.toNat = len from by omega, show t.dist.toNat = dist from by omega]
    rw [show t.len.toNat = len from by omega] at hw1
    rw [show t.dist.toNat = dist from by omega] at hw2
    rw [htk] at HBT HBLE
    have hbl2 := HBLE.out
    simp only [List.length_append] at hbl2
    have hp1 := Y16 false len
    have hp2 := Y16 true dist
    have he1 : (extras false).getD (placeN false len) 0 ≤ 13 := Ywd _ hp1
    have he2 : (extras true).getD (placeN true dist) 0 ≤ 13 := Yz2 _ hp2
    obtain ⟨sy, hsy⟩ : ∃ x, x = placeN false len := ⟨_, rfl⟩
    obtain ⟨mo, hmo⟩ : ∃ x, x = len - (froms false).getD (placeN false len) 0 := ⟨_, rfl⟩
    obtain ⟨ex, hex⟩ : ∃ x, x = (extras false).getD (placeN false len) 0 := ⟨_, rfl⟩
    obtain ⟨sy2, hsy2⟩ : ∃ x, x = placeN true dist := ⟨_, rfl⟩
    obtain ⟨mo2, hmo2⟩ : ∃ x, x = dist - (froms true).getD (placeN true dist) 0 := ⟨_, rfl⟩
    obtain ⟨ex2, hex2⟩ : ∃ x, x = (extras true).getD (placeN true dist) 0 := ⟨_, rfl⟩
    have hsyl : sy < 30 := by rw [hsy]; exact Nat.lt_of_lt_of_le hp1 (by decide)
    have hsz : ((257 + placeN false len : Nat) : Int) = (sy : Int) + 257 := by omega
    have HML : Hid (∀ V, Below W0.heap.size W0 V → Calls Tryz.prog 105 #[.slice (some ⟨E0.bl, 0, none⟩) 29 E0.cl, .int .i64 (len : Int)] V fun e w' => e = .returned (.agg #[.int .i64 (sy : Int), .int .i64 (mo : Int), .int .i64 (ex : Int)]) ∧ Below V.heap.size V w') := Lib.hid fun V hV => by
     rw [hsy, hmo, hex]
     exact Y61 V E0.bl 29 E0.cl len false (hS2.en.below hV).tl (by have := (hS2.en.below hV).lt'; have := hS2.en.lt; omega) rfl hl3.1 (by omega)
    have HMD : Hid (∀ V v2 l2, En V E0 v2 l2 → Calls Tryz.prog 105 #[.slice (some ⟨E0.bd, 0, none⟩) 30 E0.cd, .int .i64 (dist : Int)] V fun e w' => e = .returned (.agg #[.int .i64 (sy2 : Int), .int .i64 (mo2 : Int), .int .i64 (ex2 : Int)]) ∧ Below V.heap.size V w') := Lib.hid fun V v2 l2 hV => by
     rw [hsy2, hmo2, hex2]
     exact Y61 V E0.bd 30 E0.cd dist true hV.td (by have := hV.lt'; have := hV.lt; omega) rfl hd3.1 (by omega)
    have HMA : Hid (∀ V, Below W0.heap.size W0 V → Calls Tryz.prog 104 #[.pointer (some ⟨E0.e, 0, none⟩), .pointer (some ⟨ga, 0, none⟩), .agg #[.int .i64 ((sy : Int) + 257), .int .i64 (mo : Int), .int .i64 (ex : Int)]] V fun e w' => e = .returned (.tuple #[]) ∧ EnT V E0 v' (l ++ Y5a A B (ts.take k) ++ (A.getD (257 + placeN false len) [] ++ Y4w false len)) w') := Lib.hid fun V hV => by
     have hC := hS2.below hV
     rw [← hsz, hmo, hex]
     refine Y3y V E0 v' _ FA ga A _ _ _ _ hC.en hC.amb.ba (Y4e hw1) hw1 he1 (Y8b false len hl3.1 (show len ≤ 258 by omega)) ?_
     have := HL.out
     have h5 : (Y4w false len).length = (extras false).getD (placeN false len) 0 := Y00 _ _ _
     rw [List.length_append]
     omega
    have HMB : Hid (∀ V v2, Cst w1 V E0 v v2 (l ++ Y5a A B (ts.take k) ++ (A.getD (257 + placeN false len) [] ++ Y4w false len)) FT FA FB (some ⟨b, off, none⟩) ts ga gb bx A B → Calls Tryz.prog 104 #[.pointer (some ⟨E0.e, 0, none⟩), .pointer (some ⟨gb, 0, none⟩), .agg #[.int .i64 (sy2 : Int), .int .i64 (mo2 : Int), .int .i64 (ex2 : Int)]] V fun e w' => e = .returned (.tuple #[]) ∧ EnT V E0 v2 (l ++ Y5a A B (ts.take (k + 1))) w') := Lib.hid fun V v2 hC => by
     rw [HBT.out, ← List.append_assoc, hsy2, hmo2, hex2]
     have h5 : (Y4w true dist).length = (extras true).getD (placeN true dist) 0 := Y00 _ _ _
     have h6 := Y3y V E0 v2 _ FB gb B _ (dist - (froms true).getD (placeN true dist) 0) ((extras true).getD (placeN true dist) 0) _ hC.en hC.amb.bb (Y4e hw2) hw2 he2 (Y8b true dist hd3.1 (show dist ≤ 32768 by omega)) (by
      have := HL.out
      simp only [List.length_append]
      omega)
     refine h6.mono ?_
     rintro e w' ⟨rfl, ht⟩
     refine ⟨rfl, ?_⟩
     rw [show Y07 true (dist - (froms true).getD (placeN true dist) 0) ((extras true).getD (placeN true dist) 0) = Y4w true dist from rfl] at ht
     simp only [List.append_assoc] at ht ⊢
     exact ht
    have c1 := hS2.en.c1
    have t1 := htx.c1
    rw [hlen] at t1
    have HSP : Hid (∀ V, Below W0.heap.size W0 V → V.cell? ⟨E0.e, 1, none⟩ = some (.slice (some ⟨E0.bl, 0, none⟩) 29 E0.cl) ∧ V.cell? ⟨tb, 1, none⟩ = some (.int .i64 (len : Int))) := Lib.hid fun V hV => ⟨(hS2.en.below hV).c1, (hV.cell (p := ⟨tb, 1, none⟩) htl).trans t1⟩
    have HS2 := Lib.hid hS2
    have HTX := Lib.hid htx
    have HW0 := Lib.hid hW0
    have hel : E0.e < wr.heap.size := HS.out.en.lt'
    clear hS2 htx hbt hw1 hw2 hwd hft hz hft2 hp1 hp2 he1 he2 htk hbl2 HBLE hl3 hd3 hW0
    rw [hlen] at ta1 qz
    rw [hdist] at ta2
    have HDI := Lib.hid hdist
    clear hlen hdist
    go_wp2_with fail
    rw [← htb, ← HW0.out]
    have hgt : E0.gw < tb := by have := HS.out.en.ge; omega
    have hvt : Hid (∀ k, v'.ownBlock = some k → k < tb) := Lib.hid fun k hk => by rw [htb]; exact own_lt HS.out.en k hk
    clear ta0 ta1 ta2 htb hsy hmo hex hsy2 hmo2 hex2 hsz
    refine wp_region_held_drew (S := (fun w' => w'.cell? ⟨E0.e, 1, none⟩ = some (.slice (some ⟨E0.bl, 0, none⟩) 29 E0.cl) ∧ w'.cell? ⟨tb, 1, none⟩ = some (.int .i64 (len : Int)))) (by kernel_rfl) ⟨c1, t1⟩ (fun hH0 => ?_)
    refine wpAnyH_take (i := 0) (v := ?v1) rfl (by kernel_rfl) (by kernel_rfl) (by kernel_rfl) (fun _ _ _ h => h) (Or.inl ⟨by rfl, fun w hSw => ?y1⟩) hH0 ?r1
    case y1 => (try dsimp only at hSw); first | (go_simp; done) | (go_simp; with_reducible rfl)
    try simp only [Act.put, List.setIfInBounds_toArray, List.set_cons_zero, List.set_cons_succ, List.getElem_toArray, List.getElem_cons_zero, List.getElem_cons_succ]
    refine wpAnyH_take (i := 1) (v := ?v2) rfl (by kernel_rfl) (by kernel_rfl) (by kernel_rfl) (fun _ _ _ h => h) (Or.inl ⟨by rfl, fun w hSw => ?y2⟩) hH0 ?r2
    case y2 => (try dsimp only at hSw); first | (go_simp; done) | (go_simp; with_reducible rfl)
    try simp only [Act.put, List.setIfInBounds_toArray, List.set_cons_zero, List.set_cons_succ, List.getElem_toArray, List.getElem_cons_zero, List.getElem_cons_succ]
    refine wpAnyH_take (i := 2) (v := ?v3) rfl (by kernel_rfl) (by kernel_rfl) (by kernel_rfl) (fun _ _ _ h => h) (Or.inl ⟨by rfl, fun w hSw => ?y3⟩) hH0 ?r3
    case y3 => (try dsimp only at hSw); first | (go_simp; done) | (go_simp; with_reducible rfl)
    try simp only [Act.put, List.setIfInBounds_toArray, List.set_cons_zero, List.set_cons_succ, List.getElem_toArray, List.getElem_cons_zero, List.getElem_cons_succ]
    refine wpAnyH_take (i := 3) (v := ?v4) rfl (by kernel_rfl) (by kernel_rfl) (by kernel_rfl) (fun _ _ _ h => h) (Or.inl ⟨by rfl, fun w hSw => ?y4⟩) hH0 ?r4
    case y4 => (try dsimp only at hSw); first | (go_simp; done) | (go_simp; with_reducible rfl)
    try simp only [Act.put, List.setIfInBounds_toArray, List.set_cons_zero, List.set_cons_succ, List.getElem_toArray, List.getElem_cons_zero, List.getElem_cons_succ]
    refine wpAnyH_take (i := 4) (v := ?v5) rfl (by kernel_rfl) (by kernel_rfl) (by kernel_rfl) (fun _ _ _ h => h) (Or.inl ⟨by rfl, fun w hSw => ?y5⟩) hH0 ?r5
    case y5 => (try dsimp only at hSw); first | (go_simp; done) | (go_simp; with_reducible rfl)
    try simp only [Act.put, List.setIfInBounds_toArray, List.set_cons_zero, List.set_cons_succ, List.getElem_toArray, List.getElem_cons_zero, List.getElem_cons_succ]
    refine wpAnyH_take (i := 5) (v := ?v6) rfl (by kernel_rfl) (by kernel_rfl) (by kernel_rfl) (fun _ _ _ h => h) (Or.inl ⟨by rfl, fun w hSw => ?y6⟩) hH0 ?r6
    case y6 => (try dsimp only at hSw); first | (go_simp; done) | (go_simp; with_reducible rfl)
    try simp only [Act.put, List.setIfInBounds_toArray, List.set_cons_zero, List.set_cons_succ, List.getElem_toArray, List.getElem_cons_zero, List.getElem_cons_succ]
    refine wpAnyH_ready (rs := [6, 7]) (by kernel_rfl) (by simp) ?_
    refine AllReadyH.cons rfl (fun K hK => ?_) ?_
    ·go_simp
     have hV0 : Below W0.heap.size W0 W0.drew := (show Drawn W0 W0.drew from ⟨1, rfl⟩).below _
     refine (HML.out _ hV0).mono ?_
     rintro e wq ⟨rfl, hbq⟩
     have HB1 := Lib.hid (hV0.trans hbq)
     clear hbq hV0
     go_wp2_with fail
     refine hK.out _ _ (HSP.out _ HB1.out) (fun hH1 => ?_)
     clear hK K
     try simp only [Act.put, List.setIfInBounds_toArray, List.set_cons_zero, List.set_cons_succ, List.getElem_toArray, List.getElem_cons_zero, List.getElem_cons_succ]
     refine wpAnyH_ready (rs := [7]) (by kernel_rfl) (by simp) ?_
     refine AllReadyH.cons rfl (fun K hK => ?_) AllReadyH.nil
     go_simp
     refine hK.out _ _ (HSP.out _ (HB1.out.alloc HB1.out.size _)) (fun hH2 => ?_)
     clear hK K
     try simp only [Act.put, List.setIfInBounds_toArray, List.set_cons_zero, List.set_cons_succ, List.getElem_toArray, List.getElem_cons_zero, List.getElem_cons_succ]
     refine wpAnyH_ready (rs := [8]) (by kernel_rfl) (by simp) ?_
     refine AllReadyH.cons rfl (fun K hK => ?_) AllReadyH.nil
     go_simp
     refine hK.out _ _ (HSP.out _ (HB1.out.alloc HB1.out.size _)) (fun hH3 => ?_)
     clear hK K
     try simp only [Act.put, List.setIfInBounds_toArray, List.set_cons_zero, List.set_cons_succ, List.getElem_toArray, List.getElem_cons_zero, List.getElem_cons_succ]
     refine wpAnyH_done (by kernel_rfl) ?_ _
     have hmk : Mk (wq.alloc (.cells #[.int .i64 (sy : Int), .int .i64 (mo : Int), .int .i64 (ex : Int)] 166)) wq.heap.size (.int .i64 (sy : Int)) (.int .i64 (mo : Int)) (.int .i64 (ex : Int)) := Array.getElem?_push_size
     have hbx : Below W0.heap.size W0 (wq.alloc (.cells #[.int .i64 (sy : Int), .int .i64 (mo : Int), .int .i64 (ex : Int)] 166)) := HB1.out.alloc HB1.out.size _
     have HM : Hid (Mk (wq.alloc (.cells #[.int .i64 (sy : Int), .int .i64 (mo : Int), .int .i64 (ex : Int)] 166)) (wq.heap.size) (.int .i64 (sy : Int)) (.int .i64 (mo : Int)) (.int .i64 (ex : Int))) := Lib.hid hmk
     have HBX : Hid (Below W0.heap.size W0 (wq.alloc (.cells #[.int .i64 (sy : Int), .int .i64 (mo : Int), .int .i64 (ex : Int)] 166))) := Lib.hid hbx
     clear hmk hbx
     generalize wq.alloc (.cells #[.int .i64 (sy : Int), .int .i64 (mo : Int), .int .i64 (ex : Int)] 166) = X at HM HBX ⊢
     obtain ⟨d, hde⟩ : ∃ d, d = wq.heap.size := ⟨_, rfl⟩
     rw [← hde] at HM ⊢
     have hd0 : W0.heap.size ≤ d := by have := HB1.out.size; omega
     clear HB1 hde
     have m0 := HM.out.c0
     have m1 := HM.out.c1
     have m2 := HM.out.c2
     have mf := HM.out.fz 0
     have hml := HM.out.lt
     have HCX := Lib.hid (HS2.out.below HBX.out)
     have b0 := HCX.out.b0
     have hws : wrap64 ((sy : Int) + 257) = (sy : Int) + 257 := Y0q _ (by omega) (by omega)
     have HPUT : Hid (Below W0.heap.size W0 (X.setCell ⟨d, 0, none⟩ (.int .i64 ((sy : Int) + 257)))) := Lib.hid (HBX.out.setCell hd0 _)
     have hdb : d ≠ bx := by have := HS2.out.amb.bxlt; omega
     clear c1 t1
     go_wp2_with fail
     refine (HMA.out _ HPUT.out).mono ?_
     rintro e w5 ⟨rfl, ht⟩
     have hC5 := HS2.out.below HPUT.out
     obtain ⟨v5, hE5, ho5, hd5⟩ := ht
     have hS5 := hC5.on hE5 ho5 hd5
     have hv5t : Hid (v5.ownBlock ≠ some tb) := Lib.hid fun e => by have := HPUT.out.size; rcases hd5 _ e with e | e <;> first | omega | (have := hvt.out _ e; omega)
     have htx5 : Tbx w5 tb t := (ho5.2.2.2.2 _ (by have := HPUT.out.size; omega) (fun e => by rcases e with e | e <;> first | omega | (have := hvt.out _ e; omega))).trans (HTX.out.below HPUT.out (by omega))
     have htl5 := htx5.lt
     have q2 := hS5.en.c2
     have qb := hS5.b1
     have qt := htx5.c2
     rw [HDI.out] at qt
     have HS5 := Lib.hid hS5
     have HT5 := Lib.hid htx5
     clear hS5 hE5 ho5 hd5 htx5 hC5 m0 m1 m2 mf b0 HPUT HCX
     have HSQ : Hid (∀ V, Below w5.heap.size w5 V → V.cell? ⟨E0.e, 2, none⟩ = some (.slice (some ⟨E0.bd, 0, none⟩) 30 E0.cd) ∧ V.cell? ⟨bx, 1, none⟩ = some (.pointer (some ⟨gb, 0, none⟩)) ∧ V.cell? ⟨tb, 2, none⟩ = some (.int .i64 (dist : Int))) := Lib.hid fun V hV => ⟨(HS5.out.below hV).en.c2, (HS5.out.below hV).b1, (hV.cell (p := ⟨tb, 2, none⟩) htl5).trans qt⟩
     go_wp2_with fail
     refine wp_region_held_drew (S := (fun w' => w'.cell? ⟨E0.e, 2, none⟩ = some (.slice (some ⟨E0.bd, 0, none⟩) 30 E0.cd) ∧ w'.cell? ⟨bx, 1, none⟩ = some (.pointer (some ⟨gb, 0, none⟩)) ∧ w'.cell? ⟨tb, 2, none⟩ = some (.int .i64 (dist : Int)))) (by kernel_rfl) ⟨q2, qb, qt⟩ (fun hG0 => ?_)
     refine wpAnyH_take (i := 0) (v := ?v7) rfl (by kernel_rfl) (by kernel_rfl) (by kernel_rfl) (fun _ _ _ h => h) (Or.inl ⟨by rfl, fun w hSw => ?y7⟩) hG0 ?r7
     case y7 => (try dsimp only at hSw); first | (go_simp; done) | (go_simp; with_reducible rfl)
     try simp only [Act.put, List.setIfInBounds_toArray, List.set_cons_zero, List.set_cons_succ, List.getElem_toArray, List.getElem_cons_zero, List.getElem_cons_succ]
     refine wpAnyH_take (i := 1) (v := ?v8) rfl (by kernel_rfl) (by kernel_rfl) (by kernel_rfl) (fun _ _ _ h => h) (Or.inl ⟨by rfl, fun w hSw => ?y8⟩) hG0 ?r8
     case y8 => (try dsimp only at hSw); first | (go_simp; done) | (go_simp; with_reducible rfl)
     try simp only [Act.put, List.setIfInBounds_toArray, List.set_cons_zero, List.set_cons_succ, List.getElem_toArray, List.getElem_cons_zero, List.getElem_cons_succ]
     refine wpAnyH_take (i := 2) (v := ?v9) rfl (by kernel_rfl) (by kernel_rfl) (by kernel_rfl) (fun _ _ _ h => h) (Or.inl ⟨by rfl, fun w hSw => ?y9⟩) hG0 ?r9
     case y9 => (try dsimp only at hSw); first | (go_simp; done) | (go_simp; with_reducible rfl)
     try simp only [Act.put, List.setIfInBounds_toArray, List.set_cons_zero, List.set_cons_succ, List.getElem_toArray, List.getElem_cons_zero, List.getElem_cons_succ]
     refine wpAnyH_take (i := 3) (v := ?v10) rfl (by kernel_rfl) (by kernel_rfl) (by kernel_rfl) (fun _ _ _ h => h) (Or.inl ⟨by rfl, fun w hSw => ?y10⟩) hG0 ?r10
     case y10 => (try dsimp only at hSw); first | (go_simp; done) | (go_simp; with_reducible rfl)
     try simp only [Act.put, List.setIfInBounds_toArray, List.set_cons_zero, List.set_cons_succ, List.getElem_toArray, List.getElem_cons_zero, List.getElem_cons_succ]
     refine wpAnyH_take (i := 4) (v := ?v11) rfl (by kernel_rfl) (by kernel_rfl) (by kernel_rfl) (fun _ _ _ h => h) (Or.inl ⟨by rfl, fun w hSw => ?y11⟩) hG0 ?r11
     case y11 => (try dsimp only at hSw); first | (go_simp; done) | (go_simp; with_reducible rfl)
     try simp only [Act.put, List.setIfInBounds_toArray, List.set_cons_zero, List.set_cons_succ, List.getElem_toArray, List.getElem_cons_zero, List.getElem_cons_succ]
     refine wpAnyH_take (i := 5) (v := ?v12) rfl (by kernel_rfl) (by kernel_rfl) (by kernel_rfl) (fun _ _ _ h => h) (Or.inl ⟨by rfl, fun w hSw => ?y12⟩) hG0 ?r12
     case y12 => (try dsimp only at hSw); first | (go_simp; done) | (go_simp; with_reducible rfl)
     try simp only [Act.put, List.setIfInBounds_toArray, List.set_cons_zero, List.set_cons_succ, List.getElem_toArray, List.getElem_cons_zero, List.getElem_cons_succ]
     refine wpAnyH_take (i := 6) (v := ?v13) rfl (by kernel_rfl) (by kernel_rfl) (by kernel_rfl) (fun _ _ _ h => h) (Or.inl ⟨by rfl, fun w hSw => ?y13⟩) hG0 ?r13
     case y13 => (try dsimp only at hSw); first | (go_simp; done) | (go_simp; with_reducible rfl)
     try simp only [Act.put, List.setIfInBounds_toArray, List.set_cons_zero, List.set_cons_succ, List.getElem_toArray, List.getElem_cons_zero, List.getElem_cons_succ]
     refine wpAnyH_take (i := 7) (v := ?v14) rfl (by kernel_rfl) (by kernel_rfl) (by kernel_rfl) (fun _ _ _ h => h) (Or.inl ⟨by rfl, fun w hSw => ?y14⟩) hG0 ?r14
     case y14 => (try dsimp only at hSw); first | (go_simp; done) | (go_simp; with_reducible rfl)
     try simp only [Act.put, List.setIfInBounds_toArray, List.set_cons_zero, List.set_cons_succ, List.getElem_toArray, List.getElem_cons_zero, List.getElem_cons_succ]
     refine wpAnyH_take (i := 8) (v := ?v15) rfl (by kernel_rfl) (by kernel_rfl) (by kernel_rfl) (fun _ _ _ h => h) (Or.inl ⟨by rfl, fun w hSw => ?y15⟩) hG0 ?r15
     case y15 => (try dsimp only at hSw); first | (go_simp; done) | (go_simp; with_reducible rfl)
     try simp only [Act.put, List.setIfInBounds_toArray, List.set_cons_zero, List.set_cons_succ, List.getElem_toArray, List.getElem_cons_zero, List.getElem_cons_succ]
     refine wpAnyH_ready (rs := [9]) (by kernel_rfl) (by simp) ?_
     refine AllReadyH.cons rfl (fun K hK => ?_) AllReadyH.nil
     go_simp
     have hV5 : Below w5.heap.size w5 w5.drew := (show Drawn w5 w5.drew from ⟨1, rfl⟩).below _
     refine (HMD.out _ v5 _ (HS5.out.below hV5).en).mono ?_
     rintro e w6 ⟨rfl, hb6⟩
     have HB6 := Lib.hid (hV5.trans hb6)
     clear hb6 hV5
     go_wp2_with fail
     refine hK.out _ _ (HSQ.out _ HB6.out) (fun hG1 => ?_)
     clear hK K
     try simp only [Act.put, List.setIfInBounds_toArray, List.set_cons_zero, List.set_cons_succ, List.getElem_toArray, List.getElem_cons_zero, List.getElem_cons_succ]
     refine wpAnyH_ready (rs := [10]) (by kernel_rfl) (by simp) ?_
     refine AllReadyH.cons rfl (fun K hK => ?_) AllReadyH.nil
     go_simp
     refine (HMB.out _ v5 (HS5.out.below HB6.out)).mono ?_
     rintro e w7 ⟨rfl, ht⟩
     have htx6 : Tbx w6 tb t := HT5.out.below HB6.out htl5
     obtain ⟨v7, hE7, ho7, hd7⟩ := ht
     have hS7 := (HS5.out.below HB6.out).on hE7 ho7 hd7
     have hfar7 : tb < w6.heap.size ∧ ¬ Mine E0.gw v5 tb := ⟨htx6.lt, fun e => by rcases e with e | e <;> first | omega | exact hv5t.out e⟩
     have htx7 : Tbx w7 tb t := (ho7.2.2.2.2 _ hfar7.1 hfar7.2).trans htx6
     have hS8 : w7.cell? ⟨E0.e, 2, none⟩ = some (.slice (some ⟨E0.bd, 0, none⟩) 30 E0.cd) ∧ w7.cell? ⟨bx, 1, none⟩ = some (.pointer (some ⟨gb, 0, none⟩)) ∧ w7.cell? ⟨tb, 2, none⟩ = some (.int .i64 (dist : Int)) := ⟨hS7.en.c2, hS7.b1, by have := htx7.c2; rwa [HDI.out] at this⟩
     have HS7 := Lib.hid hS7
     clear hS7 hE7 ho7 hd7 htx6 htx7 hfar7 q2 qb qt
     go_wp2_with fail
     refine hK.out _ _ hS8 (fun hG2 => ?_)
     clear hK K
     try simp only [Act.put, List.setIfInBounds_toArray, List.set_cons_zero, List.set_cons_succ, List.getElem_toArray, List.getElem_cons_zero, List.getElem_cons_succ]
     refine wpAnyH_done (by kernel_rfl) ?_ _
     clear hS8
     go_wp2_with fail
     go_roundw
     case rel => exact ⟨k + 1, v7, by omega, by first | rfl | (push_cast; rfl), HS7⟩
     case measure => simp [intOf]; omega
    refine AllReadyH.cons rfl (fun K hK => ?_) AllReadyH.nil
    go_simp
    have hV1 : Below W0.heap.size W0 (W0.drew.alloc (.cells #[.int .i64 0, .int .i64 0, .int .i64 0] 166)) := ((show Drawn W0 W0.drew from ⟨1, rfl⟩).below _).alloc (Nat.le_refl _) _
    refine hK.out _ _ (HSP.out _ hV1) (fun hH1 => ?_)
    clear hK K
    try simp only [Act.put, List.setIfInBounds_toArray, List.set_cons_zero, List.set_cons_succ, List.getElem_toArray, List.getElem_cons_zero, List.getElem_cons_succ]
    refine wpAnyH_ready (rs := [6]) (by kernel_rfl) (by simp) ?_
    refine AllReadyH.cons rfl (fun K hK => ?_) AllReadyH.nil
    go_simp
    refine (HML.out _ hV1).mono ?_
    rintro e wq ⟨rfl, hbq⟩
    have hmk0 : Mk (W0.drew.alloc (.cells #[.int .i64 0, .int .i64 0, .int .i64 0] 166)) W0.heap.size (.int .i64 0) (.int .i64 0) (.int .i64 0) := Array.getElem?_push_size
    have hz1 : (W0.drew.alloc (.cells #[.int .i64 0, .int .i64 0, .int .i64 0] 166)).heap.size = W0.heap.size + 1 := by simp
    have hm1 := hmk0.below hbq (by rw [hz1]; omega)
    have HB1 := Lib.hid (hV1.trans (hbq.mono (by rw [hz1]; omega)))
    have HM1 := Lib.hid hm1
    have HP1 := Lib.hid (Y1n HB1.out (Nat.le_refl _) (.int .i64 (sy : Int)) (.int .i64 (mo : Int)) (.int .i64 (ex : Int)))
    have r0 := hm1.c0
    have r1 := hm1.c1
    have r2 := hm1.c2
    have rf := fun j => hm1.fz j
    clear hbq hmk0 hm1 hz1
    go_wp2_with fail
    refine hK.out _ _ (HSP.out _ HB1.out) (fun hH2 => ?_)
    clear hK K
    try simp only [Act.put, List.setIfInBounds_toArray, List.set_cons_zero, List.set_cons_succ, List.getElem_toArray, List.getElem_cons_zero, List.getElem_cons_succ]
    refine wpAnyH_ready (rs := [8]) (by kernel_rfl) (by simp) ?_
    refine AllReadyH.cons rfl (fun K hK => ?_) AllReadyH.nil
    go_simp
    refine hK.out _ _ (HSP.out _ HP1.out) (fun hH3 => ?_)
    clear hK K
    try simp only [Act.put, List.setIfInBounds_toArray, List.set_cons_zero, List.set_cons_succ, List.getElem_toArray, List.getElem_cons_zero, List.getElem_cons_succ]
    refine wpAnyH_done (by kernel_rfl) ?_ _
    have hmk := HM1.out.put (.int .i64 (sy : Int)) (.int .i64 (mo : Int)) (.int .i64 (ex : Int))
    have hbx := HP1.out
    have HM : Hid (Mk (((wq.setCell ⟨W0.heap.size, 0, none⟩ (.int .i64 (sy : Int))).setCell ⟨W0.heap.size, 1, none⟩ (.int .i64 (mo : Int))).setCell ⟨W0.heap.size, 2, none⟩ (.int .i64 (ex : Int))) (W0.heap.size) (.int .i64 (sy : Int)) (.int .i64 (mo : Int)) (.int .i64 (ex : Int))) := Lib.hid hmk
    have HBX : Hid (Below W0.heap.size W0 (((wq.setCell ⟨W0.heap.size, 0, none⟩ (.int .i64 (sy : Int))).setCell ⟨W0.heap.size, 1, none⟩ (.int .i64 (mo : Int))).setCell ⟨W0.heap.size, 2, none⟩ (.int .i64 (ex : Int)))) := Lib.hid hbx
    clear hmk hbx
    generalize ((wq.setCell ⟨W0.heap.size, 0, none⟩ (.int .i64 (sy : Int))).setCell ⟨W0.heap.size, 1, none⟩ (.int .i64 (mo : Int))).setCell ⟨W0.heap.size, 2, none⟩ (.int .i64 (ex : Int)) = X at HM HBX ⊢
    obtain ⟨d, hde⟩ : ∃ d, d = W0.heap.size := ⟨_, rfl⟩
    rw [← hde] at HM ⊢
    have hd0 : W0.heap.size ≤ d := by have := HB1.out.size; omega
    clear HB1 hde
    clear r0 r1 r2 rf HM1 HP1 hV1
    have m0 := HM.out.c0
    have m1 := HM.out.c1
    have m2 := HM.out.c2
    have mf := HM.out.fz 0
    have hml := HM.out.lt
    have HCX := Lib.hid (HS2.out.below HBX.out)
    have b0 := HCX.out.b0
    have hws : wrap64 ((sy : Int) + 257) = (sy : Int) + 257 := Y0q _ (by omega) (by omega)
    have HPUT : Hid (Below W0.heap.size W0 (X.setCell ⟨d, 0, none⟩ (.int .i64 ((sy : Int) + 257)))) := Lib.hid (HBX.out.setCell hd0 _)
    have hdb : d ≠ bx := by have := HS2.out.amb.bxlt; omega
    clear c1 t1
    go_wp2_with fail
    refine (HMA.out _ HPUT.out).mono ?_
    rintro e w5 ⟨rfl, ht⟩
    have hC5 := HS2.out.below HPUT.out
    obtain ⟨v5, hE5, ho5, hd5⟩ := ht
    have hS5 := hC5.on hE5 ho5 hd5
    have hv5t : Hid (v5.ownBlock ≠ some tb) := Lib.hid fun e => by have := HPUT.out.size; rcases hd5 _ e with e | e <;> first | omega | (have := hvt.out _ e; omega)
    have htx5 : Tbx w5 tb t := (ho5.2.2.2.2 _ (by have := HPUT.out.size; omega) (fun e => by rcases e with e | e <;> first | omega | (have := hvt.out _ e; omega))).trans (HTX.out.below HPUT.out (by omega))
    have htl5 := htx5.lt
    have q2 := hS5.en.c2
    have qb := hS5.b1
    have qt := htx5.c2
    rw [HDI.out] at qt
    have HS5 := Lib.hid hS5
    have HT5 := Lib.hid htx5
    clear hS5 hE5 ho5 hd5 htx5 hC5 m0 m1 m2 mf b0 HPUT HCX
    have HSQ : Hid (∀ V, Below w5.heap.size w5 V → V.cell? ⟨E0.e, 2, none⟩ = some (.slice (some ⟨E0.bd, 0, none⟩) 30 E0.cd) ∧ V.cell? ⟨bx, 1, none⟩ = some (.pointer (some ⟨gb, 0, none⟩)) ∧ V.cell? ⟨tb, 2, none⟩ = some (.int .i64 (dist : Int))) := Lib.hid fun V hV => ⟨(HS5.out.below hV).en.c2, (HS5.out.below hV).b1, (hV.cell (p := ⟨tb, 2, none⟩) htl5).trans qt⟩
    go_wp2_with fail
    refine wp_region_held_drew (S := (fun w' => w'.cell? ⟨E0.e, 2, none⟩ = some (.slice (some ⟨E0.bd, 0, none⟩) 30 E0.cd) ∧ w'.cell? ⟨bx, 1, none⟩ = some (.pointer (some ⟨gb, 0, none⟩)) ∧ w'.cell? ⟨tb, 2, none⟩ = some (.int .i64 (dist : Int)))) (by kernel_rfl) ⟨q2, qb, qt⟩ (fun hG0 => ?_)
    refine wpAnyH_take (i := 0) (v := ?v16) rfl (by kernel_rfl) (by kernel_rfl) (by kernel_rfl) (fun _ _ _ h => h) (Or.inl ⟨by rfl, fun w hSw => ?y16⟩) hG0 ?r16
    case y16 => (try dsimp only at hSw); first | (go_simp; done) | (go_simp; with_reducible rfl)
    try simp only [Act.put, List.setIfInBounds_toArray, List.set_cons_zero, List.set_cons_succ, List.getElem_toArray, List.getElem_cons_zero, List.getElem_cons_succ]
    refine wpAnyH_take (i := 1) (v := ?v17) rfl (by kernel_rfl) (by kernel_rfl) (by kernel_rfl) (fun _ _ _ h => h) (Or.inl ⟨by rfl, fun w hSw => ?y17⟩) hG0 ?r17
    case y17 => (try dsimp only at hSw); first | (go_simp; done) | (go_simp; with_reducible rfl)
    try simp only [Act.put, List.setIfInBounds_toArray, List.set_cons_zero, List.set_cons_succ, List.getElem_toArray, List.getElem_cons_zero, List.getElem_cons_succ]
    refine wpAnyH_take (i := 2) (v := ?v18) rfl (by kernel_rfl) (by kernel_rfl) (by kernel_rfl) (fun _ _ _ h => h) (Or.inl ⟨by rfl, fun w hSw => ?y18⟩) hG0 ?r18
    case y18 => (try dsimp only at hSw); first | (go_simp; done) | (go_simp; with_reducible rfl)
    try simp only [Act.put, List.setIfInBounds_toArray, List.set_cons_zero, List.set_cons_succ, List.getElem_toArray, List.getElem_cons_zero, List.getElem_cons_succ]
    refine wpAnyH_take (i := 3) (v := ?v19) rfl (by kernel_rfl) (by kernel_rfl) (by kernel_rfl) (fun _ _ _ h => h) (Or.inl ⟨by rfl, fun w hSw => ?y19⟩) hG0 ?r19
    case y19 => (try dsimp only at hSw); first | (go_simp; done) | (go_simp; with_reducible rfl)
    try simp only [Act.put, List.setIfInBounds_toArray, List.set_cons_zero, List.set_cons_succ, List.getElem_toArray, List.getElem_cons_zero, List.getElem_cons_succ]
    refine wpAnyH_take (i := 4) (v := ?v20) rfl (by kernel_rfl) (by kernel_rfl) (by kernel_rfl) (fun _ _ _ h => h) (Or.inl ⟨by rfl, fun w hSw => ?y20⟩) hG0 ?r20
    case y20 => (try dsimp only at hSw); first | (go_simp; done) | (go_simp; with_reducible rfl)
    try simp only [Act.put, List.setIfInBounds_toArray, List.set_cons_zero, List.set_cons_succ, List.getElem_toArray, List.getElem_cons_zero, List.getElem_cons_succ]
    refine wpAnyH_take (i := 5) (v := ?v21) rfl (by kernel_rfl) (by kernel_rfl) (by kernel_rfl) (fun _ _ _ h => h) (Or.inl ⟨by rfl, fun w hSw => ?y21⟩) hG0 ?r21
    case y21 => (try dsimp only at hSw); first | (go_simp; done) | (go_simp; with_reducible rfl)
    try simp only [Act.put, List.setIfInBounds_toArray, List.set_cons_zero, List.set_cons_succ, List.getElem_toArray, List.getElem_cons_zero, List.getElem_cons_succ]
    refine wpAnyH_take (i := 6) (v := ?v22) rfl (by kernel_rfl) (by kernel_rfl) (by kernel_rfl) (fun _ _ _ h => h) (Or.inl ⟨by rfl, fun w hSw => ?y22⟩) hG0 ?r22
    case y22 => (try dsimp only at hSw); first | (go_simp; done) | (go_simp; with_reducible rfl)
    try simp only [Act.put, List.setIfInBounds_toArray, List.set_cons_zero, List.set_cons_succ, List.getElem_toArray, List.getElem_cons_zero, List.getElem_cons_succ]
    refine wpAnyH_take (i := 7) (v := ?v23) rfl (by kernel_rfl) (by kernel_rfl) (by kernel_rfl) (fun _ _ _ h => h) (Or.inl ⟨by rfl, fun w hSw => ?y23⟩) hG0 ?r23
    case y23 => (try dsimp only at hSw); first | (go_simp; done) | (go_simp; with_reducible rfl)
    try simp only [Act.put, List.setIfInBounds_toArray, List.set_cons_zero, List.set_cons_succ, List.getElem_toArray, List.getElem_cons_zero, List.getElem_cons_succ]
    refine wpAnyH_take (i := 8) (v := ?v24) rfl (by kernel_rfl) (by kernel_rfl) (by kernel_rfl) (fun _ _ _ h => h) (Or.inl ⟨by rfl, fun w hSw => ?y24⟩) hG0 ?r24
    case y24 => (try dsimp only at hSw); first | (go_simp; done) | (go_simp; with_reducible rfl)
    try simp only [Act.put, List.setIfInBounds_toArray, List.set_cons_zero, List.set_cons_succ, List.getElem_toArray, List.getElem_cons_zero, List.getElem_cons_succ]
    refine wpAnyH_ready (rs := [9]) (by kernel_rfl) (by simp) ?_
    refine AllReadyH.cons rfl (fun K hK => ?_) AllReadyH.nil
    go_simp
    have hV5 : Below w5.heap.size w5 w5.drew := (show Drawn w5 w5.drew from ⟨1, rfl⟩).below _
    refine (HMD.out _ v5 _ (HS5.out.below hV5).en).mono ?_
    rintro e w6 ⟨rfl, hb6⟩
    have HB6 := Lib.hid (hV5.trans hb6)
    clear hb6 hV5
    go_wp2_with fail
    refine hK.out _ _ (HSQ.out _ HB6.out) (fun hG1 => ?_)
    clear hK K
    try simp only [Act.put, List.setIfInBounds_toArray, List.set_cons_zero, List.set_cons_succ, List.getElem_toArray, List.getElem_cons_zero, List.getElem_cons_succ]
    refine wpAnyH_ready (rs := [10]) (by kernel_rfl) (by simp) ?_
    refine AllReadyH.cons rfl (fun K hK => ?_) AllReadyH.nil
    go_simp
    refine (HMB.out _ v5 (HS5.out.below HB6.out)).mono ?_
    rintro e w7 ⟨rfl, ht⟩
    have htx6 : Tbx w6 tb t := HT5.out.below HB6.out htl5
    obtain ⟨v7, hE7, ho7, hd7⟩ := ht
    have hS7 := (HS5.out.below HB6.out).on hE7 ho7 hd7
    have hfar7 : tb < w6.heap.size ∧ ¬ Mine E0.gw v5 tb := ⟨htx6.lt, fun e => by rcases e with e | e <;> first | omega | exact hv5t.out e⟩
    have htx7 : Tbx w7 tb t := (ho7.2.2.2.2 _ hfar7.1 hfar7.2).trans htx6
    have hS8 : w7.cell? ⟨E0.e, 2, none⟩ = some (.slice (some ⟨E0.bd, 0, none⟩) 30 E0.cd) ∧ w7.cell? ⟨bx, 1, none⟩ = some (.pointer (some ⟨gb, 0, none⟩)) ∧ w7.cell? ⟨tb, 2, none⟩ = some (.int .i64 (dist : Int)) := ⟨hS7.en.c2, hS7.b1, by have := htx7.c2; rwa [HDI.out] at this⟩
    have HS7 := Lib.hid hS7
    clear hS7 hE7 ho7 hd7 htx6 htx7 hfar7 q2 qb qt
    go_wp2_with fail
    refine hK.out _ _ hS8 (fun hG2 => ?_)
    clear hK K
    try simp only [Act.put, List.setIfInBounds_toArray, List.set_cons_zero, List.set_cons_succ, List.getElem_toArray, List.getElem_cons_zero, List.getElem_cons_succ]
    refine wpAnyH_done (by kernel_rfl) ?_ _
    clear hS8
    go_wp2_with fail
    go_roundw
    case rel => exact ⟨k + 1, v7, by omega, by first | rfl | (push_cast; rfl), HS7⟩
    case measure => simp [intOf]; omega
  ·have hkn : k = n := by omega
   subst hkn
   have ql : decide ((k : Int) < (k : Int)) = false := by simp
   have h2 := HS.out
   rw [List.take_of_length_le (by rw [HX.out]; exact Nat.le_refl _)] at h2
   have HMA : Hid (Calls Tryz.prog 104 #[.pointer (some ⟨E0.e, 0, none⟩), .pointer (some ⟨ga, 0, none⟩), .agg #[.int .i64 256, .int .i64 0, .int .i64 0]] wr _) := Lib.hid (Y3y wr E0 v' (l ++ Y5a A B ts) FA ga A 256 0 0 _ h2.en h2.amb.ba (Y4e H256.out) H256.out (by omega) (by decide) (by have := HL.out; rw [List.length_append]; omega))
   have b0 := h2.b0
   have HS2 := Lib.hid h2
   clear h2 hlt hk
   go_wp2_with fail
   refine HMA.out.mono ?_
   rintro e w2 ⟨rfl, ht⟩
   rw [Ycf, List.append_nil] at ht
   obtain ⟨v2, hS3⟩ := HS2.out.more ht
   have HS3 := Lib.hid hS3
   clear ht hS3 HMA
   go_wp2_with fail
   go_end0
   refine ⟨rfl, ?_⟩
   rw [← List.append_assoc]
   exact EnT.more ((Only.of_below (S := fun _ => False) HB1.out).mono (fun _ _ e => False.elim e)) (fun _ e => .inl e) ⟨v2, HS3.out.en, HS3.out.only, HS3.out.own⟩
end Go.Proofs.YtkkfkmoikcmhoaaGreat.Df

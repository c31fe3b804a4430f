/- IgE, HfD, HfE: merged. -/
import Derived.Test.YtkkfkmoikcmhoaaGreatQah
import Derived.Test.YtkkfkmoikcmhoaaGreatQam
set_option linter.unusedVariables false
set_option linter.unusedSimpArgs false
namespace Go.Proofs.YtkkfkmoikcmhoaaGreat.Inf
open Go.RowKit Oct Bit Hf
set_option maxRecDepth 100000
theorem Y6t {α β γ : Type} (x : R α) (f : α → Nat → R β) (g : β → Nat → R γ) : (x.then f).then g = x.then fun v a => (f v a).then g := by
 rcases x with e | ⟨v, a⟩ <;> rfl
theorem Y77 (A B : List (List Bool)) (L : List Bool) (most at_ : Nat) (out : List UInt8) (h : at_ ≤ L.length) : Y0l A B L most at_ out = (Y10 A L at_).then fun v a =>
  if v = 256 then .ok (out, a)
  else if v < 256 then (if most ≤ out.length then .error 8 else Y0l A B L most a (out ++ [UInt8.ofNat v]))
  else (Y2x B L most (v - 257) a out).then fun o a => Y0l A B L most a o := by
 rw [Yeu A B L most at_ out h]
 refine Y09 fun v a _ => ?_
 split
 ·rfl
 ·split
  ·rfl
  ·unfold Y2x
   rw [Y6t]
   refine Y09 fun n b _ => ?_
   rw [Y6t]
   refine Y09 fun k c _ => ?_
   rw [Y6t]
   refine Y09 fun d e _ => ?_
   split
   ·rfl
   ·split
    ·rfl
    ·rfl
def Yiz (w : World) (g : Nat) : Nat := match w.cell? ⟨g, 1, none⟩ with
 | some v => (intOf v).toNat
 | none => 0
theorem Y6e {w : World} {g : Nat} {p : Option Addr} {cap : Nat} {xs : List UInt8} {at_ : Nat} {low : Bool} (h : Rd w g p cap xs at_ low) : Yiz w g = at_ := by
 unfold Yiz; rw [h.c1]; simp [intOf]
theorem De.own_lt {w : World} {K : Kon} {a : Nat} {v : Value} {out : List UInt8} {F : Option Fix} (h : De w K a v out F) (k : Nat) (hk : v.ownBlock = some k) : k < w.heap.size := (h.own.lt k hk).2
def Yhn (wb : World) (K : Kon) (v : Value) (F : Option Fix) (W1 W2 : List (List Bool)) (X : R (List UInt8)) (wr : World) : Prop :=
 ∃ a v2 out, De wr K a v2 out F ∧ Only (Y0u K v) wb wr ∧ (∀ k, v2.ownBlock = some k → v.ownBlock = some k ∨ wb.heap.size ≤ k) ∧ Y0l W1 W2 (Y00 true K.xs) K.most a out = X
set_option maxHeartbeats 4000000 in
theorem Y5t (w : World) (K : Kon) (a : Nat) (v : Value) (out : List UInt8) (F : Option Fix) (B C ga gb : Nat) (W1 W2 : List (List Bool)) (h : De w K a v out F) (h1 : Bo w B C ga W1) (h2 : Bo w B C gb W2) (hc : Clr K v B C)
  (hW1 : W1.length ≤ 300) (hW2 : W2.length ≤ 30) :
  Calls Tryz.prog 92 #[.pointer (some ⟨K.d, 0, none⟩), .agg #[.pointer (some ⟨ga, 0, none⟩), .pointer (some ⟨gb, 0, none⟩)]] w (Res w K v F (Y0l W1 W2 (Y00 true K.xs) K.most a out)) := by
 obtain ⟨X, hX⟩ : ∃ X, X = Y0l W1 W2 (Y00 true K.xs) K.most a out := ⟨_, rfl⟩
 rw [← hX]
 obtain ⟨wb, hwb⟩ : ∃ wb, wb = w.alloc (.cells #[.pointer (some ⟨ga, 0, none⟩), .pointer (some ⟨gb, 0, none⟩)] 57) := ⟨_, rfl⟩
 have hob : Only (fun _ => False) w wb := by rw [hwb]; exact Only.of_below ((Below.refl _ w).alloc (Nat.le_refl _) _)
 have hsz : wb.heap.size = w.heap.size + 1 := by rw [hwb]; exact Array.size_push _
 have hbx : wb.heap[w.heap.size]? = some (.cells #[.pointer (some ⟨ga, 0, none⟩), .pointer (some ⟨gb, 0, none⟩)] 57 (0, 0)) := by rw [hwb]; exact Array.getElem?_push_size
 have hlt := h.lt
 have hlo := h.lo
 have hown := h.own_lt
 have hcB := hc.1
 have HBX : Hid (∀ wr, Only (Y0u K v) wb wr → wr.heap[w.heap.size]? = some (.cells #[.pointer (some ⟨ga, 0, none⟩), .pointer (some ⟨gb, 0, none⟩)] 57 (0, 0))) := Lib.hid fun wr ho =>
  (ho.2.2.2.2 w.heap.size (by omega) (fun e => by
   rcases e with e | e | e
   ·omega
   ·omega
   ·have := hown _ e; omega)).trans hbx
 have HS : Hid (Yhn wb K v F W1 W2 X wb) := Lib.hid ⟨a, v, out, h.keep hob, Only.refl _ _, fun k hk => .inl hk, hX.symm⟩
 have HB1 := Lib.hid (h1.same hob (fun _ _ _ e => e))
 have HB2 := Lib.hid (h2.same hob (fun _ _ _ e => e))
 have HC := Lib.hid hc
 have HOB := Lib.hid (hob.mono (S' := Y0u K v) fun _ _ e => e.elim)
 have HWB := Lib.hid hwb
 have HBL := Lib.hid (Y02 true K.xs)
 clear h h1 h2 hc hX hob hwb hbx hown
 go_enter Tryz.func92, Tryz.ntmps92
 go_wp2_with fail
 rw [← HWB.out]
 go_loopw [5, 6] (fun _ _ wr => Hid (Yhn wb K v F W1 W2 X wr)) (fun _ _ wr => 8 * K.xs.length - Yiz wr K.gr)
 case atStart => exact HS
 case round =>
  obtain ⟨a2, v2, out2, hD, ho, hv2, hrun⟩ := hrel.out
  have hcl2 : Clr K v2 B C := HC.out.on (w' := wr) HB1.out hv2
  have hb1 := HB1.out.only HC.out hlo ho
  have hb2 := HB2.out.only HC.out hlo ho
  have hbx2 := HBX.out wr ho
  have hpos : Yiz wr K.gr = a2 := Y6e hD.rd
  have hab := hD.rd.2.2.1
  have k0 := hD.c0
  have b0 : wr.cell? ⟨w.heap.size, 0, none⟩ = some (.pointer (some ⟨ga, 0, none⟩)) := by simp [World.cell?, hbx2]
  have hwz := ho.2.2.2.1
  have HKP : Hid (∀ w2, Only (· = K.gr) wr.drew w2 → w2.cell? ⟨K.d, 0, none⟩ = some (.pointer (some ⟨K.gr, 0, none⟩)) ∧ w2.cell? ⟨w.heap.size, 0, none⟩ = some (.pointer (some ⟨ga, 0, none⟩))) := Lib.hid (by
   intro w2 ho2
   have e1 : ∀ k, k < wr.heap.size → k ≠ K.gr → ∀ i, w2.cell? ⟨k, i, none⟩ = wr.cell? ⟨k, i, none⟩ := fun k h1 h2 i => World.cell?_of_block (ho2.2.2.2.2 k h1 h2)
   exact ⟨(e1 _ hD.lt (by omega) 0).trans k0, (e1 _ (by omega) (by omega) 0).trans b0⟩)
  have HDD : Hid (De wr.drew K a2 v2 out2 F) := Lib.hid (hD.drawn ⟨1, rfl⟩)
  have hb1d := hb1.same (w' := wr.drew) (S := fun _ => False) (Only.drawn _ (⟨1, rfl⟩ : Drawn wr wr.drew)) (fun _ _ _ e => e)
  have HO := Lib.hid (ho.trans (Only.drawn (w' := wr.drew) (Y0u K v) ⟨1, rfl⟩))
  have HV2 := Lib.hid hv2
  have HPOS := Lib.hid hpos
  have HB2r := Lib.hid (hb2.same (w' := wr.drew) (S := fun _ => False) (Only.drawn _ (⟨1, rfl⟩ : Drawn wr wr.drew)) (fun _ _ _ e => e))
  have HCL2 := Lib.hid hcl2
  have hrun2 := hrun
  rw [Y77 W1 W2 _ K.most a2 out2 (by rw [HBL.out]; exact hab)] at hrun2
  have hcg : K.gr < B := by omega
  rcases hx : Y10 W1 (Y00 true K.xs) a2 with c | ⟨s, b⟩
  ·have HW := Lib.hid (Y8q wr.drew K a2 v2 out2 F B C ga c W1 HDD.out hb1d hcg hx)
   have hc0 : ((c : Int) != 0) = true := by have := Y3z hx; simp; omega
   have HRES : Hid (∀ w2, Only (· = K.gr) wr.drew w2 → Res w K v F X (.returned (.int .i64 (c : Int))) w2) := Lib.hid fun w2 ho2 =>
    .inr ⟨c, by rw [← hrun2, hx]; rfl, by have := Y3z hx; omega, rfl, (HOB.out.trans HO.out).trans (Y0s ho2)⟩
   clear hx hrun hrun2 hD ho hv2 hpos hb1 hb2 hbx2 hb1d hcl2
   go_wp2_with fail
   go_region_held3 (fun w2 => w2.cell? ⟨K.d, 0, none⟩ = some (.pointer (some ⟨K.gr, 0, none⟩)) ∧ w2.cell? ⟨w.heap.size, 0, none⟩ = some (.pointer (some ⟨ga, 0, none⟩))) (first | exact ⟨k0, b0⟩ | exact HKP.out _ HO2.out) (first | (go_at_call 122; refine HW.out.mono ?_; rintro e w2 ⟨rfl, ho2⟩; have HO2 := Lib.hid ho2; clear ho2))
   all_goals
    go_wp2_with fail
    go_ret
    exact HRES.out _ HO2.out
  ·have hs300 : s < 300 := by have := Y89 hx; omega
   have hsb := (Y2c W1 a2).le (by rw [HBL.out]; exact hab) hx
   have hsl := Yb7 hx
   have HW := Lib.hid (Ybr wr.drew K a2 v2 out2 F B C ga s b W1 HDD.out hb1d hcg hx)
   rw [hx, R.then_ok] at hrun2
   rw [HBL.out] at hsb
   have HRUN := Lib.hid hrun2
   clear hx hrun hrun2 hD ho hv2 hpos hb1 hb2 hbx2 hb1d hcl2
   go_wp2_with fail
   go_region_held3 (fun w2 => w2.cell? ⟨K.d, 0, none⟩ = some (.pointer (some ⟨K.gr, 0, none⟩)) ∧ w2.cell? ⟨w.heap.size, 0, none⟩ = some (.pointer (some ⟨ga, 0, none⟩))) (first | exact ⟨k0, b0⟩ | exact HKP.out _ HO2.out) (first | (go_at_call 122; refine HW.out.mono ?_; rintro e w2 ⟨rfl, hd2, ho2⟩; have HO2 := Lib.hid ho2; have HD2 := Lib.hid hd2; clear ho2 hd2))
   all_goals
    have HO3 := Lib.hid (HO.out.trans (Y0s HO2.out))
    by_cases h256 : s = 256
    ·have q6 : ((s : Int) == 256) = true := by simp; omega
     have HRES : Hid (Res w K v F X (.returned (.int .i64 0)) w2) := Lib.hid (by
      have := HRUN.out
      rw [if_pos h256] at this
      exact .inl ⟨out2, b, this.symm, rfl, DeT.more (HOB.out.trans HO3.out) (fun k hk => (HV2.out k hk).imp id (fun e => by omega)) (DeT.refl HD2.out)⟩)
     clear h256
     go_wp2_with fail
     go_ret
     exact HRES.out
    ·have q6 : ((s : Int) == 256) = false := by simp; omega
     by_cases hlt : s < 256
     ·have ql : decide ((s : Int) < 256) = true := by simp; omega
      have hby : (((UInt8.ofNat s).toNat : Nat) : Int) = (s : Int) := by rw [UInt8.toNat_ofNat']; omega
      have HL := Y64 w2 K b v2 out2 F (UInt8.ofNat s) HD2.out
      rw [hby] at HL
      have HLIT := Lib.hid HL
      have hw8 : IntKind.u8.wrap (s : Int) = (s : Int) := by rw [IntKind.wrap_u8]; omega
      clear HL hby
      by_cases hfull : K.most < out2.length + 1
      ·have HRES : Hid (∀ w3, Only (Y0u K v2) w2 w3 → Res w K v F X (.returned (.int .i64 8)) w3) := Lib.hid (by
        intro w3 h3
        have := HRUN.out
        rw [if_neg h256, if_pos hlt, if_pos (by omega)] at this
        exact .inr ⟨8, this.symm, by decide, rfl, HOB.out.trans (Y2k HO3.out HV2.out h3)⟩)
       clear h256
       go_wp2_with fail
       refine HLIT.out.mono ?_
       intro e w3 hL
       unfold Yk0 at hL
       rw [if_pos (by simpa using hfull)] at hL
       obtain ⟨rfl, ho3⟩ := hL
       have HRES2 := Lib.hid (HRES.out w3 ho3)
       clear ho3
       go_wp2_with fail
       go_ret
       exact HRES2.out
      ·have HNX : Hid (Y0l W1 W2 (Y00 true K.xs) K.most b (out2 ++ [UInt8.ofNat s]) = X) := Lib.hid (by
        have := HRUN.out
        rwa [if_neg h256, if_pos hlt, if_neg (by omega)] at this)
       clear h256
       go_wp2_with fail
       refine HLIT.out.mono ?_
       intro e w3 hL
       unfold Yk0 at hL
       rw [if_neg (by simpa using hfull)] at hL
       obtain ⟨rfl, v3, hD3, ho3, hv3⟩ := hL
       have HN : Hid (Yhn wb K v F W1 W2 X w3 ∧ Yiz w3 K.gr = b) := Lib.hid ⟨⟨b, v3, _, hD3, Y2k HO3.out HV2.out ho3, fun k hk => by
        rcases hv3 k hk with e | e
        ·exact HV2.out k e
        ·exact .inr (Nat.le_trans HO3.out.2.2.2.1 e), HNX.out⟩, Y6e hD3.rd⟩
       clear hD3 ho3 hv3
       go_wp2_with fail
       go_roundw
       case rel => exact Lib.hid HN.out.1
       case measure => rw [HN.out.2, HPOS.out]; omega
     ·have ql : decide ((s : Int) < 256) = false := by simp; omega
      have HB2q := Lib.hid (HB2r.out.same (S := (· = K.gr)) HO2.out (fun k h1 h2 e => by omega))
      have HCP := Yd9 w2 K b v2 out2 F B C gb (s - 257) W2 HD2.out HB2q.out HCL2.out hW2 (by omega)
      have hs7 : ((s - 257 : Nat) : Int) = (s : Int) - 257 := by omega
      rw [hs7] at HCP
      have HCOP := Lib.hid HCP
      have b1 : w2.cell? ⟨w.heap.size, 1, none⟩ = some (.pointer (some ⟨gb, 0, none⟩)) := by simp [World.cell?, HBX.out w2 HO3.out]
      have hnx := HRUN.out
      rw [if_neg h256, if_neg hlt] at hnx
      have HNX := Lib.hid hnx
      clear HCP hs7 hnx h256
      go_wp2_with fail
      refine HCOP.out.mono ?_
      rintro e w3 hR
      rcases hR with ⟨o, b3, hx3, rfl, v3, hD3, ho3, hv3⟩ | ⟨c, hx3, hcne, rfl, ho3⟩
      ·have hle3 : b ≤ b3 ∧ b3 ≤ 8 * K.xs.length := by
        have h0 : Hon b (fun L => Y2x W2 L K.most (s - 257) b out2) := (Y1n false _ b).then fun n b hb => (Y2c W2 b).then fun k c hc => (Y1n true k c).then fun d e he => Hon.ite (Hon.err e 3) (Hon.ite (Hon.err e 8) (Hon.ok e _))
        have := h0.le (by rw [HBL.out]; exact hsb.2) hx3
        rwa [HBL.out] at this
       have HN : Hid (Yhn wb K v F W1 W2 X w3 ∧ Yiz w3 K.gr = b3) := Lib.hid ⟨⟨b3, v3, _, hD3, Y2k HO3.out HV2.out ho3, fun k hk => by
        rcases hv3 k hk with e | e
        ·exact HV2.out k e
        ·exact .inr (Nat.le_trans HO3.out.2.2.2.1 e), by rw [← HNX.out, hx3]; rfl⟩, Y6e hD3.rd⟩
       clear hD3 ho3 hv3 hx3
       go_wp2_with fail
       go_roundw
       case rel => exact Lib.hid HN.out.1
       case measure => rw [HN.out.2, HPOS.out]; omega
      ·have hc0 : ((c : Int) != 0) = true := by simp; omega
       have HRES : Hid (Res w K v F X (.returned (.int .i64 (c : Int))) w3) := Lib.hid (.inr ⟨c, by rw [← HNX.out, hx3]; rfl, hcne, rfl, HOB.out.trans (Y2k HO3.out HV2.out ho3)⟩)
       clear hx3 ho3 hcne
       go_wp2_with fail
       go_ret
       exact HRES.out
end Go.Proofs.YtkkfkmoikcmhoaaGreat.Inf
namespace Go.Proofs.YtkkfkmoikcmhoaaGreat.Hf
open Go.RowKit Oct Bit
set_option maxRecDepth 100000
theorem Ygq (L : List Nat) (h : L.length ≤ 100000) : startN L 31 ≤ 3328599654400000 := by
 have := Ya3 L 31
 generalize startN L 31 = T at this ⊢
 omega
def okZ (zs : List Int) : Bool := zs.all fun z => decide (0 ≤ z ∧ z ≤ 30)
def Y1a (zs : List Int) : List Nat := zs.map Int.toNat
theorem Y1o (zs : List Int) : (Y1a zs).length = zs.length := by simp [Y1a]
def Y8r (zs : List Int) : Int := if okZ zs then (if startN (Y1a zs) 31 ≤ 1073741824 then 0 else 3) else 1
def Y2h (L : List Nat) : List (List UInt8) := (Y06 L).map fun m => m.map dig
theorem Y2b (L : List Nat) : (Y2h L).length = L.length := by simp [Y2h, Y0c]
theorem Y4y (L : List Nat) (i : Nat) (h : i < (Y2h L).length) (h' : i < L.length) : (Y2h L)[i] = (Y0g (pos L L[i] i) L[i]).map dig := by
 simp only [Y2h, List.getElem_map]
 rw [Y79 L i _ h']
def Yjx (w : World) (zs : List Int) (e : Ending) (w' : World) : Prop :=
 Below w.heap.size w w' ∧ ((Y8r zs ≠ 0 ∧ e = .returned (.tuple #[.slice none 0 0, .bool false, .int .i64 (Y8r zs)])) ∨
  (Y8r zs = 0 ∧ ∃ q c, e = .returned (.tuple #[.slice q zs.length c, .bool (decide (startN (Y1a zs) 31 = 1073741824)), .int .i64 0]) ∧ VRow w' w'.heap.size q (strs (Y2h (Y1a zs))) ∧ (q = none → c = 0) ∧ zs.length ≤ c ∧ c ≤ maxLen ∧ ∀ a, q = some a → w.heap.size ≤ a.block))
theorem Yc3 (zs : List Int) (k : Nat) (h : k < zs.length) (h1 : okZ (zs.take k) = true) (h2 : 0 ≤ zs[k]) (h3 : zs[k] ≤ 30) : okZ (zs.take (k + 1)) = true := by
 unfold okZ at *
 rw [List.take_succ_eq_append_getElem h, List.all_append, h1]
 simp [h2, h3]
theorem Yfy (zs : List Int) (k : Nat) (h : k < zs.length) (h1 : zs[k] < 0 ∨ 30 < zs[k]) : Y8r zs = 1 := by
 have : okZ zs = false := by
  unfold okZ
  rw [List.all_eq_false]
  exact ⟨zs[k], List.getElem_mem h, by simp; omega⟩
 unfold Y8r
 rw [this]
 rfl
theorem Yba (zs : List Int) (h : okZ zs = true) (k : Nat) (hk : k < zs.length) : 0 ≤ zs[k] ∧ zs[k] ≤ 30 := by
 unfold okZ at h
 rw [List.all_eq_true] at h
 have := h _ (List.getElem_mem hk)
 simpa using this
theorem Y62 (zs : List Int) (k : Nat) (h : k < (Y1a zs).length) (h' : k < zs.length) : (Y1a zs)[k] = zs[k].toNat := by simp [Y1a]
theorem Yda (zs : List Int) (k m : Nat) (h : k < zs.length) (hm : zs[k] = (m : Int)) : (fun j => (Y1a (zs.take (k + 1))).count j) = fun j => if j = m then (Y1a (zs.take k)).count m + 1 else (Y1a (zs.take k)).count j := by
 funext j
 rw [List.take_succ_eq_append_getElem h]
 unfold Y1a
 rw [List.map_append, List.count_append, hm]
 by_cases hj : j = m
 ·subst hj; simp
 ·rw [if_neg hj]
  have : ¬ m = j := fun e => hj e.symm
  simp [this]
def Y3n (vs : List Value) (z : Value) (k : Nat) : List Value := vs.take k ++ List.replicate (vs.length - k) z
theorem Y3o (vs : List Value) (z : Value) (k : Nat) (h : k ≤ vs.length) : (Y3n vs z k).length = vs.length := by simp [Y3n]; omega
theorem Yde (vs : List Value) (z : Value) : Y3n vs z 0 = List.replicate vs.length z := by simp [Y3n]
theorem Yf8 (vs : List Value) (z : Value) : Y3n vs z vs.length = vs := by simp [Y3n]
theorem Ydd (vs : List Value) (z : Value) (k : Nat) (h : k < vs.length) : (Y3n vs z k).set k vs[k] = Y3n vs z (k + 1) := by
 unfold Y3n
 rw [List.set_append, if_neg (by simp; omega), List.take_succ_eq_append_getElem h, List.append_assoc]
 congr 1
 rw [List.length_take, Nat.min_eq_left (by omega), Nat.sub_self, show vs.length - k = (vs.length - (k + 1)) + 1 by omega, List.replicate_succ]
 simp
theorem Ydc (vs : List Value) (z : Value) (k : Nat) (h : k < vs.length) (hz : vs[k] = z) : Y3n vs z k = Y3n vs z (k + 1) := by
 unfold Y3n
 rw [List.take_succ_eq_append_getElem h, List.append_assoc, show vs.length - k = (vs.length - (k + 1)) + 1 by omega, List.replicate_succ, hz]
 rfl
theorem Y3q (z : Value) (n : Nat) : (madeCells #[z] n).toList = List.replicate n z := by
 simp [madeCells]
 apply List.ext_getElem <;> simp [Nat.mod_one]
def Y4o (L : List Nat) (k j : Nat) : Nat := if j = 0 then 0 else pos L j k
theorem Ydr (L : List Nat) : Y5k (Y29 L 31) = Y5k (Y4o L 0) := by
 unfold Y5k
 refine congrArg List.toArray (List.map_congr_left fun j hj => ?_)
 have hj : j < 31 := by simpa using hj
 unfold Y29 Y4o
 rw [if_pos hj]
 split
 ·rename_i h; subst h; rfl
 ·rw [Y3d]
theorem Ydq (L : List Nat) (k n : Nat) (h : k < L.length) (hn : L[k] = n) (h0 : n ≠ 0) : (fun i => if i = n then Y4o L k n + share n else Y4o L k i) = Y4o L (k + 1) := by
 funext i
 unfold Y4o
 by_cases hi : i = n
 ·subst hi
  rw [if_pos rfl, if_neg h0, if_neg h0, Y3c L i k h, if_pos hn]
 ·rw [if_neg hi]
  split
  ·rfl
  ·rw [Y3c L i k h, if_neg (fun e => hi (e.symm.trans hn)), Nat.add_zero]
theorem Ydp (L : List Nat) (k : Nat) (h : k < L.length) (hn : L[k] = 0) : Y5k (Y4o L k) = Y5k (Y4o L (k + 1)) := by
 congr 1
 funext i
 unfold Y4o
 split
 ·rfl
 ·rename_i hi
  rw [Y3c L i k h, if_neg (fun e => hi (e.symm.trans hn)), Nat.add_zero]
structure CanM (W : World) (nn nw : Nat) (L : List Nat) (vs : List Value) (k : Nat) : Prop where
 b1 : W.heap[nn]? = some (.cells (Y5k (Y4o L k)) 202 (0, 0))
 b2 : W.heap[nw]? = some (.cells (Y3n vs (.string ByteArray.empty) k).toArray 9 (0, 0))
 ne : nn ≠ nw
theorem CanM.lt1 {W : World} {nn nw k : Nat} {L : List Nat} {vs : List Value} (h : CanM W nn nw L vs k) : nn < W.heap.size := by
 rcases Nat.lt_or_ge nn W.heap.size with hlt | hge
 ·exact hlt
 ·have := h.b1; rw [Array.getElem?_eq_none hge] at this; cases this
theorem CanM.lt2 {W : World} {nn nw k : Nat} {L : List Nat} {vs : List Value} (h : CanM W nn nw L vs k) : nw < W.heap.size := by
 rcases Nat.lt_or_ge nw W.heap.size with hlt | hge
 ·exact hlt
 ·have := h.b2; rw [Array.getElem?_eq_none hge] at this; cases this
theorem CanM.below {W W' : World} {nn nw k : Nat} {L : List Nat} {vs : List Value} (h : CanM W nn nw L vs k) (hb : Below W.heap.size W W') : CanM W' nn nw L vs k :=
 ⟨(hb.block nn h.lt1).trans h.b1, (hb.block nw h.lt2).trans h.b2, h.ne⟩
theorem CanM.skip {W : World} {nn nw k : Nat} {L : List Nat} {vs : List Value} (h : CanM W nn nw L vs k) (hk : k < L.length) (hn : L[k] = 0) (hv : k < vs.length) (hz : vs[k] = .string ByteArray.empty) : CanM W nn nw L vs (k + 1) :=
 ⟨by rw [← Ydp L k hk hn]; exact h.b1, by rw [← Ydc vs _ k hv hz]; exact h.b2, h.ne⟩
theorem CanM.put {W : World} {nn nw k n : Nat} {L : List Nat} {vs : List Value} (h : CanM W nn nw L vs k) (hk : k < L.length) (hn : L[k] = n) (h0 : n ≠ 0) (hv : k < vs.length) :
  CanM ((W.setCell ⟨nw, k, none⟩ vs[k]).drew.setCell ⟨nn, n, none⟩ (.int .u64 ((Y4o L k n + share n : Nat) : Int))) nn nw L vs (k + 1) := by
 refine ⟨?_, ?_, h.ne⟩
 ·have h1 : (W.setCell ⟨nw, k, none⟩ vs[k]).drew.heap[nn]? = some (.cells (Y5k (Y4o L k)) 202 (0, 0)) := Y5p h.b1 h.ne.symm k vs[k]
  rw [Y5q h1, Ycs, Ydq L k n hk hn h0]
 ·have h2 : (W.setCell ⟨nw, k, none⟩ vs[k]).drew.heap[nw]? = some (.cells ((Y3n vs (.string ByteArray.empty) k).toArray.setIfInBounds k vs[k]) 9 (0, 0)) := Y5q h.b2 k vs[k]
  rw [List.setIfInBounds_toArray, Ydd vs _ k hv] at h2
  exact Y5p h2 h.ne n _
theorem Y3h {ops : Array Oper} {rest : List Oper} {op : Oper} {a : Act} {w : World} {Q : Exit → Act → World → Prop} (hgd : op.guard = none) (ty : TypeId) (x y : Operand) (ho : op.op = .store ty x y)
  (c cells : Array Value) (hx : a.eval x = .pointer (some ⟨w.heap.size, 0, none⟩)) (hy : a.eval y = .agg cells)
  (hi : (Tryz.prog.info? ty).map (·.size) = some cells.size) (hc : c.size = cells.size) (h1 : cells.all (·.oneCell') = true)
  (h : wpList Tryz.prog ops Q rest (a.put op.dst undef) (w.alloc (.cells cells ty))) : wpList Tryz.prog ops Q (op :: rest) a (w.alloc (.cells c ty)) :=
 wpList_plain hgd fun _ hK => by
  unfold Oper.wp execOp
  simp only [ho, hx, hy, Sem.run_bind, Sem.run_pure, Result.andThen_ok, run_storeAt_new w ty c cells hi hc h1]
  exact hK _ _ h
theorem Yct (zs : List Int) : Y6z (fun j => (Y1a (zs.take 0)).count j) = (#[.int .i64 0, .int .i64 0, .int .i64 0, .int .i64 0, .int .i64 0, .int .i64 0, .int .i64 0, .int .i64 0, .int .i64 0, .int .i64 0, .int .i64 0, .int .i64 0, .int .i64 0, .int .i64 0, .int .i64 0, .int .i64 0, .int .i64 0, .int .i64 0, .int .i64 0, .int .i64 0, .int .i64 0, .int .i64 0, .int .i64 0, .int .i64 0, .int .i64 0, .int .i64 0, .int .i64 0, .int .i64 0, .int .i64 0, .int .i64 0, .int .i64 0] : Array Value) := by
 have e : (fun j => (Y1a (zs.take 0)).count j) = fun _ => 0 := by funext j; simp [Y1a]
 rw [e, Yh5]
 rfl
set_option maxHeartbeats 2000000 in
theorem Yey (p : Option Addr) (len cap : Nat) (zs : List Int) (w : World) (hr : VRow w w.heap.size p (ints zs)) (hx : zs.length = len) (hl : len ≤ 100000) :
  Calls Tryz.prog 106 #[.slice p len cap] w (Yjx w zs) := by
 obtain ⟨i0, hi, hz0, hz1, hz2⟩ := info_parts Tryz.infoStr
 have hB0 : Below w.heap.size w (w.alloc (.cells (Y6z (fun j => (Y1a (zs.take 0)).count j)) 201)) := (Below.refl _ w).alloc (Nat.le_refl _) _
 have hM0 : (w.alloc (.cells (Y6z (fun j => (Y1a (zs.take 0)).count j)) 201)).heap[w.heap.size]? = some (.cells (Y6z (fun j => (Y1a (zs.take 0)).count j)) 201 (0, 0)) := heap_alloc_last w _
 have hM1 : Hid ((w.alloc (.cells (#[.int .i64 0, .int .i64 0, .int .i64 0, .int .i64 0, .int .i64 0, .int .i64 0, .int .i64 0, .int .i64 0, .int .i64 0, .int .i64 0, .int .i64 0, .int .i64 0, .int .i64 0, .int .i64 0, .int .i64 0, .int .i64 0, .int .i64 0, .int .i64 0, .int .i64 0, .int .i64 0, .int .i64 0, .int .i64 0, .int .i64 0, .int .i64 0, .int .i64 0, .int .i64 0, .int .i64 0, .int .i64 0, .int .i64 0, .int .i64 0, .int .i64 0] : Array Value) 201)).heap[w.heap.size]? = some (.cells (Y6z (fun j => (Y1a (zs.take 0)).count j)) 201 (0, 0))) := by
  rw [Yct] at hM0 ⊢
  exact hM0
 rw [Yct] at hB0
 have HB0 := Lib.hid hB0
 have HX := Lib.hid hx
 have HR := Lib.hid hr
 clear hB0 hx hr hM0
 go_enter Tryz.func106, Tryz.ntmps106
 go_wp2_with fail
 go_loopw [7, 15] (fun u i wr => ∃ k : Nat, k ≤ len ∧ i = .int .i64 (k : Int) ∧ Hid (okZ (zs.take k) = true) ∧ Hid (wr.heap[w.heap.size]? = some (.cells (Y6z (fun j => (Y1a (zs.take k)).count j)) 201 (0, 0))) ∧ Hid (Below w.heap.size w wr)) (fun _ i _ => len - (intOf i).toNat)
 case atStart => exact ⟨0, by omega, rfl, rfl, hM1, HB0⟩
 case round =>
  obtain ⟨k, hk, rfl, HO, HM, HB⟩ := hrel
  by_cases hlt : k < len
  ·have hkz : k < zs.length := by rw [HX.out]; exact hlt
   obtain ⟨b, off, hp, hbl⟩ := HR.out.addr (by rw [Y04]; omega)
   subst hp
   have hc := (HB.out.cell (p := ⟨b, off + k, none⟩) hbl).trans (HR.out.int k hkz)
   have HT := Lib.hid (Yc3 zs k hkz HO.out)
   have HBAD := Lib.hid (Yfy zs k hkz)
   have HCT := Lib.hid (fun m => Yda zs k m hkz)
   generalize zs[k] = z at hc HT HBAD HCT
   have hd : decide ((k : Int) < (len : Int)) = true := by simp; omega
   have i1 : (0 : Int) ≤ (k : Int) := by omega
   have i2 : (k : Int) < (len : Int) := by omega
   by_cases h0 : z < 0
   ·have hd0 : decide (z < 0) = true := by simpa using h0
    have HE := Lib.hid (HBAD.out (.inl h0))
    go_wp2_with fail
    go_ret3
    exact ⟨HB.out, .inl ⟨by rw [HE.out]; decide, by rw [HE.out]; rfl⟩⟩
   ·have hd0 : decide (z < 0) = false := by simpa using h0
    by_cases h30 : 30 < z
    ·have hd1 : decide (30 < z) = true := by simpa using h30
     have HE := Lib.hid (HBAD.out (.inr h30))
     go_wp2_with fail
     go_ret3
     exact ⟨HB.out, .inl ⟨by rw [HE.out]; decide, by rw [HE.out]; rfl⟩⟩
    ·have hd1 : decide (30 < z) = false := by simpa using h30
     obtain ⟨m, rfl⟩ : ∃ m : Nat, z = (m : Int) := ⟨z.toNat, by omega⟩
     have HT2 := Lib.hid (HT.out (by omega) (by omega))
     have HM2 := Lib.hid (Y5q HM.out m (.int .i64 (((Y1a (zs.take k)).count m + 1 : Nat) : Int)))
     rw [Yjs, ← HCT.out m rfl] at HM2
     have hcm := Yaa HM.out m (by omega)
     have hfm := Y1y HM.out m
     have hcl : (Y1a (zs.take k)).count m ≤ 100000 := Nat.le_trans List.count_le_length (by rw [Y1o, List.length_take]; omega)
     have HB2 := Lib.hid (HB.out.setCell (p := ⟨w.heap.size, m, none⟩) (Nat.le_refl _) (.int .i64 (((Y1a (zs.take k)).count m + 1 : Nat) : Int)))
     generalize (Y1a (zs.take k)).count m = c at hcm hcl HM2 HB2
     have j1 : (0 : Int) ≤ (m : Int) := by omega
     have j2 : (m : Int) < 31 := by omega
     have HCC := Lib.hid (show ((c + 1 : Nat) : Int) = (c : Int) + 1 by omega)
     rw [HCC.out] at HM2 HB2
     clear HT HBAD HCT
     go_wp2_with fail
     go_roundw
     case rel => exact ⟨k + 1, by omega, by go_num, HT2, HM2, HB2⟩
     case measure => simp [intOf]; omega
  ·have hkl : k = len := by omega
   subst hkl
   have hd : decide ((k : Int) < (k : Int)) = false := by simp
   have hOk := HO.out
   have hM := HM.out
   rw [← HX.out, List.take_length] at hOk hM
   have hLl := Y1o zs
   obtain ⟨L, hL⟩ : ∃ L, L = Y1a zs := ⟨_, rfl⟩
   have hcE : Y8r zs = if startN L 31 ≤ 1073741824 then 0 else 3 := by unfold Y8r; rw [if_pos hOk, hL]
   rw [← hL] at hM hLl
   rw [HX.out] at hLl
   have HLL := Lib.hid hLl
   have HLE := Lib.hid hL
   have HCE := Lib.hid hcE
   have HOK := Lib.hid hOk
   have hrg := Y8w hM
   have hi31 : (Tryz.prog.info? 201).map (·.size) = some (Y6z (fun j => L.count j)).toList.length := by rw [Tryz.size31, Array.length_toList, Yh4]
   have HI31 := Lib.hid hi31
   have HRG := Lib.hid hrg
   have HST := Lib.hid (Ye7 L wr (by omega))
   generalize Y6z (fun j => L.count j) = cs at HI31 HRG HST
   clear hM hLl hL hcE hOk hrg hi31 HM HO
   go_wp2_with (refine wpList_load_mid rfl 201 _ rfl w.heap.size 0 rfl cs.toList _ HRG.out Tryz.underlying201 rfl HI31.out ?_)
   refine HST.out.mono ?_
   rintro e w2 ⟨rfl, hb2⟩
   have HB2 := Lib.hid (HB.out.trans (hb2.mono HB.out.size))
   have hT2 : startN L 31 ≤ 3328599654400000 := Ygq L (by rw [HLL.out]; exact hl)
   have hiu : (Tryz.prog.info? 202).map (·.size) = some (Y5k (Y29 L 31)).size := by rw [Tryz.size31u, Y6v]
   have hnz := Ydr L
   have HV1 := Lib.hid (Ycr (Y29 L 31))
   have HIU := Lib.hid hiu
   have HNZ := Lib.hid hnz
   have hsz31 : (Y5k (Y29 L 31)).size = 31 := Y6v _
   have HSZ := Lib.hid hsz31
   generalize Y5k (Y29 L 31) = fs at HV1 HIU HNZ HSZ
   generalize hTe : startN L 31 = T at HCE hT2 ⊢
   have HTE := Lib.hid hTe
   clear hb2 hiu hnz hsz31 hTe
   by_cases hover : 1073741824 < T
   ·have hdt : decide (1073741824 < (T : Int)) = true := by simp; omega
    have HE := Lib.hid (show Y8r zs = 3 by rw [HCE.out, if_neg (by omega)])
    go_wp2_with (refine Y3h rfl 202 _ _ rfl _ fs rfl rfl HIU.out HSZ.out.symm HV1.out ?_)
    go_ret3
    exact ⟨HB2.out.alloc HB2.out.size _, .inl ⟨by rw [HE.out]; decide, by rw [HE.out]; rfl⟩⟩
   ·have hdt : decide (1073741824 < (T : Int)) = false := by simp; omega
    have hEQ : ((T : Int) == 1073741824) = decide (T = 1073741824) := by rw [Bool.eq_iff_iff]; simp; omega
    have HEQ := Lib.hid hEQ
    have hover' := Nat.le_of_not_lt hover
    have HE := Lib.hid (show Y8r zs = 0 by rw [HCE.out, if_pos hover'])
    clear hEQ
    go_wp2_with (first | (refine Y3h rfl 202 _ _ rfl _ fs rfl rfl HIU.out HSZ.out.symm HV1.out ?_) | (at_make; refine wpList_make_full _ rfl _ _ 77 rfl (w2.alloc (.cells fs 202)).heap.size 9 i0 (.string ByteArray.empty) 1 Tryz.underlying77 hi hz0 hz1 .i64 .i64 (k : Int) (k : Int) k rfl rfl rfl rfl ?c2 ?c3 ?c4 ?_))
    case c2 => rw [hz2]; omega
    case c3 => unfold maxLen; omega
    case c4 => simp
    intro w3 hown hgrow
    have hb3 : Below (w2.alloc (.cells fs 202)).heap.size (w2.alloc (.cells fs 202)) w3 := (Below.refl _ _).grown hgrow (Nat.le_refl _) (fun k hk => by cases hk)
    have hnn : w3.heap[w2.heap.size]? = some (.cells fs 202 (0, 0)) := (hb3.block _ (by simp)).trans (heap_alloc_last w2 _)
    have hnw := Y1k hown
    have hLl := HLL.out
    obtain ⟨vs, hvs⟩ : ∃ vs, vs = strs (Y2h L) := ⟨_, rfl⟩
    have hvl : vs.length = k := by rw [hvs, Y19, Y2b, hLl]
    rw [HNZ.out] at hnn
    rw [Y3q, ← hvl, ← Yde] at hnw
    have HCM := Lib.hid (CanM.mk hnn hnw (by simp))
    have HB3 := Lib.hid (HB2.out.trans ((((Below.refl w2.heap.size w2).alloc (Nat.le_refl _) _).trans (hb3.mono (by simp))).mono HB2.out.size))
    have hn1 : w.heap.size ≤ w2.heap.size := HB2.out.size
    have hn2' : w.heap.size ≤ w2.heap.size + 1 := by omega
    have HVS := Lib.hid hvs
    have HVL := Lib.hid hvl
    generalize hnwe : w2.heap.size + 1 = nw at hnw HCM hn2' ⊢
    generalize w2.heap.size = nn at hnn HCM hn1 ⊢
    clear hnn hnw hown hgrow hb3 hLl hvs hvl HB2 HST HRG HI31 HNZ HV1 HIU HSZ hM1 HB0 hover HCE hT2 hnwe
    go_wp2_with fail
    go_loopw [11, 12, 43] (fun u v i wr => ∃ j : Nat, j ≤ k ∧ i = .int .i64 (j : Int) ∧ Hid (CanM wr nn nw L vs j) ∧ Hid (Below w.heap.size w wr)) (fun _ _ i _ => k - (intOf i).toNat)
    case atStart => exact ⟨0, by omega, rfl, HCM, HB3⟩
    case round =>
     obtain ⟨j, hj, rfl, HM, HB⟩ := hrel
     by_cases hlt : j < k
     ·have hjz : j < zs.length := by rw [HX.out]; exact hlt
      have hjL : j < L.length := by rw [HLL.out]; exact hlt
      have hjv : j < vs.length := by rw [HVL.out]; exact hlt
      obtain ⟨b, off, hp, hbl⟩ := HR.out.addr (by rw [Y04]; omega)
      subst hp
      have hc := (HB.out.cell (p := ⟨b, off + j, none⟩) hbl).trans (HR.out.int j hjz)
      obtain ⟨hz1', hz2'⟩ := Yba zs HOK.out j hjz
      have hLg : ∀ h : j < L.length, L[j] = zs[j].toNat := by
       intro h
       have := Y62 zs j (by rw [Y1o]; exact hjz) hjz
       rw [← this]
       congr 1
      have hLj := hLg hjL
      generalize zs[j] = z at hc hz1' hz2' hLj
      obtain ⟨n, rfl⟩ : ∃ n : Nat, z = (n : Int) := ⟨z.toNat, by omega⟩
      have hLj : L[j] = n := hLj
      have hn30 : n ≤ 30 := by omega
      have hvj : vs[j] = .string (ds (Y0g (pos L n j) n)) := by
       have : ∀ h, vs[j]'h = .string (ds (Y0g (pos L n j) n)) := by
        rw [HVS.out]
        intro h
        simp only [strs, List.getElem_map]
        rw [Y4y L j _ hjL, hLj]
        rfl
       exact this hjv
      have HLJ := Lib.hid hLj
      have hd : decide ((j : Int) < (k : Int)) = true := by simp; omega
      have i1 : (0 : Int) ≤ (j : Int) := by omega
      have i2 : (j : Int) < (k : Int) := by omega
      clear hLg hLj
      by_cases h0 : n = 0
      ·subst h0
       have HM2 := Lib.hid (HM.out.skip hjL HLJ.out hjv hvj)
       clear hvj
       go_wp2_with fail
       go_roundw
       case rel => exact ⟨j + 1, by omega, by go_num, HM2, HB⟩
       case measure => simp [intOf]; omega
      ·have hd0 : decide ((0 : Int) < (n : Int)) = true := by simp; omega
       have j1 : (0 : Int) ≤ (n : Int) := by omega
       have j2 : (n : Int) < 31 := by omega
       have hpt := Y8f L n j hjL HLJ.out h0 hn30
       rw [HTE.out] at hpt
       have hsp := Y1f n
       have hcn := Y6u HM.out.b1 n (by omega)
       have hne : Y4o L j n = pos L n j := by unfold Y4o; rw [if_neg h0]
       have hnf := hne
       rw [hne] at hcn
       have HFB := Lib.hid (fun W => Y7z (pos L n j) n W hn30 (by omega))
       have HPUT := Lib.hid (fun W (h : CanM W nn nw L vs j) => h.put hjL HLJ.out h0 hjv)
       rw [hne, hvj] at HPUT
       have HSH := Lib.hid (fun W => Ya1 n W hn30)
       have HVJ := Lib.hid hvj
       generalize hpv : pos L n j = pv at *
       generalize hsv : share n = sv at *
       clear hpv hvj hne
       go_wp2_with fail
       refine (HFB.out _).mono ?_
       rintro e w4 ⟨rfl, hb4⟩
       have HM4 := Lib.hid (HM.out.below hb4)
       have HB4 := Lib.hid (HB.out.trans (hb4.mono HB.out.size))
       have hcell := HM4.out.b2
       have hw1 : w4.cell? ⟨nw, j, none⟩ = some ((Y3n vs (.string ByteArray.empty) j)[j]'(by rw [Y3o _ _ _ (by omega)]; exact hjv)) := by
        simp [World.cell?, hcell, Y3o vs (.string ByteArray.empty) j (by omega), hjv]
       generalize (Y3n vs (.string ByteArray.empty) j)[j]'(by rw [Y3o _ _ _ (by omega)]; exact hjv) = old at hw1
       have hw2 := Y1y hcell j
       clear hb4 hcell
       generalize hwd : ds (Y0g pv n) = wd at *
       clear hwd
       go_wp2_with fail
       have HC5 := Lib.hid (HPUT.out w4 HM4.out)
       have hc5 : (w4.setCell ⟨nw, j, none⟩ (.string wd)).drew.cell? ⟨nn, n, none⟩ = some (.int .u64 (pv : Int)) := by
        have := Y5p HM4.out.b1 HM4.out.ne.symm j (.string wd)
        exact (Y6u (W := w4.setCell ⟨nw, j, none⟩ (.string wd)) this n (by omega)).trans (by rw [hnf])
       have hf5 : (w4.setCell ⟨nw, j, none⟩ (.string wd)).drew.frozen? ⟨nn, n, none⟩ = false := by
        have := Y5p HM4.out.b1 HM4.out.ne.symm j (.string wd)
        exact Y1y (W := w4.setCell ⟨nw, j, none⟩ (.string wd)) this n
       have HB5 := Lib.hid ((HB4.out.setCell (p := ⟨nw, j, none⟩) hn2' (.string wd)).trans (Drawn.below (w' := (w4.setCell ⟨nw, j, none⟩ (.string wd)).drew) ⟨1, rfl⟩ w.heap.size))
       have HB6 := Lib.hid (HB5.out.setCell (p := ⟨nn, n, none⟩) hn1 (.int .u64 ((pv + sv : Nat) : Int)))
       have hwr : (pv : Int) + (sv : Int) < 18446744073709551616 := by omega
       have HCC := Lib.hid (show ((pv + sv : Nat) : Int) = (pv : Int) + (sv : Int) by omega)
       rw [HCC.out] at HC5 HB6
       generalize w4.setCell ⟨nw, j, none⟩ (.string wd) = W5 at *
       clear hw1 hw2 hcn HFB hpt hsp
       have hwrap : IntKind.u64.wrap ((pv : Int) + (sv : Int)) = (pv : Int) + (sv : Int) := IntWalk.u64_in _ (by omega)
       refine wp_region_held_drew (S := (fun _ => True)) (by kernel_rfl) trivial (fun hHeld => ?_)
       refine wpAnyH_take (i := 0) (v := ?v1) rfl (by kernel_rfl) (by kernel_rfl) (by kernel_rfl) (fun _ _ _ h => h) (Or.inl ⟨by rfl, fun w hSw => ?y1⟩) hHeld ?r1
       case y1 => (try dsimp only at hSw); first | (go_simp; done) | (go_simp; with_reducible rfl)
       try simp only [Act.put, List.setIfInBounds_toArray, List.set_cons_zero, List.set_cons_succ, List.getElem_toArray, List.getElem_cons_zero, List.getElem_cons_succ]
       refine wpAnyH_take (i := 1) (v := ?v2) rfl (by kernel_rfl) (by kernel_rfl) (by kernel_rfl) (fun _ _ _ h => h) (Or.inl ⟨by rfl, fun w hSw => ?y2⟩) hHeld ?r2
       case y2 => (try dsimp only at hSw); first | (go_simp; done) | (go_simp; with_reducible rfl)
       try simp only [Act.put, List.setIfInBounds_toArray, List.set_cons_zero, List.set_cons_succ, List.getElem_toArray, List.getElem_cons_zero, List.getElem_cons_succ]
       refine wpAnyH_take (i := 3) (v := ?v3) rfl (by kernel_rfl) (by kernel_rfl) (by kernel_rfl) (fun _ _ _ h => h) (Or.inl ⟨by rfl, fun w hSw => ?y3⟩) hHeld ?r3
       case y3 => (try dsimp only at hSw); first | (go_simp; done) | (go_simp; with_reducible rfl)
       try simp only [Act.put, List.setIfInBounds_toArray, List.set_cons_zero, List.set_cons_succ, List.getElem_toArray, List.getElem_cons_zero, List.getElem_cons_succ]
       refine wpAnyH_ready (rs := [2, 4]) (by kernel_rfl) (by simp) ?_
       refine AllReadyH.cons rfl (fun K hK => ?_) (AllReadyH.cons rfl (fun K hK => ?_) AllReadyH.nil)
       ·go_simp
        go_wp2_with fail
        refine hK.out _ _ trivial (fun hHeld1 => ?_)
        clear hK K
        try simp only [Act.put, List.setIfInBounds_toArray, List.set_cons_zero, List.set_cons_succ, List.getElem_toArray, List.getElem_cons_zero, List.getElem_cons_succ]
        refine wpAnyH_ready (rs := [4]) (by kernel_rfl) (by simp) ?_
        refine AllReadyH.cons rfl (fun K hK => ?_) AllReadyH.nil
        go_simp
        refine (HSH.out _).mono ?_
        rintro e w' ⟨rfl, rfl⟩
        go_wp2_with fail
        refine hK.out _ _ trivial (fun hHeld2 => ?_)
        clear hK K
        try simp only [Act.put, List.setIfInBounds_toArray, List.set_cons_zero, List.set_cons_succ, List.getElem_toArray, List.getElem_cons_zero, List.getElem_cons_succ]
        refine wpAnyH_take (i := 5) (v := ?v4) rfl (by kernel_rfl) (by kernel_rfl) (by kernel_rfl) (fun _ _ _ h => h) (Or.inl ⟨by rfl, fun w hSw => ?y4⟩) hHeld2 ?r4
        case y4 => (try dsimp only at hSw); first | (go_simp; done) | (go_simp; with_reducible rfl)
        try simp only [Act.put, List.setIfInBounds_toArray, List.set_cons_zero, List.set_cons_succ, List.getElem_toArray, List.getElem_cons_zero, List.getElem_cons_succ]
        refine wpAnyH_take (i := 6) (v := ?v5) rfl (by kernel_rfl) (by kernel_rfl) (by kernel_rfl) (fun _ _ _ h => h) (Or.inl ⟨by rfl, fun w hSw => ?y5⟩) hHeld2 ?r5
        case y5 => (try dsimp only at hSw); first | (go_simp; done) | (go_simp; with_reducible rfl)
        try simp only [Act.put, List.setIfInBounds_toArray, List.set_cons_zero, List.set_cons_succ, List.getElem_toArray, List.getElem_cons_zero, List.getElem_cons_succ]
        refine wpAnyH_ready (rs := [7]) (by kernel_rfl) (by simp) ?_
        refine AllReadyH.cons rfl (fun K hK => ?_) AllReadyH.nil
        go_simp
        go_wp2_with fail
        refine hK.out _ _ trivial (fun hHeld3 => ?_)
        clear hK K
        try simp only [Act.put, List.setIfInBounds_toArray, List.set_cons_zero, List.set_cons_succ, List.getElem_toArray, List.getElem_cons_zero, List.getElem_cons_succ]
        refine wpAnyH_done (by kernel_rfl) ?_ _
        go_wp2_with fail
        go_roundw
        case rel => exact ⟨j + 1, by omega, by go_num, HC5, HB6⟩
        case measure => simp [intOf]; omega
       ·go_simp
        refine (HSH.out _).mono ?_
        rintro e w' ⟨rfl, rfl⟩
        go_wp2_with fail
        refine hK.out _ _ trivial (fun hHeld1 => ?_)
        clear hK K
        try simp only [Act.put, List.setIfInBounds_toArray, List.set_cons_zero, List.set_cons_succ, List.getElem_toArray, List.getElem_cons_zero, List.getElem_cons_succ]
        refine wpAnyH_ready (rs := [2]) (by kernel_rfl) (by simp) ?_
        refine AllReadyH.cons rfl (fun K hK => ?_) AllReadyH.nil
        go_simp
        go_wp2_with fail
        refine hK.out _ _ trivial (fun hHeld2 => ?_)
        clear hK K
        try simp only [Act.put, List.setIfInBounds_toArray, List.set_cons_zero, List.set_cons_succ, List.getElem_toArray, List.getElem_cons_zero, List.getElem_cons_succ]
        refine wpAnyH_take (i := 5) (v := ?v6) rfl (by kernel_rfl) (by kernel_rfl) (by kernel_rfl) (fun _ _ _ h => h) (Or.inl ⟨by rfl, fun w hSw => ?y6⟩) hHeld2 ?r6
        case y6 => (try dsimp only at hSw); first | (go_simp; done) | (go_simp; with_reducible rfl)
        try simp only [Act.put, List.setIfInBounds_toArray, List.set_cons_zero, List.set_cons_succ, List.getElem_toArray, List.getElem_cons_zero, List.getElem_cons_succ]
        refine wpAnyH_take (i := 6) (v := ?v7) rfl (by kernel_rfl) (by kernel_rfl) (by kernel_rfl) (fun _ _ _ h => h) (Or.inl ⟨by rfl, fun w hSw => ?y7⟩) hHeld2 ?r7
        case y7 => (try dsimp only at hSw); first | (go_simp; done) | (go_simp; with_reducible rfl)
        try simp only [Act.put, List.setIfInBounds_toArray, List.set_cons_zero, List.set_cons_succ, List.getElem_toArray, List.getElem_cons_zero, List.getElem_cons_succ]
        refine wpAnyH_ready (rs := [7]) (by kernel_rfl) (by simp) ?_
        refine AllReadyH.cons rfl (fun K hK => ?_) AllReadyH.nil
        go_simp
        go_wp2_with fail
        refine hK.out _ _ trivial (fun hHeld3 => ?_)
        clear hK K
        try simp only [Act.put, List.setIfInBounds_toArray, List.set_cons_zero, List.set_cons_succ, List.getElem_toArray, List.getElem_cons_zero, List.getElem_cons_succ]
        refine wpAnyH_done (by kernel_rfl) ?_ _
        go_wp2_with fail
        go_roundw
        case rel => exact ⟨j + 1, by omega, by go_num, HC5, HB6⟩
        case measure => simp [intOf]; omega
     ·have hje : j = k := by omega
      subst hje
      have hd : decide ((j : Int) < (j : Int)) = false := by simp
      have hb2 := HM.out.b2
      have hlt2 := HM.out.lt2
      have hvl := HVL.out
      rw [show Y3n vs (.string ByteArray.empty) j = vs from by rw [← hvl]; exact Yf8 vs _] at hb2
      have HROW := Lib.hid (Y0y hb2 hlt2)
      have HX2 := Lib.hid (show zs.length = j from HX.out)
      have HFULL := Lib.hid (show ((T : Int) == 1073741824) = decide (startN (Y1a zs) 31 = 1073741824) by rw [HEQ.out, ← HTE.out, HLE.out])
      clear hb2 hlt2 hvl
      go_wp2_with fail
      go_ret3
      refine ⟨HB.out, .inr ⟨HE.out, some ⟨nw, 0, none⟩, j, by rw [HX2.out, ← HFULL.out]; rfl, ?_, (fun h => by cases h), by rw [HX2.out]; exact Nat.le_refl _, by unfold maxLen; omega, fun a h => by injection h with h; subst h; exact hn2'⟩⟩
      have := HROW.out
      rw [HVS.out, HLE.out] at this
      exact this
end Go.Proofs.YtkkfkmoikcmhoaaGreat.Hf
namespace Go.Proofs.YtkkfkmoikcmhoaaGreat.Hf
open Go.RowKit Oct Bit
set_option maxRecDepth 100000
def NextP (w : World) (l : List Bool) (e : Ending) (w' : World) : Prop :=
 w = w' ∧ ((∃ a k, l = a ++ false :: List.replicate k true ∧ e = .returned (.tuple #[.string (ds (a ++ true :: zs k)), .bool true])) ∨
  (l = List.replicate l.length true ∧ e = .returned (.tuple #[.string ⟨#[]⟩, .bool false])))
def Ylq : Value → Nat
 | .string b => b.size
 | _ => 0
set_option maxHeartbeats 1000000 in
theorem Y88 (l : List Bool) (w : World) (hl : l.length ≤ 100000) : Calls Tryz.prog 96 #[.string (ds l)] w (NextP w l) := by
 have hsz := Y0p l
 go_enter Tryz.func96, Tryz.ntmps96
 go_wp2_with fail
 go_loop [4, 5] (fun i s => ∃ k : Nat, k ≤ l.length ∧ i = .int .i64 ((l.length : Int) - 1 - (k : Int)) ∧ Hid (l.drop (l.length - k) = List.replicate k true)) (fun i _ => (intOf i + 1).toNat)
 case atStart => exact ⟨0, by omega, by go_num, Lib.hid (by simp)⟩
 case round =>
  obtain ⟨k, hk, rfl, hH⟩ := hrel
  by_cases hlt : k < l.length
  ·obtain ⟨i, hi⟩ : ∃ i : Nat, i = l.length - 1 - k := ⟨_, rfl⟩
   have hil : i < l.length := by omega
   have HIK := Lib.hid (show i + 1 + k = l.length by omega)
   rw [show (l.length : Int) - 1 - (k : Int) = (i : Int) by omega]
   obtain ⟨b, hb⟩ : ∃ b, b = l[i] := ⟨_, rfl⟩
   have hg : ∀ h, (ds l)[i]'h = dig b := fun h => (Yk5 l i h hil).trans (by rw [hb])
   have hdr : l.drop (l.length - k) = l.drop (i + 1) := by congr 1; omega
   have hcut : l.drop i = b :: l.drop (i + 1) := by rw [hb]; exact List.drop_eq_getElem_cons hil
   have HH := Lib.hid (hdr.symm.trans hH.out)
   have HCUT := Lib.hid hcut
   have i0 : (0 : Int) ≤ (i : Int) := by omega
   have hd : decide ((0 : Int) ≤ (i : Int)) = true := by simp
   clear hb hdr hcut hH hi hk hlt
   cases b
   ·have hz2 : (ds (l.take i)).size = i := by rw [Y0p, List.length_take]; omega
    have hx := Y2z l 0 i
    rw [List.drop_zero, Nat.sub_zero] at hx
    have hap : ds (l.take i) ++ { data := #[49] } = ds (l.take i ++ [true]) := Y27 (l.take i) [true]
    have hz1 : ({ data := #[49] } : ByteArray).size = 1 := rfl
    have hdb : (((dig false).toNat : Int) == 48) = true := rfl
    go_wp2_with fail
    generalize hae : l.take i = a at *
    have HA := Lib.hid hae.symm
    clear hae
    have HAL := Lib.hid (show a.length = i by rw [← Y0p]; exact hz2)
    have hn1 : decide ((0 : Int) ≤ (i : Int)) = true := hd
    clear hx hap hz2
    go_loop [5] (fun s => ∃ j : Nat, j ≤ k ∧ s = .string (ds (a ++ true :: zs j))) (fun s => l.length - Ylq s)
    case atStart => exact ⟨0, by omega, rfl⟩
    case round =>
     obtain ⟨j, hj, rfl⟩ := hrel
     have hzz : (ds (a ++ true :: zs j)).size = i + 1 + j := by
      rw [Y0p]; simp [Y07, HAL.out]; omega
     by_cases hjk : j < k
     ·have hap : ds (a ++ true :: zs j) ++ { data := #[48] } = ds (a ++ true :: zs (j + 1)) := by
       refine (Y27 (a ++ true :: zs j) [false]).trans ?_
       rw [List.append_assoc, List.cons_append, show zs j ++ [false] = zs (j + 1) from by simp [zs, List.replicate_succ']]
      have hz0 : ({ data := #[48] } : ByteArray).size = 1 := rfl
      have HZ2 := Lib.hid (show (ds (a ++ true :: zs (j + 1))).size = (ds (a ++ true :: zs j)).size + 1 by rw [← hap, ByteArray.size_append]; rfl)
      have hb1 : (ds (a ++ true :: zs j)).size ≤ 100000 := by have := HIK.out; omega
      have hd4 : (ds (a ++ true :: zs j)).size < l.length := by have := HIK.out; omega
      clear hzz
      go_wp2_with fail
      go_round
      case rel => exact ⟨j + 1, by omega, rfl⟩
      case measure => simp only [Ylq, HZ2.out]; omega
     ·have hje : j = k := by omega
      subst hje
      have hd4 : ¬ (ds (a ++ true :: zs j)).size < l.length := by have := HIK.out; omega
      have hcat : l = a ++ false :: List.replicate j true := by rw [← HH.out, ← HCUT.out, HA.out, List.take_append_drop]
      have HC := Lib.hid hcat
      clear hzz hcat
      go_wp2_with fail
      go_ret2
      exact ⟨rfl, .inl ⟨a, j, HC.out, rfl⟩⟩
   ·have hdb : (((dig true).toNat : Int) == 48) = false := rfl
    go_wp2_with fail
    go_round
    case rel => exact ⟨k + 1, by have := HIK.out; omega, by have := HIK.out; go_num, Lib.hid (by rw [show l.length - (k + 1) = i by have := HIK.out; omega, HCUT.out, HH.out]; rfl)⟩
    case measure => simp [intOf]
  ·have hke : k = l.length := by omega
   subst hke
   have hH' := hH.out
   rw [Nat.sub_self, List.drop_zero] at hH'
   have HH := Lib.hid hH'
   have hneg : (l.length : Int) - 1 - (l.length : Int) = -1 := by omega
   rw [hneg]
   clear hH hH' hneg
   go_wp2_with fail
   go_ret2
   exact ⟨rfl, .inr ⟨HH.out, rfl⟩⟩
end Go.Proofs.YtkkfkmoikcmhoaaGreat.Hf

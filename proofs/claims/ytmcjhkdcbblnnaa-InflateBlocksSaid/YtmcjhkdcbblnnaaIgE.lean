
/- The contract of a decoder's coded: what code words stand for, up to the end of the block. -/
import Derived.Test.YtmcjhkdcbblnnaaIgD
namespace Go.Proofs.Ytmcjhkdcbblnnaa.Inf
open Go.RowKit Go.Proofs.Ytmcjhkdcbblnnaa.Oct Go.Proofs.Ytmcjhkdcbblnnaa.Bit Go.Proofs.Ytmcjhkdcbblnnaa.Hf
set_option linter.unusedVariables false
set_option linter.unusedSimpArgs false
set_option maxRecDepth 100000

theorem then_then {α β γ : Type} (x : R α) (f : α → Nat → R β) (g : β → Nat → R γ) : (x.then f).then g = x.then fun v a => (f v a).then g := by
  rcases x with e | ⟨v, a⟩ <;> rfl
theorem blockA_two (A B : List (List Bool)) (L : List Bool) (most at_ : Nat) (out : List UInt8) (h : at_ ≤ L.length) : blockA A B L most at_ out = (nextR A L at_).then fun v a =>
    if v = 256 then .ok (out, a)
    else if v < 256 then (if most ≤ out.length then .error 8 else blockA A B L most a (out ++ [UInt8.ofNat v]))
    else (copyR B L most (v - 257) a out).then fun o a => blockA A B L most a o := by
  rw [blockA_eq A B L most at_ out h]
  refine then_congr fun v a _ => ?_
  split
  · rfl
  · split
    · rfl
    · unfold copyR
      rw [then_then]
      refine then_congr fun n b _ => ?_
      rw [then_then]
      refine then_congr fun k c _ => ?_
      rw [then_then]
      refine then_congr fun d e _ => ?_
      split
      · rfl
      · split
        · rfl
        · rfl
def posG (w : World) (g : Nat) : Nat := match w.cell? ⟨g, 1, none⟩ with
  | some v => (intOf v).toNat
  | none => 0
theorem posG_rd {w : World} {g : Nat} {p : Option Addr} {cap : Nat} {xs : List UInt8} {at_ : Nat} {low : Bool} (h : Rd w g p cap xs at_ low) : posG w g = at_ := by
  unfold posG; rw [h.c1]; simp [intOf]
theorem De.own_lt {w : World} {K : Kon} {a : Nat} {v : Value} {out : List UInt8} {F : Option Fix} (h : De w K a v out F) (k : Nat) (hk : v.ownBlock = some k) : k < w.heap.size := (h.own.lt k hk).2
/-- a decoder at work on words -/
def CodSt (wb : World) (K : Kon) (v : Value) (F : Option Fix) (W1 W2 : List (List Bool)) (X : R (List UInt8)) (wr : World) : Prop :=
  ∃ a v2 out, De wr K a v2 out F ∧ Only (MineE K v) wb wr ∧ (∀ k, v2.ownBlock = some k → v.ownBlock = some k ∨ wb.heap.size ≤ k) ∧ blockA W1 W2 (bitsOf true K.xs) K.most a out = X
set_option maxHeartbeats 4000000 in
theorem coded_any (w : World) (K : Kon) (a : Nat) (v : Value) (out : List UInt8) (F : Option Fix) (B C ga gb : Nat) (W1 W2 : List (List Bool)) (h : De w K a v out F) (h1 : Bo w B C ga W1) (h2 : Bo w B C gb W2) (hc : Clr K v B C)
    (hW1 : W1.length ≤ 300) (hW2 : W2.length ≤ 30) :
    Calls Try.prog 55 #[.pointer (some ⟨K.d, 0, none⟩), .agg #[.pointer (some ⟨ga, 0, none⟩), .pointer (some ⟨gb, 0, none⟩)]] w (Res w K v F (blockA W1 W2 (bitsOf true K.xs) K.most a out)) := by
  obtain ⟨X, hX⟩ : ∃ X, X = blockA W1 W2 (bitsOf true K.xs) K.most a out := ⟨_, rfl⟩
  rw [← hX]
  obtain ⟨wb, hwb⟩ : ∃ wb, wb = w.alloc (.cells #[.pointer (some ⟨ga, 0, none⟩), .pointer (some ⟨gb, 0, none⟩)] 56) := ⟨_, rfl⟩
  have hob : Only (fun _ => False) w wb := by rw [hwb]; exact Only.of_below ((Below.refl _ w).alloc (Nat.le_refl _) _)
  have hsz : wb.heap.size = w.heap.size + 1 := by rw [hwb]; exact Array.size_push _
  have hbx : wb.heap[w.heap.size]? = some (.cells #[.pointer (some ⟨ga, 0, none⟩), .pointer (some ⟨gb, 0, none⟩)] 56 (0, 0)) := by rw [hwb]; exact Array.getElem?_push_size
  have hlt := h.lt
  have hlo := h.lo
  have hown := h.own_lt
  have hcB := hc.1
  have HBX : Hid (∀ wr, Only (MineE K v) wb wr → wr.heap[w.heap.size]? = some (.cells #[.pointer (some ⟨ga, 0, none⟩), .pointer (some ⟨gb, 0, none⟩)] 56 (0, 0))) := Lib.hid fun wr ho =>
    (ho.2.2.2.2 w.heap.size (by omega) (fun e => by
      rcases e with e | e | e
      · omega
      · omega
      · have := hown _ e; omega)).trans hbx
  have HS : Hid (CodSt wb K v F W1 W2 X wb) := Lib.hid ⟨a, v, out, h.keep hob, Only.refl _ _, fun k hk => .inl hk, hX.symm⟩
  have HB1 := Lib.hid (h1.same hob (fun _ _ _ e => e))
  have HB2 := Lib.hid (h2.same hob (fun _ _ _ e => e))
  have HC := Lib.hid hc
  have HOB := Lib.hid (hob.mono (S' := MineE K v) fun _ _ e => e.elim)
  have HWB := Lib.hid hwb
  have HBL := Lib.hid (bitsOf_length true K.xs)
  clear h h1 h2 hc hX hob hwb hbx hown
  go_enter Try.func55, Try.ntmps55
  go_wp2_with fail
  rw [← HWB.out]
  go_loopw [5, 6] (fun _ _ wr => Hid (CodSt wb K v F W1 W2 X wr)) (fun _ _ wr => 8 * K.xs.length - posG wr K.gr)
  case atStart => exact HS
  case round =>
    obtain ⟨a2, v2, out2, hD, ho, hv2, hrun⟩ := hrel.out
    have hcl2 : Clr K v2 B C := HC.out.on (w' := wr) HB1.out hv2
    have hb1 := HB1.out.only HC.out hlo ho
    have hb2 := HB2.out.only HC.out hlo ho
    have hbx2 := HBX.out wr ho
    have hpos : posG wr K.gr = a2 := posG_rd hD.rd
    have hab := hD.rd.2.2.1
    have k0 := hD.c0
    have b0 : wr.cell? ⟨w.heap.size, 0, none⟩ = some (.pointer (some ⟨ga, 0, none⟩)) := by simp [World.cell?, hbx2]
    have hwz := ho.2.2.2.1
    have HKP : Hid (∀ w2, Only (· = K.gr) wr.drew w2 → w2.cell? ⟨K.d, 0, none⟩ = some (.pointer (some ⟨K.gr, 0, none⟩)) ∧ w2.cell? ⟨w.heap.size, 0, none⟩ = some (.pointer (some ⟨ga, 0, none⟩))) := Lib.hid (by
      intro w2 ho2
      have e1 : ∀ k, k < wr.heap.size → k ≠ K.gr → ∀ i, w2.cell? ⟨k, i, none⟩ = wr.cell? ⟨k, i, none⟩ := fun k h1 h2 i => World.cell?_of_block (ho2.2.2.2.2 k h1 h2)
      exact ⟨(e1 _ hD.lt (by omega) 0).trans k0, (e1 _ (by omega) (by omega) 0).trans b0⟩)
    have HDD : Hid (De wr.drew K a2 v2 out2 F) := Lib.hid (hD.drawn ⟨1, rfl⟩)
    have hb1d := hb1.same (w' := wr.drew) (S := fun _ => False) (Only.drawn _ (⟨1, rfl⟩ : Drawn wr wr.drew)) (fun _ _ _ e => e)
    have HO := Lib.hid (ho.trans (Only.drawn (w' := wr.drew) (MineE K v) ⟨1, rfl⟩))
    have HV2 := Lib.hid hv2
    have HPOS := Lib.hid hpos
    have HB2r := Lib.hid (hb2.same (w' := wr.drew) (S := fun _ => False) (Only.drawn _ (⟨1, rfl⟩ : Drawn wr wr.drew)) (fun _ _ _ e => e))
    have HCL2 := Lib.hid hcl2
    have hrun2 := hrun
    rw [blockA_two W1 W2 _ K.most a2 out2 (by rw [HBL.out]; exact hab)] at hrun2
    have hcg : K.gr < B := by omega
    rcases hx : nextR W1 (bitsOf true K.xs) a2 with c | ⟨s, b⟩
    · have HW := Lib.hid (word_bad wr.drew K a2 v2 out2 F B C ga c W1 HDD.out hb1d hcg hx)
      have hc0 : ((c : Int) != 0) = true := by have := next_err hx; simp; omega
      have HRES : Hid (∀ w2, Only (· = K.gr) wr.drew w2 → Res w K v F X (.returned (.int .i64 (c : Int))) w2) := Lib.hid fun w2 ho2 =>
        .inr ⟨c, by rw [← hrun2, hx]; rfl, by have := next_err hx; omega, rfl, (HOB.out.trans HO.out).trans (only_gr ho2)⟩
      clear hx hrun hrun2 hD ho hv2 hpos hb1 hb2 hbx2 hb1d hcl2
      go_wp2_with fail
      go_region_held3 (fun w2 => w2.cell? ⟨K.d, 0, none⟩ = some (.pointer (some ⟨K.gr, 0, none⟩)) ∧ w2.cell? ⟨w.heap.size, 0, none⟩ = some (.pointer (some ⟨ga, 0, none⟩))) (first | exact ⟨k0, b0⟩ | exact HKP.out _ HO2.out) (first | (go_at_call 69; refine HW.out.mono ?_; rintro e w2 ⟨rfl, ho2⟩; have HO2 := Lib.hid ho2; clear ho2))
      all_goals
        go_wp2_with fail
        go_ret
        exact HRES.out _ HO2.out
    · have hs300 : s < 300 := by have := next_len hx; omega
      have hsb := (hon_next W1 a2).le (by rw [HBL.out]; exact hab) hx
      have hsl := next_lt hx
      have HW := Lib.hid (word_ok wr.drew K a2 v2 out2 F B C ga s b W1 HDD.out hb1d hcg hx)
      rw [hx, R.then_ok] at hrun2
      rw [HBL.out] at hsb
      have HRUN := Lib.hid hrun2
      clear hx hrun hrun2 hD ho hv2 hpos hb1 hb2 hbx2 hb1d hcl2
      go_wp2_with fail
      go_region_held3 (fun w2 => w2.cell? ⟨K.d, 0, none⟩ = some (.pointer (some ⟨K.gr, 0, none⟩)) ∧ w2.cell? ⟨w.heap.size, 0, none⟩ = some (.pointer (some ⟨ga, 0, none⟩))) (first | exact ⟨k0, b0⟩ | exact HKP.out _ HO2.out) (first | (go_at_call 69; refine HW.out.mono ?_; rintro e w2 ⟨rfl, hd2, ho2⟩; have HO2 := Lib.hid ho2; have HD2 := Lib.hid hd2; clear ho2 hd2))
      all_goals
        have HO3 := Lib.hid (HO.out.trans (only_gr HO2.out))
        by_cases h256 : s = 256
        · have q6 : ((s : Int) == 256) = true := by simp; omega
          have HRES : Hid (Res w K v F X (.returned (.int .i64 0)) w2) := Lib.hid (by
            have := HRUN.out
            rw [if_pos h256] at this
            exact .inl ⟨out2, b, this.symm, rfl, DeT.more (HOB.out.trans HO3.out) (fun k hk => (HV2.out k hk).imp id (fun e => by omega)) (DeT.refl HD2.out)⟩)
          clear h256
          go_wp2_with fail
          go_ret
          exact HRES.out
        · have q6 : ((s : Int) == 256) = false := by simp; omega
          by_cases hlt : s < 256
          · have ql : decide ((s : Int) < 256) = true := by simp; omega
            have hby : (((UInt8.ofNat s).toNat : Nat) : Int) = (s : Int) := by rw [UInt8.toNat_ofNat']; omega
            have HL := literal_any w2 K b v2 out2 F (UInt8.ofNat s) HD2.out
            rw [hby] at HL
            have HLIT := Lib.hid HL
            have hw8 : IntKind.u8.wrap (s : Int) = (s : Int) := by rw [IntKind.wrap_u8]; omega
            clear HL hby
            by_cases hfull : K.most < out2.length + 1
            · have HRES : Hid (∀ w3, Only (MineE K v2) w2 w3 → Res w K v F X (.returned (.int .i64 8)) w3) := Lib.hid (by
                intro w3 h3
                have := HRUN.out
                rw [if_neg h256, if_pos hlt, if_pos (by omega)] at this
                exact .inr ⟨8, this.symm, by decide, rfl, HOB.out.trans (only_more HO3.out HV2.out h3)⟩)
              clear h256
              go_wp2_with fail
              refine HLIT.out.mono ?_
              intro e w3 hL
              unfold LitP at hL
              rw [if_pos (by simpa using hfull)] at hL
              obtain ⟨rfl, ho3⟩ := hL
              have HRES2 := Lib.hid (HRES.out w3 ho3)
              clear ho3
              go_wp2_with fail
              go_ret
              exact HRES2.out
            · have HNX : Hid (blockA W1 W2 (bitsOf true K.xs) K.most b (out2 ++ [UInt8.ofNat s]) = X) := Lib.hid (by
                have := HRUN.out
                rwa [if_neg h256, if_pos hlt, if_neg (by omega)] at this)
              clear h256
              go_wp2_with fail
              refine HLIT.out.mono ?_
              intro e w3 hL
              unfold LitP at hL
              rw [if_neg (by simpa using hfull)] at hL
              obtain ⟨rfl, v3, hD3, ho3, hv3⟩ := hL
              have HN : Hid (CodSt wb K v F W1 W2 X w3 ∧ posG w3 K.gr = b) := Lib.hid ⟨⟨b, v3, _, hD3, only_more HO3.out HV2.out ho3, fun k hk => by
                rcases hv3 k hk with e | e
                · exact HV2.out k e
                · exact .inr (Nat.le_trans HO3.out.2.2.2.1 e), HNX.out⟩, posG_rd hD3.rd⟩
              clear hD3 ho3 hv3
              go_wp2_with fail
              go_roundw
              case rel => exact Lib.hid HN.out.1
              case measure => rw [HN.out.2, HPOS.out]; omega
          · have ql : decide ((s : Int) < 256) = false := by simp; omega
            have HB2q := Lib.hid (HB2r.out.same (S := (· = K.gr)) HO2.out (fun k h1 h2 e => by omega))
            have HCP := copied_any w2 K b v2 out2 F B C gb (s - 257) W2 HD2.out HB2q.out HCL2.out hW2 (by omega)
            have hs7 : ((s - 257 : Nat) : Int) = (s : Int) - 257 := by omega
            rw [hs7] at HCP
            have HCOP := Lib.hid HCP
            have b1 : w2.cell? ⟨w.heap.size, 1, none⟩ = some (.pointer (some ⟨gb, 0, none⟩)) := by simp [World.cell?, HBX.out w2 HO3.out]
            have hnx := HRUN.out
            rw [if_neg h256, if_neg hlt] at hnx
            have HNX := Lib.hid hnx
            clear HCP hs7 hnx h256
            go_wp2_with fail
            refine HCOP.out.mono ?_
            rintro e w3 hR
            rcases hR with ⟨o, b3, hx3, rfl, v3, hD3, ho3, hv3⟩ | ⟨c, hx3, hcne, rfl, ho3⟩
            · have hle3 : b ≤ b3 ∧ b3 ≤ 8 * K.xs.length := by
                have h0 : Hon b (fun L => copyR W2 L K.most (s - 257) b out2) := (hon_number false _ b).then fun n b hb => (hon_next W2 b).then fun k c hc => (hon_number true k c).then fun d e he => Hon.ite (Hon.err e 3) (Hon.ite (Hon.err e 8) (Hon.ok e _))
                have := h0.le (by rw [HBL.out]; exact hsb.2) hx3
                rwa [HBL.out] at this
              have HN : Hid (CodSt wb K v F W1 W2 X w3 ∧ posG w3 K.gr = b3) := Lib.hid ⟨⟨b3, v3, _, hD3, only_more HO3.out HV2.out ho3, fun k hk => by
                rcases hv3 k hk with e | e
                · exact HV2.out k e
                · exact .inr (Nat.le_trans HO3.out.2.2.2.1 e), by rw [← HNX.out, hx3]; rfl⟩, posG_rd hD3.rd⟩
              clear hD3 ho3 hv3 hx3
              go_wp2_with fail
              go_roundw
              case rel => exact Lib.hid HN.out.1
              case measure => rw [HN.out.2, HPOS.out]; omega
            · have hc0 : ((c : Int) != 0) = true := by simp; omega
              have HRES : Hid (Res w K v F X (.returned (.int .i64 (c : Int))) w3) := Lib.hid (.inr ⟨c, by rw [← HNX.out, hx3]; rfl, hcne, rfl, HOB.out.trans (only_more HO3.out HV2.out ho3)⟩)
              clear hx3 ho3 hcne
              go_wp2_with fail
              go_ret
              exact HRES.out
end Go.Proofs.Ytmcjhkdcbblnnaa.Inf


/- A copy into a part of a row of the call's own; contracts of package grid: fill. -/
import Derived.Test.YtjecakkdongcoaaGrC
namespace Go.Proofs.Ytjecakkdongcoaa.Gr
open Go.RowKit Go.Proofs.Ytjecakkdongcoaa.Oct
open Go.Proofs.Ytjecakkdongcoaa.Lp (VRow Only ints ints_length ints_append ints_one vrow_blk vrow_own blk_set blk_far blk_frozen)
open Go.Proofs.Ytjecakkdongcoaa.Gd (canG)
open Go.Proofs.Ytjecakkdongcoaa.Fm (Ow)
set_option linter.unusedVariables false
set_option linter.unusedSimpArgs false
set_option maxRecDepth 100000

theorem only_row (w : World) (g : Nat) (cs : Array Value) : Only (· = g) w (w.setRow g cs) :=
  ⟨rfl, rfl, rfl, by simp [World.setRow], fun k _ hk => setRow_other w g k cs hk⟩
/-- copy, at a step -/
theorem step_copy_in {ops : Array Oper} {o : Oper} {a : Act} {w : World} {K : Act → World → Prop} {Q : Exit → Act → World → Prop} {E : Prop} (hgd : o.guard = none) (d s : Operand)
    (ho : o.op = .call { callee := .builtin .copy, args := #[d, s], argTypes := #[22, 22] })
    (dp sp : Option Addr) (dLen dCap sLen sCap : Nat) (hd : a.eval d = .slice dp dLen dCap) (hs : a.eval s = .slice sp sLen sCap)
    (g off : Nat) (cur : List Value) (t : TypeId) (hg : w.heap[g]? = some (.cells cur.toArray t (0, 0))) (cs : List Value) (hn : cs.length = Nat.min sLen dLen)
    (hpos : 0 < cs.length → dp = some ⟨g, off, none⟩ ∧ ∃ ad, sp = some ad ∧ ∀ j v, cs[j]? = some v → w.cell? (ad.add j) = some v)
    (hfit : off + cs.length ≤ cur.length) (h1 : ∀ v ∈ cs, v.oneCell' = true)
    (h : ∀ w', Hid (w'.heap[g]? = some (.cells (splice cur off cs).toArray t (0, 0))) → Hid (Only (· = g) w w') → K (a.put o.dst (goInt cs.length)) w') :
    if Region.wanted o (yielded ops a.tmps) = true then Oper.wp Try.prog o a w K Q else E := by
  have hw : Region.wanted o (yielded ops a.tmps) = true := by simp [Region.wanted, hgd]
  rw [if_pos hw]
  have hu := Try.underlying22
  by_cases h0 : cs.length = 0
  · obtain rfl : cs = [] := List.eq_nil_of_length_eq_zero h0
    have hrun := run_copy_none (P := Try.prog) w 22 22 o.type 3 dp sp dLen dCap sLen sCap hu sizeInt (by simpa using hn.symm)
    unfold Oper.wp
    simp [execOp, ho, resolve, invoke, builtin, hd, hs, hrun, Result.andThen]
    exact h w (Lib.hid (show _ = _ by simpa [splice] using hg)) (Lib.hid (Only.refl _ _))
  · obtain ⟨rfl, ad, rfl, hsrc⟩ := hpos (by omega)
    have hrun := run_copy_row (P := Try.prog) w 22 22 o.type 3 g off dLen dCap ad sLen sCap cur.toArray t cs hu sizeInt hg hn hsrc (by simpa using hfit) h1
    unfold Oper.wp
    simp [execOp, ho, resolve, invoke, builtin, hd, hs, hrun, Result.andThen]
    exact h _ (Lib.hid (show _ = _ by simpa [splice] using setRow_heap w g _ _ t _ hg)) (Lib.hid (only_row _ _ _))
theorem wpList_copy_in {w : World} {ops : Array Oper} {rest : List Oper} {o : Oper} {a : Act} {Q : Exit → Act → World → Prop} (hgd : o.guard = none) (d s : Operand)
    (ho : o.op = .call { callee := .builtin .copy, args := #[d, s], argTypes := #[22, 22] })
    (dp sp : Option Addr) (dLen dCap sLen sCap : Nat) (hd : a.eval d = .slice dp dLen dCap) (hs : a.eval s = .slice sp sLen sCap)
    (g off : Nat) (cur : List Value) (t : TypeId) (hg : w.heap[g]? = some (.cells cur.toArray t (0, 0))) (cs : List Value) (hn : cs.length = Nat.min sLen dLen)
    (hpos : 0 < cs.length → dp = some ⟨g, off, none⟩ ∧ ∃ ad, sp = some ad ∧ ∀ j v, cs[j]? = some v → w.cell? (ad.add j) = some v)
    (hfit : off + cs.length ≤ cur.length) (h1 : ∀ v ∈ cs, v.oneCell' = true)
    (h : ∀ w', Hid (w'.heap[g]? = some (.cells (splice cur off cs).toArray t (0, 0))) → Hid (Only (· = g) w w') → wpList Try.prog ops Q rest (a.put o.dst (goInt cs.length)) w') :
    wpList Try.prog ops Q (o :: rest) a w := by
  by_cases h0 : cs.length = 0
  · obtain rfl : cs = [] := List.eq_nil_of_length_eq_zero h0
    refine wpList_copy_nothing hgd d s 22 22 ho 3 Try.underlying22 sizeInt dp sp dLen dCap sLen sCap hd hs (by simpa using hn.symm) ?_
    exact h w (Lib.hid (show _ = _ by simpa [splice] using hg)) (Lib.hid (Only.refl _ _))
  · obtain ⟨rfl, ad, rfl, hsrc⟩ := hpos (by omega)
    refine wpList_copy_own hgd d s 22 22 ho 3 Try.underlying22 sizeInt g off dLen dCap ad sLen sCap hd hs cur.toArray t hg cs hn hsrc (by simpa using hfit) h1 ?_
    exact h _ (Lib.hid (show _ = _ by simpa [splice] using setRow_heap w g _ _ t _ hg)) (Lib.hid (only_row _ _ _))
/-- cells over others; where they end, the last one comes again -/
def fillR (ys : List Int) (wd : Nat) : List Int := ys.take wd ++ List.replicate (wd - ys.length) (ys.getD (ys.length - 1) 0)
theorem fillR_length (ys : List Int) (wd : Nat) : (fillR ys wd).length = wd := by simp [fillR]; omega
theorem fillR_head {ys : List Int} {wd k : Nat} (h : k = min ys.length wd) : (fillR ys wd).take k = ys.take k := by
  unfold fillR
  rw [List.take_append_of_le_length (by rw [List.length_take]; omega), List.take_take, h]
  congr 1
  omega
theorem fillR_last {ys : List Int} {wd j : Nat} (h : ys.length ≤ j) (hj : j < wd) : (fillR ys wd)[j]? = some (ys.getD (ys.length - 1) 0) := by
  unfold fillR
  rw [List.getElem?_append_right (by rw [List.length_take]; omega), List.getElem?_replicate, if_pos (by rw [List.length_take]; omega)]
theorem ints_splice (L : List Int) (m : Nat) (cs : List Int) : ints (splice L m cs) = splice (ints L) m (ints cs) := by simp [ints, splice, List.map_take, List.map_drop]
theorem splice_more {L F : List Int} {m j : Nat} {v : Int} (hj : F[j]? = some v) (hm : m + F.length ≤ L.length) : (splice L m (F.take j)).set (m + j) v = splice L m (F.take (j + 1)) := by
  obtain ⟨hjl, hv⟩ := List.getElem?_eq_some_iff.1 hj
  have h1 : (L.take m).length = m := by rw [List.length_take]; omega
  have h2 : (F.take j).length = j := by rw [List.length_take]; omega
  have h3 : (F.take (j + 1)).length = j + 1 := by rw [List.length_take]; omega
  unfold splice
  rw [List.set_append_right _ _ (by omega), h1, show m + j - m = j from by omega, List.set_append_right _ _ (by omega), h2, Nat.sub_self, h3, List.drop_eq_getElem_cons (show m + j < L.length by omega), List.set_cons_zero, List.take_succ_eq_append_getElem hjl, hv, List.append_assoc]
  rfl
theorem ints_at {ys : List Int} {i : Nat} (h : i < (ints ys).length) : (ints ys)[i] = .int .i64 (ys.getD i 0) := by
  have h' : i < ys.length := by rw [ints_length] at h; exact h
  simp [ints, List.getElem?_eq_getElem h']
theorem blk_cell {W : World} {G i : Nat} {vs : List Value} {T : TypeId} (h : W.heap[G]? = some (.cells vs.toArray T (0, 0))) (hi : i < vs.length) : W.cell? ⟨G, i, none⟩ = some vs[i] := by
  simp [World.cell?, h, hi]
theorem only_cell {g : Nat} {w w' : World} (h : Only (· = g) w w') {p : Addr} (hp : p.block < w.heap.size) (hg : p.block ≠ g) : w'.cell? p = w.cell? p := by
  unfold World.cell?
  rw [h.2.2.2.2 _ hp hg]
/-- a row that is filled from the place m on -/
def FilP (w : World) (G : Nat) (Z : List Int) (wr : World) : Prop := Only (· = G) w wr ∧ wr.heap[G]? = some (.cells (ints Z).toArray 3 (0, 0))
theorem fill_any (G m wd ct : Nat) (pt : Option Addr) (L : List Int) (q : Option Addr) (k cq C : Nat) (ys : List Int) (w : World)
    (hO : w.heap[G]? = some (.cells (ints L).toArray 3 (0, 0))) (hpt : 0 < wd → pt = some ⟨G, m, none⟩) (hml : m + wd ≤ L.length) (hr : VRow w C q (ints ys)) (hy : ys.length = k) (hk : 1 ≤ k) (hC : C ≤ G) (hw : wd ≤ 4194304) (hk4 : k ≤ 4194304) :
    Calls Try.prog 40 #[.slice pt wd ct, .slice q k cq] w fun e w' => e = .returned (.tuple #[]) ∧ FilP w G (splice L m (fillR ys wd)) w' := by
  obtain ⟨b, off, hq, hbC, hcell⟩ := hr (by rw [ints_length]; omega)
  have hGl := blk_lt hO
  obtain ⟨mn, hmn⟩ : ∃ mn, mn = min ys.length wd := ⟨_, rfl⟩
  have HO := Lib.hid hO
  have HPT := Lib.hid hpt
  have HY := Lib.hid hy
  have HML := Lib.hid hml
  have HMN := Lib.hid hmn
  have hcl := hcell (k - 1) (by rw [ints_length]; omega)
  rw [ints_at] at hcl
  obtain ⟨v, hvz⟩ : ∃ v, v = ys.getD (k - 1) 0 := ⟨_, rfl⟩
  rw [← hvz] at hcl
  have HV : Hid (v = ys.getD (ys.length - 1) 0) := Lib.hid (by rw [hy, hvz])
  have HCL : Hid (∀ V, Only (· = G) w V → V.cell? ⟨b, off + (k - 1), none⟩ = some (.int .i64 v)) := Lib.hid (fun V hV => (only_cell hV (p := ⟨b, off + (k - 1), none⟩) (by show b < _; omega) (by show b ≠ G; omega)).trans hcl)
  have HC : Hid (∀ i (h : i < (ints ys).length), w.cell? ⟨b, off + i, none⟩ = some (ints ys)[i]) := Lib.hid hcell
  have e1 : IntKind.i64.wrap ((k : Int) - 1) = ((k - 1 : Nat) : Int) ∧ wrap64 ((k : Int) - 1) = ((k - 1 : Nat) : Int) := by
    refine ⟨?_, ?_⟩
    · rw [IntKind.wrap_i64]; omega
    · unfold wrap64; omega
  obtain ⟨e1, e2⟩ := e1
  have e3 : (0 : Int) ≤ ((k - 1 : Nat) : Int) := by omega
  have e4 : ((k - 1 : Nat) : Int) < (k : Int) := by omega
  subst hq
  clear hO hpt hml hr hy hC hGl hmn hcell hcl hvz hbC
  generalize k - 1 = k1 at *
  go_enter Try.func40, Try.ntmps40
  go_wp2_with (with_reducible refine wpList_copy_in rfl (.tmp 5) (.tmp 6) rfl _ _ _ _ _ _ rfl rfl G m (ints L) 3 HO.out (ints (ys.take mn)) ?d1 ?d2 ?d3 ints_one ?_)
  case d1 => rw [ints_length, List.length_take]; have := HMN.out; have := HY.out; show _ = min k wd; omega
  case d2 =>
    intro h0
    rw [ints_length, List.length_take] at h0
    refine ⟨HPT.out (by have := HMN.out; omega), _, rfl, fun j u hj => ?_⟩
    obtain ⟨hj', hu⟩ := List.getElem?_eq_some_iff.1 hj
    rw [ints_length, List.length_take] at hj'
    rw [add_plain, HC.out j (by rw [ints_length]; omega), ← hu]
    simp [ints]
  case d3 => rw [ints_length, ints_length, List.length_take]; have := HML.out; have := HMN.out; omega
  intro w2 HG2 HO2
  have HF : Hid (FilP w G (splice L m ((fillR ys wd).take mn)) w2) := Lib.hid ⟨HO2.out, by rw [fillR_head HMN.out, ints_splice]; exact HG2.out⟩
  have hmc : (ints (ys.take mn)).length = mn := by rw [ints_length, List.length_take, HMN.out]; omega
  have HMW : Hid (mn ≤ wd) := Lib.hid (by have := HMN.out; omega)
  have HMY : Hid (mn = ys.length ∨ mn = wd) := Lib.hid (by have := HMN.out; omega)
  rw [hmc]
  clear HG2 HO2 hmc HC HO
  go_wp2_with fail
  go_loopw [4] (fun i wr => ∃ j : Nat, mn ≤ j ∧ j ≤ wd ∧ i = .int .i64 (j : Int) ∧ Hid (FilP w G (splice L m ((fillR ys wd).take j)) wr)) (fun i _ => wd - (intOf i).toNat)
  case atStart => exact ⟨mn, Nat.le_refl _, HMW.out, rfl, HF⟩
  case round =>
    clear HF
    obtain ⟨j, hj1, hj2, rfl, HS⟩ := hrel
    by_cases hlt : j < wd
    · have hyj : ys.length ≤ j := by rcases HMY.out with h | h <;> omega
      have hFj := fillR_last hyj hlt
      rw [← HV.out] at hFj
      have hml := HML.out
      have hlen : (splice L m ((fillR ys wd).take j)).length = L.length := length_splice _ _ _ (by rw [List.length_take, fillR_length]; omega)
      have hil : m + j < (ints (splice L m ((fillR ys wd).take j))).length := by rw [ints_length, hlen]; omega
      have hc := blk_cell HS.out.2 hil
      have hf := blk_frozen HS.out.2 (m + j)
      generalize (ints (splice L m ((fillR ys wd).take j)))[m + j] = old at hc
      have hcl := HCL.out _ HS.out.1
      have hp := HPT.out (by omega)
      subst hp
      have HN : Hid (FilP w G (splice L m ((fillR ys wd).take (j + 1))) (wr.setCell ⟨G, m + j, none⟩ (.int .i64 v))) := Lib.hid (by
        refine ⟨HS.out.1.trans (Only.setCell (S := fun x => x = G) (p := ⟨G, m + j, none⟩) rfl _), ?_⟩
        have h1 := blk_set HS.out.2 (m + j) (.int .i64 v)
        rw [List.setIfInBounds_toArray] at h1
        rw [h1, ← splice_more hFj (by rw [fillR_length]; exact hml)]
        simp [ints, List.map_set])
      have ql : decide ((j : Int) < (wd : Int)) = true := by simpa using hlt
      have i1 : (0 : Int) ≤ (j : Int) := by omega
      have i2 : (j : Int) < (wd : Int) := by omega
      clear hyj hFj hml hlen hil HS
      go_wp2_with fail
      go_roundw
      case rel => exact ⟨j + 1, by omega, by omega, by go_num, HN⟩
      case measure => simp [intOf]; omega
    · obtain rfl : j = wd := by omega
      have ql : decide ((j : Int) < (j : Int)) = false := by simp
      have hS := HS.out
      rw [List.take_of_length_le (by rw [fillR_length]; exact Nat.le_refl _)] at hS
      have HS2 := Lib.hid hS
      clear hS HS hlt hj1 hj2
      go_wp2_with fail
      go_end0
      exact ⟨rfl, HS2.out⟩
end Go.Proofs.Ytjecakkdongcoaa.Gr

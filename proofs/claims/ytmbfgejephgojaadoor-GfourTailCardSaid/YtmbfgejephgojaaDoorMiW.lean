
/- The document's Decode, Same and Encode. -/
import Derived.Test.YtmbfgejephgojaaDoorMiT
import Derived.Test.YtmbfgejephgojaaDoorBitV
import Derived.Deep.RegionHeld3
namespace Go.Proofs.YtmbfgejephgojaaDoor.Mh
open Go.RowKit Go.Proofs.YtmbfgejephgojaaDoor.Oct Go.Proofs.YtmbfgejephgojaaDoor.Bit
open Go.Proofs.YtmbfgejephgojaaDoor.Rn (changes zl zl_length Valid rchanges_new)
open Go.Proofs.YtmbfgejephgojaaDoor.Lp (VRow ints ints_length vrow_own)
set_option linter.unusedVariables false
set_option linter.unusedSimpArgs false
set_option maxRecDepth 100000

theorem readRowA_le {L : List Bool} {wd : Nat} : ∀ (f t : Nat) (P : List Bool) (b : Bool), L.length + 1 ≤ f + t → t ≤ L.length → (readRowA L wd t P b).1 ≤ L.length
  | 0, t, P, b, hf, ht => by omega
  | f + 1, t, P, b, hf, ht => by
    rw [readRowA_eq L wd t P b ht]
    have h1 := lenA_lt b (L := L) (most := wd - P.length) (n := 0) ht
    rcases hy : Fx.lenA b L (wd - P.length) t 0 with ⟨t1, c | m⟩
    · rw [hy] at h1
      exact h1.1
    · rw [hy] at h1
      simp only at h1 ⊢
      split
      · exact h1.1
      · exact readRowA_le f t1 _ _ (by have := (h1.2.2 m rfl).1; omega) h1.1
/-- texts of pixels -/
def txt (R : List (List Bool)) : List Value := R.map fun X => .string (ds X)
theorem txt_length (R : List (List Bool)) : (txt R).length = R.length := by simp [txt]
theorem txt_append (R S : List (List Bool)) : txt (R ++ S) = txt R ++ txt S := by simp [txt]
theorem txt_get {w : World} {C b off : Nat} {R : List (List Bool)} (h : VRow w C (some ⟨b, off, none⟩) (txt R)) {i : Nat} (hi : i < R.length) : w.cell? ⟨b, off + i, none⟩ = some (.string (ds R[i])) := by
  obtain ⟨b', off', e, _, hc⟩ := h (by rw [txt_length]; omega)
  injection e with e
  injection e with e1 e2 _
  subst e1 e2
  rw [hc i (by rw [txt_length]; exact hi)]
  simp [txt]
/-- an own row of texts, in none of N's blocks -/
def Txs (w : World) (base : Nat) (N : Nat → Prop) (v : Value) (R : List (List Bool)) : Prop := w.ownsRow base 9 1 v R.length (txt R) ∧ ∀ k, v.ownBlock = some k → ¬ N k
theorem Txs.nil (w : World) (base : Nat) (N : Nat → Prop) : Txs w base N (.slice none 0 0) [] := ⟨World.ownsRow_nil _ _ _ _, fun k h => by cases h⟩
theorem Txs.only {S N : Nat → Prop} {w w' : World} {base : Nat} {v : Value} {R : List (List Bool)} (h : Txs w base N v R) (ho : Only S w w') (hS : ∀ k, base ≤ k → k < w.heap.size → ¬ N k → ¬ S k) : Txs w' base N v R := by
  refine ⟨⟨h.1.1, ?_⟩, h.2⟩
  rcases h.1.2 with hn | ⟨g, cap, cur, rfl, hb, hh, r⟩
  · exact .inl hn
  · refine .inr ⟨g, cap, cur, rfl, hb, ?_, r⟩
    have hlt : g < w.heap.size := by
      rcases Nat.lt_or_ge g w.heap.size with hlt | hge
      · exact hlt
      · rw [Array.getElem?_eq_none hge] at hh; cases hh
    rw [ho.2.2.2.2 g hlt (hS g hb hlt (h.2 g rfl))]
    exact hh
theorem Txs.tbl {w : World} {base : Nat} {N : Nat → Prop} {v : Value} {R : List (List Bool)} (h : Txs w base N v R) : ∃ q c, v = .slice q R.length c ∧ VRow w w.heap.size q (txt R) ∧ R.length ≤ c ∧ c ≤ maxLen := by
  obtain ⟨q, c, h3, h4, h5, h6, h7, _⟩ := vrow_own h.1 (txt_length R)
  exact ⟨q, c, h3, h7, h5, h6⟩
theorem Tryd.infoStrH : (Tryd.prog.info? 9).map (fun i => (i.zero, i.size, i.bytes)) = some (some (.string ByteArray.empty), 1, 16) := by kernel_rfl
/-- a text appended to texts -/
theorem wpList_append_txt {w w0 : World} {ops : Array Oper} {rest : List Oper} {o : Oper} {a : Act} {Q : Exit → Act → World → Prop}
    (hgd : o.guard = none) (s x : Operand) (ho : o.op = .call { callee := .builtin .append, args := #[s, x], argTypes := #[24, 24] })
    (base : Nat) (N : Nat → Prop) (v : Value) (R : List (List Bool)) (n : Nat) (hn : R.length = n) (hs : a.eval s = v) (h0 : Txs w0 base N v R) (X : List Bool) (T : ByteArray) (hTX : ds X = T) (hNew : ∀ k, w0.heap.size ≤ k → ¬ N k)
    (hw : w = w0.alloc (.cells #[.string T] 9)) (hx : a.eval x = .slice (some ⟨w0.heap.size, 0, none⟩) 1 1) (hl : n ≤ 1000) (hbase : base ≤ w0.heap.size)
    (h : ∀ v' w', Txs w' base N v' (R ++ [X]) → Below base w0 w' → (∀ k, v'.ownBlock = some k → v.ownBlock = some k ∨ w0.heap.size ≤ k) → Only (fun k => v.ownBlock = some k) w0 w' → wpList Tryd.prog ops Q rest (a.put o.dst v') w') :
    wpList Tryd.prog ops Q (o :: rest) a w := by
  obtain ⟨i0, hi, hz0, hz1, hz2⟩ := info_parts Tryd.infoStrH
  subst hw
  subst hn
  subst hTX
  have hb1 : Below w0.heap.size w0 (w0.alloc (.cells #[.string (ds X)] 9)) := (Below.refl _ w0).alloc (Nat.le_refl _) _
  have hT := h0.only (Only.of_below hb1 : Only (fun _ => False) _ _) (fun _ _ _ _ e => e)
  obtain ⟨h1, hN0⟩ := hT
  refine wpList_append_lies _ hgd s x 24 ho base 9 i0 (.string ByteArray.empty) 1 16 Tryd.underlying24 hi hz0 hz1 hz2 rfl (by decide) v R.length (txt R) hs h1 ⟨w0.heap.size, 0, none⟩ 1 1 [.string (ds X)] hx rfl ?_ (fun u hu => by simp at hu; subst hu; rfl) (by decide) (by unfold maxLen; omega) (by omega) (Nat.le_trans hbase hb1.size) _ rfl ?_
  · intro j u hj
    have hj0 : j = 0 := by
      have := (List.getElem?_eq_some_iff.1 hj).1
      simp at this
      omega
    subst hj0
    have hq : u = .string (ds X) := by simpa using hj.symm
    subst hq
    rw [add_plain]
    simp
  · intro g' cap w' k1 k2 k3 k4
    have hon : Only (fun k => v.ownBlock = some k) (w0.alloc (.cells #[.string (ds X)] 9)) w' := ⟨k2.os, k2.tape, k2.output, k2.size, fun k hk hs => k2.block k hk (fun e => hs e.symm)⟩
    have hold : ∀ k, (Value.slice (some ⟨g', 0, none⟩) (R.length + 1) cap).ownBlock = some k → v.ownBlock = some k ∨ w0.heap.size ≤ k := fun k e => by
      injection e with e
      simp only at e
      rcases k3 with h3 | h3
      · left; rw [h3, e]
      · right; have := hb1.size; omega
    refine h _ w' ⟨?_, fun k hk => ?_⟩ ((hb1.mono hbase).trans ((Below.refl _ _).grown k2 (Nat.le_trans hbase hb1.size) (fun k hk => (World.ownsRow.lt h1 k hk).1))) hold ((Only.of_below hb1 : Only (fun k => v.ownBlock = some k) _ _).trans hon)
    · rw [List.length_append, txt_append]
      exact k1
    · rcases hold k hk with h3 | h3
      · exact hN0 k h3
      · exact hNew k h3
theorem rfits_any (n : Int) (w : World) : Calls Tryd.prog 27 #[.int .i64 n] w fun e w' => e = .returned (.bool (wideM n)) ∧ w = w' := by
  by_cases h0 : 1 ≤ n
  · by_cases h1 : n ≤ 32768
    · have e : wideM n = true := by simp [wideM, h0, h1]
      rw [e]; clear e
      go_enter Tryd.func27, Tryd.ntmps27
      go_wp2
      go_ret
      exact ⟨rfl, rfl⟩
    · have e : wideM n = false := by simp [wideM, h1]
      rw [e]; clear e
      have hd : decide (n ≤ 32768) = false := by simpa using h1
      go_enter Tryd.func27, Tryd.ntmps27
      go_wp2
      go_ret
      exact ⟨rfl, rfl⟩
  · have e : wideM n = false := by simp [wideM, h0]
    rw [e]; clear e
    have hd : decide (1 ≤ n) = false := by simpa using h0
    go_enter Tryd.func27, Tryd.ntmps27
    go_wp2
    go_ret
    exact ⟨rfl, rfl⟩
def RDecP (w : World) (r : Except Nat (List (List Bool))) (e : Ending) (w' : World) : Prop := Below w.heap.size w w' ∧ match r with
  | .error ce => e = .returned (.tuple #[.slice none 0 0, .int .i64 (ce : Int)])
  | .ok Xs => ∃ q c, e = .returned (.tuple #[.slice q Xs.length c, .int .i64 0]) ∧ VRow w' w'.heap.size q (txt Xs)
end Go.Proofs.YtmbfgejephgojaaDoor.Mh
/- The document's Same over rows, and its Encode. -/
namespace Go.Proofs.YtmbfgejephgojaaDoor.Mh
open Go.RowKit Go.Proofs.YtmbfgejephgojaaDoor.Oct Go.Proofs.YtmbfgejephgojaaDoor.Bit
open Go.Proofs.YtmbfgejephgojaaDoor.Rn (changes zl zl_length Valid rchanges_new)
open Go.Proofs.YtmbfgejephgojaaDoor.Lp (VRow ints ints_length vrow_own)
set_option linter.unusedVariables false
set_option linter.unusedSimpArgs false
set_option maxRecDepth 100000

theorem txt_row {w : World} {C : Nat} {q : Option Addr} {R : List (List Bool)} (h : VRow w C q (txt R)) {i : Nat} (hi : i < R.length) : ∃ b off, q = some ⟨b, off, none⟩ ∧ b < C ∧ w.cell? ⟨b, off + i, none⟩ = some (.string (ds R[i])) := by
  obtain ⟨b, off, e, hb, _⟩ := h (by rw [txt_length]; omega)
  subst e
  exact ⟨b, off, rfl, hb, txt_get h hi⟩
theorem Tbl.get2 {w : World} {C : Nat} {q : Option Addr} {R : List (List Nat)} (h : Tbl w C q R) {k : Nat} (hk : k < R.length) : ∃ b off, q = some ⟨b, off, none⟩ ∧ b < C ∧ ∃ qk ck, w.cell? ⟨b, off + k, none⟩ = some (.slice qk R[k].length ck) ∧ VRow w C qk (ints (zl R[k])) := by
  obtain ⟨vs, h1, h2, h3⟩ := h
  obtain ⟨b, off, e, hb, hc⟩ := h2 (by omega)
  obtain ⟨qk, ck, h4, h5, h6⟩ := h3 k hk
  refine ⟨b, off, e, hb, qk, ck, ?_, h5⟩
  have h7 := hc k (by omega)
  rw [List.getElem?_eq_getElem (by omega)] at h4
  injection h4 with h4
  rw [h7, h4]
set_option maxHeartbeats 8000000 in
theorem rsameT_any (w : World) (qa qb : Option Addr) (n ca cb : Nat) (R : List (List Bool)) (hA : Tbl w w.heap.size qa (R.map changes)) (hB : VRow w w.heap.size qb (txt R)) (hn : R.length = n) (hl : ∀ X ∈ R, X.length ≤ 1000) (hn2 : n ≤ 1000) :
    Calls Tryd.prog 13 #[.slice qa n ca, .slice qb n cb] w fun e w' => e = .returned (.bool true) ∧ Below w.heap.size w w' := by
  have HA := Lib.hid hA
  have HB := Lib.hid hB
  have HN := Lib.hid hn
  have HL := Lib.hid hl
  clear hA hB hn hl
  go_enter Tryd.func13, Tryd.ntmps13
  go_wp2_with fail
  go_loopw [5] (fun sk wr => ∃ k : Nat, k ≤ n ∧ sk = .int .i64 (k : Int) ∧ Hid (Below w.heap.size w wr)) (fun sk _ => n - (intOf sk).toNat)
  case atStart => exact ⟨0, by omega, rfl, Lib.hid (Below.refl _ _)⟩
  case round =>
    obtain ⟨k, hk, rfl, HBr⟩ := hrel
    by_cases hlt : k < n
    · have hd : decide ((k : Int) < (n : Int)) = true := by simp; omega
      have hkR : k < R.length := by rw [HN.out]; exact hlt
      obtain ⟨ba, oa, hea, hba, qx, cx, hcx, hvx⟩ := (HA.out.below HBr.out).get2 (k := k) (by rw [List.length_map]; exact hkR)
      obtain ⟨bb, ob, heb, hbb, hcs⟩ := txt_row (HB.out.below HBr.out (Nat.le_refl _)) hkR
      rw [List.getElem_map] at hcx hvx
      have hXl := HL.out R[k] (List.getElem_mem hkR)
      generalize R[k] = X at *
      subst hea heb
      obtain ⟨T, hT⟩ : ∃ T, T = ds X := ⟨_, rfl⟩
      rw [← hT] at hcs
      obtain ⟨m, hm⟩ : ∃ m, m = (changes X).length := ⟨_, rfl⟩
      rw [← hm] at hcx
      have hm3 : m ≤ 1000 := by have := Rn.chg_len X false 0; rw [hm]; unfold changes; omega
      have hCH := fun w9 => rchanges_new X w9 (by omega)
      rw [← hT, zl_length, ← hm] at hCH
      have HCH := Lib.hid hCH
      have hzr := HBr.out.size
      have HVX := Lib.hid hvx
      have HMX := Lib.hid hm.symm
      have i1 : (0 : Int) ≤ (k : Int) := by omega
      have i2 : (k : Int) < (n : Int) := by omega
      have kd1 : wr.drew.cell? ⟨ba, oa + k, none⟩ = some (.slice qx m cx) := hcx
      have kd2 : wr.drew.cell? ⟨bb, ob + k, none⟩ = some (.string T) := hcs
      have hdr : Below wr.heap.size wr wr.drew := (show Drawn wr wr.drew from ⟨1, rfl⟩).below _
      have HDR := Lib.hid hdr
      clear hCH hvx hm hkR hdr hT
      go_wp2_with fail
      refine wp_region_held_drew (S := (fun w' => w'.cell? ⟨ba, oa + k, none⟩ = some (.slice qx m cx) ∧ w'.cell? ⟨bb, ob + k, none⟩ = some (.string T))) (by kernel_rfl) ⟨kd1, kd2⟩ (fun hHeld => ?_)
      refine wpAnyH_take (i := 0) (v := ?v1) rfl (by kernel_rfl) (by kernel_rfl) (by kernel_rfl) (fun _ _ _ h => h) (Or.inl ⟨by rfl, fun w hSw => ?y1⟩) hHeld ?r1
      case y1 => (try dsimp only at hSw); first | (go_simp; done) | (go_simp; with_reducible rfl)
      try simp only [Act.put, List.setIfInBounds_toArray, List.set_cons_zero, List.set_cons_succ, List.getElem_toArray, List.getElem_cons_zero, List.getElem_cons_succ]
      refine wpAnyH_take (i := 1) (v := ?v2) rfl (by kernel_rfl) (by kernel_rfl) (by kernel_rfl) (fun _ _ _ h => h) (Or.inl ⟨by rfl, fun w hSw => ?y2⟩) hHeld ?r2
      case y2 => (try dsimp only at hSw); first | (go_simp; done) | (go_simp; with_reducible rfl)
      try simp only [Act.put, List.setIfInBounds_toArray, List.set_cons_zero, List.set_cons_succ, List.getElem_toArray, List.getElem_cons_zero, List.getElem_cons_succ]
      refine wpAnyH_take (i := 2) (v := ?v3) rfl (by kernel_rfl) (by kernel_rfl) (by kernel_rfl) (fun _ _ _ h => h) (Or.inl ⟨by rfl, fun w hSw => ?y3⟩) hHeld ?r3
      case y3 => (try dsimp only at hSw); first | (go_simp; done) | (go_simp; with_reducible rfl)
      try simp only [Act.put, List.setIfInBounds_toArray, List.set_cons_zero, List.set_cons_succ, List.getElem_toArray, List.getElem_cons_zero, List.getElem_cons_succ]
      refine wpAnyH_take (i := 3) (v := ?v4) rfl (by kernel_rfl) (by kernel_rfl) (by kernel_rfl) (fun _ _ _ h => h) (Or.inl ⟨by rfl, fun w hSw => ?y4⟩) hHeld ?r4
      case y4 => (try dsimp only at hSw); first | (go_simp; done) | (go_simp; with_reducible rfl)
      try simp only [Act.put, List.setIfInBounds_toArray, List.set_cons_zero, List.set_cons_succ, List.getElem_toArray, List.getElem_cons_zero, List.getElem_cons_succ]
      refine wpAnyH_take (i := 4) (v := ?v5) rfl (by kernel_rfl) (by kernel_rfl) (by kernel_rfl) (fun _ _ _ h => h) (Or.inl ⟨by rfl, fun w hSw => ?y5⟩) hHeld ?r5
      case y5 => (try dsimp only at hSw); first | (go_simp; done) | (go_simp; with_reducible rfl)
      try simp only [Act.put, List.setIfInBounds_toArray, List.set_cons_zero, List.set_cons_succ, List.getElem_toArray, List.getElem_cons_zero, List.getElem_cons_succ]
      refine wpAnyH_take (i := 5) (v := ?v6) rfl (by kernel_rfl) (by kernel_rfl) (by kernel_rfl) (fun _ _ _ h => h) (Or.inl ⟨by rfl, fun w hSw => ?y6⟩) hHeld ?r6
      case y6 => (try dsimp only at hSw); first | (go_simp; done) | (go_simp; with_reducible rfl)
      try simp only [Act.put, List.setIfInBounds_toArray, List.set_cons_zero, List.set_cons_succ, List.getElem_toArray, List.getElem_cons_zero, List.getElem_cons_succ]
      refine wpAnyH_take (i := 6) (v := ?v7) rfl (by kernel_rfl) (by kernel_rfl) (by kernel_rfl) (fun _ _ _ h => h) (Or.inl ⟨by rfl, fun w hSw => ?y7⟩) hHeld ?r7
      case y7 => (try dsimp only at hSw); first | (go_simp; done) | (go_simp; with_reducible rfl)
      try simp only [Act.put, List.setIfInBounds_toArray, List.set_cons_zero, List.set_cons_succ, List.getElem_toArray, List.getElem_cons_zero, List.getElem_cons_succ]
      refine wpAnyH_take (i := 7) (v := ?v8) rfl (by kernel_rfl) (by kernel_rfl) (by kernel_rfl) (fun _ _ _ h => h) (Or.inl ⟨by rfl, fun w hSw => ?y8⟩) hHeld ?r8
      case y8 => (try dsimp only at hSw); first | (go_simp; done) | (go_simp; with_reducible rfl)
      try simp only [Act.put, List.setIfInBounds_toArray, List.set_cons_zero, List.set_cons_succ, List.getElem_toArray, List.getElem_cons_zero, List.getElem_cons_succ]
      refine wpAnyH_ready (rs := [8]) (by kernel_rfl) (by simp) ?_
      refine AllReadyH.cons rfl (fun K hK => ?_) AllReadyH.nil
      go_simp
      refine (HCH.out _).mono ?_
      rintro e w3 ⟨hb3, q3, c3, rfl, hv3, _, _, _, _⟩
      have HS3 : Hid (w3.cell? ⟨ba, oa + k, none⟩ = some (.slice qx m cx) ∧ w3.cell? ⟨bb, ob + k, none⟩ = some (.string T)) := Lib.hid ⟨(hb3.cell (p := ⟨ba, oa + k, none⟩) (Nat.lt_of_lt_of_le hba (Nat.le_trans hzr HDR.out.size))).trans kd1, (hb3.cell (p := ⟨bb, ob + k, none⟩) (Nat.lt_of_lt_of_le hbb (Nat.le_trans hzr HDR.out.size))).trans kd2⟩
      have HB3 := Lib.hid (HDR.out.trans (hb3.mono HDR.out.size))
      have HSA := Lib.hid (same_in qx q3 m cx c3 (changes X) w3 _ _ (HVX.out.below (HB3.out.mono hzr) (Nat.le_refl _)) hv3 HMX.out (by omega))
      clear hb3 hv3
      go_wp2_with fail
      refine hK.out _ _ HS3.out (fun hHeld2 => ?_)
      clear hK K
      try simp only [Act.put, List.setIfInBounds_toArray, List.set_cons_zero, List.set_cons_succ, List.getElem_toArray, List.getElem_cons_zero, List.getElem_cons_succ]
      refine wpAnyH_ready (rs := [9]) (by kernel_rfl) (by simp) ?_
      refine AllReadyH.cons rfl (fun K hK => ?_) AllReadyH.nil
      go_simp
      refine HSA.out.mono ?_
      rintro e w4 ⟨rfl, hd4⟩
      have HB4 := Lib.hid (HB3.out.trans ((hd4.below w3.heap.size).mono HB3.out.size))
      have HS4 : Hid (w4.cell? ⟨ba, oa + k, none⟩ = some (.slice qx m cx) ∧ w4.cell? ⟨bb, ob + k, none⟩ = some (.string T)) := Lib.hid (by
        obtain ⟨nn, rfl⟩ := hd4
        exact HS3.out)
      clear hd4
      go_wp2_with fail
      refine hK.out _ _ HS4.out (fun hHeld3 => ?_)
      clear hK K
      try simp only [Act.put, List.setIfInBounds_toArray, List.set_cons_zero, List.set_cons_succ, List.getElem_toArray, List.getElem_cons_zero, List.getElem_cons_succ]
      refine wpAnyH_take (i := 10) (v := ?v9) rfl (by kernel_rfl) (by kernel_rfl) (by kernel_rfl) (fun _ _ _ h => h) (Or.inl ⟨by rfl, fun w hSw => ?y9⟩) hHeld3 ?r9
      case y9 => (try dsimp only at hSw); first | (go_simp; done) | (go_simp; with_reducible rfl)
      try simp only [Act.put, List.setIfInBounds_toArray, List.set_cons_zero, List.set_cons_succ, List.getElem_toArray, List.getElem_cons_zero, List.getElem_cons_succ]
      refine wpAnyH_done (by kernel_rfl) ?_ _
      have HB5 := Lib.hid (HBr.out.trans (HB4.out.mono hzr))
      clear hHeld hHeld2 hHeld3 kd1 kd2 HS3 HS4
      go_wp2_with fail
      go_roundw
      case rel => exact ⟨k + 1, by omega, by go_num, HB5⟩
      case measure => simp [intOf]; omega
    · have hke : k = n := by omega
      subst hke
      have hd : decide ((k : Int) < (k : Int)) = false := by simp
      go_wp2_with fail
      go_ret
      exact ⟨rfl, HBr.out⟩
theorem pageP_append : ∀ (a b : List (List Bool)) (l : List Bool), pageP l (a ++ b) = pageP (pageP l a) b
  | [], b, l => rfl
  | r :: a, b, l => by rw [List.cons_append, pageP, pageP_append a b, pageP]
end Go.Proofs.YtmbfgejephgojaaDoor.Mh
/- The walk of MhPages. -/
namespace Go.Proofs.YtmbfgejephgojaaDoor.Mh
open Go.RowKit Go.Proofs.YtmbfgejephgojaaDoor.Oct Go.Proofs.YtmbfgejephgojaaDoor.Bit
open Go.Proofs.YtmbfgejephgojaaDoor.Fx (Tab TrueT)
open Go.Proofs.YtmbfgejephgojaaDoor.Rn (changes zl zl_length Valid rchanges_new)
open Go.Proofs.YtmbfgejephgojaaDoor.Lp (VRow ints ints_length)
set_option linter.unusedVariables false
set_option linter.unusedSimpArgs false
set_option maxRecDepth 100000

theorem restR_len2 : ∀ (l : List Bool) (b : Bool) (n : Nat), n + l.length ≤ 2000 → (restR b n l).length ≤ 26 * (l.length + 1)
  | [], b, n, h => by
    rw [restR_nil]
    simpa using tell_len2 b (n := n) (by simp at h; omega)
  | x :: l, b, n, h => by
    rw [List.length_cons] at h ⊢
    by_cases hx : x = b
    · subst hx
      rw [restR_same]
      have := restR_len2 l x (n + 1) (by omega)
      omega
    · have hb : (!b) = x := by cases b <;> cases x <;> simp_all
      subst hb
      rw [restR_turn, List.length_append]
      have h1 := restR_len2 l (!b) 1 (by omega)
      have h2 := tell_len2 b (n := n) (by omega)
      omega
theorem decB_len {L : List Bool} {wd : Nat} {Xs : List (List Bool)} (hL : ∃ m, L.length = 8 * m) : ∀ (j t : Nat) (acc : List (List Bool)), t ≤ L.length → (∀ X ∈ acc, X.length = wd) → decB L wd j t acc = .ok Xs → (∀ X ∈ Xs, X.length = wd) ∧ Xs.length = acc.length + j
  | 0, t, acc, ht, ha, h => by
    injection h with h
    subst h
    exact ⟨ha, rfl⟩
  | j + 1, t, acc, ht, ha, h => by
    obtain ⟨m, hm⟩ := hL
    have h8 : 8 * ((t + 7) / 8) ≤ L.length := by omega
    rw [decB] at h
    have hle := readRowA_le (L := L) (wd := wd) (L.length + 1) (8 * ((t + 7) / 8)) [] false (by omega) h8
    have hlen := fun X hX => readRowA_len (L := L) (n := wd) (X := X) (L.length + 1) (8 * ((t + 7) / 8)) [] false (by omega) h8 hX
    rcases hy : readRowA L wd (8 * ((t + 7) / 8)) [] false with ⟨t1, c | X⟩
    · rw [hy] at h; cases h
    · rw [hy] at h hle hlen
      simp only at h hle hlen
      have h9 := decB_len ⟨m, hm⟩ j t1 (acc ++ [X]) hle (fun Y hY => by
        rcases List.mem_append.1 hY with e | e
        · exact ha Y e
        · rw [List.mem_singleton.1 e]; exact hlen X rfl) h
      refine ⟨h9.1, ?_⟩
      rw [h9.2, List.length_append]
      simp
      omega
def decF (L : List Bool) (z n : Int) : List (List Bool) × Int := if wideM z = true ∧ 0 ≤ n then match decB L z.toNat n.toNat 0 [] with
  | .ok Xs => (Xs, 0)
  | .error e => ([], (e : Int))
  else ([], 1)
theorem decF_len {L : List Bool} {z n : Int} (hL : ∃ m, L.length = 8 * m) (hz : z ≤ 1000) (hn : n ≤ 1000) : (∀ X ∈ (decF L z n).1, X.length ≤ 1000) ∧ (decF L z n).1.length ≤ 1000 := by
  unfold decF
  split
  · rename_i h
    have h0 := of_decide_eq_true h.1
    rcases hy : decB L z.toNat n.toNat 0 [] with e | Xs
    · exact ⟨fun X h => (by cases h), Nat.zero_le _⟩
    · have h1 := decB_len hL n.toNat 0 [] (Nat.zero_le _) (fun X h => by cases h) hy
      refine ⟨fun X hX => ?_, ?_⟩
      · have := h1.1 X hX; omega
      · have h2 := h1.2
        simp only [List.length_nil] at h2
        show Xs.length ≤ 1000
        omega
  · exact ⟨fun X h => (by cases h), Nat.zero_le _⟩
end Go.Proofs.YtmbfgejephgojaaDoor.Mh

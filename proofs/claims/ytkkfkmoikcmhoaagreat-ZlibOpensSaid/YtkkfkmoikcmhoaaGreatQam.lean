/- HfC, DfC, IgB, IgC, IgD: merged. -/
import Derived.Deep.MidRow
import Derived.Laws.ResultCell
import Derived.Test.YtkkfkmoikcmhoaaGreatQad
import Derived.Test.YtkkfkmoikcmhoaaGreatQag
import Derived.Test.YtkkfkmoikcmhoaaGreatQah
import Derived.Test.YtkkfkmoikcmhoaaGreatQal
set_option linter.unusedVariables false
set_option linter.unusedSimpArgs false
namespace Go.Proofs.YtkkfkmoikcmhoaaGreat.Hf
open Go.RowKit Oct Bit
set_option maxRecDepth 20000
theorem Ya1 (n : Nat) (w : World) (h : n ≤ 30) : Calls Tryz.prog 139 #[.int .i64 (n : Int)] w fun e w' => e = .returned (.int .u64 ((share n : Nat) : Int)) ∧ w = w' := by
 have e : (1073741824 : Int) / 2 ^ n = ((share n : Nat) : Int) := by
  have : (1073741824 : Int) = ((2 ^ n * share n : Nat) : Int) := by rw [Y3u n h]; rfl
  rw [this, Int.natCast_mul]
  have h2 : (2 : Int) ^ n = ((2 ^ n : Nat) : Int) := by simp
  rw [h2]
  exact Int.mul_ediv_cancel_left _ (by have : 0 < 2 ^ n := Nat.pow_pos (by omega); omega)
 rw [← e]; clear e
 go_enter Tryz.func139, Tryz.ntmps139
 go_wp2
 go_ret
 exact ⟨rfl, rfl⟩
def Y6z (f : Nat → Nat) : Array Value := ((List.range 31).map fun j => Value.int .i64 (f j : Int)).toArray
def Y5k (f : Nat → Nat) : Array Value := ((List.range 31).map fun j => Value.int .u64 (f j : Int)).toArray
theorem Yh4 (f : Nat → Nat) : (Y6z f).size = 31 := by simp [Y6z]
theorem Y6v (f : Nat → Nat) : (Y5k f).size = 31 := by simp [Y5k]
theorem Yh5 : Y6z (fun _ => 0) = Array.replicate 31 (.int .i64 0) := by rfl
theorem Yh6 : Y5k (fun _ => 0) = Array.replicate 31 (.int .u64 0) := by rfl
theorem Ycr (f : Nat → Nat) : (Y5k f).all (·.oneCell') = true := by
 refine all_oneCell_toArray fun v hv => ?_
 simp at hv
 obtain ⟨_, _, rfl⟩ := hv
 rfl
theorem Yh7 {V : Nat → Value} (f : Nat → Nat) (j v : Nat) : ((List.range 31).map fun i => V (f i)).set j (V v) = (List.range 31).map fun i => V (if i = j then v else f i) := by
 apply List.ext_getElem
 ·simp
 ·intro i h1 h2
  rw [List.getElem_set]
  simp
  by_cases h : j = i
  ·simp [h]
  ·rw [if_neg h, if_neg (fun e => h e.symm)]
theorem Yjs (f : Nat → Nat) (j v : Nat) : (Y6z f).setIfInBounds j (.int .i64 (v : Int)) = Y6z (fun i => if i = j then v else f i) := by
 unfold Y6z
 rw [List.setIfInBounds_toArray]
 congr 1
 exact Yh7 (V := fun n => .int .i64 (n : Int)) f j v
theorem Ycs (f : Nat → Nat) (j v : Nat) : (Y5k f).setIfInBounds j (.int .u64 (v : Int)) = Y5k (fun i => if i = j then v else f i) := by
 unfold Y5k
 rw [List.setIfInBounds_toArray]
 congr 1
 exact Yh7 (V := fun n => .int .u64 (n : Int)) f j v
theorem Y5q {W : World} {d : Nat} {cs : Array Value} {T : TypeId} (h : W.heap[d]? = some (.cells cs T (0, 0))) (i : Nat) (v : Value) : (W.setCell ⟨d, i, none⟩ v).heap[d]? = some (.cells (cs.setIfInBounds i v) T (0, 0)) := by
 simp [World.setCell, Array.getElem?_modify, h]
theorem Y5p {W : World} {d e : Nat} {x : Option Obj} (h : W.heap[d]? = x) (hne : e ≠ d) (i : Nat) (v : Value) : (W.setCell ⟨e, i, none⟩ v).heap[d]? = x := by
 rw [← h]
 exact Below.heap_setCell _ _ _ _ (fun e' => hne e'.symm)
theorem Y1y {W : World} {d : Nat} {cs : Array Value} {T : TypeId} (h : W.heap[d]? = some (.cells cs T (0, 0))) (i : Nat) : W.frozen? ⟨d, i, none⟩ = false := by
 simp [World.frozen?, h]
theorem Yaa {W : World} {d : Nat} {f : Nat → Nat} {T : TypeId} (h : W.heap[d]? = some (.cells (Y6z f) T (0, 0))) (j : Nat) (hj : j < 31) : W.cell? ⟨d, j, none⟩ = some (.int .i64 (f j : Int)) := by
 simp [World.cell?, h, Y6z, hj]
theorem Y6u {W : World} {d : Nat} {f : Nat → Nat} {T : TypeId} (h : W.heap[d]? = some (.cells (Y5k f) T (0, 0))) (j : Nat) (hj : j < 31) : W.cell? ⟨d, j, none⟩ = some (.int .u64 (f j : Int)) := by
 simp [World.cell?, h, Y5k, hj]
theorem Y8w {W : World} {d : Nat} {cs : Array Value} {T : TypeId} (h : W.heap[d]? = some (.cells cs T (0, 0))) : W.rangeAt d 0 cs.toList := by
 intro j v hv
 rw [Nat.zero_add]
 simp at hv
 simp [World.cell?, h, hv]
theorem Ya3 (L : List Nat) (k : Nat) : startN L k ≤ k * (L.length * 1073741824) := by
 induction k with
 | zero => simp [startN]
 | succ k ih =>
  have h1 : L.count k ≤ L.length := List.count_le_length
  have h2 : share k ≤ 1073741824 := by unfold share; exact Nat.pow_le_pow_right (n := 2) (by omega) (show 30 - k ≤ 30 by omega)
  have h3 : L.count k * share k ≤ L.length * 1073741824 := Nat.mul_le_mul h1 h2
  rw [Nat.add_mul]
  simp only [startN]
  split <;> omega
def Y29 (L : List Nat) (k j : Nat) : Nat := if j < k then startN L j else 0
theorem Ye5 (L : List Nat) (k : Nat) : (fun i => if i = k then startN L k else Y29 L k i) = Y29 L (k + 1) := by
 funext i
 unfold Y29
 by_cases h : i = k
 ·subst h; simp
 ·by_cases h2 : i < k
  ·rw [if_neg h, if_pos h2, if_pos (by omega)]
  ·rw [if_neg h, if_neg h2, if_neg (by omega)]
theorem Ye4 (L : List Nat) : Y29 L 1 = fun _ => 0 := by
 funext j
 unfold Y29
 split
 ·rename_i h
  rw [show j = 0 by omega]
  rfl
 ·rfl
theorem Y5m {B b : Nat} (hb : B ≤ b) : ∀ (vs : List Value) (o : Nat) (w w' : World), Below B w w' → Below B w (w'.setCells b o vs)
 | [], _, _, _, h => h
 | v :: vs, o, w, w', h => Y5m hb vs (o + 1) w _ (h.setCell (p := ⟨b, o, none⟩) hb v)
theorem Yes {W : World} {d : Nat} {cs : Array Value} {T : TypeId} (h : W.heap[d]? = some (.cells cs T (0, 0))) : W.there d 0 cs.size := by
 intro j hj
 rw [Nat.zero_add]
 exact ⟨by simp [World.cell?, h, hj], Y1y h j⟩
structure StM (W : World) (n : Nat) (L : List Nat) (k : Nat) : Prop where
 b0 : W.heap[n]? = some (.cells (Y6z (fun j => L.count j)) 201 (0, 0))
 b1 : W.heap[n + 1]? = some (.cells (Y5k (Y29 L k)) 202 (0, 0))
theorem StM.put {W : World} {n k : Nat} {L : List Nat} (h : StM W n L k) : StM (W.setCell ⟨n + 1, k, none⟩ (.int .u64 ((startN L k : Nat) : Int))) n L (k + 1) := by
 refine ⟨Y5p h.b0 (by omega) _ _, ?_⟩
 rw [Y5q h.b1, Ycs, Ye5]
theorem Tryz.size31u : (Tryz.prog.info? 202).map (·.size) = some 31 := by kernel_rfl
theorem Tryz.size31 : (Tryz.prog.info? 201).map (·.size) = some 31 := by kernel_rfl
def Ykg (w : World) (L : List Nat) (e : Ending) (w' : World) : Prop := e = .returned (.tuple #[.agg (Y5k (Y29 L 31)), .int .u64 ((startN L 31 : Nat) : Int)]) ∧ Below w.heap.size w w'
set_option maxHeartbeats 1000000 in
theorem Ye7 (L : List Nat) (w : World) (h : L.length ≤ 100000) : Calls Tryz.prog 137 #[.agg (Y6z (fun j => L.count j))] w (Ykg w L) := by
 have hB0 : Below w.heap.size w ((w.alloc (.cells (Y6z (fun j => L.count j)) 201)).alloc (.cells (Y5k (Y29 L 1)) 202)) := ((Below.refl _ w).alloc (Nat.le_refl _) _).alloc (by simp) _
 have hM0 : StM ((w.alloc (.cells (Y6z (fun j => L.count j)) 201)).alloc (.cells (Y5k (Y29 L 1)) 202)) w.heap.size L 1 := ⟨by
  show ((w.heap.push _).push _)[w.heap.size]? = _
  simp [Array.getElem?_push], by
  show ((w.heap.push _).push _)[w.heap.size + 1]? = _
  rw [show w.heap.size + 1 = (w.heap.push (.cells (Y6z (fun j => L.count j)) 201 (0, 0))).size from by simp, Array.getElem?_push_size]⟩
 rw [Ye4, Yh6] at hB0 hM0
 simp only [show Array.replicate 31 (Value.int .u64 0) = #[Value.int .u64 0, .int .u64 0, .int .u64 0, .int .u64 0, .int .u64 0, .int .u64 0, .int .u64 0, .int .u64 0, .int .u64 0, .int .u64 0, .int .u64 0, .int .u64 0, .int .u64 0, .int .u64 0, .int .u64 0, .int .u64 0, .int .u64 0, .int .u64 0, .int .u64 0, .int .u64 0, .int .u64 0, .int .u64 0, .int .u64 0, .int .u64 0, .int .u64 0, .int .u64 0, .int .u64 0, .int .u64 0, .int .u64 0, .int .u64 0, .int .u64 0] from rfl] at hB0 hM0
 have HB0 := Lib.hid hB0
 have HM0 := Lib.hid hM0
 obtain ⟨cs, hcs⟩ : ∃ cs, cs = Y6z (fun j => L.count j) := ⟨_, rfl⟩
 rw [← hcs] at HB0 HM0 ⊢
 have HCS := Lib.hid hcs
 clear hB0 hM0 hcs
 go_enter Tryz.func137, Tryz.ntmps137
 go_wp2_with fail
 go_loopw [3, 4] (fun t n wr => ∃ k : Nat, 1 ≤ k ∧ k ≤ 31 ∧ n = .int .i64 (k : Int) ∧ t = .int .u64 ((startN L k : Nat) : Int) ∧ Hid (StM wr w.heap.size L k) ∧ Hid (Below w.heap.size w wr)) (fun _ n _ => 31 - (intOf n).toNat)
 case atStart => exact ⟨1, by omega, by omega, rfl, by rw [Y7p]; rfl, HM0, HB0⟩
 case round =>
  obtain ⟨k, hk1, hk2, rfl, rfl, HM, HB⟩ := hrel
  by_cases hlt : k ≤ 30
  ·have hd : decide ((k : Int) ≤ 30) = true := by simp; omega
   have i0 : (0 : Int) ≤ (k : Int) := by omega
   have i1 : (k : Int) < 31 := by omega
   have c1 := Y6u HM.out.b1 k (by omega)
   have f1 := Y1y HM.out.b1 k
   have HM2 := Lib.hid HM.out.put
   have HB2 := Lib.hid (HB.out.setCell (p := ⟨w.heap.size + 1, k, none⟩) (by simp) (.int .u64 ((startN L k : Nat) : Int)))
   generalize Y29 L k k = old at c1
   go_wp2_with fail
   have c2 := Yaa HM2.out.b0 k (by omega)
   have hs := fun j => Ya1 k ((wr.setCell ⟨w.heap.size + 1, k, none⟩ (.int .u64 ((startN L k : Nat) : Int))).drewN j) hlt
   have HS := Lib.hid hs
   have hbd : startN L (k + 1) ≤ 31 * (100000 * 1073741824) := Nat.le_trans (Ya3 L (k + 1)) (Nat.mul_le_mul (by omega) (Nat.mul_le_mul_right _ h))
   have hsc := Y6p L k (by omega)
   have hcc : L.count k ≤ L.length := List.count_le_length
   have HE := Lib.hid (show (startN L k : Int) + ((L.count k * share k : Nat) : Int) = ((startN L (k + 1) : Nat) : Int) by rw [hsc]; simp)
   have hp : ((L.count k : Nat) : Int) * ((share k : Nat) : Int) = ((L.count k * share k : Nat) : Int) := by simp
   have hpb : L.count k * share k ≤ 4000000000000000 := by omega
   have hsb : startN L k ≤ 4000000000000000 := by omega
   generalize L.count k * share k = p at hp hpb hsc HE
   generalize hc : L.count k = c at c2 hp hcc
   generalize share k = sh at HS hp
   generalize hst : startN L k = st at *
   clear hs hbd hsc
   go_quiet ((go_at_call 139; exact quietly (HS.out _)))
   go_wp2_with fail
   go_roundw
   case rel => exact ⟨k + 1, by omega, by omega, by go_num, by rw [HE.out], Lib.hid ⟨HM2.out.b0, HM2.out.b1⟩, Lib.hid ((Below.trans HB2.out ⟨rfl, rfl, rfl, Nat.le_refl _, fun _ _ => rfl⟩))⟩
   case measure => simp [intOf]; omega
  ·have hke : k = 31 := by omega
   subst hke
   have hd : decide ((31 : Int) ≤ 30) = false := by simp
   obtain ⟨fs, hfs⟩ : ∃ fs, fs = Y5k (Y29 L 31) := ⟨_, rfl⟩
   have hfz : fs.size = 31 := by rw [hfs, Y6v]
   have hb1 := HM.out.b1
   have hf1 : fs.all (·.oneCell') = true := by rw [hfs]; exact Ycr _
   rw [← hfs] at hb1
   have HFS := Lib.hid hfs
   have hr := Y8w hb1
   have ht := Yes hb1
   have HR2 := Lib.hid (World.rangeAt_setCells_same wr (w.heap.size + 1) 0 fs.toList (by simpa using ht))
   have HB2 := Lib.hid (Y5m (Nat.le_succ w.heap.size) fs.toList 0 w wr HB.out)
   have hi1 : (Tryz.prog.info? 202).map (·.size) = some fs.toList.length := by rw [Tryz.size31u, Array.length_toList, hfz]
   have hi2 : (Tryz.prog.info? 202).map (·.size) = some fs.size := by rw [Tryz.size31u, hfz]
   have HT := Lib.hid ht
   have HR := Lib.hid hr
   have HF1 := Lib.hid hf1
   have HI1 := Lib.hid hi1
   have HI2 := Lib.hid hi2
   clear ht hr hfs hb1 hfz hf1 hi1 hi2
   go_wp2_with (first | (refine wpList_load_mid rfl 202 _ rfl (w.heap.size + 1) 0 rfl fs.toList _ HR.out Tryz.underlying202 rfl HI1.out ?_) | (refine wpList_store_mid rfl 202 _ _ rfl (w.heap.size + 1) 0 fs rfl rfl HT.out HI2.out HF1.out ?_))
   refine bodyPost_ret (v := .tuple #[.agg fs, .int .u64 ((startN L 31 : Nat) : Int)]) ?_ rfl ⟨by rw [HFS.out], HB2.out⟩
   have hld := run_loadVar_mid (P := Tryz.prog) (wr.setCells (w.heap.size + 1) 0 fs.toList) (w.heap.size + 1) 0 202 fs.toList _ HR2.out Tryz.underlying202 rfl HI1.out
   rw [results_cell_tmp rfl]
   have ha : ∀ W : World, (asAddr (.pointer (some ⟨w.heap.size + 1, 0, none⟩))).run Tryz.prog W = .ok ⟨w.heap.size + 1, 0, none⟩ W := fun _ => rfl
   refine Eq.trans (congrArg (fun r : Result Addr => r.andThen _) (ha _)) ?_
   show (Sem.run Tryz.prog (loadVar 202 ⟨w.heap.size + 1, 0, none⟩) (wr.setCells (w.heap.size + 1) 0 fs.toList)).andThen _ = _
   rw [hld]
   rfl
theorem Yju (v k i : Nat) (h : i < (word v k).length) : (word v k)[i] = (v / 2 ^ (k - 1 - i) % 2 == 1) := by
 induction k generalizing i with
 | zero => simp [word] at h
 | succ k ih =>
  rcases i with _ | i
  ·simp [word]
  ·simp only [word, List.getElem_cons_succ]
   rw [ih i (by simpa [word] using h), show k + 1 - 1 - (i + 1) = k - 1 - i by omega]
theorem Yed (p n i : Nat) (hn : n ≤ 30) (h : i < (Y0g p n).length) : (Y0g p n)[i] = (p / 2 ^ (29 - i) % 2 == 1) := by
 have hi : i < n := by rwa [Y08] at h
 refine (Yju (p / share n) n i (by rw [Y0d]; exact hi)).trans ?_
 rw [Nat.div_div_eq_div_mul]
 unfold share
 rw [← Nat.pow_add, show 30 - n + (n - 1 - i) = 29 - i by omega]
theorem Ykm (p i : Nat) (b : Bool) (hb : b = (p / 2 ^ (29 - i) % 2 == 1)) (hp : p < 18446744073709551616) : (48 + bits .and .u64 ((p : Int) / 2 ^ (29 - i)) 1) % 256 = ((dig b).toNat : Int) := by
 have e : ((p : Int) / 2 ^ (29 - i)) = ((p / 2 ^ (29 - i) : Nat) : Int) := by push_cast; rfl
 have hq : p / 2 ^ (29 - i) ≤ p := Nat.div_le_self _ _
 rw [e, Y5u, hb, Y5n, show (1 : Int) = ((1 : Nat) : Int) from rfl, u64_and_nat _ _ (by omega) (by omega), Nat.and_one_is_mod]
 omega
set_option maxHeartbeats 1000000 in
theorem Y7z (p n : Nat) (w : World) (hn : n ≤ 30) (hp : p < 18446744073709551616) : Calls Tryz.prog 138 #[.int .u64 (p : Int), .int .i64 (n : Int)] w fun e w' => e = .returned (.string (ds (Y0g p n))) ∧ Below w.heap.size w w' := by
 obtain ⟨i0, hi, hz0, hz1, hz2⟩ := info_parts Tryz.infoByte
 obtain ⟨ps, hps⟩ : ∃ ps, ps = (Y0g p n).map dig := ⟨_, rfl⟩
 have hpl : ps.length = n := by rw [hps, List.length_map, Y08]
 have HPS := Lib.hid hps
 have HPL := Lib.hid hpl
 clear hps hpl
 go_enter Tryz.func138, Tryz.ntmps138
 go_wp2_with (at_make; refine wpList_make_full _ rfl _ _ 22 rfl w.heap.size 5 i0 (.int .u8 0) 1 Tryz.underlying22 hi hz0 hz1 .i64 .i64 (n : Int) (n : Int) n rfl rfl rfl rfl ?c2 ?c3 ?c4 ?_)
 case c2 => rw [hz2]; omega
 case c3 => unfold maxLen; omega
 case c4 => omega
 intro w1 hown hgrow
 have hg0 := Y1k hown
 have hb1 : Below w.heap.size w w1 := (Below.refl _ _).grown hgrow (Nat.le_refl _) (fun k hk => by cases hk)
 have hP : Blk w1 w.heap.size (Y45 ps 0) := by
  unfold Blk
  rw [Y7c, HPL.out, ← Y9h]
  simpa using hg0
 have HP := Lib.hid hP
 have HB1 := Lib.hid hb1
 clear hown hgrow hg0 hb1 hP
 go_wp2_with fail
 go_loopw [6, 10] (fun u i wr => ∃ k : Nat, k ≤ n ∧ i = .int .i64 (k : Int) ∧ Hid (Blk wr w.heap.size (Y45 ps k)) ∧ Hid (Below w.heap.size w wr)) (fun _ i _ => n - (intOf i).toNat)
 case atStart => exact ⟨0, by omega, rfl, HP, HB1⟩
 case round =>
  obtain ⟨k, hk, rfl, HP, HB⟩ := hrel
  by_cases hlt : k < n
  ·have hd : decide ((k : Int) < (n : Int)) = true := by simp; omega
   have i0' : (0 : Int) ≤ (k : Int) := by omega
   have i1' : (k : Int) < (n : Int) := by omega
   have hlen : k < ps.length := by rw [HPL.out]; exact hlt
   have hfl : k < (Y45 ps k).length := by rw [Y3m _ _ (by omega)]; exact hlen
   have hc := HP.out.cell k hfl
   have hfz := HP.out.frozen k
   generalize (Y45 ps k)[k] = old at hc
   have hbit := Ykm p k ((Y0g p n)[k]'(by rw [Y08]; exact hlt)) (Yed p n k hn _) hp
   have hpk : dig ((Y0g p n)[k]'(by rw [Y08]; exact hlt)) = ps[k] := by
    have : ∀ h, ps[k]'h = dig ((Y0g p n)[k]'(by rw [Y08]; exact hlt)) := by rw [HPS.out]; intro h; simp
    exact (this hlen).symm
   rw [hpk] at hbit
   have hs1 : (29 : Int) - (k : Int) = ((29 - k : Nat) : Int) := by omega
   have hs2 : 29 - k < 64 := by omega
   have HBIT := Lib.hid hbit
   have HS := Lib.hid (HP.out.set_ k ps[k])
   rw [Y7b _ _ hlen] at HS
   have HB2 := Lib.hid (HB.out.setCell (p := ⟨w.heap.size, k, none⟩) (Nat.le_refl _) (.int .u8 (ps[k].toNat : Int)))
   clear hpk hbit hfl
   go_wp2_with fail
   rw [HBIT.out]
   go_roundw
   case rel => exact ⟨k + 1, by omega, by go_num, HS, HB2⟩
   case measure => simp [intOf]; omega
  ·have hke : k = n := by omega
   subst hke
   have hd : decide ((k : Int) < (k : Int)) = false := by simp
   have HPZ := HP.out.row
   rw [← HPL.out, Y95] at HPZ
   have hcv := Y1q k k HPZ HPL.out
   rw [HPS.out] at hcv
   have HCV := Lib.hid hcv
   clear hcv HPZ
   have hcv : (convert 22 9 (.slice (some ⟨w.heap.size, 0, none⟩) k k)).run Tryz.prog wr = .ok (.string (ds (Y0g p k))) wr := HCV.out
   go_wp2_with fail
   go_ret
   exact ⟨rfl, HB.out⟩
end Go.Proofs.YtkkfkmoikcmhoaaGreat.Hf
namespace Go.Proofs.YtkkfkmoikcmhoaaGreat.Df
open Go.RowKit Oct Bit Hf Inf
set_option maxRecDepth 100000
theorem Yaj (x : Int) (h1 : -9223372036854775808 ≤ x) (h2 : x < 9223372036854775808) : wrap64 x = x := by
 unfold wrap64
 omega
section
variable {w w' : World} {d : Nat} {x y z : Value}
end
end Go.Proofs.YtkkfkmoikcmhoaaGreat.Df
namespace Go.Proofs.YtkkfkmoikcmhoaaGreat.Inf
open Go.RowKit Oct Bit Hf
set_option maxRecDepth 100000
def NumP (w : World) (K : Kon) (v : Value) (out : List UInt8) (F : Option Fix) (a n from_ : Nat) (e : Ending) (w' : World) : Prop :=
 ((∃ m, Y16 (Y00 true K.xs) a n = .ok (m, a + n) ∧ m < 2 ^ n ∧ e = .returned (.tuple #[.int .i64 ((from_ + m : Nat) : Int), .int .i64 0]) ∧ De w' K (a + n) v out F) ∨
   (Y16 (Y00 true K.xs) a n = .error 2 ∧ e = .returned (.tuple #[.int .i64 0, .int .i64 2]))) ∧ Only (Y0u K v) w w'
theorem Y0s {K : Kon} {v : Value} {w w' : World} (h : Only (· = K.gr) w w') : Only (Y0u K v) w w' := h.mono fun k _ e => .inr (.inl e)
theorem Y1e {xs : List UInt8} {a n m b : Nat} (h : Y16 (Y00 true xs) a n = .ok (m, b)) (hn : n ≤ 32) : m < 2 ^ n ∧ b = a + n := by
 by_cases hc : a + n ≤ 8 * xs.length
 ·rw [Yk8 hc hn] at h
  cases h
  exact ⟨Yc1 true xs a n hn, rfl⟩
 ·rw [Yfx hc] at h; cases h
theorem Y8a {xs : List UInt8} {a n c : Nat} (h : Y16 (Y00 true xs) a n = .error c) : c = 2 := by
 unfold Y16 at h
 split at h
 ·cases h
 ·cases h; rfl
theorem Y53 (g : Nat) (p : Option Addr) (cap : Nat) (xs : List UInt8) (a n m b : Nat) (hn : n ≤ 32) (w : World) (hR : Rd w g p cap xs a true) (hx : Y16 (Y00 true xs) a n = .ok (m, b)) :
  Calls Tryz.prog 55 #[.pointer (some ⟨g, 0, none⟩), .int .i64 (n : Int)] w fun e w' => e = .returned (.tuple #[.int .u32 (m : Int), .int .i64 0]) ∧ Rd w' g p cap xs b true ∧ Only (· = g) w w' := by
 refine (Yce g p cap xs a n hn w hR).mono ?_
 rintro e w' ⟨h, ho, hz⟩
 rcases h with ⟨v, h1, _, h3, h4⟩ | ⟨h1, _⟩
 ·rw [hx] at h1
  cases h1
  exact ⟨h3, h4, ho⟩
 ·rw [hx] at h1; cases h1
theorem Y41 (g : Nat) (p : Option Addr) (cap : Nat) (xs : List UInt8) (a n c : Nat) (hn : n ≤ 32) (w : World) (hR : Rd w g p cap xs a true) (hx : Y16 (Y00 true xs) a n = .error c) :
  Calls Tryz.prog 55 #[.pointer (some ⟨g, 0, none⟩), .int .i64 (n : Int)] w fun e w' => e = .returned (.tuple #[.int .u32 0, .int .i64 2]) ∧ Only (· = g) w w' := by
 refine (Yce g p cap xs a n hn w hR).mono ?_
 rintro e w' ⟨h, ho, hz⟩
 rcases h with ⟨v, h1, _⟩ | ⟨h1, h2, _⟩
 ·rw [hx] at h1; cases h1
 ·exact ⟨h2, ho⟩
set_option maxHeartbeats 1000000 in
theorem Y0t (w : World) (K : Kon) (a : Nat) (v : Value) (out : List UInt8) (F : Option Fix) (from_ n : Nat) (h : De w K a v out F) (hf : from_ ≤ 100000) (hn : n ≤ 13) :
  Calls Tryz.prog 125 #[.pointer (some ⟨K.d, 0, none⟩), .agg #[.int .i64 (from_ : Int), .int .i64 (n : Int)]] w (NumP w K v out F a n from_) := by
 obtain ⟨wb, hwb⟩ : ∃ wb, wb = w.alloc (.cells #[.int .i64 (from_ : Int), .int .i64 (n : Int)] 102) := ⟨_, rfl⟩
 have hob : Only (fun _ => False) w wb := by rw [hwb]; exact Only.of_below ((Below.refl _ w).alloc (Nat.le_refl _) _)
 have hD := h.keep hob
 have k0 := hD.c0
 have b0 : wb.cell? ⟨w.heap.size, 0, none⟩ = some (.int .i64 (from_ : Int)) := by rw [hwb]; simp
 have b1 : wb.cell? ⟨w.heap.size, 1, none⟩ = some (.int .i64 (n : Int)) := by
  rw [hwb]
  simp only [World.cell?, World.alloc, Array.getElem?_push_size]
  rfl
 have hdl := hD.lt
 have hlo := hD.lo
 have hwlt := h.lt
 have hsz : wb.heap.size = w.heap.size + 1 := by rw [hwb]; exact Array.size_push _
 have HKP : Hid (∀ w2, Only (· = K.gr) wb.drew w2 → w2.cell? ⟨K.d, 0, none⟩ = some (.pointer (some ⟨K.gr, 0, none⟩)) ∧ w2.cell? ⟨w.heap.size, 0, none⟩ = some (.int .i64 (from_ : Int)) ∧ w2.cell? ⟨w.heap.size, 1, none⟩ = some (.int .i64 (n : Int))) := Lib.hid (by
  intro w2 ho
  have e1 : ∀ k, k < wb.heap.size → k ≠ K.gr → ∀ i, w2.cell? ⟨k, i, none⟩ = wb.cell? ⟨k, i, none⟩ := fun k h1 h2 i => World.cell?_of_block (ho.2.2.2.2 k h1 h2)
  exact ⟨(e1 _ hdl (by omega) 0).trans k0, (e1 _ (by omega) (by omega) 0).trans b0, (e1 _ (by omega) (by omega) 1).trans b1⟩)
 have HDD := Lib.hid (hD.drawn (w' := wb.drew) ⟨1, rfl⟩)
 have HOB := Lib.hid (hob.trans (Only.drawn (fun _ => False) (w := wb) (w' := wb.drew) ⟨1, rfl⟩))
 have HWB := Lib.hid hwb
 have HN := Lib.hid hn
 clear hD hob h hwb
 rcases hx : Y16 (Y00 true K.xs) a n with c | ⟨m, b⟩
 ·have HRD := Lib.hid (Y41 K.gr K.p K.cap K.xs a n c (by omega) wb.drew HDD.out.rd hx)
  have HX := Lib.hid hx
  have HE := Lib.hid (Y8a hx)
  clear hx
  go_enter Tryz.func125, Tryz.ntmps125
  go_wp2_with fail
  rw [← HWB.out]
  go_region_held3 (fun w2 => w2.cell? ⟨K.d, 0, none⟩ = some (.pointer (some ⟨K.gr, 0, none⟩)) ∧ w2.cell? ⟨w.heap.size, 0, none⟩ = some (.int .i64 (from_ : Int)) ∧ w2.cell? ⟨w.heap.size, 1, none⟩ = some (.int .i64 (n : Int))) (first | exact ⟨k0, b0, b1⟩ | exact HKP.out _ HO2.out) (first | (go_at_call 55; refine HRD.out.mono ?_; rintro e w2 ⟨rfl, ho2⟩; have HO2 := Lib.hid ho2; clear ho2))
  all_goals
   go_wp2_with fail
   go_ret2
   refine ⟨.inr ⟨by rw [HX.out, HE.out], rfl⟩, Y0s ((HOB.out.mono fun _ _ e => e.elim).trans HO2.out)⟩
 ·have HRD := Lib.hid (Y53 K.gr K.p K.cap K.xs a n m b (by omega) wb.drew HDD.out.rd hx)
  obtain ⟨hm, rfl⟩ := Y1e hx (by omega)
  have HX := Lib.hid hx
  have hm2 : m < 8192 := Nat.lt_of_lt_of_le hm (Nat.pow_le_pow_right (by decide) HN.out)
  have HM := Lib.hid hm
  clear hx hm
  go_enter Tryz.func125, Tryz.ntmps125
  go_wp2_with fail
  rw [← HWB.out]
  go_region_held3 (fun w2 => w2.cell? ⟨K.d, 0, none⟩ = some (.pointer (some ⟨K.gr, 0, none⟩)) ∧ w2.cell? ⟨w.heap.size, 0, none⟩ = some (.int .i64 (from_ : Int)) ∧ w2.cell? ⟨w.heap.size, 1, none⟩ = some (.int .i64 (n : Int))) (first | exact ⟨k0, b0, b1⟩ | exact HKP.out _ HO2.out) (first | (go_at_call 55; refine HRD.out.mono ?_; rintro e w2 ⟨rfl, hr2, ho2⟩; have HO2 := Lib.hid ho2; have HR2 := Lib.hid hr2; clear ho2 hr2))
  all_goals
   obtain ⟨_, d0, d1⟩ := HKP.out _ HO2.out
   go_wp2_with fail
   go_ret2
   refine ⟨.inl ⟨m, HX.out, HM.out, ?_, HDD.out.moved HO2.out HR2.out⟩, Y0s ((HOB.out.mono fun _ _ e => e.elim).trans HO2.out)⟩
   first | rfl | (push_cast; rfl)
end Go.Proofs.YtkkfkmoikcmhoaaGreat.Inf
namespace Go.Proofs.YtkkfkmoikcmhoaaGreat.Inf
open Go.RowKit Oct Bit Hf
set_option maxRecDepth 100000
def Yk1 (w : World) (K : Kon) (a : Nat) (v : Value) (out : List UInt8) (F : Option Fix) (n d : Nat) (e : Ending) (w' : World) : Prop :=
 if out.length < d then e = .returned (.int .i64 3) ∧ Only (Y0u K v) w w'
 else if K.most < out.length + n then e = .returned (.int .i64 8) ∧ Only (Y0u K v) w w'
 else e = .returned (.int .i64 0) ∧ DeT w K v a (Y26 out d n) F w'
theorem DeT.refl {w : World} {K : Kon} {a : Nat} {v : Value} {out : List UInt8} {F : Option Fix} (h : De w K a v out F) : DeT w K v a out F w := ⟨v, h, Only.refl _ _, fun _ hk => .inl hk⟩
set_option maxHeartbeats 4000000 in
theorem Ydy (w : World) (K : Kon) (a : Nat) (v : Value) (out : List UInt8) (F : Option Fix) (n d : Nat) (h : De w K a v out F) (hn : n ≤ 100000) (hd1 : 1 ≤ d) (hd2 : d ≤ 100000) :
  Calls Tryz.prog 150 #[.pointer (some ⟨K.d, 0, none⟩), .int .i64 (n : Int), .int .i64 (d : Int)] w (Yk1 w K a v out F n d) := by
 obtain ⟨i0, hi, hz0, hz1, hz2⟩ := info_parts Tryz.infoByte
 obtain ⟨p, cap, hv, hc1, hc2, hnil, hrow⟩ := h.form
 have k1 := h.c1
 have k2 := h.c2
 rw [hv] at k1
 have hom := h.om
 have hsz := h.sz
 by_cases hfar : out.length < d
 ·have HR : Hid (∀ e w', (e = .returned (.int .i64 3) ∧ w = w') → Yk1 w K a v out F n d e w') := Lib.hid (by
   rintro e w' ⟨rfl, rfl⟩
   unfold Yk1
   rw [if_pos hfar]
   exact ⟨rfl, Only.refl _ _⟩)
  have hd0 : decide ((d : Int) > (out.length : Int)) = true := by simp; omega
  clear h hrow hnil
  go_enter Tryz.func150, Tryz.ntmps150
  go_wp2_with fail
  go_ret
  exact HR.out _ _ ⟨rfl, rfl⟩
 have hd0 : decide ((d : Int) > (out.length : Int)) = false := by simp; omega
 by_cases hfull : K.most < out.length + n
 ·have HR : Hid (∀ e w', (e = .returned (.int .i64 8) ∧ Drawn w w') → Yk1 w K a v out F n d e w') := Lib.hid (by
   rintro e w' ⟨rfl, h2⟩
   unfold Yk1
   rw [if_neg hfar, if_pos hfull]
   exact ⟨rfl, Only.drawn _ h2⟩)
  have hd1 : decide ((n : Int) > (K.most : Int) - (out.length : Int)) = true := by simp; omega
  clear h hrow hnil
  go_enter Tryz.func150, Tryz.ntmps150
  go_wp2_with fail
  go_quiet (fail)
  go_wp2_with fail
  go_ret
  exact HR.out _ _ ⟨rfl, ⟨_, rfl⟩⟩
 ·have hd1 : decide ((n : Int) > (K.most : Int) - (out.length : Int)) = false := by simp; omega
  have HR : Hid (∀ e w', (e = .returned (.int .i64 0) ∧ DeT w K v a (Y26 out d n) F w') → Yk1 w K a v out F n d e w') := Lib.hid (by
   rintro e w' ⟨rfl, h2⟩
   unfold Yk1
   rw [if_neg hfar, if_neg hfull]
   exact ⟨rfl, h2⟩)
  have H := Lib.hid h
  clear h hrow hnil hv
  go_enter Tryz.func150, Tryz.ntmps150
  go_wp2_with fail
  go_quiet (fail)
  go_wp2_with fail
  go_loopw [27] (fun i wr => ∃ (j : Nat) (out2 : List UInt8), j ≤ n ∧ i = .int .i64 (j : Int) ∧ Hid (Y26 out2 d (n - j) = Y26 out d n) ∧ out2.length = out.length + j ∧ Hid (DeT w K v a out2 F wr)) (fun i wr => n - (intOf i).toNat)
  case atStart => exact ⟨0, out, by omega, rfl, Lib.hid rfl, rfl, Lib.hid (DeT.refl (H.out.drawn (w' := w.drewN nq) ⟨nq, rfl⟩) |>.more (Only.drawn _ ⟨nq, rfl⟩) (fun _ hk => .inl hk))⟩
  case round =>
   obtain ⟨j, out2, hj, rfl, HCP, hlen, HT⟩ := hrel
   obtain ⟨v2, hD2, ho2, hb2⟩ := HT.out
   by_cases hjn : j < n
   ·have hlt : decide ((j : Int) < (n : Int)) = true := by simpa using hjn
    obtain ⟨p2, cap2, hv2, hc21, hc22, hnil2, hrow2⟩ := hD2.form
    obtain ⟨g2, off2, rfl, hg2, hcells2⟩ := hrow2 (by omega)
    have hoff2 : off2 = 0 := by
     rcases hD2.own.2 with ⟨e, _⟩ | ⟨g', c', cur, e, _⟩
     ·rw [hv2] at e; cases e
     ·rw [hv2] at e; injection e with e; injection e with e; injection e
    subst hoff2
    unfold maxLen at hc22
    obtain ⟨z, hz⟩ : ∃ z, out2.length - d = z := ⟨_, rfl⟩
    have hzl : z < out2.length := by omega
    obtain ⟨x, hx⟩ : ∃ x, out2[z] = x := ⟨_, rfl⟩
    have hzi : (out2.length : Int) - (d : Int) = (z : Int) := by omega
    obtain ⟨wd, hwd⟩ : ∃ wd, wd = (wr.alloc (.cells #[.int .u8 (x.toNat : Int)] 5)).drew := ⟨_, rfl⟩
    have hod : Only (fun _ => False) wr wd := by rw [hwd]; exact (Only.of_below ((Below.refl _ wr).alloc (Nat.le_refl _) _)).trans (Only.drawn _ ⟨1, rfl⟩)
    have hsz2 : wd.heap.size = wr.heap.size + 1 := by rw [hwd]; exact Array.size_push _
    have hD3 := hD2.keep hod
    have q1 : wr.drew.cell? ⟨K.d, 1, none⟩ = some (.slice (some ⟨g2, 0, none⟩) out2.length cap2) := by rw [← hv2]; exact hD2.c1
    have q2 : wr.drew.cell? ⟨g2, z, none⟩ = some (.int .u8 (x.toNat : Int)) := by
     have := hcells2 z hzl
     rw [hx, Nat.zero_add] at this
     exact this
    have q3 : (wr.alloc (.cells #[.int .u8 (x.toNat : Int)] 5)).drew.cell? ⟨K.d, 1, none⟩ = some (.slice (some ⟨g2, 0, none⟩) out2.length cap2) := by
     rw [← hwd, ← hv2]; exact hD3.c1
    have hnw : ∀ i u, (cellsOf [x])[i]? = some u → wd.cell? ((⟨wr.heap.size, 0, none⟩ : Addr).add i) = some u := by rw [hwd]; exact news8 wr x
    have hOne := hD2.one x (by omega) hod
    have HNEXT : Hid (Y26 (out2 ++ [x]) d (n - (j + 1)) = Y26 out d n) := Lib.hid (by
     rw [← HCP.out, show n - j = (n - (j + 1)) + 1 from by omega, Y26, hz]
     congr 3
     rw [List.getD_eq_getElem?_getD, List.getElem?_eq_getElem hzl, hx]
     rfl)
    have HOWN3 := Lib.hid hD3.own
    have HNW := Lib.hid hnw
    have HONE := Lib.hid hOne
    have HWD := Lib.hid hwd
    have HSZ := Lib.hid hsz2
    have HV2 := Lib.hid hv2
    have HO2 := Lib.hid ho2
    have HB2 := Lib.hid hb2
    have hxb : x.toNat < 256 := x.toNat_lt
    have hzn0 : (0 : Int) ≤ (z : Int) := by omega
    have hzn1 : (z : Int) < (out2.length : Int) := by omega
    have hwz : IntKind.i64.wrap (z : Int) = (z : Int) := IntWalk.i64_in _ (by omega)
    have hkm : out2.length + 1 ≤ 300000 := by omega
    have HL := Lib.hid hlen
    clear hlen hrow2 hcells2 hnil2 hg2 hnw hx hD2 hD3 ho2 hb2 hod hwd hsz2 hOne k1 k2 hfar hfull hd0 hd1 hz hv2 HT
    go_wp2_with fail
    go_region_law (rw [← HWD.out]; refine step_append_lies _ rfl _ _ 22 rfl 0 5 i0 (.int .u8 0) 1 1 Tryz.underlying22 hi hz0 hz1 hz2 rfl (by decide) (.slice (some ⟨g2, 0, none⟩) out2.length cap2) out2.length (cellsOf out2) (by simp [Act.eval, Act.put]) (by have := HOWN3.out; rwa [HV2.out] at this) ⟨wr.heap.size, 0, none⟩ 1 1 (cellsOf [x]) (by simp [Act.eval, Act.put]) rfl HNW.out Y20 (by omega) (by unfold maxLen; omega) (by omega) (Nat.zero_le _) (wr.heap.size + 1) HSZ.out ?_; intro g1 cap1 w1 hown1 hgrow1 hat1 hlt1; have HON1 := Lib.hid (HONE.out g1 cap1 w1 hown1 (by rw [HV2.out]; exact hgrow1) (by rw [HV2.out, HSZ.out]; exact hat1)); have hfz1 := HON1.out.1.1; have hcl1 : w1.cell? ⟨K.d, 1, none⟩ = some (.slice (some ⟨g2, 0, none⟩) out2.length cap2) := by rw [← HV2.out]; exact HON1.out.1.2)
    all_goals
     clear hown1 hgrow1 hat1
     go_wp2_with fail
     go_roundw
     case rel => exact ⟨j + 1, out2 ++ [x], by omega, by first | rfl | (congr 1; omega) | (push_cast; rfl), HNEXT, by rw [List.length_append, HL.out]; simp; omega, Lib.hid (HON1.out.2.more HO2.out HB2.out)⟩
     case measure => simp [intOf]; omega
   ·have hjn2 : j = n := by omega
    subst hjn2
    have HRES := Lib.hid (HR.out _ _ ⟨rfl, by have := HT.out; rwa [show out2 = Y26 out d j from by rw [← HCP.out, Nat.sub_self]; rfl] at this⟩)
    clear hD2 ho2 hb2
    go_wp2_with fail
    go_ret
    exact HRES.out
end Go.Proofs.YtkkfkmoikcmhoaaGreat.Inf
namespace Go.Proofs.YtkkfkmoikcmhoaaGreat.Inf
open Go.RowKit Oct Bit Hf
set_option maxRecDepth 100000
theorem Y84 (W : List (List Bool)) : ∀ (l p : List Bool) (i k : Nat), Y0v W p l = .ok (i, k) → i < W.length
 | [], p, i, k, h => by cases h
 | b :: t, p, i, k, h => by
  rw [Y0v] at h
  split at h
  ·rename_i hm
   cases h
   exact List.idxOf_lt_length_of_mem hm
  ·split at h
   ·exact Y84 W t _ i k h
   ·cases h
theorem Yc0 (W : List (List Bool)) : ∀ (l p : List Bool) (c : Nat), Y0v W p l = .error c → c = 2 ∨ c = 6
 | [], p, c, h => by cases h; exact .inl rfl
 | b :: t, p, c, h => by
  rw [Y0v] at h
  split at h
  ·cases h
  ·split at h
   ·exact Yc0 W t _ c h
   ·cases h; exact .inr rfl
theorem Y89 {W : List (List Bool)} {L : List Bool} {a k b : Nat} (h : Y10 W L a = .ok (k, b)) : k < W.length := by
 unfold Y10 at h
 rcases hx : Y0v W [] (L.drop a) with e | ⟨i, j⟩
 ·rw [hx] at h; cases h
 ·rw [hx] at h; cases h; exact Y84 W _ _ _ _ hx
theorem Y3z {W : List (List Bool)} {L : List Bool} {a c : Nat} (h : Y10 W L a = .error c) : c = 2 ∨ c = 6 := by
 unfold Y10 at h
 rcases hx : Y0v W [] (L.drop a) with e | ⟨i, j⟩
 ·rw [hx] at h; cases h; exact Yc0 W _ _ _ hx
 ·rw [hx] at h; cases h
theorem Y1b (n : Nat) : (places n).length = n := by simp [places, ints]
theorem Ydv {n i : Nat} {v : Value} (h : (places n)[i]? = some v) : v = .int .i64 (i : Int) := by
 unfold places ints at h
 rw [List.map_map, List.getElem?_map] at h
 rcases hr : (List.range n)[i]? with _ | j
 ·rw [hr] at h; cases h
 ·rw [hr] at h
  obtain ⟨hj, rfl⟩ := List.getElem?_eq_some_iff.1 hr
  cases h
  simp
theorem Ybr (w : World) (K : Kon) (a : Nat) (v : Value) (out : List UInt8) (F : Option Fix) (B C g k b : Nat) (W : List (List Bool)) (h : De w K a v out F) (hb : Bo w B C g W) (hB : K.gr < B) (hx : Y10 W (Y00 true K.xs) a = .ok (k, b)) :
  Calls Tryz.prog 122 #[.pointer (some ⟨g, 0, none⟩), .pointer (some ⟨K.gr, 0, none⟩)] w fun e w' => e = .returned (.tuple #[.int .i64 (k : Int), .int .i64 0]) ∧ De w' K b v out F ∧ Only (· = K.gr) w w' := by
 refine (Y7m w B C g W (places W.length) K.gr K.p K.cap K.xs a true hb hB h.rd (Y1b _)).mono ?_
 rintro e w' ⟨hres, ho, hz⟩
 unfold Y10 at hx
 rcases hres with ⟨i, j, u, h1, h2, rfl, h4⟩ | ⟨c, j, h1, _⟩
 ·rw [h1] at hx
  cases hx
  rw [Ydv h2]
  exact ⟨rfl, h.moved ho h4, ho⟩
 ·rw [h1] at hx; cases hx
theorem Y8q (w : World) (K : Kon) (a : Nat) (v : Value) (out : List UInt8) (F : Option Fix) (B C g c : Nat) (W : List (List Bool)) (h : De w K a v out F) (hb : Bo w B C g W) (hB : K.gr < B) (hx : Y10 W (Y00 true K.xs) a = .error c) :
  Calls Tryz.prog 122 #[.pointer (some ⟨g, 0, none⟩), .pointer (some ⟨K.gr, 0, none⟩)] w fun e w' => e = .returned (.tuple #[.int .i64 0, .int .i64 (c : Int)]) ∧ Only (· = K.gr) w w' := by
 refine (Y7m w B C g W (places W.length) K.gr K.p K.cap K.xs a true hb hB h.rd (Y1b _)).mono ?_
 rintro e w' ⟨hres, ho, hz⟩
 unfold Y10 at hx
 rcases hres with ⟨i, j, u, h1, _⟩ | ⟨c', j, h1, rfl, _⟩
 ·rw [h1] at hx; cases hx
 ·rw [h1] at hx
  cases hx
  exact ⟨rfl, ho⟩
def Res (w : World) (K : Kon) (v : Value) (F : Option Fix) (x : R (List UInt8)) (e : Ending) (w' : World) : Prop :=
 (∃ o a, x = .ok (o, a) ∧ e = .returned (.int .i64 0) ∧ DeT w K v a o F w') ∨ ∃ c, x = .error c ∧ c ≠ 0 ∧ e = .returned (.int .i64 (c : Int)) ∧ Only (Y0u K v) w w'
def Y2x (B : List (List Bool)) (L : List Bool) (most i a : Nat) (out : List UInt8) : R (List UInt8) :=
 (Y0x false L i a).then fun n a => (Y10 B L a).then fun k a => (Y0x true L k a).then fun d a =>
  if out.length < d then .error 3 else if most < out.length + n then .error 8 else .ok (Y26 out d n, a)
theorem Y2j : ∀ far : Bool, ∀ i, i < (froms far).length → 1 ≤ (froms far).getD i 0 ∧ (froms far).getD i 0 ≤ 30000 ∧ (extras far).getD i 0 ≤ 13 := by decide +kernel
set_option maxHeartbeats 4000000 in
theorem Yd9 (w : World) (K : Kon) (a : Nat) (v : Value) (out : List UInt8) (F : Option Fix) (B C g i : Nat) (W : List (List Bool)) (h : De w K a v out F) (hb : Bo w B C g W) (hc : Clr K v B C) (hW : W.length ≤ 30) (hi : i ≤ 100000) :
  Calls Tryz.prog 123 #[.pointer (some ⟨K.d, 0, none⟩), .int .i64 (i : Int), .pointer (some ⟨g, 0, none⟩)] w (Res w K v F (Y2x W (Y00 true K.xs) K.most i a out)) := by
 obtain ⟨L, hL⟩ : ∃ L, L = Y00 true K.xs := ⟨_, rfl⟩
 rw [← hL]
 have c3 := h.c3
 have hlo := h.lo
 have hcB := hc.1
 have hcl := h.cl
 by_cases hi2 : i < (froms false).length
 ·have hi3 : i < 29 := hi2
  have hd0 : decide ((i : Int) ≥ 29) = false := by simp; omega
  obtain ⟨f1, f2⟩ := h.tbl.now.1 i hi2
  obtain ⟨fb0, fb1, fb2⟩ := Y2j false i hi2
  obtain ⟨from_, hfrom⟩ : ∃ x, (froms false).getD i 0 = x := ⟨_, rfl⟩
  obtain ⟨ext, hext⟩ : ∃ x, (extras false).getD i 0 = x := ⟨_, rfl⟩
  rw [hfrom] at f1 fb0 fb1
  rw [hext] at f2 fb2
  have HNM := Lib.hid (Y0t w K a v out F from_ ext h (by omega) fb2)
  have i0 : (0 : Int) ≤ (i : Int) := by omega
  have i1 : (i : Int) < 29 := by omega
  have H := Lib.hid h
  have HL := Lib.hid hL
  clear h
  go_enter Tryz.func123, Tryz.ntmps123
  go_wp2_with fail
  refine HNM.out.mono ?_
  rintro e w1 ⟨hres, ho1⟩
  rcases hres with ⟨m, hx1, hm1, rfl, hD1⟩ | ⟨hx1, rfl⟩
  case inr =>
   have HRES : Hid (Res w K v F (Y2x W L K.most i a out) (.returned (.int .i64 2)) w1) := Lib.hid (.inr ⟨2, by unfold Y2x Y0x; rw [if_pos hi2, hext, HL.out, hx1]; rfl, by decide, rfl, ho1⟩)
   clear hx1 ho1
   go_wp2_with fail
   go_ret
   exact HRES.out
  case inl =>
   have hnum : Y0x false L i a = .ok (from_ + m, a + ext) := by unfold Y0x; rw [if_pos hi2, hext, hfrom, HL.out, hx1]; rfl
   have hm2 : m < 8192 := Nat.lt_of_lt_of_le hm1 (Nat.pow_le_pow_right (by decide) fb2)
   rcases hx2 : Y10 W (Y00 true K.xs) (a + ext) with c | ⟨k, b⟩
   ·have HW := Lib.hid (Y8q w1 K (a + ext) v out F B C g c W hD1 (hb.only hc hlo ho1) (by omega) hx2)
    have HRES : Hid (∀ w2, Only (· = K.gr) w1 w2 → Res w K v F (Y2x W L K.most i a out) (.returned (.int .i64 (c : Int))) w2) := Lib.hid fun w2 ho2 =>
     .inr ⟨c, by unfold Y2x; rw [hnum, R.then_ok, HL.out, hx2]; rfl, by have := Y3z hx2; omega, rfl, ho1.trans (Y0s ho2)⟩
    have hc0 : ((c : Int) != 0) = true := by have := Y3z hx2; simp; omega
    have d0 := hD1.c0
    clear hx2 hx1 ho1 hD1 c3 f1 f2 hnum
    go_wp2_with fail
    refine HW.out.mono ?_
    rintro e w2 ⟨rfl, ho2⟩
    have HRES2 := Lib.hid (HRES.out w2 ho2)
    clear ho2
    go_wp2_with fail
    go_ret
    exact HRES2.out
   ·have hkl : k < 30 := by have := Y89 hx2; omega
    have HW := Lib.hid (Ybr w1 K (a + ext) v out F B C g k b W hD1 (hb.only hc hlo ho1) (by omega) hx2)
    have HX1 := Lib.hid hnum
    have HX2 := Lib.hid hx2
    have HO1 := Lib.hid ho1
    have d0 := hD1.c0
    clear hx2 hx1 ho1 hD1 c3 f1 f2 hnum
    go_wp2_with fail
    refine HW.out.mono ?_
    rintro e w2 ⟨rfl, hD2, ho2⟩
    have c4 := hD2.c4
    obtain ⟨f1, f2⟩ := hD2.tbl.now.2 k hkl
    obtain ⟨gb0, gb1, gb2⟩ := Y2j true k hkl
    obtain ⟨from2, hfrom2⟩ : ∃ x, (froms true).getD k 0 = x := ⟨_, rfl⟩
    obtain ⟨ext2, hext2⟩ : ∃ x, (extras true).getD k 0 = x := ⟨_, rfl⟩
    rw [hfrom2] at f1 gb0 gb1
    rw [hext2] at f2 gb2
    have HNM2 := Lib.hid (Y0t w2 K b v out F from2 ext2 hD2 (by omega) gb2)
    have k0 : (0 : Int) ≤ (k : Int) := by omega
    have k1 : (k : Int) < 30 := by omega
    have HO2 := Lib.hid ho2
    clear ho2 hD2 d0
    go_wp2_with fail
    refine HNM2.out.mono ?_
    rintro e w3 ⟨hres3, ho3⟩
    have HO3 := Lib.hid ((HO1.out.trans (Y0s HO2.out)).trans ho3)
    clear ho3 f1 f2 c4
    rcases hres3 with ⟨m2, hx3, hm3, rfl, hD3⟩ | ⟨hx3, rfl⟩
    case inr =>
     have HRES : Hid (Res w K v F (Y2x W L K.most i a out) (.returned (.int .i64 2)) w3) := Lib.hid (.inr ⟨2, by
      unfold Y2x; rw [HX1.out, R.then_ok, HL.out, HX2.out, R.then_ok]; unfold Y0x; rw [if_pos (show k < (froms true).length from hkl), hext2, hx3]; rfl, by decide, rfl, HO3.out⟩)
     clear hx3
     go_wp2_with fail
     go_ret
     exact HRES.out
    case inl =>
     have hm4 : m2 < 8192 := Nat.lt_of_lt_of_le hm3 (Nat.pow_le_pow_right (by decide) gb2)
     have HEQ : Hid (Y2x W L K.most i a out = if out.length < from2 + m2 then .error 3 else if K.most < out.length + (from_ + m) then .error 8 else .ok (Y26 out (from2 + m2) (from_ + m), b + ext2)) := Lib.hid (by
      unfold Y2x; rw [HX1.out, R.then_ok, HL.out, HX2.out, R.then_ok]; unfold Y0x; rw [if_pos (show k < (froms true).length from hkl), hext2, hfrom2, hx3]; rfl)
     have HREP := Lib.hid (Ydy w3 K (b + ext2) v out F (from_ + m) (from2 + m2) hD3 (by omega) (by omega) (by omega))
     clear hx3 hD3
     go_wp2_with fail
     refine HREP.out.mono ?_
     intro e w4 hR
     unfold Yk1 at hR
     have HRES : Hid (Res w K v F (Y2x W L K.most i a out) e w4) := Lib.hid (by
      rw [HEQ.out]
      by_cases h1 : out.length < from2 + m2
      ·rw [if_pos h1] at hR; rw [if_pos h1]
       exact .inr ⟨3, rfl, by decide, hR.1, HO3.out.trans hR.2⟩
      ·rw [if_neg h1] at hR; rw [if_neg h1]
       by_cases h2 : K.most < out.length + (from_ + m)
       ·rw [if_pos h2] at hR; rw [if_pos h2]
        exact .inr ⟨8, rfl, by decide, hR.1, HO3.out.trans hR.2⟩
       ·rw [if_neg h2] at hR; rw [if_neg h2]
        exact .inl ⟨_, _, rfl, hR.1, hR.2.more HO3.out (fun _ hk => .inl hk)⟩)
     have hE : ∃ r, e = .returned (.int .i64 r) := by
      split at hR
      ·exact ⟨_, hR.1⟩
      ·split at hR
       ·exact ⟨_, hR.1⟩
       ·exact ⟨_, hR.1⟩
     obtain ⟨r, rfl⟩ := hE
     clear hR
     go_wp2_with fail
     go_ret
     exact HRES.out
 ·have hi3 : 29 ≤ i := Nat.le_of_not_lt hi2
  have HRES : Hid (Res w K v F (Y2x W L K.most i a out) (.returned (.int .i64 6)) w) := Lib.hid (.inr ⟨6, by unfold Y2x Y0x; rw [if_neg hi2]; rfl, by decide, rfl, Only.refl _ _⟩)
  have hd0 : decide ((i : Int) ≥ 29) = true := by simp; omega
  clear h
  go_enter Tryz.func123, Tryz.ntmps123
  go_wp2_with fail
  go_ret
  exact HRES.out
end Go.Proofs.YtkkfkmoikcmhoaaGreat.Inf

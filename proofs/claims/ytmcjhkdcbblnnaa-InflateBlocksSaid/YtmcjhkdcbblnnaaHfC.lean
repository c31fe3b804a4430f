
/- Contracts of share, starts, firstBits and of huff's Canon. -/
import Derived.Test.YtmcjhkdcbblnnaaHfM
import Derived.Test.YtmcjhkdcbblnnaaBitE
import Derived.Deep.MidRow
import Derived.Deep.WholeRow
import Derived.Laws.ResultCell
import Derived.Deep.QuietTactic
namespace Go.Proofs.Ytmcjhkdcbblnnaa.Hf
open Go.RowKit Go.Proofs.Ytmcjhkdcbblnnaa.Oct Go.Proofs.Ytmcjhkdcbblnnaa.Bit
set_option linter.unusedVariables false
set_option maxRecDepth 20000

theorem share_any (n : Nat) (w : World) (h : n ≤ 30) : Calls Try.prog 81 #[.int .i64 (n : Int)] w fun e w' => e = .returned (.int .u64 ((share n : Nat) : Int)) ∧ w = w' := by
  have e : (1073741824 : Int) / 2 ^ n = ((share n : Nat) : Int) := by
    have : (1073741824 : Int) = ((2 ^ n * share n : Nat) : Int) := by rw [share_top n h]; rfl
    rw [this, Int.natCast_mul]
    have h2 : (2 : Int) ^ n = ((2 ^ n : Nat) : Int) := by simp
    rw [h2]
    exact Int.mul_ediv_cancel_left _ (by have : 0 < 2 ^ n := Nat.pow_pos (by omega); omega)
  rw [← e]; clear e
  go_enter Try.func81, Try.ntmps81
  go_wp2
  go_ret
  exact ⟨rfl, rfl⟩
/-- rows of 31 numbers -/
def vecI (f : Nat → Nat) : Array Value := ((List.range 31).map fun j => Value.int .i64 (f j : Int)).toArray
def vecU (f : Nat → Nat) : Array Value := ((List.range 31).map fun j => Value.int .u64 (f j : Int)).toArray
theorem vecI_size (f : Nat → Nat) : (vecI f).size = 31 := by simp [vecI]
theorem vecU_size (f : Nat → Nat) : (vecU f).size = 31 := by simp [vecU]
theorem vecI_zero : vecI (fun _ => 0) = Array.replicate 31 (.int .i64 0) := by rfl
theorem vecU_zero : vecU (fun _ => 0) = Array.replicate 31 (.int .u64 0) := by rfl
theorem vecI_one (f : Nat → Nat) : (vecI f).all (·.oneCell') = true := by
  refine all_oneCell_toArray fun v hv => ?_
  simp at hv
  obtain ⟨_, _, rfl⟩ := hv
  rfl
theorem vecU_one (f : Nat → Nat) : (vecU f).all (·.oneCell') = true := by
  refine all_oneCell_toArray fun v hv => ?_
  simp at hv
  obtain ⟨_, _, rfl⟩ := hv
  rfl
theorem vec_set {V : Nat → Value} (f : Nat → Nat) (j v : Nat) : ((List.range 31).map fun i => V (f i)).set j (V v) = (List.range 31).map fun i => V (if i = j then v else f i) := by
  apply List.ext_getElem
  · simp
  · intro i h1 h2
    rw [List.getElem_set]
    simp
    by_cases h : j = i
    · simp [h]
    · rw [if_neg h, if_neg (fun e => h e.symm)]
theorem vecI_set (f : Nat → Nat) (j v : Nat) : (vecI f).setIfInBounds j (.int .i64 (v : Int)) = vecI (fun i => if i = j then v else f i) := by
  unfold vecI
  rw [List.setIfInBounds_toArray]
  congr 1
  exact vec_set (V := fun n => .int .i64 (n : Int)) f j v
theorem vecU_set (f : Nat → Nat) (j v : Nat) : (vecU f).setIfInBounds j (.int .u64 (v : Int)) = vecU (fun i => if i = j then v else f i) := by
  unfold vecU
  rw [List.setIfInBounds_toArray]
  congr 1
  exact vec_set (V := fun n => .int .u64 (n : Int)) f j v
theorem blk_set {W : World} {d : Nat} {cs : Array Value} {T : TypeId} (h : W.heap[d]? = some (.cells cs T (0, 0))) (i : Nat) (v : Value) : (W.setCell ⟨d, i, none⟩ v).heap[d]? = some (.cells (cs.setIfInBounds i v) T (0, 0)) := by
  simp [World.setCell, Array.getElem?_modify, h]
theorem blk_far {W : World} {d e : Nat} {x : Option Obj} (h : W.heap[d]? = x) (hne : e ≠ d) (i : Nat) (v : Value) : (W.setCell ⟨e, i, none⟩ v).heap[d]? = x := by
  rw [← h]
  exact Below.heap_setCell _ _ _ _ (fun e' => hne e'.symm)
theorem blk_frozen {W : World} {d : Nat} {cs : Array Value} {T : TypeId} (h : W.heap[d]? = some (.cells cs T (0, 0))) (i : Nat) : W.frozen? ⟨d, i, none⟩ = false := by
  simp [World.frozen?, h]
theorem vecI_cell {W : World} {d : Nat} {f : Nat → Nat} {T : TypeId} (h : W.heap[d]? = some (.cells (vecI f) T (0, 0))) (j : Nat) (hj : j < 31) : W.cell? ⟨d, j, none⟩ = some (.int .i64 (f j : Int)) := by
  simp [World.cell?, h, vecI, hj]
theorem vecU_cell {W : World} {d : Nat} {f : Nat → Nat} {T : TypeId} (h : W.heap[d]? = some (.cells (vecU f) T (0, 0))) (j : Nat) (hj : j < 31) : W.cell? ⟨d, j, none⟩ = some (.int .u64 (f j : Int)) := by
  simp [World.cell?, h, vecU, hj]
theorem blk_range {W : World} {d : Nat} {cs : Array Value} {T : TypeId} (h : W.heap[d]? = some (.cells cs T (0, 0))) : W.rangeAt d 0 cs.toList := by
  intro j v hv
  rw [Nat.zero_add]
  simp at hv
  simp [World.cell?, h, hv]
theorem startN_bd (L : List Nat) (k : Nat) : startN L k ≤ k * (L.length * 1073741824) := by
  induction k with
  | zero => simp [startN]
  | succ k ih =>
    have h1 : L.count k ≤ L.length := List.count_le_length
    have h2 : share k ≤ 1073741824 := by unfold share; exact Nat.pow_le_pow_right (n := 2) (by omega) (show 30 - k ≤ 30 by omega)
    have h3 : L.count k * share k ≤ L.length * 1073741824 := Nat.mul_le_mul h1 h2
    rw [Nat.add_mul]
    simp only [startN]
    split <;> omega
/-- the first strings of lengths below one -/
def startF (L : List Nat) (k j : Nat) : Nat := if j < k then startN L j else 0
theorem startF_set (L : List Nat) (k : Nat) : (fun i => if i = k then startN L k else startF L k i) = startF L (k + 1) := by
  funext i
  unfold startF
  by_cases h : i = k
  · subst h; simp
  · by_cases h2 : i < k
    · rw [if_neg h, if_pos h2, if_pos (by omega)]
    · rw [if_neg h, if_neg h2, if_neg (by omega)]
theorem startF_one (L : List Nat) : startF L 1 = fun _ => 0 := by
  funext j
  unfold startF
  split
  · rename_i h
    rw [show j = 0 by omega]
    rfl
  · rfl
theorem below_cells {B b : Nat} (hb : B ≤ b) : ∀ (vs : List Value) (o : Nat) (w w' : World), Below B w w' → Below B w (w'.setCells b o vs)
  | [], _, _, _, h => h
  | v :: vs, o, w, w', h => below_cells hb vs (o + 1) w _ (h.setCell (p := ⟨b, o, none⟩) hb v)
theorem blk_there {W : World} {d : Nat} {cs : Array Value} {T : TypeId} (h : W.heap[d]? = some (.cells cs T (0, 0))) : W.there d 0 cs.size := by
  intro j hj
  rw [Nat.zero_add]
  exact ⟨by simp [World.cell?, h, hj], blk_frozen h j⟩
/-- the two blocks of a call of starts -/
structure StM (W : World) (n : Nat) (L : List Nat) (k : Nat) : Prop where
  b0 : W.heap[n]? = some (.cells (vecI (fun j => L.count j)) 143 (0, 0))
  b1 : W.heap[n + 1]? = some (.cells (vecU (startF L k)) 144 (0, 0))
theorem StM.put {W : World} {n k : Nat} {L : List Nat} (h : StM W n L k) : StM (W.setCell ⟨n + 1, k, none⟩ (.int .u64 ((startN L k : Nat) : Int))) n L (k + 1) := by
  refine ⟨blk_far h.b0 (by omega) _ _, ?_⟩
  rw [blk_set h.b1, vecU_set, startF_set]
theorem Try.size31u : (Try.prog.info? 144).map (·.size) = some 31 := by kernel_rfl
theorem Try.size31 : (Try.prog.info? 143).map (·.size) = some 31 := by kernel_rfl
def StartsP (w : World) (L : List Nat) (e : Ending) (w' : World) : Prop := e = .returned (.tuple #[.agg (vecU (startF L 31)), .int .u64 ((startN L 31 : Nat) : Int)]) ∧ Below w.heap.size w w'
set_option maxHeartbeats 1000000 in
theorem starts_any (L : List Nat) (w : World) (h : L.length ≤ 100000) : Calls Try.prog 79 #[.agg (vecI (fun j => L.count j))] w (StartsP w L) := by
  have hB0 : Below w.heap.size w ((w.alloc (.cells (vecI (fun j => L.count j)) 143)).alloc (.cells (vecU (startF L 1)) 144)) := ((Below.refl _ w).alloc (Nat.le_refl _) _).alloc (by simp) _
  have hM0 : StM ((w.alloc (.cells (vecI (fun j => L.count j)) 143)).alloc (.cells (vecU (startF L 1)) 144)) w.heap.size L 1 := ⟨by
    show ((w.heap.push _).push _)[w.heap.size]? = _
    simp [Array.getElem?_push], by
    show ((w.heap.push _).push _)[w.heap.size + 1]? = _
    rw [show w.heap.size + 1 = (w.heap.push (.cells (vecI (fun j => L.count j)) 143 (0, 0))).size from by simp, Array.getElem?_push_size]⟩
  rw [startF_one, vecU_zero] at hB0 hM0
  simp only [show Array.replicate 31 (Value.int .u64 0) = #[Value.int .u64 0, .int .u64 0, .int .u64 0, .int .u64 0, .int .u64 0, .int .u64 0, .int .u64 0, .int .u64 0, .int .u64 0, .int .u64 0, .int .u64 0, .int .u64 0, .int .u64 0, .int .u64 0, .int .u64 0, .int .u64 0, .int .u64 0, .int .u64 0, .int .u64 0, .int .u64 0, .int .u64 0, .int .u64 0, .int .u64 0, .int .u64 0, .int .u64 0, .int .u64 0, .int .u64 0, .int .u64 0, .int .u64 0, .int .u64 0, .int .u64 0] from rfl] at hB0 hM0
  have HB0 := Lib.hid hB0
  have HM0 := Lib.hid hM0
  obtain ⟨cs, hcs⟩ : ∃ cs, cs = vecI (fun j => L.count j) := ⟨_, rfl⟩
  rw [← hcs] at HB0 HM0 ⊢
  have HCS := Lib.hid hcs
  clear hB0 hM0 hcs
  go_enter Try.func79, Try.ntmps79
  go_wp2_with fail
  go_loopw [3, 4] (fun t n wr => ∃ k : Nat, 1 ≤ k ∧ k ≤ 31 ∧ n = .int .i64 (k : Int) ∧ t = .int .u64 ((startN L k : Nat) : Int) ∧ Hid (StM wr w.heap.size L k) ∧ Hid (Below w.heap.size w wr)) (fun _ n _ => 31 - (intOf n).toNat)
  case atStart => exact ⟨1, by omega, by omega, rfl, by rw [startN_one]; rfl, HM0, HB0⟩
  case round =>
    obtain ⟨k, hk1, hk2, rfl, rfl, HM, HB⟩ := hrel
    by_cases hlt : k ≤ 30
    · have hd : decide ((k : Int) ≤ 30) = true := by simp; omega
      have i0 : (0 : Int) ≤ (k : Int) := by omega
      have i1 : (k : Int) < 31 := by omega
      have c1 := vecU_cell HM.out.b1 k (by omega)
      have f1 := blk_frozen HM.out.b1 k
      have HM2 := Lib.hid HM.out.put
      have HB2 := Lib.hid (HB.out.setCell (p := ⟨w.heap.size + 1, k, none⟩) (by simp) (.int .u64 ((startN L k : Nat) : Int)))
      generalize startF L k k = old at c1
      go_wp2_with fail
      have c2 := vecI_cell HM2.out.b0 k (by omega)
      have hs := fun j => share_any k ((wr.setCell ⟨w.heap.size + 1, k, none⟩ (.int .u64 ((startN L k : Nat) : Int))).drewN j) hlt
      have HS := Lib.hid hs
      have hbd : startN L (k + 1) ≤ 31 * (100000 * 1073741824) := Nat.le_trans (startN_bd L (k + 1)) (Nat.mul_le_mul (by omega) (Nat.mul_le_mul_right _ h))
      have hsc := startN_succ L k (by omega)
      have hcc : L.count k ≤ L.length := List.count_le_length
      have HE := Lib.hid (show (startN L k : Int) + ((L.count k * share k : Nat) : Int) = ((startN L (k + 1) : Nat) : Int) by rw [hsc]; simp)
      have hp : ((L.count k : Nat) : Int) * ((share k : Nat) : Int) = ((L.count k * share k : Nat) : Int) := by simp
      have hpb : L.count k * share k ≤ 4000000000000000 := by omega
      have hsb : startN L k ≤ 4000000000000000 := by omega
      generalize L.count k * share k = p at hp hpb hsc HE
      generalize hc : L.count k = c at c2 hp hcc
      generalize share k = sh at HS hp
      generalize hst : startN L k = st at *
      clear hs hbd hsc
      go_quiet ((go_at_call 81; exact quietly (HS.out _)))
      go_wp2_with fail
      go_roundw
      case rel => exact ⟨k + 1, by omega, by omega, by go_num, by rw [HE.out], Lib.hid ⟨HM2.out.b0, HM2.out.b1⟩, Lib.hid ((Below.trans HB2.out ⟨rfl, rfl, rfl, Nat.le_refl _, fun _ _ => rfl⟩))⟩
      case measure => simp [intOf]; omega
    · have hke : k = 31 := by omega
      subst hke
      have hd : decide ((31 : Int) ≤ 30) = false := by simp
      obtain ⟨fs, hfs⟩ : ∃ fs, fs = vecU (startF L 31) := ⟨_, rfl⟩
      have hfz : fs.size = 31 := by rw [hfs, vecU_size]
      have hb1 := HM.out.b1
      have hf1 : fs.all (·.oneCell') = true := by rw [hfs]; exact vecU_one _
      rw [← hfs] at hb1
      have HFS := Lib.hid hfs
      have hr := blk_range hb1
      have ht := blk_there hb1
      have HR2 := Lib.hid (World.rangeAt_setCells_same wr (w.heap.size + 1) 0 fs.toList (by simpa using ht))
      have HB2 := Lib.hid (below_cells (Nat.le_succ w.heap.size) fs.toList 0 w wr HB.out)
      have hi1 : (Try.prog.info? 144).map (·.size) = some fs.toList.length := by rw [Try.size31u, Array.length_toList, hfz]
      have hi2 : (Try.prog.info? 144).map (·.size) = some fs.size := by rw [Try.size31u, hfz]
      have HT := Lib.hid ht
      have HR := Lib.hid hr
      have HF1 := Lib.hid hf1
      have HI1 := Lib.hid hi1
      have HI2 := Lib.hid hi2
      clear ht hr hfs hb1 hfz hf1 hi1 hi2
      go_wp2_with (first | (refine wpList_load_mid rfl 144 _ rfl (w.heap.size + 1) 0 rfl fs.toList _ HR.out Try.underlying144 rfl HI1.out ?_) | (refine wpList_store_mid rfl 144 _ _ rfl (w.heap.size + 1) 0 fs rfl rfl HT.out HI2.out HF1.out ?_))
      refine bodyPost_ret (v := .tuple #[.agg fs, .int .u64 ((startN L 31 : Nat) : Int)]) ?_ rfl ⟨by rw [HFS.out], HB2.out⟩
      have hld := run_loadVar_mid (P := Try.prog) (wr.setCells (w.heap.size + 1) 0 fs.toList) (w.heap.size + 1) 0 144 fs.toList _ HR2.out Try.underlying144 rfl HI1.out
      rw [results_cell_tmp rfl]
      have ha : ∀ W : World, (asAddr (.pointer (some ⟨w.heap.size + 1, 0, none⟩))).run Try.prog W = .ok ⟨w.heap.size + 1, 0, none⟩ W := fun _ => rfl
      refine Eq.trans (congrArg (fun r : Result Addr => r.andThen _) (ha _)) ?_
      show (Sem.run Try.prog (loadVar 144 ⟨w.heap.size + 1, 0, none⟩) (wr.setCells (w.heap.size + 1) 0 fs.toList)).andThen _ = _
      rw [hld]
      rfl
theorem word_get (v k i : Nat) (h : i < (word v k).length) : (word v k)[i] = (v / 2 ^ (k - 1 - i) % 2 == 1) := by
  induction k generalizing i with
  | zero => simp [word] at h
  | succ k ih =>
    rcases i with _ | i
    · simp [word]
    · simp only [word, List.getElem_cons_succ]
      rw [ih i (by simpa [word] using h), show k + 1 - 1 - (i + 1) = k - 1 - i by omega]
theorem wordAt_get (p n i : Nat) (hn : n ≤ 30) (h : i < (wordAt p n).length) : (wordAt p n)[i] = (p / 2 ^ (29 - i) % 2 == 1) := by
  have hi : i < n := by rwa [wordAt_length] at h
  refine (word_get (p / share n) n i (by rw [word_length]; exact hi)).trans ?_
  rw [Nat.div_div_eq_div_mul]
  unfold share
  rw [← Nat.pow_add, show 30 - n + (n - 1 - i) = 29 - i by omega]
theorem bit_val (p i : Nat) (b : Bool) (hb : b = (p / 2 ^ (29 - i) % 2 == 1)) (hp : p < 18446744073709551616) : (48 + bits .and .u64 ((p : Int) / 2 ^ (29 - i)) 1) % 256 = ((dig b).toNat : Int) := by
  have e : ((p : Int) / 2 ^ (29 - i)) = ((p / 2 ^ (29 - i) : Nat) : Int) := by push_cast; rfl
  have hq : p / 2 ^ (29 - i) ≤ p := Nat.div_le_self _ _
  rw [e, dig_toNat, hb, bit_toNat, show (1 : Int) = ((1 : Nat) : Int) from rfl, u64_and_nat _ _ (by omega) (by omega), Nat.and_one_is_mod]
  omega
set_option maxHeartbeats 1000000 in
theorem firstBits_any (p n : Nat) (w : World) (hn : n ≤ 30) (hp : p < 18446744073709551616) : Calls Try.prog 80 #[.int .u64 (p : Int), .int .i64 (n : Int)] w fun e w' => e = .returned (.string (ds (wordAt p n))) ∧ Below w.heap.size w w' := by
  obtain ⟨i0, hi, hz0, hz1, hz2⟩ := info_parts Try.infoByte
  obtain ⟨ps, hps⟩ : ∃ ps, ps = (wordAt p n).map dig := ⟨_, rfl⟩
  have hpl : ps.length = n := by rw [hps, List.length_map, wordAt_length]
  have HPS := Lib.hid hps
  have HPL := Lib.hid hpl
  clear hps hpl
  go_enter Try.func80, Try.ntmps80
  go_wp2_with (at_make; refine wpList_make_full _ rfl _ _ 22 rfl w.heap.size 5 i0 (.int .u8 0) 1 Try.underlying22 hi hz0 hz1 .i64 .i64 (n : Int) (n : Int) n rfl rfl rfl rfl ?c2 ?c3 ?c4 ?_)
  case c2 => rw [hz2]; omega
  case c3 => unfold maxLen; omega
  case c4 => omega
  intro w1 hown hgrow
  have hg0 := blk_of_own hown
  have hb1 : Below w.heap.size w w1 := (Below.refl _ _).grown hgrow (Nat.le_refl _) (fun k hk => by cases hk)
  have hP : Blk w1 w.heap.size (fillL ps 0) := by
    unfold Blk
    rw [fillL_zero, HPL.out, ← made_zero]
    simpa using hg0
  have HP := Lib.hid hP
  have HB1 := Lib.hid hb1
  clear hown hgrow hg0 hb1 hP
  go_wp2_with fail
  go_loopw [6, 10] (fun u i wr => ∃ k : Nat, k ≤ n ∧ i = .int .i64 (k : Int) ∧ Hid (Blk wr w.heap.size (fillL ps k)) ∧ Hid (Below w.heap.size w wr)) (fun _ i _ => n - (intOf i).toNat)
  case atStart => exact ⟨0, by omega, rfl, HP, HB1⟩
  case round =>
    obtain ⟨k, hk, rfl, HP, HB⟩ := hrel
    by_cases hlt : k < n
    · have hd : decide ((k : Int) < (n : Int)) = true := by simp; omega
      have i0' : (0 : Int) ≤ (k : Int) := by omega
      have i1' : (k : Int) < (n : Int) := by omega
      have hlen : k < ps.length := by rw [HPL.out]; exact hlt
      have hfl : k < (fillL ps k).length := by rw [fillL_length _ _ (by omega)]; exact hlen
      have hc := HP.out.cell k hfl
      have hfz := HP.out.frozen k
      generalize (fillL ps k)[k] = old at hc
      have hbit := bit_val p k ((wordAt p n)[k]'(by rw [wordAt_length]; exact hlt)) (wordAt_get p n k hn _) hp
      have hpk : dig ((wordAt p n)[k]'(by rw [wordAt_length]; exact hlt)) = ps[k] := by
        have : ∀ h, ps[k]'h = dig ((wordAt p n)[k]'(by rw [wordAt_length]; exact hlt)) := by rw [HPS.out]; intro h; simp
        exact (this hlen).symm
      rw [hpk] at hbit
      have hs1 : (29 : Int) - (k : Int) = ((29 - k : Nat) : Int) := by omega
      have hs2 : 29 - k < 64 := by omega
      have HBIT := Lib.hid hbit
      have HS := Lib.hid (HP.out.set_ k ps[k])
      rw [fillL_step _ _ hlen] at HS
      have HB2 := Lib.hid (HB.out.setCell (p := ⟨w.heap.size, k, none⟩) (Nat.le_refl _) (.int .u8 (ps[k].toNat : Int)))
      clear hpk hbit hfl
      go_wp2_with fail
      rw [HBIT.out]
      go_roundw
      case rel => exact ⟨k + 1, by omega, by go_num, HS, HB2⟩
      case measure => simp [intOf]; omega
    · have hke : k = n := by omega
      subst hke
      have hd : decide ((k : Int) < (k : Int)) = false := by simp
      have HPZ := HP.out.row
      rw [← HPL.out, fillL_all] at HPZ
      have hcv := conv_row k k HPZ HPL.out
      rw [HPS.out] at hcv
      have HCV := Lib.hid hcv
      clear hcv HPZ
      have hcv : (convert 22 9 (.slice (some ⟨w.heap.size, 0, none⟩) k k)).run Try.prog wr = .ok (.string (ds (wordAt p k))) wr := HCV.out
      go_wp2_with fail
      go_ret
      exact ⟨rfl, HB.out⟩
end Go.Proofs.Ytmcjhkdcbblnnaa.Hf


/- Contracts of package samples: Unpack. -/
import Derived.Test.YtkeplmnohenbnaaSaC
namespace Go.Proofs.Ytkeplmnohenbnaa.Sa
open Go.RowKit Go.Proofs.Ytkeplmnohenbnaa.Oct Go.Proofs.Ytkeplmnohenbnaa.Bit
open Go.Proofs.Ytkeplmnohenbnaa.Lp (VRow vrow_blk vrow_own wpList_append_vals blk_set blk_far blk_frozen fillV fillV_length fillV_zero fillV_all fillV_step)
set_option linter.unusedVariables false
set_option linter.unusedSimpArgs false
set_option maxRecDepth 100000

theorem made_u32 (n : Nat) : (madeCells #[Value.int IntKind.u32 0] n).toList = List.replicate n (.int .u32 0) := by
  simp [madeCells]
  apply List.ext_getElem <;> simp [Nat.mod_one]
theorem unpackS_get (k : Nat) (big : Bool) (L : List Bool) (n i : Nat) (h : i < (unpackS k big L n).length) : (unpackS k big L n)[i] = readS k big ((L.drop (i * k)).take k) := by
  simp [unpackS]
theorem unpackS_same {k : Nat} {big : Bool} {L M : List Bool} {n : Nat} (h : ∀ i, i < n → (L.drop (i * k)).take k = (M.drop (i * k)).take k) : unpackS k big L n = unpackS k big M n := by
  unfold unpackS
  apply List.map_congr_left
  intro i hi
  rw [h i (List.mem_range.1 hi)]
theorem unpackS_take (k : Nat) (big : Bool) (xs : List UInt8) (n m : Nat) (h : n * k ≤ 8 * m) : unpackS k big (bitsOf false (xs.take m)) n = unpackS k big (bitsOf false xs) n := by
  apply unpackS_same
  intro i hi
  have : (i + 1) * k ≤ n * k := Nat.mul_le_mul_right k hi
  rw [Nat.succ_mul] at this
  rw [bitsOf_take, List.drop_take, List.take_take, Nat.min_eq_left (by omega)]
theorem readS_plain {k : Nat} (h : whole k = false) (big : Bool) (w : List Bool) : readS k big w = num w := by
  unfold readS turnW
  rw [if_neg (fun q => by rw [q.2] at h; cases h), if_neg (fun q => by rw [q.2] at h; cases h)]
theorem readS_whole {m : Nat} (hm : m = 2 ∨ m = 4) (big : Bool) (ys : List UInt8) (hy : ys.length = m) : readS (8 * m) big (bitsOf false ys) = numOf big ys := by
  cases big
  · rcases hm with rfl | rfl
    · match ys, hy with
      | [a, b], _ => show num (turnW 16 false (bitsOf false [a, b])) = _; rw [turn_two, num_bits]; rfl
    · match ys, hy with
      | [a, b, c, d], _ => show num (turnW 32 false (bitsOf false [a, b, c, d])) = _; rw [turn_four, num_bits]; rfl
  · unfold readS turnW
    rw [if_neg (by simp), if_neg (by simp), num_bits]
    rfl
theorem readS_lt (k : Nat) (big : Bool) (w : List Bool) (h : w.length = k) : readS k big w < 2 ^ k := by
  have key : ∀ l : List Bool, l.length = k → num l < 2 ^ k := fun l hl => by rw [← hl]; exact num_lt l
  unfold readS turnW
  split
  · rename_i h1
    exact key _ (by rw [List.length_append, List.length_drop, List.length_take, h]; omega)
  · split
    · rename_i h2
      exact key _ (by simp only [List.length_append, List.length_drop, List.length_take, h]; omega)
    · exact key _ h
/-- samples that are new, or an error -/
def UnP (w : World) (ys : List Nat) (er : Int) (e : Ending) (w' : World) : Prop :=
  Below w.heap.size w w' ∧ ((er = 0 ∧ ∃ q cap, e = .returned (.tuple #[.slice q ys.length cap, .int .i64 0]) ∧ VRow w' w'.heap.size q (u32s ys) ∧ ys.length ≤ cap ∧ cap ≤ maxLen ∧ (q = none → cap = 0) ∧ ∀ a, q = some a → w.heap.size ≤ a.block) ∨
    (er ≠ 0 ∧ e = .returned (.tuple #[.slice none 0 0, .int .i64 er])))
/-- a row of samples while it is filled -/
def FilS (w : World) (G : Nat) (ys : List Nat) (k : Nat) (wr : World) : Prop :=
  Below w.heap.size w wr ∧ w.heap.size ≤ G ∧ G < wr.heap.size ∧ wr.heap[G]? = some (.cells (fillV (u32s ys) (.int .u32 0) k).toArray 45 (0, 0))
theorem FilS.cell {w wr : World} {G : Nat} {ys : List Nat} {k : Nat} (h : FilS w G ys k wr) (hk : k < ys.length) : ∃ v, wr.cell? ⟨G, k, none⟩ = some v := by
  have hl : k < (fillV (u32s ys) (.int .u32 0) k).length := by rw [fillV_length _ _ _ (by rw [u32s_length]; omega), u32s_length]; exact hk
  exact ⟨_, by simp [World.cell?, h.2.2.2, hl]; rfl⟩
theorem FilS.fz {w wr : World} {G : Nat} {ys : List Nat} {k : Nat} (h : FilS w G ys k wr) (i : Nat) : wr.frozen? ⟨G, i, none⟩ = false := blk_frozen h.2.2.2 i
theorem FilS.only {w wr w2 : World} {G g : Nat} {ys : List Nat} {k : Nat} (h : FilS w G ys k wr) (ho : Only (· = g) wr w2) (hg : w.heap.size ≤ g) (hne : g ≠ G) : FilS w G ys k w2 :=
  ⟨h.1.trans (ho.below h.1.size fun j hj e => by omega), h.2.1, Nat.lt_of_lt_of_le h.2.2.1 ho.2.2.2.1, (ho.2.2.2.2 G h.2.2.1 (fun e => hne e.symm)).trans h.2.2.2⟩
theorem FilS.drawn {w wr w2 : World} {G : Nat} {ys : List Nat} {k : Nat} (h : FilS w G ys k wr) (hd : Drawn wr w2) : FilS w G ys k w2 := by
  obtain ⟨n, rfl⟩ := hd
  exact ⟨h.1.trans (Drawn.below ⟨n, rfl⟩ _), h.2.1, h.2.2.1, h.2.2.2⟩
theorem FilS.step {w wr : World} {G : Nat} {ys : List Nat} {k : Nat} (h : FilS w G ys k wr) (hk : k < ys.length) (v : Nat) (hv : ys[k] = v) : FilS w G ys (k + 1) (wr.setCell ⟨G, k, none⟩ (.int .u32 (v : Int))) := by
  have hk2 : k < (u32s ys).length := by rw [u32s_length]; exact hk
  refine ⟨h.1.setCell h.2.1 _, h.2.1, by simpa [World.setCell] using h.2.2.1, ?_⟩
  have := blk_set h.2.2.2 k (.int .u32 (v : Int))
  rw [List.setIfInBounds_toArray, show (Value.int .u32 (v : Int)) = (u32s ys)[k] from by simp [u32s, hv], fillV_step _ _ _ hk2] at this
  rw [show (Value.int .u32 (v : Int)) = (u32s ys)[k] from by simp [u32s, hv]]
  exact this
theorem FilS.start {w w1 : World} {G n : Nat} {ys : List Nat} (hn : ys.length = n) (hb : Below w.heap.size w w1) (hG : w.heap.size ≤ G) (hl : G < w1.heap.size) (h : w1.heap[G]? = some (.cells (madeCells #[Value.int IntKind.u32 0] n).toList.toArray 45 (0, 0))) : FilS w G ys 0 w1 := by
  refine ⟨hb, hG, hl, ?_⟩
  rw [h, made_u32, fillV_zero, u32s_length, hn]
theorem FilS.row {w wr : World} {G : Nat} {ys : List Nat} (h : FilS w G ys ys.length wr) : VRow wr wr.heap.size (some ⟨G, 0, none⟩) (u32s ys) := by
  have h4 := h.2.2.2
  have := fillV_all (u32s ys) (.int .u32 0)
  rw [u32s_length] at this
  rw [this] at h4
  exact vrow_blk h4 h.2.2.1
theorem blk_lt {w : World} {g : Nat} {o : Obj} (h : w.heap[g]? = some o) : g < w.heap.size := by
  rcases Nat.lt_or_ge g w.heap.size with h' | h'
  · exact h'
  · rw [Array.getElem?_eq_none h'] at h; cases h
theorem wi_small (z c : Int) (e : z = c) (h0 : 0 ≤ c) (h1 : c ≤ 1000000000) : IntKind.i64.wrap z = c ∧ wrap64 z = c := by
  subst e
  refine ⟨?_, ?_⟩
  · rw [IntKind.wrap_i64]; omega
  · unfold wrap64; omega
theorem wu64_small (c : Int) (h0 : 0 ≤ c) (h1 : c ≤ 1000000000) : IntKind.u64.wrap c = c := by rw [IntKind.wrap_u64]; omega
theorem wu32_small (c : Int) (h0 : 0 ≤ c) (h1 : c < 4294967296) : IntKind.u32.wrap c = c := by rw [IntKind.wrap_u32]; omega
set_option maxHeartbeats 1000000 in
theorem getInts_any (p : Option Addr) (len cap n m : Nat) (big : Bool) (xs : List UInt8) (w : World) (hr : Row w p xs) (hx : xs.length = len) (hl : len ≤ 1000000) (hm : m = 2 ∨ m = 4) (hn : n * m ≤ len) :
    Calls Try.prog 23 #[.slice p len cap, .int .i64 (n : Int), .int .i64 (m : Int), .bool big] w (UnP w (unpackS (8 * m) big (bitsOf false xs) n) 0) := by
  obtain ⟨i0, hi, hz0, hz1, hz2⟩ := info_parts Try.infoU32
  obtain ⟨ys, hys⟩ : ∃ ys, ys = unpackS (8 * m) big (bitsOf false xs) n := ⟨_, rfl⟩
  have hyl : ys.length = n := by rw [hys, unpackS_length]
  have hm1 : 1 ≤ m := by omega
  have hm4 : m ≤ 4 := by omega
  have hn1 : n ≤ 1000000 := by
    have := Nat.mul_le_mul_left n hm1
    omega
  have HGET : Hid (∀ k (h : k < ys.length), ys[k] = numOf big ((xs.drop (k * m)).take m) ∧ ys[k] < 4294967296) := Lib.hid (fun k h => by
    have hk : k < n := by rw [← hyl]; exact h
    have hkm : (k + 1) * m ≤ n * m := Nat.mul_le_mul_right m hk
    rw [Nat.succ_mul] at hkm
    have hch : ((xs.drop (k * m)).take m).length = m := by rw [List.length_take, List.length_drop]; omega
    have hb : ((bitsOf false xs).drop (k * (8 * m))).take (8 * m) = bitsOf false ((xs.drop (k * m)).take m) := by
      rw [bitsOf_take, bitsOf_drop]
      congr 2
      rw [← Nat.mul_assoc, Nat.mul_comm k 8, Nat.mul_assoc]
    have he : ys[k] = readS (8 * m) big (bitsOf false ((xs.drop (k * m)).take m)) := by
      subst hys
      rw [unpackS_get, hb]
    refine ⟨he.trans (readS_whole hm big _ hch), ?_⟩
    rw [he]
    refine Nat.lt_of_lt_of_le (readS_lt _ big _ (by rw [bitsOf_length, hch])) ?_
    have : 2 ^ (8 * m) ≤ 2 ^ 32 := Nat.pow_le_pow_right (by omega) (by omega)
    omega)
  rw [← hys]
  have HX := Lib.hid hx
  have HR := Lib.hid hr
  have HN := Lib.hid hn
  have HYL := Lib.hid hyl
  have hms : sizeB (m : Int) = true := by rcases hm with rfl | rfl <;> rfl
  have HMS := Lib.hid hms
  clear hr hx hn hyl hys hm hms
  go_enter Try.func23, Try.ntmps23
  go_wp2_with (at_make; refine wpList_make_full _ rfl _ _ 22 rfl w.heap.size 45 i0 (.int .u32 0) 1 Try.underlying22 hi hz0 hz1 .i64 .i64 (n : Int) (n : Int) n rfl rfl rfl rfl ?c2 ?c3 ?c4 ?_)
  case c2 => rw [hz2]; omega
  case c3 => unfold maxLen; omega
  case c4 => omega
  intro w1 hown hgrow
  have hb1 : Below w.heap.size w w1 := (Below.refl _ _).grown hgrow (Nat.le_refl _) (fun k hk => by cases hk)
  have hblk := blk_of_own hown
  have HST : Hid (FilS w w.heap.size ys 0 w1) := Lib.hid (FilS.start HYL.out hb1 (Nat.le_refl _) (blk_lt hblk) (by simpa using hblk))
  clear hown hgrow hb1 hblk hz0 hz1 hz2 hi
  generalize hG : w.heap.size = G at HST
  have HG := Lib.hid hG
  clear hG
  go_wp2_with fail
  go_loopw [11, 12, 13, 18] (fun _ _ _ i wr => ∃ k : Nat, k ≤ n ∧ i = .int .i64 (k : Int) ∧ Hid (FilS w G ys k wr)) (fun _ _ _ i _ => n - (intOf i).toNat)
  case atStart => exact ⟨0, by omega, rfl, HST⟩
  case round =>
    clear HST
    obtain ⟨k, hk, rfl, HS⟩ := hrel
    by_cases hlt : k < n
    · have hky : k < ys.length := by rw [HYL.out]; exact hlt
      have HRw := Lib.hid (HR.out.below HS.out.1)
      obtain ⟨hv, hv32⟩ := HGET.out k hky
      obtain ⟨c, hc⟩ : ∃ c, c = k * m := ⟨_, rfl⟩
      have hkm : (k + 1) * m ≤ n * m := Nat.mul_le_mul_right m hlt
      have hn' := HN.out
      have hcl : c + m ≤ len := by rw [Nat.succ_mul] at hkm; omega
      have hpz : (k : Int) * (m : Int) = (c : Int) := by rw [hc]; push_cast; rfl
      rw [← hc] at hv
      have hga := get_any p len cap (c : Int) (m : Int) big xs wr HRw.out HX.out (by unfold maxLen; omega) (by omega) (by omega)
      have hin : withinB xs.length (c : Int) (m : Int) = true := by
        unfold withinB
        rw [HX.out]
        simp
        omega
      have e1 : getV xs (c : Int) (m : Int) big = (ys[k] : Int) := by
        unfold getV okGet
        rw [HMS.out, hin, hv]
        simp
      have e2 : getE xs (c : Int) (m : Int) = 0 := by unfold getE; rw [HMS.out, hin]; simp
      rw [e1, e2] at hga
      have HGA := Lib.hid hga
      have HSTP := Lib.hid (fun w2 (h : FilS w G ys k w2) => h.step hky _ rfl)
      obtain ⟨v0, hc0⟩ := HS.out.cell hky
      have hf0 := HS.out.fz k
      have HS0 := HS
      generalize ys[k] = v at HGA HSTP hv32
      have ql : decide ((k : Int) < (n : Int)) = true := by simpa using hlt
      have i1 : (0 : Int) ≤ (k : Int) := by omega
      have i2 : (k : Int) < (n : Int) := by omega
      have hwu := wu64_small (c : Int) (by omega) (by omega)
      have hwv := wu32_small (v : Int) (by omega) (by omega)
      obtain ⟨hcm, hcm2⟩ := wi_small _ _ hpz (by omega) (by omega)
      clear hv hc hkm hn' hga hin e1 e2 hky HS hpz
      go_wp2_with fail
      refine HGA.out.mono ?_
      rintro e w2 ⟨rfl, hd⟩
      have HN2 := Lib.hid (HSTP.out w2 (HS0.out.drawn hd))
      have hc2 : w2.cell? ⟨G, k, none⟩ = some v0 := by obtain ⟨j, rfl⟩ := hd; exact hc0
      have hf2 : w2.frozen? ⟨G, k, none⟩ = false := by obtain ⟨j, rfl⟩ := hd; exact hf0
      clear hd hc0 hf0 HSTP HS0 HGA HRw hcm hcm2 hwu
      go_wp2_with fail
      go_roundw
      case rel => exact ⟨k + 1, by omega, by go_num, HN2⟩
      case measure => simp [intOf]; omega
    · have : k = n := by omega
      subst this
      have hS := HS.out
      rw [← HYL.out] at hS
      have HB := Lib.hid hS.1
      have HV := Lib.hid hS.row
      have ql : decide ((k : Int) < (k : Int)) = false := by simp
      clear hS HS HR HN HGET hlt hk
      go_wp2_with fail
      go_ret2
      exact ⟨HB.out, .inl ⟨rfl, some ⟨G, 0, none⟩, k, by rw [HYL.out]; rfl, HV.out, by rw [HYL.out]; omega, by unfold maxLen; omega, (fun h => by cases h), (fun a h => by injection h with h; subst h; exact Nat.le_of_eq HG.out)⟩⟩
end Go.Proofs.Ytkeplmnohenbnaa.Sa

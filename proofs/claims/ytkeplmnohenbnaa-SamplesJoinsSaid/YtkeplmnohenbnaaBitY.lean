
/- A writer in memory; the contracts of fill, NewWriter, Len, Bytes and Align. -/
import Derived.Test.YtkeplmnohenbnaaTk
import Derived.Test.YtkeplmnohenbnaaBitS
import Derived.Deep.AppendLies
import Derived.Deep.RegionHeld3
namespace Go.Proofs.Ytkeplmnohenbnaa.Bit
open Go.RowKit Go.Proofs.Ytkeplmnohenbnaa.Oct
set_option linter.unusedVariables false
set_option maxRecDepth 20000

theorem own_only {S : Nat → Prop} {w w' : World} {e n : Nat} {v : Value} {cs : List Value} (h : w.ownsRow 0 e 1 v n cs) (ho : Only S w w') (hv : ∀ k, v.ownBlock = some k → ¬ S k) : w'.ownsRow 0 e 1 v n cs := by
  refine ⟨h.1, ?_⟩
  rcases h.2 with hn | ⟨g, cap, cur, rfl, hb, hh, r⟩
  · exact .inl hn
  · refine .inr ⟨g, cap, cur, rfl, hb, ?_, r⟩
    have hlt : g < w.heap.size := by
      rcases Nat.lt_or_ge g w.heap.size with hlt | hge
      · exact hlt
      · rw [Array.getElem?_eq_none hge] at hh; cases hh
    rw [ho.2.2.2.2 g hlt (hv g rfl)]
    exact hh
/-- a writer in memory, its bytes a row of its own -/
def Wr (w : World) (g : Nat) (v : Value) (xs : List UInt8) (n : Nat) (low : Bool) : Prop :=
  w.heap[g]? = some (.cells #[v, .int .i64 (n : Int), .bool low] 70 (0, 0)) ∧ w.ownsRow 0 5 1 v xs.length (cellsOf xs) ∧ v.ownBlock ≠ some g
section
variable {w w' : World} {g n : Nat} {v : Value} {xs : List UInt8} {low : Bool}
theorem Wr.c0 (h : Wr w g v xs n low) : w.cell? ⟨g, 0, none⟩ = some v := by simp [World.cell?, h.1]
theorem Wr.c1 (h : Wr w g v xs n low) : w.cell? ⟨g, 1, none⟩ = some (.int .i64 (n : Int)) := by simp [World.cell?, h.1]
theorem Wr.c2 (h : Wr w g v xs n low) : w.cell? ⟨g, 2, none⟩ = some (.bool low) := by simp [World.cell?, h.1]
theorem Wr.fz (h : Wr w g v xs n low) (i : Nat) : w.frozen? ⟨g, i, none⟩ = false := by simp [World.frozen?, h.1]
theorem Wr.lt (h : Wr w g v xs n low) : g < w.heap.size := by
  rcases Nat.lt_or_ge g w.heap.size with hlt | hge
  · exact hlt
  · have := h.1; rw [Array.getElem?_eq_none hge] at this; cases this
theorem Wr.only {S : Nat → Prop} (h : Wr w g v xs n low) (ho : Only S w w') (hg : ¬ S g) (hv : ∀ k, v.ownBlock = some k → ¬ S k) : Wr w' g v xs n low :=
  ⟨(ho.2.2.2.2 g h.lt hg).trans h.1, own_only h.2.1 ho hv, h.2.2⟩
theorem Wr.form (h : Wr w g v xs n low) : (v = .slice none 0 0 ∧ xs = []) ∨ ∃ r cap, v = .slice (some ⟨r, 0, none⟩) xs.length cap ∧ xs.length ≤ cap ∧ cap ≤ maxLen ∧ r < w.heap.size ∧ r ≠ g ∧ Row w (some ⟨r, 0, none⟩) xs := by
  by_cases hv : v = .slice none 0 0
  · left
    refine ⟨hv, ?_⟩
    rcases h.2.1.2 with ⟨_, h0⟩ | ⟨r, cap, cur, he, _⟩
    · exact List.eq_nil_of_length_eq_zero h0
    · rw [hv] at he; cases he
  · right
    obtain ⟨r, cap, rfl, h1, h2, _, h4, h5⟩ := own_form h.2.1 hv
    exact ⟨r, cap, rfl, h1, h2, h4, fun e => h.2.2 (by rw [e]; rfl), h5⟩
theorem Wr.setLen (h : Wr w g v xs n low) (m : Nat) : Wr (w.setCell ⟨g, 1, none⟩ (.int .i64 (m : Int))) g v xs m low := by
  refine ⟨?_, own_only h.2.1 (Only.setCell (S := (· = g)) (p := ⟨g, 1, none⟩) (by rfl) _) (fun k hk e => h.2.2 (by rw [hk, e])), h.2.2⟩
  have := h.1
  simp [World.setCell, Array.getElem?_modify, this]
theorem own_set {r i cap : Nat} (h : w.ownsRow 0 5 1 (.slice (some ⟨r, 0, none⟩) xs.length cap) xs.length (cellsOf xs)) (c : UInt8) :
    (w.setCell ⟨r, i, none⟩ (.int .u8 (c.toNat : Int))).ownsRow 0 5 1 (.slice (some ⟨r, 0, none⟩) (xs.set i c).length cap) (xs.set i c).length (cellsOf (xs.set i c)) := by
  obtain ⟨h1, h2⟩ := h
  refine ⟨by simp [cellsOf], .inr ?_⟩
  rcases h2 with ⟨hv, _⟩ | ⟨g', cap', cur, hv, hb, hh, hl, hm, hs, ht⟩
  · cases hv
  · injection hv with e1 _ e3
    injection e1 with e1
    injection e1 with e1
    subst e1
    subst e3
    refine ⟨r, cap, cur.setIfInBounds i (.int .u8 (c.toNat : Int)), by simp, hb, ?_, by simpa using hl, hm, by simpa using hs, ?_⟩
    · simp [World.setCell, Array.getElem?_modify, hh]
    · simp only [List.length_set, Array.toList_setIfInBounds, List.take_set]
      rw [ht]
      simp [cellsOf, List.map_set]
end
theorem Only.grown {w w' : World} {row : Option Nat} (hg : w.grownBy w' row) : Only (fun k => row = some k) w w' :=
  ⟨hg.os, hg.tape, hg.output, hg.size, fun k hk hs => hg.block k hk (fun e => hs e.symm)⟩
/-- which blocks a call on a writer may turn -/
def Mine (g : Nat) (v : Value) (k : Nat) : Prop := k = g ∨ v.ownBlock = some k
def FillP (w : World) (g : Nat) (v : Value) (ys : List UInt8) (n : Nat) (low : Bool) (e : Ending) (w' : World) : Prop :=
  e = .returned (.tuple #[]) ∧ ∃ v', Wr w' g v' ys n low ∧ Only (Mine g v) w w' ∧ ∀ k, v'.ownBlock = some k → v.ownBlock = some k ∨ w.heap.size ≤ k
theorem fill_new (w : World) (g : Nat) (v : Value) (xs : List UInt8) (n : Nat) (low : Bool) (c : UInt8) (hW : Wr w g v xs n low) (hl : xs.length ≤ 2000000) :
    Calls Try.prog 47 #[.pointer (some ⟨g, 0, none⟩), .int .i64 (xs.length : Int), .int .u8 (c.toNat : Int)] w (FillP w g v (xs ++ [c]) n low) := by
  obtain ⟨i0, hi, hz0, hz1, hz2⟩ := info_parts Try.infoByte
  have c0 := hW.c0
  have hlt := hW.lt
  have hA : Only (fun _ => False) w (w.alloc (.cells #[.int .u8 (c.toNat : Int)] 5)) := Only.of_below ((Below.refl _ w).alloc (Nat.le_refl _) _)
  have hWA := hW.only hA (fun h => h) (fun _ _ h => h)
  have hrow := row_one w c 5
  have hcell : (w.alloc (.cells #[.int .u8 (c.toNat : Int)] 5)).cell? ⟨w.heap.size, 0, none⟩ = some (.int .u8 (c.toNat : Int)) := by simp
  obtain ⟨len, cap, p, hv⟩ : ∃ len cap p, v = .slice p len cap ∧ len = xs.length := by
    rcases hW.form with ⟨rfl, rfl⟩ | ⟨r, cap, rfl, _⟩
    · exact ⟨0, 0, none, rfl, rfl⟩
    · exact ⟨_, _, _, rfl, rfl⟩
  obtain ⟨rfl, rfl⟩ := hv
  have HWA := Lib.hid hWA
  have HC := Lib.hid hcell
  have HW := Lib.hid hW
  clear hWA hrow hA hcell hW
  go_enter Try.func47, Try.ntmps47
  go_wp2_with (at_builtin; refine wpList_append_lies _ rfl _ _ 24 rfl 0 5 i0 (.int .u8 0) 1 1 Try.underlying24 hi hz0 hz1 hz2 rfl (by decide) _ xs.length (cellsOf xs) rfl HWA.out.2.1 ⟨w.heap.size, 0, none⟩ 1 1 (cellsOf [c]) rfl rfl ?d1 cellsOf_one (by decide) ?d2 ?d3 (Nat.zero_le _) (w.heap.size + 1) (by simp) ?_)
  case d1 =>
    intro j u hj
    obtain ⟨hj', rfl⟩ := cellsOf_get hj
    have : j = 0 := by simpa using hj'
    subst this
    exact HC.out
  case d2 => unfold maxLen; omega
  case d3 => omega
  intro g' cap' w1 hown1 hgrow hdich hlt1
  have hne := HW.out.2.2
  have hG := Only.grown hgrow
  have hWg := HWA.out.1
  have hg1 : w1.heap[g]? = some (.cells #[.slice p xs.length cap, .int .i64 (n : Int), .bool low] 70 (0, 0)) := (hG.2.2.2.2 g (by simp; omega) hne).trans hWg
  have hgg : g' ≠ g := by
    rcases hdich with h | h
    · intro e; exact hne (by rw [h, e])
    · omega
  have c1 : w1.cell? ⟨g, 0, none⟩ = some (.slice p xs.length cap) := by simp [World.cell?, hg1]
  have f1 : w1.frozen? ⟨g, 0, none⟩ = false := by simp [World.frozen?, hg1]
  have HO := Lib.hid hown1
  have HG := Lib.hid hG
  have HG1 := Lib.hid hg1
  have HD := Lib.hid hdich
  clear hown1 hG hWg hg1 hgrow hdich
  go_wp2_with fail
  go_end0
  refine ⟨rfl, .slice (some ⟨g', 0, none⟩) (xs.length + 1) cap', ⟨?_, ?_, ?_⟩, ?_, ?_⟩
  · have := HG1.out
    simp [World.setCell, Array.getElem?_modify, this]
  · have h1 := own_only HO.out (Only.setCell (S := (· = g)) (p := ⟨g, 0, none⟩) (by rfl) (.slice (some ⟨g', 0, none⟩) (xs.length + 1) cap')) (fun k hk e => by injection hk with hk; exact hgg (hk.trans e))
    rw [← cellsOf_append] at h1
    simpa using h1
  · intro e
    injection e with e
    exact hgg e
  · have hA : Only (Mine g (.slice p xs.length cap)) w (w.alloc (.cells #[.int .u8 (c.toNat : Int)] 5)) := Only.of_below ((Below.refl _ w).alloc (Nat.le_refl _) _)
    exact (hA.trans (HG.out.mono (fun k _ h => .inr h))).trans (Only.setCell (p := ⟨g, 0, none⟩) (.inl rfl) _)
  · intro k hk
    injection hk with hk
    subst hk
    rcases HD.out with h | h
    · exact .inl h
    · exact .inr (by show w.heap.size ≤ g'; omega)
theorem or_u8 (a b : UInt8) : bits .or .u8 (a.toNat : Int) (b.toNat : Int) = (((a ||| b).toNat : Nat) : Int) := by
  rw [u8_or_nat _ _ a.toNat_lt b.toNat_lt, UInt8.toNat_or]
theorem fill_or (w : World) (g : Nat) (v : Value) (xs : List UInt8) (n : Nat) (low : Bool) (i : Nat) (c : UInt8) (hW : Wr w g v xs n low) (hl : xs.length ≤ 2000000) (hi : i < xs.length) :
    Calls Try.prog 47 #[.pointer (some ⟨g, 0, none⟩), .int .i64 (i : Int), .int .u8 (c.toNat : Int)] w (FillP w g v (xs.set i (xs[i] ||| c)) n low) := by
  have c0 := hW.c0
  rcases hW.form with ⟨_, h0⟩ | ⟨r, cap, rfl, hlc, hcm, hr, hrg, hrow⟩
  · subst h0; simp at hi
  obtain ⟨b, off, he, _, hc⟩ := hrow (by omega)
  injection he with he
  injection he with e1 e2
  subst e1
  subst e2
  have hci := hc i hi
  rw [Nat.zero_add] at hci
  have hfz : w.frozen? ⟨r, i, none⟩ = false := by
    rcases hW.2.1.2 with ⟨hv, _⟩ | ⟨g', cap', cur, hv, _, hh, _⟩
    · cases hv
    · injection hv with e1
      injection e1 with e1
      injection e1 with e1
      subst e1
      simp [World.frozen?, hh]
  have hx : xs[i].toNat < 256 := xs[i].toNat_lt
  have hcb : c.toNat < 256 := c.toNat_lt
  have hor := or_u8 xs[i] c
  have hne : ((i : Int) == (xs.length : Int)) = false := by simp; omega
  have HW := Lib.hid hW
  have HOR := Lib.hid hor
  clear hor hW hc hrow
  go_enter Try.func47, Try.ntmps47
  go_wp2_with fail
  go_end0
  rw [HOR.out]
  have hO := Only.setCell (S := Mine g (.slice (some ⟨r, 0, none⟩) xs.length cap)) (w := w) (p := ⟨r, i, none⟩) (.inr rfl) (.int .u8 (((xs[i] ||| c).toNat : Nat) : Int))
  refine ⟨rfl, .slice (some ⟨r, 0, none⟩) xs.length cap, ⟨?_, ?_, HW.out.2.2⟩, hO, fun k hk => .inl hk⟩
  · rw [Below.heap_setCell _ _ _ _ (by show g ≠ r; omega)]
    exact HW.out.1
  · have := own_set (i := i) HW.out.2.1 (xs[i] ||| c)
    simpa using this
end Go.Proofs.Ytkeplmnohenbnaa.Bit
/- The contract of a writer's add: the bits of a number behind those that were written. -/
namespace Go.Proofs.Ytkeplmnohenbnaa.Bit
open Go.RowKit Go.Proofs.Ytkeplmnohenbnaa.Oct
set_option linter.unusedVariables false
set_option maxRecDepth 20000
set_option linter.unusedSimpArgs false

/-- a writer behind calls on it: but for its own blocks nothing has turned -/
def WrT (w : World) (g : Nat) (v : Value) (xs : List UInt8) (n : Nat) (low : Bool) (w' : World) : Prop :=
  ∃ v', Wr w' g v' xs n low ∧ Only (Mine g v) w w' ∧ ∀ k, v'.ownBlock = some k → v.ownBlock = some k ∨ w.heap.size ≤ k
theorem WrT.refl {w : World} {g : Nat} {v : Value} {xs : List UInt8} {n : Nat} {low : Bool} (h : Wr w g v xs n low) : WrT w g v xs n low w := ⟨v, h, Only.refl _ _, fun _ h => .inl h⟩
theorem WrT.more {w w1 w2 : World} {g : Nat} {v v1 : Value} {ys : List UInt8} {m : Nat} {low : Bool} (ho : Only (Mine g v) w w1) (hd : ∀ k, v1.ownBlock = some k → v.ownBlock = some k ∨ w.heap.size ≤ k)
    (h : WrT w1 g v1 ys m low w2) : WrT w g v ys m low w2 := by
  obtain ⟨v2, hW, ho2, hd2⟩ := h
  have hz := ho.2.2.2.1
  refine ⟨v2, hW, ⟨ho2.1.trans ho.1, ho2.2.1.trans ho.2.1, ho2.2.2.1.trans ho.2.2.1, Nat.le_trans hz ho2.2.2.2.1, fun k hk hn => ?_⟩, fun k hk => ?_⟩
  · refine (ho2.2.2.2.2 k (by omega) (fun hm => hn ?_)).trans (ho.2.2.2.2 k hk hn)
    rcases hm with h | h
    · exact .inl h
    · rcases hd k h with h | h
      · exact .inr h
      · omega
  · rcases hd2 k hk with h | h
    · exact hd k h
    · exact .inr (by omega)
theorem FillP.wrT {w : World} {g : Nat} {v : Value} {ys : List UInt8} {n : Nat} {low : Bool} {e : Ending} {w' : World} (h : FillP w g v ys n low e w') : e = .returned (.tuple #[]) ∧ WrT w g v ys n low w' := h
def AddP (w : World) (g : Nat) (v : Value) (l : List Bool) (low : Bool) (e : Ending) (w' : World) : Prop := e = .returned (.tuple #[]) ∧ WrT w g v (packB low l) l.length low w'
theorem gsh_lt (low : Bool) (used n : Nat) (hu : used < 8) (hn : n ≤ 32) : gsh low used n (8 * cnt used n) ≤ 40 := by
  have : cnt used n ≤ 5 := by unfold cnt; omega
  cases low <;> simp [gsh] <;> omega
theorem grp_val (low : Bool) (used n v : Nat) (hv : v < 2 ^ n) (hn : n ≤ 32) (hu : used < 8) :
    IntKind.u64.wrap ((v : Int) * 2 ^ min (gsh low used n (8 * cnt used n)) 64) = ((grpN low used n v : Nat) : Int) := by
  have h1 := gsh_lt low used n hu hn
  have h2 := grpN_lt low used n v hv hn hu
  rw [Nat.min_eq_left (by omega)]
  have e : ((v : Int) * 2 ^ gsh low used n (8 * cnt used n)) = ((grpN low used n v : Nat) : Int) := by unfold grpN; push_cast; rfl
  rw [e, IntWalk.u64_in _ (by omega)]
theorem addC_val (low : Bool) (used n v i : Nat) (hn : n ≤ 32) (hu : used < 8) (hi : i < cnt used n) :
    ((grpN low used n v : Nat) : Int) / 2 ^ min (gsh low (8 * i) 8 (8 * cnt used n)) 64 % 256 = (((addC low used n v i).toNat : Nat) : Int) := by
  have h1 : gsh low (8 * i) 8 (8 * cnt used n) ≤ 40 := by
    have : cnt used n ≤ 5 := by unfold cnt; omega
    cases low <;> simp [gsh] <;> omega
  rw [Nat.min_eq_left (by omega)]
  unfold addC
  generalize grpN low used n v = G
  generalize gsh low (8 * i) 8 (8 * cnt used n) = s
  have hb : G / 2 ^ s % 256 < 256 := Nat.mod_lt _ (by omega)
  have e2 : ((G : Int) / 2 ^ s) = ((G / 2 ^ s : Nat) : Int) := by push_cast; rfl
  rw [UInt8.toNat_ofNat', Nat.mod_eq_of_lt hb, e2]
  omega
/-- one step of add, whichever byte it is -/
theorem fill_step (w : World) (g : Nat) (v : Value) (l : List Bool) (low : Bool) (m n j : Nat) (hv : m < 2 ^ n) (hj : j < cnt (l.length % 8) n) (hl : l.length ≤ 2000000) (hn : n ≤ 32)
    (hW : Wr w g v (fillF low l (wordE low m n) j) l.length low) :
    Calls Try.prog 47 #[.pointer (some ⟨g, 0, none⟩), .int .i64 ((l.length / 8 + j : Nat) : Int), .int .u8 (((addC low (l.length % 8) n m j).toNat : Nat) : Int)] w (FillP w g v (fillF low l (wordE low m n) (j + 1)) l.length low) := by
  have hwl := wordE_length low m n
  by_cases hc : 1 ≤ j ∨ l.length % 8 = 0
  · have hlen := fillF_len low l (wordE low m n) n j hwl (by omega) hc
    have h1 := fill_new w g v _ l.length low (addC low (l.length % 8) n m j) hW (by rw [hlen]; unfold cnt at hj; omega)
    rw [hlen, fillF_new low l m n j hv hj hc] at h1
    exact h1
  · have hj0 : j = 0 := by omega
    subst hj0
    have hlen := packB_length low l
    rw [fillF_zero] at hW
    have hq : l.length / 8 < (packB low l).length := by rw [hlen]; omega
    have h1 := fill_or w g v _ l.length low (l.length / 8) (addC low (l.length % 8) n m 0) hW (by rw [hlen]; omega) hq
    rw [fillF_or low l m n hv (by omega) hq] at h1
    exact h1
set_option maxHeartbeats 1000000 in
theorem add_any (w : World) (g : Nat) (v : Value) (l : List Bool) (low : Bool) (m n : Nat) (hv : m < 2 ^ n) (hn : n ≤ 32) (hl : l.length ≤ 2000000) (hW : Wr w g v (packB low l) l.length low) :
    Calls Try.prog 40 #[.pointer (some ⟨g, 0, none⟩), .int .u32 (m : Int), .int .i64 (n : Int)] w (AddP w g v (l ++ wordE low m n) low) := by
  have c1 := hW.c1
  have c2 := hW.c2
  have hm32 : m < 4294967296 := by
    have h1 : (2 : Nat) ^ n ≤ 2 ^ 32 := Nat.pow_le_pow_right (by omega) hn
    omega
  have hgv := grp_val low (l.length % 8) n m hv hn (by omega)
  obtain ⟨c, hc⟩ : ∃ c, c = cnt (l.length % 8) n := ⟨_, rfl⟩
  have hc5 : c ≤ 5 := by rw [hc]; unfold cnt; omega
  have HGV := Lib.hid hgv
  have HC := Lib.hid hc
  have HW := Lib.hid hW
  clear hgv hc hW
  go_enter Try.func40, Try.ntmps40
  go_wp2_with fail
  have e2 : ((l.length : Int) % 8) + (n : Int) = ((l.length % 8 + n : Nat) : Int) := by omega
  rw [e2]
  refine (bytesFor_any _ _ (by omega)).mono ?_
  rintro e w' ⟨rfl, rfl⟩
  rw [show (l.length % 8 + n + 7) / 8 = c from HC.out.symm]
  clear e2
  have e3 : (l.length : Int) % 8 = ((l.length % 8 : Nat) : Int) := by omega
  have E3 := Lib.hid e3
  clear e3
  go_wp2_with fail
  rw [E3.out]
  refine (groupShift_any _ _ _ _ (by omega) hn).mono ?_
  rintro e w' ⟨rfl, rfl⟩
  go_wp2_with fail
  rw [HGV.out]
  go_loopw [9, 30] (fun u i wr => ∃ j : Nat, j ≤ c ∧ i = .int .i64 (j : Int) ∧ WrT w g v (fillF low l (wordE low m n) j) l.length low wr) (fun _ i _ => c - (intOf i).toNat)
  case atStart => exact ⟨0, by omega, rfl, WrT.refl HW.out⟩
  case round =>
    obtain ⟨j, hj, rfl, hT⟩ := hrel
    obtain ⟨v1, hW1, ho1, hd1⟩ := hT
    have k1 := hW1.c1
    have k2 := hW1.c2
    by_cases hlt : j < c
    · have hav := addC_val low (l.length % 8) n m j hn (by omega) (by rw [← HC.out]; exact hlt)
      rw [← HC.out] at hav
      have s1 : IntKind.i64.wrap ((l.length : Int) / 8 + (j : Int)) = (l.length : Int) / 8 + (j : Int) := IntWalk.i64_in _ (by omega)
      have s2 : ((l.length : Int) / 8 + (j : Int)) = ((l.length / 8 + j : Nat) : Int) := by omega
      have s0 : IntKind.i64.wrap ((l.length : Int) / 8) = (l.length : Int) / 8 := IntWalk.i64_in _ (by omega)
      have S0 := Lib.hid s0
      have S1 := Lib.hid s1
      clear s0 s1
      have S2 := Lib.hid s2
      have HAV := Lib.hid hav
      clear s2 hav
      have hfs := fill_step wr.drew g v1 l low m n j hv (by rw [← HC.out]; exact hlt) hl hn (by exact hW1)
      have HFS := Lib.hid hfs
      clear hfs
      go_wp2_with fail
      have kd1 : wr.drew.cell? ⟨g, 1, none⟩ = some (.int .i64 (l.length : Int)) := k1
      have kd2 : wr.drew.cell? ⟨g, 2, none⟩ = some (.bool low) := k2
      refine wp_region_held_drew (S := (fun w' => w'.cell? ⟨g, 1, none⟩ = some (.int .i64 (l.length : Int)) ∧ w'.cell? ⟨g, 2, none⟩ = some (.bool low))) (by kernel_rfl) ⟨kd1, kd2⟩ (fun hHeld => ?_)
      refine jt 0 ?_
      refine jt 1 ?_
      refine jt 2 ?_
      refine jt 3 ?_
      refine jt 4 ?_
      refine jt 5 ?_
      refine jt 6 ?_
      refine jt 7 ?_
      refine jt 8 ?_
      refine jt 9 ?_
      refine jt 10 ?_
      refine jt 11 ?_
      refine jt 12 ?_
      refine jt 13 ?_
      refine jt 14 ?_
      refine js 15 (fun K hK => ?_)
      go_simp
      refine (byteShift_any _ _ _ _ hlt hc5).mono ?_
      rintro e w' ⟨rfl, rfl⟩
      go_wp2_with fail
      refine hK.out _ _ hHeld (fun hHeld1 => ?_)
      clear hK K
      try simp only [Act.put, jA, jB, jC, jD, jE, jF]
      refine jt 16 ?_
      refine jt 17 ?_
      refine js 18 (fun K hK => ?_)
      go_simp
      first | rw [S0.out, S1.out, S2.out] | rw [S1.out, S2.out] | rw [S2.out]
      first | rw [HAV.out] | rw [IntKind.wrap_u8, HAV.out]
      refine HFS.out.mono ?_
      rintro e w2 ⟨rfl, v2, hW2, ho2, hd2⟩
      go_wp2_with fail
      refine hK.out _ _ ⟨hW2.c1, hW2.c2⟩ (fun hHeld2 => ?_)
      clear hK K
      try simp only [Act.put, jA, jB, jC, jD, jE, jF]
      refine wpAnyH_done (by kernel_rfl) ?_ _
      go_wp2_with fail
      go_roundw
      case rel => exact ⟨j + 1, by omega, by go_num, WrT.more (ho1.trans (Only.drawn _ ⟨1, rfl⟩)) hd1 ⟨v2, hW2, ho2, hd2⟩⟩
      case measure => simp [intOf]; omega
    · have hjc : j = c := by omega
      subst hjc
      have hall := fillF_all low l (wordE low m n) n (wordE_length low m n)
      rw [← HC.out] at hall
      rw [hall] at hW1
      have hWS := hW1.setLen (l.length + n)
      have hO2 : Only (Mine g v1) wr (wr.setCell ⟨g, 1, none⟩ (.int .i64 ((l.length + n : Nat) : Int))) := Only.setCell (p := ⟨g, 1, none⟩) (.inl rfl) _
      have hfz := hW1.fz 1
      rw [show (((l.length + n : Nat)) : Int) = (l.length : Int) + (n : Int) by omega] at hWS hO2
      have HWS := Lib.hid hWS
      have HO2 := Lib.hid hO2
      clear hWS hO2 hall
      go_wp2_with fail
      go_end0
      have hlen : (l ++ wordE low m n).length = l.length + n := by rw [List.length_append, wordE_length]
      refine ⟨rfl, ?_⟩
      rw [hlen]
      exact WrT.more ho1 hd1 ⟨v1, HWS.out, HO2.out, fun _ h => .inl h⟩
end Go.Proofs.Ytkeplmnohenbnaa.Bit
/- Contracts of NewWriter, Len, Bytes, Align, Write and Word of a writer. -/
namespace Go.Proofs.Ytkeplmnohenbnaa.Bit
open Go.RowKit Go.Proofs.Ytkeplmnohenbnaa.Oct
set_option linter.unusedVariables false
set_option maxRecDepth 20000

/-- a writer that has written these bits -/
def Ws (w : World) (g : Nat) (v : Value) (l : List Bool) (low : Bool) : Prop := Wr w g v (packB low l) l.length low
def WsT (w : World) (g : Nat) (v : Value) (l : List Bool) (low : Bool) (w' : World) : Prop := WrT w g v (packB low l) l.length low w'
def NewW (w : World) (low : Bool) (e : Ending) (w' : World) : Prop :=
  Below w.heap.size w w' ∧ e = .returned (.pointer (some ⟨w.heap.size, 0, none⟩)) ∧ Ws w' w.heap.size (.slice none 0 0) [] low
theorem newWriter_any (low : Bool) (w : World) : Calls Try.prog 27 #[.bool low] w (NewW w low) := by
  go_enter Try.func27, Try.ntmps27
  go_wp2_with fail
  go_ret
  refine ⟨(Below.refl _ w).alloc (Nat.le_refl _) _, rfl, ?_, ?_, ?_⟩
  · show (w.heap.push _)[w.heap.size]? = _
    simp
  · rw [packB_nil]
    exact World.ownsRow_nil _ _ _ _
  · intro h; cases h
theorem bytes_any (w : World) (g : Nat) (v : Value) (l : List Bool) (low : Bool) (hW : Ws w g v l low) (hl : l.length ≤ 2000000) :
    Calls Try.prog 29 #[.pointer (some ⟨g, 0, none⟩)] w (CloneP w (packB low l)) := by
  have c0 := Wr.c0 hW
  obtain ⟨p, cap, hv, hr, hnil⟩ : ∃ p cap, v = .slice p (packB low l).length cap ∧ Row w p (packB low l) ∧ (p = none → cap = 0) := by
    rcases Wr.form hW with ⟨rfl, h0⟩ | ⟨r, cap, rfl, _, _, _, _, hr⟩
    · exact ⟨none, 0, by rw [h0]; rfl, by rw [h0]; exact fun h => absurd h (by simp), fun _ => rfl⟩
    · exact ⟨_, _, rfl, hr, fun h => by cases h⟩
  subst hv
  have hpl := packB_length low l
  have hcl := clone_any p (packB low l).length cap (packB low l) w hr rfl hnil (by omega)
  have HCL := Lib.hid hcl
  clear hcl hnil hr hW hpl
  go_enter Try.func29, Try.ntmps29
  go_wp2_with fail
  refine HCL.out.mono ?_
  rintro e w1 ⟨hb, q, cap1, rfl, r⟩
  have R := Lib.hid r
  clear r
  go_wp2_with fail
  go_ret
  exact ⟨hb, q, cap1, rfl, R.out⟩
/-- 0 bits till a byte is full -/
def padL (l : List Bool) : List Bool := l ++ zs (8 * ((l.length + 7) / 8) - l.length)
theorem padL_length (l : List Bool) : (padL l).length = 8 * ((l.length + 7) / 8) := by unfold padL; rw [List.length_append, zs_length]; omega
def WAlP (w : World) (g : Nat) (v : Value) (l : List Bool) (low : Bool) (e : Ending) (w' : World) : Prop := e = .returned (.tuple #[]) ∧ WsT w g v (padL l) low w'
/-- may a number be written in so many bits? -/
def okW (m : Nat) (n : Int) : Bool := cntB n && decide (m < 2 ^ n.toNat)
def wrE (m : Nat) (n : Int) : Int := if cntB n then (if okW m n then 0 else 7) else 1
def wrL (low : Bool) (l : List Bool) (m : Nat) (n : Int) : List Bool := if okW m n then l ++ wordE low m n.toNat else l
def WrtP (w : World) (g : Nat) (v : Value) (l : List Bool) (low : Bool) (m : Nat) (n : Int) (e : Ending) (w' : World) : Prop :=
  e = .returned (.int .i64 (wrE m n)) ∧ WsT w g v (wrL low l m n) low w'
theorem shr_zero (m k : Nat) : ((m : Int) / 2 ^ k != 0) = !decide (m < 2 ^ k) := by
  have e : ((m : Int) / 2 ^ k) = ((m / 2 ^ k : Nat) : Int) := by push_cast; rfl
  rw [e, Bool.eq_iff_iff]
  have hp : 0 < 2 ^ k := Nat.pow_pos (by omega)
  have hz := @Nat.div_eq_zero_iff m (2 ^ k)
  generalize m / 2 ^ k = d at hz ⊢
  generalize 2 ^ k = b at hz hp ⊢
  simp
  omega
theorem write_any (w : World) (g : Nat) (v : Value) (l : List Bool) (low : Bool) (m : Nat) (n : Int) (hm : m < 4294967296) (hl : l.length ≤ 2000000) (hW : Ws w g v l low) :
    Calls Try.prog 28 #[.pointer (some ⟨g, 0, none⟩), .int .u32 (m : Int), .int .i64 n] w (WrtP w g v l low m n) := by
  have HW := Lib.hid hW
  clear hW
  by_cases hc : cntB n = true
  · have hb := of_decide_eq_true hc
    obtain ⟨k, rfl⟩ : ∃ k : Nat, n = (k : Int) := ⟨n.toNat, by omega⟩
    have hk : k ≤ 32 := by omega
    have hsz := shr_zero m k
    by_cases ho : m < 2 ^ k
    · have how : okW m (k : Int) = true := by unfold okW; rw [hc]; simpa using ho
      have e1 : wrE m (k : Int) = 0 := by unfold wrE; rw [hc, how]; rfl
      have e2 : wrL low l m (k : Int) = l ++ wordE low m k := by unfold wrL; rw [how]; rfl
      rw [show decide (m < 2 ^ k) = true from by simpa using ho, Bool.not_true] at hsz
      have HC := Lib.hid hc
      have E1 := Lib.hid e1
      have E2 := Lib.hid e2
      have HO := Lib.hid ho
      clear hc e1 e2 how ho
      go_enter Try.func28, Try.ntmps28
      go_wp2_with fail
      refine (count_any _ _).mono ?_
      rintro e w' ⟨rfl, rfl⟩
      rw [HC.out]
      go_wp2_with fail
      refine (add_any _ _ _ _ _ _ _ HO.out hk hl HW.out).mono ?_
      rintro e w1 ⟨rfl, hT⟩
      have HT := Lib.hid hT
      clear hT
      go_wp2_with fail
      go_ret
      exact ⟨by rw [E1.out]; rfl, by rw [E2.out]; exact HT.out⟩
    · have how : okW m (k : Int) = false := by unfold okW; rw [hc]; simp at ho; simpa using ho
      have e1 : wrE m (k : Int) = 7 := by unfold wrE; rw [hc, how]; rfl
      have e2 : wrL low l m (k : Int) = l := by unfold wrL; rw [how]; rfl
      rw [show decide (m < 2 ^ k) = false from by simp at ho; simpa using ho, Bool.not_false] at hsz
      have HC := Lib.hid hc
      have E1 := Lib.hid e1
      have E2 := Lib.hid e2
      clear hc e1 e2 how ho
      go_enter Try.func28, Try.ntmps28
      go_wp2_with fail
      refine (count_any _ _).mono ?_
      rintro e w' ⟨rfl, rfl⟩
      rw [HC.out]
      go_wp2_with fail
      go_ret
      exact ⟨by rw [E1.out]; rfl, by rw [E2.out]; exact WrT.refl HW.out⟩
  · have hc' : cntB n = false := by simpa using hc
    have how : okW m n = false := by unfold okW; rw [hc']; rfl
    have e1 : wrE m n = 1 := by unfold wrE; rw [hc']; rfl
    have e2 : wrL low l m n = l := by unfold wrL; rw [how]; rfl
    have HC := Lib.hid hc'
    have E1 := Lib.hid e1
    have E2 := Lib.hid e2
    clear hc hc' e1 e2 how
    go_enter Try.func28, Try.ntmps28
    go_wp2_with fail
    refine (count_any _ _).mono ?_
    rintro e w' ⟨rfl, rfl⟩
    rw [HC.out]
    go_wp2_with fail
    go_ret
    exact ⟨by rw [E1.out]; rfl, by rw [E2.out]; exact WrT.refl HW.out⟩
theorem wordE_one (low b : Bool) : wordE low b.toNat 1 = [b] := by cases low <;> cases b <;> rfl
def WordP (w : World) (g : Nat) (v : Value) (l m : List Bool) (low : Bool) (e : Ending) (w' : World) : Prop := e = .returned (.int .i64 0) ∧ WsT w g v (l ++ m) low w'
end Go.Proofs.Ytkeplmnohenbnaa.Bit

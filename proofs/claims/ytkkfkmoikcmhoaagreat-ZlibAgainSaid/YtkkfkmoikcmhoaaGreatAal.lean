/- BitX, BitY, DfA, IgG, IgH: merged. -/
import Derived.Deep.RegionHeld3
import Derived.Laws.Externs
import Derived.Laws.IdiomCopy
import Derived.Lib.EndianMore
import Derived.LoopTactic
import Derived.Test.YtkkfkmoikcmhoaaGreatAaf
import Derived.Test.YtkkfkmoikcmhoaaGreatAaj
import Derived.Test.YtkkfkmoikcmhoaaGreatAak
set_option linter.unusedVariables false
set_option linter.unusedSimpArgs false
namespace Go.Proofs.YtkkfkmoikcmhoaaGreat.Bit
open Go.RowKit Oct
set_option maxRecDepth 20000
def WrT (w : World) (g : Nat) (v : Value) (xs : List UInt8) (n : Nat) (low : Bool) (w' : World) : Prop :=
 ∃ v', Wr w' g v' xs n low ∧ Only (Mine g v) w w' ∧ ∀ k, v'.ownBlock = some k → v.ownBlock = some k ∨ w.heap.size ≤ k
theorem WrT.refl {w : World} {g : Nat} {v : Value} {xs : List UInt8} {n : Nat} {low : Bool} (h : Wr w g v xs n low) : WrT w g v xs n low w := ⟨v, h, Only.refl _ _, fun _ h => .inl h⟩
theorem WrT.more {w w1 w2 : World} {g : Nat} {v v1 : Value} {ys : List UInt8} {m : Nat} {low : Bool} (ho : Only (Mine g v) w w1) (hd : ∀ k, v1.ownBlock = some k → v.ownBlock = some k ∨ w.heap.size ≤ k)
  (h : WrT w1 g v1 ys m low w2) : WrT w g v ys m low w2 := by
 obtain ⟨v2, hW, ho2, hd2⟩ := h
 have hz := ho.2.2.2.1
 refine ⟨v2, hW, ⟨ho2.1.trans ho.1, ho2.2.1.trans ho.2.1, ho2.2.2.1.trans ho.2.2.1, Nat.le_trans hz ho2.2.2.2.1, fun k hk hn => ?_⟩, fun k hk => ?_⟩
 ·refine (ho2.2.2.2.2 k (by omega) (fun hm => hn ?_)).trans (ho.2.2.2.2 k hk hn)
  rcases hm with h | h
  ·exact .inl h
  ·rcases hd k h with h | h
   ·exact .inr h
   ·omega
 ·rcases hd2 k hk with h | h
  ·exact hd k h
  ·exact .inr (by omega)
def AddP (w : World) (g : Nat) (v : Value) (l : List Bool) (low : Bool) (e : Ending) (w' : World) : Prop := e = .returned (.tuple #[]) ∧ WrT w g v (Y0m low l) l.length low w'
theorem Yz4 (low : Bool) (used n : Nat) (hu : used < 8) (hn : n ≤ 32) : gsh low used n (8 * cnt used n) ≤ 40 := by
 have : cnt used n ≤ 5 := by unfold cnt; omega
 cases low <;> simp [gsh] <;> omega
theorem Ywk (low : Bool) (used n v : Nat) (hv : v < 2 ^ n) (hn : n ≤ 32) (hu : used < 8) :
  IntKind.u64.wrap ((v : Int) * 2 ^ min (gsh low used n (8 * cnt used n)) 64) = ((grpN low used n v : Nat) : Int) := by
 have h1 := Yz4 low used n hu hn
 have h2 := Ywj low used n v hv hn hu
 rw [Nat.min_eq_left (by omega)]
 have e : ((v : Int) * 2 ^ gsh low used n (8 * cnt used n)) = ((grpN low used n v : Nat) : Int) := by unfold grpN; push_cast; rfl
 rw [e, IntWalk.u64_in _ (by omega)]
theorem Ys1 (low : Bool) (used n v i : Nat) (hn : n ≤ 32) (hu : used < 8) (hi : i < cnt used n) :
  ((grpN low used n v : Nat) : Int) / 2 ^ min (gsh low (8 * i) 8 (8 * cnt used n)) 64 % 256 = (((Yrq low used n v i).toNat : Nat) : Int) := by
 have h1 : gsh low (8 * i) 8 (8 * cnt used n) ≤ 40 := by
  have : cnt used n ≤ 5 := by unfold cnt; omega
  cases low <;> simp [gsh] <;> omega
 rw [Nat.min_eq_left (by omega)]
 unfold Yrq
 generalize grpN low used n v = G
 generalize gsh low (8 * i) 8 (8 * cnt used n) = s
 have hb : G / 2 ^ s % 256 < 256 := Nat.mod_lt _ (by omega)
 have e2 : ((G : Int) / 2 ^ s) = ((G / 2 ^ s : Nat) : Int) := by push_cast; rfl
 rw [UInt8.toNat_ofNat', Nat.mod_eq_of_lt hb, e2]
 omega
theorem Yod (w : World) (g : Nat) (v : Value) (l : List Bool) (low : Bool) (m n j : Nat) (hv : m < 2 ^ n) (hj : j < cnt (l.length % 8) n) (hl : l.length ≤ 2000000) (hn : n ≤ 32)
  (hW : Wr w g v (Y6i low l (Y07 low m n) j) l.length low) :
  Calls Tryz.prog 151 #[.pointer (some ⟨g, 0, none⟩), .int .i64 ((l.length / 8 + j : Nat) : Int), .int .u8 (((Yrq low (l.length % 8) n m j).toNat : Nat) : Int)] w (Yvo w g v (Y6i low l (Y07 low m n) (j + 1)) l.length low) := by
 have hwl := Y00 low m n
 by_cases hc : 1 ≤ j ∨ l.length % 8 = 0
 ·have hlen := Yoa low l (Y07 low m n) n j hwl (by omega) hc
  have h1 := Ysq w g v _ l.length low (Yrq low (l.length % 8) n m j) hW (by rw [hlen]; unfold cnt at hj; omega)
  rw [hlen, Yob low l m n j hv hj hc] at h1
  exact h1
 ·have hj0 : j = 0 := by omega
  subst hj0
  have hlen := Y0a low l
  rw [Yl5] at hW
  have hq : l.length / 8 < (Y0m low l).length := by rw [hlen]; omega
  have h1 := Ywe w g v _ l.length low (l.length / 8) (Yrq low (l.length % 8) n m 0) hW (by rw [hlen]; omega) hq
  rw [Ysp low l m n hv (by omega) hq] at h1
  exact h1
set_option maxHeartbeats 1000000 in
theorem Yna (w : World) (g : Nat) (v : Value) (l : List Bool) (low : Bool) (m n : Nat) (hv : m < 2 ^ n) (hn : n ≤ 32) (hl : l.length ≤ 2000000) (hW : Wr w g v (Y0m low l) l.length low) :
  Calls Tryz.prog 131 #[.pointer (some ⟨g, 0, none⟩), .int .u32 (m : Int), .int .i64 (n : Int)] w (AddP w g v (l ++ Y07 low m n) low) := by
 have c1 := hW.c1
 have c2 := hW.c2
 have hm32 : m < 4294967296 := by
  have h1 : (2 : Nat) ^ n ≤ 2 ^ 32 := Nat.pow_le_pow_right (by omega) hn
  omega
 have hgv := Ywk low (l.length % 8) n m hv hn (by omega)
 obtain ⟨c, hc⟩ : ∃ c, c = cnt (l.length % 8) n := ⟨_, rfl⟩
 have hc5 : c ≤ 5 := by rw [hc]; unfold cnt; omega
 have HGV := Lib.hid hgv
 have HC := Lib.hid hc
 have HW := Lib.hid hW
 clear hgv hc hW
 go_enter Tryz.func131, Tryz.ntmps131
 go_wp2_with fail
 have e2 : ((l.length : Int) % 8) + (n : Int) = ((l.length % 8 + n : Nat) : Int) := by omega
 rw [e2]
 refine (Y2y _ _ (by omega)).mono ?_
 rintro e w' ⟨rfl, rfl⟩
 rw [show (l.length % 8 + n + 7) / 8 = c from HC.out.symm]
 clear e2
 have e3 : (l.length : Int) % 8 = ((l.length % 8 : Nat) : Int) := by omega
 have E3 := Lib.hid e3
 clear e3
 go_wp2_with fail
 rw [E3.out]
 refine (Y6c _ _ _ _ (by omega) hn).mono ?_
 rintro e w' ⟨rfl, rfl⟩
 go_wp2_with fail
 rw [HGV.out]
 go_loopw [9, 30] (fun u i wr => ∃ j : Nat, j ≤ c ∧ i = .int .i64 (j : Int) ∧ WrT w g v (Y6i low l (Y07 low m n) j) l.length low wr) (fun _ i _ => c - (intOf i).toNat)
 case atStart => exact ⟨0, by omega, rfl, WrT.refl HW.out⟩
 case round =>
  obtain ⟨j, hj, rfl, hT⟩ := hrel
  obtain ⟨v1, hW1, ho1, hd1⟩ := hT
  have k1 := hW1.c1
  have k2 := hW1.c2
  by_cases hlt : j < c
  ·have hav := Ys1 low (l.length % 8) n m j hn (by omega) (by rw [← HC.out]; exact hlt)
   rw [← HC.out] at hav
   have s1 : IntKind.i64.wrap ((l.length : Int) / 8 + (j : Int)) = (l.length : Int) / 8 + (j : Int) := IntWalk.i64_in _ (by omega)
   have s2 : ((l.length : Int) / 8 + (j : Int)) = ((l.length / 8 + j : Nat) : Int) := by omega
   have s0 : IntKind.i64.wrap ((l.length : Int) / 8) = (l.length : Int) / 8 := IntWalk.i64_in _ (by omega)
   have S0 := Lib.hid s0
   have S1 := Lib.hid s1
   clear s0 s1
   have S2 := Lib.hid s2
   have HAV := Lib.hid hav
   clear s2 hav
   have hfs := Yod wr.drew g v1 l low m n j hv (by rw [← HC.out]; exact hlt) hl hn (by exact hW1)
   have HFS := Lib.hid hfs
   clear hfs
   go_wp2_with fail
   have kd1 : wr.drew.cell? ⟨g, 1, none⟩ = some (.int .i64 (l.length : Int)) := k1
   have kd2 : wr.drew.cell? ⟨g, 2, none⟩ = some (.bool low) := k2
   refine wp_region_held_drew (S := (fun w' => w'.cell? ⟨g, 1, none⟩ = some (.int .i64 (l.length : Int)) ∧ w'.cell? ⟨g, 2, none⟩ = some (.bool low))) (by kernel_rfl) ⟨kd1, kd2⟩ (fun hHeld => ?_)
   refine wpAnyH_take (i := 0) (v := ?v1) rfl (by kernel_rfl) (by kernel_rfl) (by kernel_rfl) (fun _ _ _ h => h) (Or.inl ⟨by rfl, fun w hSw => ?y1⟩) hHeld ?r1
   case y1 => (try dsimp only at hSw); first | (go_simp; done) | (go_simp; with_reducible rfl)
   try simp only [Act.put, List.setIfInBounds_toArray, List.set_cons_zero, List.set_cons_succ, List.getElem_toArray, List.getElem_cons_zero, List.getElem_cons_succ]
   refine wpAnyH_take (i := 1) (v := ?v2) rfl (by kernel_rfl) (by kernel_rfl) (by kernel_rfl) (fun _ _ _ h => h) (Or.inl ⟨by rfl, fun w hSw => ?y2⟩) hHeld ?r2
   case y2 => (try dsimp only at hSw); first | (go_simp; done) | (go_simp; with_reducible rfl)
   try simp only [Act.put, List.setIfInBounds_toArray, List.set_cons_zero, List.set_cons_succ, List.getElem_toArray, List.getElem_cons_zero, List.getElem_cons_succ]
   refine wpAnyH_take (i := 2) (v := ?v3) rfl (by kernel_rfl) (by kernel_rfl) (by kernel_rfl) (fun _ _ _ h => h) (Or.inl ⟨by rfl, fun w hSw => ?y3⟩) hHeld ?r3
   case y3 => (try dsimp only at hSw); first | (go_simp; done) | (go_simp; with_reducible rfl)
   try simp only [Act.put, List.setIfInBounds_toArray, List.set_cons_zero, List.set_cons_succ, List.getElem_toArray, List.getElem_cons_zero, List.getElem_cons_succ]
   refine wpAnyH_take (i := 3) (v := ?v4) rfl (by kernel_rfl) (by kernel_rfl) (by kernel_rfl) (fun _ _ _ h => h) (Or.inl ⟨by rfl, fun w hSw => ?y4⟩) hHeld ?r4
   case y4 => (try dsimp only at hSw); first | (go_simp; done) | (go_simp; with_reducible rfl)
   try simp only [Act.put, List.setIfInBounds_toArray, List.set_cons_zero, List.set_cons_succ, List.getElem_toArray, List.getElem_cons_zero, List.getElem_cons_succ]
   refine wpAnyH_take (i := 4) (v := ?v5) rfl (by kernel_rfl) (by kernel_rfl) (by kernel_rfl) (fun _ _ _ h => h) (Or.inl ⟨by rfl, fun w hSw => ?y5⟩) hHeld ?r5
   case y5 => (try dsimp only at hSw); first | (go_simp; done) | (go_simp; with_reducible rfl)
   try simp only [Act.put, List.setIfInBounds_toArray, List.set_cons_zero, List.set_cons_succ, List.getElem_toArray, List.getElem_cons_zero, List.getElem_cons_succ]
   refine wpAnyH_take (i := 5) (v := ?v6) rfl (by kernel_rfl) (by kernel_rfl) (by kernel_rfl) (fun _ _ _ h => h) (Or.inl ⟨by rfl, fun w hSw => ?y6⟩) hHeld ?r6
   case y6 => (try dsimp only at hSw); first | (go_simp; done) | (go_simp; with_reducible rfl)
   try simp only [Act.put, List.setIfInBounds_toArray, List.set_cons_zero, List.set_cons_succ, List.getElem_toArray, List.getElem_cons_zero, List.getElem_cons_succ]
   refine wpAnyH_take (i := 6) (v := ?v7) rfl (by kernel_rfl) (by kernel_rfl) (by kernel_rfl) (fun _ _ _ h => h) (Or.inl ⟨by rfl, fun w hSw => ?y7⟩) hHeld ?r7
   case y7 => (try dsimp only at hSw); first | (go_simp; done) | (go_simp; with_reducible rfl)
   try simp only [Act.put, List.setIfInBounds_toArray, List.set_cons_zero, List.set_cons_succ, List.getElem_toArray, List.getElem_cons_zero, List.getElem_cons_succ]
   refine wpAnyH_take (i := 7) (v := ?v8) rfl (by kernel_rfl) (by kernel_rfl) (by kernel_rfl) (fun _ _ _ h => h) (Or.inl ⟨by rfl, fun w hSw => ?y8⟩) hHeld ?r8
   case y8 => (try dsimp only at hSw); first | (go_simp; done) | (go_simp; with_reducible rfl)
   try simp only [Act.put, List.setIfInBounds_toArray, List.set_cons_zero, List.set_cons_succ, List.getElem_toArray, List.getElem_cons_zero, List.getElem_cons_succ]
   refine wpAnyH_take (i := 8) (v := ?v9) rfl (by kernel_rfl) (by kernel_rfl) (by kernel_rfl) (fun _ _ _ h => h) (Or.inl ⟨by rfl, fun w hSw => ?y9⟩) hHeld ?r9
   case y9 => (try dsimp only at hSw); first | (go_simp; done) | (go_simp; with_reducible rfl)
   try simp only [Act.put, List.setIfInBounds_toArray, List.set_cons_zero, List.set_cons_succ, List.getElem_toArray, List.getElem_cons_zero, List.getElem_cons_succ]
   refine wpAnyH_take (i := 9) (v := ?v10) rfl (by kernel_rfl) (by kernel_rfl) (by kernel_rfl) (fun _ _ _ h => h) (Or.inl ⟨by rfl, fun w hSw => ?y10⟩) hHeld ?r10
   case y10 => (try dsimp only at hSw); first | (go_simp; done) | (go_simp; with_reducible rfl)
   try simp only [Act.put, List.setIfInBounds_toArray, List.set_cons_zero, List.set_cons_succ, List.getElem_toArray, List.getElem_cons_zero, List.getElem_cons_succ]
   refine wpAnyH_take (i := 10) (v := ?v11) rfl (by kernel_rfl) (by kernel_rfl) (by kernel_rfl) (fun _ _ _ h => h) (Or.inl ⟨by rfl, fun w hSw => ?y11⟩) hHeld ?r11
   case y11 => (try dsimp only at hSw); first | (go_simp; done) | (go_simp; with_reducible rfl)
   try simp only [Act.put, List.setIfInBounds_toArray, List.set_cons_zero, List.set_cons_succ, List.getElem_toArray, List.getElem_cons_zero, List.getElem_cons_succ]
   refine wpAnyH_take (i := 11) (v := ?v12) rfl (by kernel_rfl) (by kernel_rfl) (by kernel_rfl) (fun _ _ _ h => h) (Or.inl ⟨by rfl, fun w hSw => ?y12⟩) hHeld ?r12
   case y12 => (try dsimp only at hSw); first | (go_simp; done) | (go_simp; with_reducible rfl)
   try simp only [Act.put, List.setIfInBounds_toArray, List.set_cons_zero, List.set_cons_succ, List.getElem_toArray, List.getElem_cons_zero, List.getElem_cons_succ]
   refine wpAnyH_take (i := 12) (v := ?v13) rfl (by kernel_rfl) (by kernel_rfl) (by kernel_rfl) (fun _ _ _ h => h) (Or.inl ⟨by rfl, fun w hSw => ?y13⟩) hHeld ?r13
   case y13 => (try dsimp only at hSw); first | (go_simp; done) | (go_simp; with_reducible rfl)
   try simp only [Act.put, List.setIfInBounds_toArray, List.set_cons_zero, List.set_cons_succ, List.getElem_toArray, List.getElem_cons_zero, List.getElem_cons_succ]
   refine wpAnyH_take (i := 13) (v := ?v14) rfl (by kernel_rfl) (by kernel_rfl) (by kernel_rfl) (fun _ _ _ h => h) (Or.inl ⟨by rfl, fun w hSw => ?y14⟩) hHeld ?r14
   case y14 => (try dsimp only at hSw); first | (go_simp; done) | (go_simp; with_reducible rfl)
   try simp only [Act.put, List.setIfInBounds_toArray, List.set_cons_zero, List.set_cons_succ, List.getElem_toArray, List.getElem_cons_zero, List.getElem_cons_succ]
   refine wpAnyH_take (i := 14) (v := ?v15) rfl (by kernel_rfl) (by kernel_rfl) (by kernel_rfl) (fun _ _ _ h => h) (Or.inl ⟨by rfl, fun w hSw => ?y15⟩) hHeld ?r15
   case y15 => (try dsimp only at hSw); first | (go_simp; done) | (go_simp; with_reducible rfl)
   try simp only [Act.put, List.setIfInBounds_toArray, List.set_cons_zero, List.set_cons_succ, List.getElem_toArray, List.getElem_cons_zero, List.getElem_cons_succ]
   refine wpAnyH_ready (rs := [15]) (by kernel_rfl) (by simp) ?_
   refine AllReadyH.cons rfl (fun K hK => ?_) AllReadyH.nil
   go_simp
   refine (Y73 _ _ _ _ hlt hc5).mono ?_
   rintro e w' ⟨rfl, rfl⟩
   go_wp2_with fail
   refine hK.out _ _ hHeld (fun hHeld1 => ?_)
   clear hK K
   try simp only [Act.put, List.setIfInBounds_toArray, List.set_cons_zero, List.set_cons_succ, List.getElem_toArray, List.getElem_cons_zero, List.getElem_cons_succ]
   refine wpAnyH_take (i := 16) (v := ?v16) rfl (by kernel_rfl) (by kernel_rfl) (by kernel_rfl) (fun _ _ _ h => h) (Or.inl ⟨by rfl, fun w hSw => ?y16⟩) hHeld ?r16
   case y16 => (try dsimp only at hSw); first | (go_simp; done) | (go_simp; with_reducible rfl)
   try simp only [Act.put, List.setIfInBounds_toArray, List.set_cons_zero, List.set_cons_succ, List.getElem_toArray, List.getElem_cons_zero, List.getElem_cons_succ]
   refine wpAnyH_take (i := 17) (v := ?v17) rfl (by kernel_rfl) (by kernel_rfl) (by kernel_rfl) (fun _ _ _ h => h) (Or.inl ⟨by rfl, fun w hSw => ?y17⟩) hHeld ?r17
   case y17 => (try dsimp only at hSw); first | (go_simp; done) | (go_simp; with_reducible rfl)
   try simp only [Act.put, List.setIfInBounds_toArray, List.set_cons_zero, List.set_cons_succ, List.getElem_toArray, List.getElem_cons_zero, List.getElem_cons_succ]
   refine wpAnyH_ready (rs := [18]) (by kernel_rfl) (by simp) ?_
   refine AllReadyH.cons rfl (fun K hK => ?_) AllReadyH.nil
   go_simp
   first | rw [S0.out, S1.out, S2.out] | rw [S1.out, S2.out] | rw [S2.out]
   first | rw [HAV.out] | rw [IntKind.wrap_u8, HAV.out]
   refine HFS.out.mono ?_
   rintro e w2 ⟨rfl, v2, hW2, ho2, hd2⟩
   go_wp2_with fail
   refine hK.out _ _ ⟨hW2.c1, hW2.c2⟩ (fun hHeld2 => ?_)
   clear hK K
   try simp only [Act.put, List.setIfInBounds_toArray, List.set_cons_zero, List.set_cons_succ, List.getElem_toArray, List.getElem_cons_zero, List.getElem_cons_succ]
   refine wpAnyH_done (by kernel_rfl) ?_ _
   go_wp2_with fail
   go_roundw
   case rel => exact ⟨j + 1, by omega, by go_num, WrT.more (ho1.trans (Only.drawn _ ⟨1, rfl⟩)) hd1 ⟨v2, hW2, ho2, hd2⟩⟩
   case measure => simp [intOf]; omega
  ·have hjc : j = c := by omega
   subst hjc
   have hall := Yo9 low l (Y07 low m n) n (Y00 low m n)
   rw [← HC.out] at hall
   rw [hall] at hW1
   have hWS := hW1.setLen (l.length + n)
   have hO2 : Only (Mine g v1) wr (wr.setCell ⟨g, 1, none⟩ (.int .i64 ((l.length + n : Nat) : Int))) := Only.setCell (p := ⟨g, 1, none⟩) (.inl rfl) _
   have hfz := hW1.fz 1
   rw [show (((l.length + n : Nat)) : Int) = (l.length : Int) + (n : Int) by omega] at hWS hO2
   have HWS := Lib.hid hWS
   have HO2 := Lib.hid hO2
   clear hWS hO2 hall
   go_wp2_with fail
   go_end0
   have hlen : (l ++ Y07 low m n).length = l.length + n := by rw [List.length_append, Y00]
   refine ⟨rfl, ?_⟩
   rw [hlen]
   exact WrT.more ho1 hd1 ⟨v1, HWS.out, HO2.out, fun _ h => .inl h⟩
end Go.Proofs.YtkkfkmoikcmhoaaGreat.Bit
namespace Go.Proofs.YtkkfkmoikcmhoaaGreat.Bit
open Go.RowKit Oct
set_option maxRecDepth 20000
def Ws (w : World) (g : Nat) (v : Value) (l : List Bool) (low : Bool) : Prop := Wr w g v (Y0m low l) l.length low
def WsT (w : World) (g : Nat) (v : Value) (l : List Bool) (low : Bool) (w' : World) : Prop := WrT w g v (Y0m low l) l.length low w'
def NewW (w : World) (low : Bool) (e : Ending) (w' : World) : Prop :=
 Below w.heap.size w w' ∧ e = .returned (.pointer (some ⟨w.heap.size, 0, none⟩)) ∧ Ws w' w.heap.size (.slice none 0 0) [] low
theorem Yda (low : Bool) (w : World) : Calls Tryz.prog 43 #[.bool low] w (NewW w low) := by
 go_enter Tryz.func43, Tryz.ntmps43
 go_wp2_with fail
 go_ret
 refine ⟨(Below.refl _ w).alloc (Nat.le_refl _) _, rfl, ?_, ?_, ?_⟩
 ·show (w.heap.push _)[w.heap.size]? = _
  simp
 ·rw [Yq0]
  exact World.ownsRow_nil _ _ _ _
 ·intro h; cases h
theorem Yns (w : World) (g : Nat) (v : Value) (l : List Bool) (low : Bool) (hW : Ws w g v l low) (hl : l.length ≤ 2000000) :
  Calls Tryz.prog 84 #[.pointer (some ⟨g, 0, none⟩)] w (Yv6 w (Y0m low l)) := by
 have c0 := Wr.c0 hW
 obtain ⟨p, cap, hv, hr, hnil⟩ : ∃ p cap, v = .slice p (Y0m low l).length cap ∧ Row w p (Y0m low l) ∧ (p = none → cap = 0) := by
  rcases Wr.form hW with ⟨rfl, h0⟩ | ⟨r, cap, rfl, _, _, _, _, hr⟩
  ·exact ⟨none, 0, by rw [h0]; rfl, by rw [h0]; exact fun h => absurd h (by simp), fun _ => rfl⟩
  ·exact ⟨_, _, rfl, hr, fun h => by cases h⟩
 subst hv
 have hpl := Y0a low l
 have hcl := Yeo p (Y0m low l).length cap (Y0m low l) w hr rfl hnil (by omega)
 have HCL := Lib.hid hcl
 clear hcl hnil hr hW hpl
 go_enter Tryz.func84, Tryz.ntmps84
 go_wp2_with fail
 refine HCL.out.mono ?_
 rintro e w1 ⟨hb, q, cap1, rfl, r⟩
 have R := Lib.hid r
 clear r
 go_wp2_with fail
 go_ret
 exact ⟨hb, q, cap1, rfl, R.out⟩
def Yyl (l : List Bool) : List Bool := l ++ zs (8 * ((l.length + 7) / 8) - l.length)
theorem Yhy (l : List Bool) : (Yyl l).length = 8 * ((l.length + 7) / 8) := by unfold Yyl; rw [List.length_append, Y0g]; omega
def WAlP (w : World) (g : Nat) (v : Value) (l : List Bool) (low : Bool) (e : Ending) (w' : World) : Prop := e = .returned (.tuple #[]) ∧ WsT w g v (Yyl l) low w'
theorem Ymu (w : World) (g : Nat) (v : Value) (l : List Bool) (low : Bool) (hW : Ws w g v l low) (hl : l.length ≤ 2000000) :
  Calls Tryz.prog 71 #[.pointer (some ⟨g, 0, none⟩)] w (WAlP w g v l low) := by
 have c1 := Wr.c1 hW
 have hfz := Wr.fz hW 1
 have hS := Wr.setLen hW (8 * ((l.length + 7) / 8))
 have hO : Only (Mine g v) w (w.setCell ⟨g, 1, none⟩ (.int .i64 ((8 * ((l.length + 7) / 8) : Nat) : Int))) := Only.setCell (p := ⟨g, 1, none⟩) (.inl rfl) _
 rw [Int.natCast_mul] at hS hO
 have HS := Lib.hid hS
 have HO := Lib.hid hO
 clear hS hO hW
 go_enter Tryz.func71, Tryz.ntmps71
 go_wp2_with fail
 refine (Y2y _ _ (by omega)).mono ?_
 rintro e w' ⟨rfl, rfl⟩
 go_wp2_with fail
 go_end0
 refine ⟨rfl, v, ?_, HO.out, fun _ h => .inl h⟩
 rw [Yhy, show Y0m low (Yyl l) = Y0m low l from Yq1 low l]
 exact HS.out
def okW (m : Nat) (n : Int) : Bool := Ybe n && decide (m < 2 ^ n.toNat)
def wrE (m : Nat) (n : Int) : Int := if Ybe n then (if okW m n then 0 else 7) else 1
def wrL (low : Bool) (l : List Bool) (m : Nat) (n : Int) : List Bool := if okW m n then l ++ Y07 low m n.toNat else l
def WrtP (w : World) (g : Nat) (v : Value) (l : List Bool) (low : Bool) (m : Nat) (n : Int) (e : Ending) (w' : World) : Prop :=
 e = .returned (.int .i64 (wrE m n)) ∧ WsT w g v (wrL low l m n) low w'
theorem Yu7 (m k : Nat) : ((m : Int) / 2 ^ k != 0) = !decide (m < 2 ^ k) := by
 have e : ((m : Int) / 2 ^ k) = ((m / 2 ^ k : Nat) : Int) := by push_cast; rfl
 rw [e, Bool.eq_iff_iff]
 have hp : 0 < 2 ^ k := Nat.pow_pos (by omega)
 have hz := @Nat.div_eq_zero_iff m (2 ^ k)
 generalize m / 2 ^ k = d at hz ⊢
 generalize 2 ^ k = b at hz hp ⊢
 simp
 omega
theorem Yrp (w : World) (g : Nat) (v : Value) (l : List Bool) (low : Bool) (m : Nat) (n : Int) (hm : m < 4294967296) (hl : l.length ≤ 2000000) (hW : Ws w g v l low) :
  Calls Tryz.prog 101 #[.pointer (some ⟨g, 0, none⟩), .int .u32 (m : Int), .int .i64 n] w (WrtP w g v l low m n) := by
 have HW := Lib.hid hW
 clear hW
 by_cases hc : Ybe n = true
 ·have hb := of_decide_eq_true hc
  obtain ⟨k, rfl⟩ : ∃ k : Nat, n = (k : Int) := ⟨n.toNat, by omega⟩
  have hk : k ≤ 32 := by omega
  have hsz := Yu7 m k
  by_cases ho : m < 2 ^ k
  ·have how : okW m (k : Int) = true := by unfold okW; rw [hc]; simpa using ho
   have e1 : wrE m (k : Int) = 0 := by unfold wrE; rw [hc, how]; rfl
   have e2 : wrL low l m (k : Int) = l ++ Y07 low m k := by unfold wrL; rw [how]; rfl
   rw [show decide (m < 2 ^ k) = true from by simpa using ho, Bool.not_true] at hsz
   have HC := Lib.hid hc
   have E1 := Lib.hid e1
   have E2 := Lib.hid e2
   have HO := Lib.hid ho
   clear hc e1 e2 how ho
   go_enter Tryz.func101, Tryz.ntmps101
   go_wp2_with fail
   refine (Y30 _ _).mono ?_
   rintro e w' ⟨rfl, rfl⟩
   rw [HC.out]
   go_wp2_with fail
   refine (Yna _ _ _ _ _ _ _ HO.out hk hl HW.out).mono ?_
   rintro e w1 ⟨rfl, hT⟩
   have HT := Lib.hid hT
   clear hT
   go_wp2_with fail
   go_ret
   exact ⟨by rw [E1.out]; rfl, by rw [E2.out]; exact HT.out⟩
  ·have how : okW m (k : Int) = false := by unfold okW; rw [hc]; simp at ho; simpa using ho
   have e1 : wrE m (k : Int) = 7 := by unfold wrE; rw [hc, how]; rfl
   have e2 : wrL low l m (k : Int) = l := by unfold wrL; rw [how]; rfl
   rw [show decide (m < 2 ^ k) = false from by simp at ho; simpa using ho, Bool.not_false] at hsz
   have HC := Lib.hid hc
   have E1 := Lib.hid e1
   have E2 := Lib.hid e2
   clear hc e1 e2 how ho
   go_enter Tryz.func101, Tryz.ntmps101
   go_wp2_with fail
   refine (Y30 _ _).mono ?_
   rintro e w' ⟨rfl, rfl⟩
   rw [HC.out]
   go_wp2_with fail
   go_ret
   exact ⟨by rw [E1.out]; rfl, by rw [E2.out]; exact WrT.refl HW.out⟩
 ·have hc' : Ybe n = false := by simpa using hc
  have how : okW m n = false := by unfold okW; rw [hc']; rfl
  have e1 : wrE m n = 1 := by unfold wrE; rw [hc']; rfl
  have e2 : wrL low l m n = l := by unfold wrL; rw [how]; rfl
  have HC := Lib.hid hc'
  have E1 := Lib.hid e1
  have E2 := Lib.hid e2
  clear hc hc' e1 e2 how
  go_enter Tryz.func101, Tryz.ntmps101
  go_wp2_with fail
  refine (Y30 _ _).mono ?_
  rintro e w' ⟨rfl, rfl⟩
  rw [HC.out]
  go_wp2_with fail
  go_ret
  exact ⟨by rw [E1.out]; rfl, by rw [E2.out]; exact WrT.refl HW.out⟩
theorem Yrk (low b : Bool) : Y07 low b.toNat 1 = [b] := by cases low <;> cases b <;> rfl
def WordP (w : World) (g : Nat) (v : Value) (l m : List Bool) (low : Bool) (e : Ending) (w' : World) : Prop := e = .returned (.int .i64 0) ∧ WsT w g v (l ++ m) low w'
set_option maxHeartbeats 400000 in
theorem Yv0 (w : World) (g : Nat) (v : Value) (l m : List Bool) (low : Bool) (hl : l.length + m.length ≤ 2000000) (hW : Ws w g v l low) :
  Calls Tryz.prog 155 #[.pointer (some ⟨g, 0, none⟩), .string (ds m)] w (WordP w g v l m low) := by
 have hsz := Yw8 m
 have hwd := Ylo (m.map dig) w (by simp; omega)
 rw [Ygr] at hwd
 have HWD := Lib.hid hwd
 have HW := Lib.hid hW
 clear hwd hW
 go_enter Tryz.func155, Tryz.ntmps155
 go_wp2_with fail
 refine HWD.out.mono ?_
 rintro e w' ⟨rfl, rfl⟩
 go_wp2_with fail
 go_loopw [5, 13] (fun u i wr => ∃ j : Nat, j ≤ m.length ∧ i = .int .i64 (j : Int) ∧ WsT w g v (l ++ m.take j) low wr) (fun _ i _ => m.length - (intOf i).toNat)
 case atStart => exact ⟨0, by omega, rfl, by rw [List.take_zero, List.append_nil]; exact WrT.refl HW.out⟩
 case round =>
  obtain ⟨j, hj, rfl, hT⟩ := hrel
  by_cases hlt : j < m.length
  ·obtain ⟨v1, hW1, ho1, hd1⟩ := hT
   obtain ⟨b, hb⟩ : ∃ b, b = m[j] := ⟨_, rfl⟩
   have hg : ∀ h, (ds m)[j]'h = dig b := fun h => (Yz0 m j h hlt).trans (by rw [hb])
   have htk : m.take (j + 1) = m.take j ++ [b] := by rw [hb, List.take_succ_eq_append_getElem hlt]
   have hdb := Yey b
   have hbl : b.toNat ≤ 1 := by cases b <;> simp
   have hv1 : (((dig b).toNat : Int) - 48) % 256 = (b.toNat : Int) := by rw [hdb]; omega
   have hv2 : b.toNat < 4294967296 := by omega
   have ha := Yna wr g v1 (l ++ m.take j) low b.toNat 1 (by omega) (by omega) (by simp; omega) hW1
   rw [Yrk, List.append_assoc, ← htk] at ha
   have HA := Lib.hid ha
   have HV := Lib.hid hv1
   clear ha hb htk hdb hv1
   have HG := Lib.hid hg
   clear hg
   go_wp2_with fail
   rw [HG.out]
   first | rw [HV.out] | rw [IntKind.wrap_u8, HV.out]
   refine HA.out.mono ?_
   rintro e w2 ⟨rfl, hT2⟩
   go_wp2_with fail
   go_roundw
   case rel => exact ⟨j + 1, by omega, by go_num, WrT.more ho1 hd1 hT2⟩
   case measure => simp [intOf]; omega
  ·have hjl : j = m.length := by omega
   subst hjl
   rw [List.take_length] at hT
   go_wp2_with fail
   go_ret
   exact ⟨rfl, hT⟩
end Go.Proofs.YtkkfkmoikcmhoaaGreat.Bit
namespace Go.Proofs.YtkkfkmoikcmhoaaGreat.Df
open Go.RowKit Oct Bit Hf
set_option maxRecDepth 100000
theorem Ys7 (w : World) (C g : Nat) (ws : List (List UInt8)) (ms : List Value) (hB : Bk w C g ws ms) : Calls Tryz.prog 166 #[.pointer (some ⟨g, 0, none⟩)] w fun e w' => e = .returned (.int .i64 (ws.length : Int)) ∧ w = w' := by
 obtain ⟨pw, cw, pm, cm, A, E, hT, hS, hvw, hvm, hlw, hlm⟩ := hB
 have h0 := hT.h0
 clear hT hS hvw hvm hlw hlm
 go_enter Tryz.func166, Tryz.ntmps166
 go_wp2_with fail
 go_ret
 exact ⟨rfl, rfl⟩
def WordN (w : World) (s : List UInt8) (c : Int) (e : Ending) (w' : World) : Prop := e = .returned (.tuple #[.string (bs s), .int .i64 c]) ∧ w = w'
theorem Ysa (w : World) (C g : Nat) (ws : List (List UInt8)) (ms : List Value) (i : Nat) (s : List UInt8) (hB : Bk w C g ws ms) (hi : ws[i]? = some s) :
  Calls Tryz.prog 154 #[.pointer (some ⟨g, 0, none⟩), .int .i64 (i : Int)] w (WordN w s 0) := by
 have HL := Lib.hid (Ys7 w C g ws ms hB)
 obtain ⟨pw, cw, pm, cm, A, E, hT, hS, hvw, hvm, hlw, hlm⟩ := hB
 have h0 := hT.h0
 have hs : (strs ws)[i]? = some (.string (bs s)) := by simp [strs, hi]
 obtain ⟨b, off, rfl, hb, hc⟩ := Ykf hvw hs
 have hil : i < ws.length := (List.getElem?_eq_some_iff.1 hi).1
 have hd0 : decide ((i : Int) < 0) = false := by simp
 have hd1 : decide ((ws.length : Int) ≤ (i : Int)) = false := by simp; omega
 have j0 : (0 : Int) ≤ (i : Int) := by omega
 have j1 : (i : Int) < (ws.length : Int) := by omega
 generalize ws.length = n at *
 generalize hsb : bs s = sb at hc
 have HSB := Lib.hid hsb
 clear hT hS hvw hvm hlw hlm hs hi hil hsb
 go_enter Tryz.func154, Tryz.ntmps154
 go_wp2_with fail
 refine HL.out.mono ?_
 rintro e w' ⟨rfl, rfl⟩
 go_wp2_with fail
 go_ret2
 exact ⟨by rw [HSB.out]; rfl, rfl⟩
def Yyy (w : World) (gw : Nat) (v : Value) (l m : List Bool) (low : Bool) (e : Ending) (w' : World) : Prop := e = .returned (.int .i64 0) ∧ WsT w gw v (l ++ m) low w'
theorem Yh9 (m : List Bool) (hm : m ≠ []) : (ds m).toList.isEmpty = false := by
 show (bs (m.map dig)).toList.isEmpty = false
 rw [Yek]
 cases m
 ·exact absurd rfl hm
 ·rfl
theorem Ynr (w : World) (C g : Nat) (ws : List (List UInt8)) (ms : List Value) (gw : Nat) (v : Value) (l m : List Bool) (low : Bool) (i : Nat) (hB : Bk w C g ws ms) (hi : ws[i]? = some (m.map dig)) (hm : m ≠ []) (hW : Ws w gw v l low) (hl : l.length + m.length ≤ 2000000) :
  Calls Tryz.prog 134 #[.pointer (some ⟨g, 0, none⟩), .pointer (some ⟨gw, 0, none⟩), .int .i64 (i : Int)] w (Yyy w gw v l m low) := by
 have HW := Lib.hid (show Calls Tryz.prog 154 #[.pointer (some ⟨g, 0, none⟩), .int .i64 (i : Int)] w (fun e w' => e = .returned (.tuple #[.string (ds m), .int .i64 0]) ∧ w = w') from Ysa w C g ws ms i _ hB hi)
 have HWW := Lib.hid (Yv0 w gw v l m low hl hW)
 have hem := Yh9 m hm
 generalize ds m = sb at HW HWW hem
 clear hB hi hm hW hl
 go_enter Tryz.func134, Tryz.ntmps134
 go_wp2_with fail
 refine HW.out.mono ?_
 rintro e w' ⟨rfl, rfl⟩
 go_wp2_with fail
 refine HWW.out.mono ?_
 rintro e w' ⟨rfl, hT⟩
 have HT := Lib.hid hT
 clear hT
 go_wp2_with fail
 go_ret
 exact ⟨rfl, HT.out⟩
end Go.Proofs.YtkkfkmoikcmhoaaGreat.Df
namespace Go.Proofs.YtkkfkmoikcmhoaaGreat.Inf
open Go.RowKit Go.Shelf Oct Bit Hf
set_option maxRecDepth 100000
theorem Y9h (c : Nat) (hc : c ≤ 1000) : bits .and .u64 (c : Int) 4294967295 = (c : Int) := by
 rw [show (4294967295 : Int) = ((4294967295 : Nat) : Int) from rfl, u64_and_nat c 4294967295 (by omega) (by omega)]
 congr 1
 rw [show (4294967295 : Nat) = 2 ^ 32 - 1 from rfl, Nat.and_two_pow_sub_one_eq_mod]
 omega
theorem Y89 (c : Nat) (w : World) (hc : c ≤ 1000) :
  Calls Tryz.prog 153 #[.int .u64 1, .int .u64 (c : Int)] w fun e w' => e = .returned (.tuple #[.int .u64 0, .int .u64 (c : Int)]) ∧ w = w' := by
 have h1 : bits .and .u64 1 4294967295 = 1 := by decide
 have h0 : bits .and .u64 0 4294967295 = 0 := by decide
 have h2 := Y9h c hc
 have h3 : (c : Int) / 4294967296 = 0 := by omega
 go_enter Tryz.func153, Tryz.ntmps153
 go_wp2
 go_ret2
 exact ⟨rfl, rfl⟩
theorem Yd8 (c : Nat) (w : World) (hc : c ≤ 1000) :
  Calls Tryz.prog 133 #[.int .u64 1, .int .u64 (c : Int)] w fun e w' => e = .returned (.tuple #[.int .u64 0, .int .u64 (c : Int)]) ∧ w = w' := by
 go_enter Tryz.func133, Tryz.ntmps133
 go_wp2_with fail
 refine (Y89 _ _ hc).mono ?_
 rintro e w' ⟨rfl, rfl⟩
 go_wp2_with fail
 go_ret2
 exact ⟨rfl, rfl⟩
theorem Y48 {P : Program} {ops : Array Oper} {o : Oper} {a : Act} {w : World} {K : Act → World → Prop} {Q : Exit → Act → World → Prop} {E : Prop}
  (hg : o.guard = none) (d x : Operand) (dT sT : TypeId) (hop : o.op = Op.call { callee := Callee.builtin Builtin.copy, args := #[d, x], argTypes := #[dT, sT] })
  (v u : Value) (hd : a.eval d = v) (hx : a.eval x = u) {v' : Value} {w' : World} (hr : (Builtin.copy_ #[dT, sT] o.type #[v, u]).run P w = .ok v' w') (hK : K (a.put o.dst v') w') :
  if Region.wanted o (yielded ops a.tmps) = true then Oper.wp P o a w K Q else E := by
 have hw : Region.wanted o (yielded ops a.tmps) = true := by simp [Region.wanted, hg]
 rw [if_pos hw]
 unfold Oper.wp execOp
 simp only [hop, resolve, invoke, builtin, Sem.run_bind, Sem.run_pure, Result.andThen_ok, List.map_toArray, List.map_cons, List.map_nil, hd, hx, hr]
 exact hK
theorem Y35 {P : Program} {w : World} {ops : Array Oper} {rest : List Oper} {o : Oper} {a : Act} {Q : Exit → Act → World → Prop}
  (hg : o.guard = none) (d x : Operand) (dT sT : TypeId) (hop : o.op = Op.call { callee := Callee.builtin Builtin.copy, args := #[d, x], argTypes := #[dT, sT] })
  (v u : Value) (hd : a.eval d = v) (hx : a.eval x = u) {v' : Value} {w' : World} (hr : (Builtin.copy_ #[dT, sT] o.type #[v, u]).run P w = .ok v' w') (hK : wpList P ops Q rest (a.put o.dst v') w') : wpList P ops Q (o :: rest) a w := by
 refine wpList_plain hg fun K hK' => ?_
 unfold Oper.wp execOp
 simp only [hop, resolve, invoke, builtin, Sem.run_bind, Sem.run_pure, Result.andThen_ok, List.map_toArray, List.map_cons, List.map_nil, hd, hx, hr]
 exact hK' _ _ hK
theorem Y4h (z : Value) (n : Nat) : (madeCells #[z] n).toList = List.replicate n z := by
 simp [madeCells]
 apply List.ext_getElem <;> simp [Nat.mod_one]
def Y45 (w : World) (n : Nat) (z : Int) (k : Nat) (wr : World) : Prop :=
 Below w.heap.size w wr ∧ w.heap.size < wr.heap.size ∧ ∀ j, j < n → wr.cell? ⟨w.heap.size, j, none⟩ = some (.int .i64 (if j < k then z else 0)) ∧ wr.frozen? ⟨w.heap.size, j, none⟩ = false
theorem Y45.drew {w wr : World} {n : Nat} {z : Int} {k : Nat} (h : Y45 w n z k wr) : Y45 w n z k wr.drew := ⟨h.1.trans ((show Drawn wr wr.drew from ⟨1, rfl⟩).below _), h.2⟩
theorem Y2e (b : Nat) : ∀ (vs : List Value) (o : Nat) (w : World), (w.setCells b o vs).heap.size = w.heap.size
 | [], _, _ => rfl
 | v :: r, o, w => by rw [World.setCells, Y2e b r]; simp [World.setCell]
theorem Y45.copy {w wr : World} {n : Nat} {z : Int} {k m : Nat} (h : Y45 w n z k wr) (hkm : k + m ≤ n) : Y45 w n z (k + m) (wr.setCells w.heap.size k (List.replicate m (.int .i64 z))) := by
 have hin := World.cell?_setCells_in w.heap.size (List.replicate m (Value.int .i64 z)) k wr (fun j hj => by rw [List.length_replicate] at hj; rw [(h.2.2 (k + j) (by omega)).1]; rfl)
 have hout := World.cell?_setCells_out w.heap.size (List.replicate m (Value.int .i64 z)) k wr
 refine ⟨h.1.trans (Lib.below_setCells_w (Nat.le_refl _) _ _ _), by rw [Y2e]; exact h.2.1, fun j hj => ⟨?_, ?_⟩⟩
 ·by_cases h1 : k ≤ j ∧ j < k + m
  ·obtain ⟨d, rfl⟩ : ∃ d, j = k + d := ⟨j - k, by omega⟩
   rw [hin d (by rw [List.length_replicate]; omega), if_pos h1.2]
   simp
  ·rw [hout ⟨w.heap.size, j, none⟩ (fun _ _ => by rw [List.length_replicate]; show j < _ ∨ _ ≤ j; omega), (h.2.2 j hj).1]
   by_cases h2 : j < k
   ·rw [if_pos h2, if_pos (by omega)]
   ·rw [if_neg h2, if_neg (by omega)]
 ·rw [World.frozen?_setCells]
  exact (h.2.2 j hj).2
theorem Y7o : (Tryz.prog.info? 3).map (·.size) = some 1 := by kernel_rfl
theorem Y7i (w wr : World) (n k l1 c1 l2 c2 m ty : Nat) (z : Int) (a : Addr) (h : Y45 w n z k wr) (hm : m = min l2 l1) (hkm : k + m ≤ n) (hs : ∀ j, j < m → wr.cell? (a.add j) = some (.int .i64 z)) :
  (Builtin.copy_ #[74, 74] ty #[.slice (some ⟨w.heap.size, k, none⟩) l1 c1, .slice (some a) l2 c2]).run Tryz.prog wr = .ok (.int .i64 (m : Int)) (wr.setCells w.heap.size k (List.replicate m (.int .i64 z))) := by
 have hr := run_copy_cells (P := Tryz.prog) wr 74 74 ty 3 w.heap.size k l1 c1 a l2 c2 (List.replicate m (Value.int .i64 z)) Tryz.underlying74 Y7o (by rw [List.length_replicate]; exact hm)
  (fun j u hj => by
   rw [List.getElem?_replicate] at hj
   split at hj
   ·injection hj with hj
    subst hj
    exact hs j (by assumption)
   ·cases hj)
  (fun j hj => by rw [List.length_replicate] at hj; rw [(h.2.2 (k + j) (by omega)).1]; rfl)
  (fun j hj => by rw [List.length_replicate] at hj; exact (h.2.2 (k + j) (by omega)).2)
  (fun u hu => by rw [List.eq_of_mem_replicate hu]; rfl)
 rw [List.length_replicate] at hr
 exact hr
def RepI (w : World) (n : Nat) (z : Int) (e : Ending) (w' : World) : Prop :=
 e = .returned (.slice (some ⟨w.heap.size, 0, none⟩) n n) ∧ Below w.heap.size w w' ∧ VRow w' w'.heap.size (some ⟨w.heap.size, 0, none⟩) (ints (List.replicate n z))
set_option maxHeartbeats 4000000 in
theorem Ytx (p : Option Addr) (cap : Nat) (z : Int) (n : Nat) (w : World) (hr : VRow w w.heap.size p (ints [z])) (h1 : 1 ≤ n) (hn : n ≤ 1000) :
  Calls Tryz.prog 103 #[.slice p 1 cap, .int .i64 (n : Int)] w (RepI w n z) := by
 obtain ⟨i0, hi, hz0, hz1, hz2⟩ := info_parts Tryz.infoInt
 obtain ⟨b, off, rfl, hb⟩ := hr.addr (by simp [ints])
 have c0 := hr.int 0 (by simp)
 have HC0 := Lib.hid c0
 have HBL := Lib.hid hb
 clear c0 hr hb
 have i1 : (0 : Int) ≤ (n : Int) := by omega
 have hw : IntKind.u64.wrap (n : Int) = (n : Int) := by rw [IntKind.wrap_u64]; omega
 go_enter Tryz.func103, Tryz.ntmps103
 go_wp2_with fail
 refine (Yd8 n _ hn).mono ?_
 rintro e w' ⟨rfl, rfl⟩
 have q2 : decide ((n : Int) > 9223372036854775807) = false := by simp; omega
 go_wp2_with (at_make; refine wpList_make_full _ rfl _ _ 74 rfl w.heap.size 3 i0 (.int .i64 0) 1 Tryz.underlying74 hi hz0 hz1 .i64 .i64 (n : Int) (n : Int) n rfl rfl rfl rfl ?c2 ?c3 ?c4 ?_)
 case c2 => rw [hz2]; omega
 case c3 => unfold maxLen; omega
 case c4 => omega
 intro w1 hown hgrow
 have hb1 : Below w.heap.size w w1 := (Below.refl _ _).grown hgrow (Nat.le_refl _) (fun k hk => by cases hk)
 have hblk := Y2j hown
 have hlt : w.heap.size < w1.heap.size := by
  rcases Nat.lt_or_ge w.heap.size w1.heap.size with h | h
  ·exact h
  ·rw [Array.getElem?_eq_none h] at hblk; cases hblk
 have hst0 : Y45 w n z 0 w1 := ⟨hb1, hlt, fun j hj => ⟨by
  have h0 : (madeCells #[Value.int .i64 0] n).toList[j]? = some (.int .i64 0) := by
   rw [Y4h, List.getElem?_replicate, if_pos hj]
  have := hown.cells (g := w.heap.size) rfl j _ h0
  rw [Y08, Nat.zero_add] at this
  rw [if_neg (by omega)]
  exact this, by simp [World.frozen?, hblk]⟩⟩
 have hc1 := (hb1.cell (p := ⟨b, off + 0, none⟩) HBL.out).trans HC0.out
 have hr1 := Y7i w w1 n 0 n n 1 cap 1 3 z ⟨b, off, none⟩ hst0 (by omega) (by omega) (fun j hj => by
  have : j = 0 := by omega
  subst this
  rw [Y08]
  exact hc1)
 have hst1 := hst0.copy (m := 1) (by omega)
 have HST := Lib.hid hst1
 clear hown hgrow hb1 hblk hlt hst0 hc1 hst1
 go_wp2_with (at_builtin; refine Y35 rfl _ _ 74 74 rfl _ _ rfl rfl hr1 ?_)
 go_wp2_with fail
 clear hr1
 go_loopw [8] (fun v wr => ∃ k : Nat, 1 ≤ k ∧ k ≤ n ∧ v = .int .i64 (k : Int) ∧ Hid (Y45 w n z k wr)) (fun v _ => n - (intOf v).toNat)
 case atStart => exact ⟨1, by omega, by omega, rfl, HST⟩
 case round =>
  obtain ⟨k, hk1, hkn, rfl, HB⟩ := hrel
  by_cases hlt : k < n
  ·have ql : decide ((k : Int) < (n : Int)) = true := by simpa using hlt
   obtain ⟨m, hm⟩ : ∃ m, m = min k (n - k) := ⟨_, rfl⟩
   have hm1 : 1 ≤ m := by omega
   have hm2 : k + m ≤ n := by omega
   have hr2 := Y7i w wr.drew n k (n - k) (n - k) k n m 3 z ⟨w.heap.size, 0, none⟩ HB.out.drew hm hm2 (fun j hj => by
    rw [Y08, Nat.zero_add, (HB.out.drew.2.2 j (by omega)).1, if_pos (by omega)])
   have HB2 := Lib.hid (HB.out.drew.copy (m := m) hm2)
   have hck : ¬ n = k := by omega
   have hwp : IntKind.i64.wrap ((k : Int) + (m : Int)) = (k : Int) + (m : Int) := IntWalk.i64_in _ (by omega)
   clear HB hm HST
   go_wp2_with fail
   go_region_law (refine Y48 rfl _ _ 74 74 rfl (.slice (some ⟨w.heap.size, k, none⟩) (n - k) (n - k)) (.slice (some ⟨w.heap.size, 0, none⟩) k n) (by simp [Act.eval, Act.put]) (by simp [Act.eval, Act.put]) hr2 ?_)
   simp only [Act.put, List.setIfInBounds_toArray, List.set_cons_zero, List.set_cons_succ, List.getElem_toArray, List.getElem_cons_zero, List.getElem_cons_succ]
   go_wp2_with fail
   go_roundw
   case rel => exact ⟨k + m, by omega, hm2, by go_num, HB2⟩
   case measure => simp [intOf]; omega
  ·have : k = n := by omega
   subst this
   have ql : decide ((k : Int) < (k : Int)) = false := by simp
   go_wp2_with fail
   go_ret
   refine ⟨rfl, HB.out.1, fun _ => ⟨w.heap.size, 0, rfl, HB.out.2.1, fun i hi => ?_⟩⟩
   have hi' : i < k := by simpa [ints] using hi
   rw [Nat.zero_add, (HB.out.2.2 i hi').1, if_pos hi']
   simp [ints]
end Go.Proofs.YtkkfkmoikcmhoaaGreat.Inf
namespace Go.Proofs.YtkkfkmoikcmhoaaGreat.Inf
open Go.RowKit Go.Shelf Oct Bit Hf
set_option maxRecDepth 100000
def renI : Ren := ⟨fun n => if n = 4 then 132 else n, fun n => if n = 22 then 74 else if n = 25 then 3 else if n = 3 then 3 else if n = 4 then 4 else if n = 9 then 9 else if n = 20 then 20 else n, fun n => n⟩
theorem Yz7 : Lays8.n4 Tryz.prog renI where
 mixed := by kernel_rfl
 f4 := ⟨ "slices.Grow[[]int,int]", by kernel_rfl, by kernel_rfl⟩
 t0 := by kernel_rfl
 a0 _ := by kernel_rfl
 z0 _ := by kernel_rfl
 v0 _ := by kernel_rfl
 t3 := by kernel_rfl
 a3 _ := by kernel_rfl
 z3 _ := by kernel_rfl
 v3 _ := by kernel_rfl
 t4 := by kernel_rfl
 a4 _ := by kernel_rfl
 z4 _ := by kernel_rfl
 v4 _ := by kernel_rfl
 t9 := by kernel_rfl
 a9 _ := by kernel_rfl
 z9 _ := by kernel_rfl
 v9 _ := by kernel_rfl
 t20 := by kernel_rfl
 a20 _ := by kernel_rfl
 z20 _ := by kernel_rfl
 v20 _ := by kernel_rfl
 t22 := by kernel_rfl
 a22 _ := by kernel_rfl
 z22 _ := by kernel_rfl
 v22 _ := by kernel_rfl
def IOwn (w : World) (base : Nat) (v : Value) (zs : List Int) : Prop := w.ownsRow base 3 1 v zs.length (ints zs)
def Yyt (w : World) (e : Ending) (w' : World) : Prop := ∃ v, e = .returned v ∧ IOwn w' w.heap.size v [] ∧ Below w.heap.size w w'
theorem Yot (n : Nat) (w : World) (hn : n ≤ 1000000) : Calls Tryz.prog 132 #[.slice none 0 0, .int .i64 (n : Int)] w (Yyt w) := by
 obtain ⟨i0, hi, hz0, hz1, hz2⟩ := info_parts Tryz.infoInt
 have e : renI.f 4 = 132 := rfl
 rcases Nat.eq_zero_or_pos n with h0 | h0
 ·have h := Any8.slices_Grow_room Yz7 none 0 0 n w (by omega) (by omega) (by omega) (by omega)
  rw [e] at h
  refine h.mono ?_
  rintro e w' ⟨rfl, rfl⟩
  exact ⟨_, rfl, ⟨rfl, .inl ⟨rfl, rfl⟩⟩, Below.refl _ _⟩
 ·have h := Any8.slices_Grow_grow Yz7 i0 _ hi hz0 (by omega) none 0 0 n [] w (by omega) (by omega) (by rw [hz2]; omega) (by omega) (by simp) (fun _ => rfl) (fun a h => by cases h)
  rw [e] at h
  refine h.mono ?_
  rintro e w' ⟨rfl, rfl⟩
  refine ⟨_, rfl, ?_, ((Below.refl _ w).drew).alloc (Nat.le_refl _) _⟩
  have hm := World.ownsRow_made (size := 1) (w := w.drew) (base := w.heap.size) (e := 3) (([] : List Value).toArray ++ Builtin.zeroCells (Value.int .i64 0).cells (0 + n - 0) ++ Builtin.zeroCells (Value.int .i64 0).cells (grownCap w (0 + n) 0 3 - (0 + n))) (grownCap w (0 + n) 0 3) (Nat.le_refl _) (grownCap_le_maxLen _ _ _ _ (by unfold maxLen; omega)) ?_
  ·exact hm
  ·have hge := grownCap_ge w (0 + n) 0 3
   rw [Nat.zero_add] at hge
   simp [Builtin.zeroCells, Value.cells]
   omega
def Yyq (w : World) (zs : List Int) (e : Ending) (w' : World) : Prop := ∃ v, e = .returned v ∧ IOwn w' w.heap.size v zs ∧ Below w.heap.size w w'
def Yn4 (w : World) (sb : Nat) (R : List (List Int)) : Prop := ∀ k (h : k < R.length), ∃ p cc, w.cell? ⟨sb, k, none⟩ = some (.slice p R[k].length cc) ∧ VRow w w.heap.size p (ints R[k]) ∧ (p = none → cc = 0) ∧ R[k].length ≤ 1000
theorem Yb3 (R : List (List Int)) (k : Nat) (h : k < R.length) : (R.take (k + 1)).flatten = (R.take k).flatten ++ R[k] := by
 rw [List.take_succ_eq_append_getElem h, List.flatten_append]
 simp
theorem Yst (R : List (List Int)) (hl : R.length ≤ 10) (h : ∀ k (h : k < R.length), R[k].length ≤ 1000) (k : Nat) (hk : k ≤ R.length) : (R.take k).flatten.length ≤ 1000 * k := by
 induction k with
 | zero => simp
 | succ k ih =>
  rw [Yb3 R k (by omega), List.length_append]
  have := ih (by omega)
  have := h k (by omega)
  omega
set_option maxHeartbeats 4000000 in
theorem Y9w (sb c : Nat) (R : List (List Int)) (w : World) (hsb : sb < w.heap.size) (hR : Yn4 w sb R) (hl : R.length ≤ 10) (h1 : 1 ≤ R.length) :
  Calls Tryz.prog 102 #[.slice (some ⟨sb, 0, none⟩) R.length c] w (Yyq w R.flatten) := by
 obtain ⟨i0, hi, hz0, hz1, hz2⟩ := info_parts Tryz.infoInt
 have HR := Lib.hid hR
 have HFL := Lib.hid (Yst R hl (fun k h => by obtain ⟨_, _, _, _, _, h5⟩ := hR k h; exact h5))
 obtain ⟨N, hN⟩ : ∃ N, N = R.length := ⟨_, rfl⟩
 rw [← hN]
 have hN10 : N ≤ 10 := by omega
 have HN := Lib.hid hN
 clear hR hl hN h1
 go_enter Tryz.func102, Tryz.ntmps102
 go_wp2
 go_loopg [3, 11] N (fun kx s3 s11 wr => ∃ (k s : Nat), s11 = .int .i64 (k : Int) ∧ s3 = .int .i64 (s : Int) ∧ k ≤ N ∧ N - k ≤ kx ∧ Hid (s = (R.take k).flatten.length) ∧ s ≤ 10000 ∧ w = wr)
 case atStart => exact ⟨0, 0, rfl, rfl, by omega, by omega, Lib.hid (by simp), by omega, rfl⟩
 case round =>
  obtain ⟨k, s, rfl, rfl, hk, hkx, HS, hs, rfl⟩ := hrel
  by_cases hlt : k < N
  ·have hkz : (k : Int) < (N : Int) := by omega
   have hk0 : (0 : Int) ≤ (k : Int) := by omega
   have hkR : k < R.length := by rw [← HN.out]; exact hlt
   obtain ⟨p, cc, hc, hv0, hp0, hn⟩ := HR.out k hkR
   clear hv0 hp0
   have hss : s + R[k].length = (R.take (k + 1)).flatten.length := by rw [Yb3 R k hkR, List.length_append, ← HS.out]
   have HSS := Lib.hid hss
   have hs2 : s + R[k].length ≤ 10000 := by
    rw [hss]
    have := HFL.out (k + 1) (by omega)
    omega
   generalize R[k].length = n at hc hn HSS hs2
   have ws : IntKind.i64.wrap ((s : Int) + (n : Int)) = ((s + n : Nat) : Int) := by rw [IntKind.wrap_i64]; omega
   obtain ⟨sn, hsn⟩ : ∃ sn, sn = s + n := ⟨_, rfl⟩
   rw [← hsn] at ws HSS hs2
   have hneg : ¬ (sn : Int) < 0 := by omega
   clear hss hsn hkR
   go_wp2
   go_roundg (N - (k + 1))
   case measure => omega
   case rel => exact ⟨k + 1, sn, by go_num, rfl, by omega, Nat.le_refl _, HSS, hs2, rfl⟩
  ·have hkz : ¬ (k : Int) < (N : Int) := by omega
   have hk2 : k = N := by omega
   have hg := Yot s w (by omega)
   go_wp2_with (go_at_call 132; refine hg.mono ?_; rintro e w' ⟨v, rfl, ho, hb⟩)
   go_loopg [6, 27] N (fun kx s6 s27 wr => ∃ (k : Nat), s27 = .int .i64 (k : Int) ∧ k ≤ N ∧ N - k ≤ kx ∧ Hid (IOwn wr w.heap.size s6 (R.take k).flatten ∧ Below w.heap.size w wr))
   case atStart => exact ⟨0, rfl, by omega, by omega, Lib.hid ⟨by simpa using ho, hb⟩⟩
   case round =>
    clear ho hb
    obtain ⟨k', rfl, hk', hkx', HT⟩ := hrel
    by_cases hlt' : k' < N
    ·have hkz' : (k' : Int) < (N : Int) := by omega
     have hk0' : (0 : Int) ≤ (k' : Int) := by omega
     have hkR : k' < R.length := by rw [← HN.out]; exact hlt'
     obtain ⟨p, cc, hc, hv, hp0, hn⟩ := HR.out k' hkR
     have hcw : wr.cell? ⟨sb, k', none⟩ = some (Value.slice p R[k'].length cc) := (HT.out.2.cell (p := ⟨sb, k', none⟩) hsb).trans hc
     have HV := Lib.hid ((hv.below HT.out.2 (Nat.le_refl _)).mono HT.out.2.size)
     have HP0 := Lib.hid hp0
     have hfl := HFL.out k' (by omega)
     have HTF := Lib.hid (Yb3 R k' hkR)
     obtain ⟨z, hz⟩ : ∃ z, z = R[k'] := ⟨_, rfl⟩
     rw [← hz] at hcw HV hn HTF
     clear hc hv hp0 hz
     go_wp2_with (at_builtin; refine Y10 Tryz.underlying74 hi hz0 hz1 hz2 rfl (by decide) rfl _ _ rfl w.heap.size _ (R.take k').flatten.length (ints (R.take k').flatten) rfl HT.out.1 p z.length cc (ints z) rfl HV.out (Y06 _) HP0.out Y96 (by omega) HT.out.2.size ?_; intro v2 w2 ho2 hg2 hb2)
     have HX : Hid (IOwn w2 w.heap.size v2 (R.take (k' + 1)).flatten ∧ Below w.heap.size w w2) := Lib.hid ⟨by
      unfold IOwn
      rw [HTF.out, List.length_append, Ya9]
      exact ho2, HT.out.2.trans hb2⟩
     clear ho2 hg2 hb2
     go_roundg (N - (k' + 1))
     case measure => omega
     case rel => exact ⟨k' + 1, by go_num, by omega, Nat.le_refl _, HX⟩
    ·have hkz' : ¬ (k' : Int) < (N : Int) := by omega
     have hk2' : k' = N := by omega
     go_wp2
     go_ret
     refine ⟨_, rfl, ?_⟩
     have := HT.out
     rwa [hk2', HN.out, List.take_length] at this
end Go.Proofs.YtkkfkmoikcmhoaaGreat.Inf

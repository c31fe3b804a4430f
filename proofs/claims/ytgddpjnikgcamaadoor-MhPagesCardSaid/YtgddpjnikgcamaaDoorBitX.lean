
/- The contract of a writer's add: the bits of a number behind those that were written. -/
import Derived.Test.YtgddpjnikgcamaaDoorBitW
import Derived.Deep.RegionHeld3
namespace Go.Proofs.YtgddpjnikgcamaaDoor.Bit
open Go.RowKit Go.Proofs.YtgddpjnikgcamaaDoor.Oct
set_option linter.unusedVariables false
set_option maxRecDepth 20000
set_option linter.unusedSimpArgs false

/-- a writer behind calls on it: but for its own blocks nothing has turned -/
def WrT (w : World) (g : Nat) (v : Value) (xs : List UInt8) (n : Nat) (low : Bool) (w' : World) : Prop :=
  ∃ v', Wr w' g v' xs n low ∧ Only (Mine g v) w w' ∧ ∀ k, v'.ownBlock = some k → v.ownBlock = some k ∨ w.heap.size ≤ k
theorem WrT.refl {w : World} {g : Nat} {v : Value} {xs : List UInt8} {n : Nat} {low : Bool} (h : Wr w g v xs n low) : WrT w g v xs n low w := ⟨v, h, Only.refl _ _, fun _ h => .inl h⟩
theorem WrT.more {w w1 w2 : World} {g : Nat} {v v1 : Value} {ys : List UInt8} {m : Nat} {low : Bool} (ho : Only (Mine g v) w w1) (hd : ∀ k, v1.ownBlock = some k → v.ownBlock = some k ∨ w.heap.size ≤ k)
    (h : WrT w1 g v1 ys m low w2) : WrT w g v ys m low w2 := by
  obtain ⟨v2, hW, ho2, hd2⟩ := h
  have hz := ho.2.2.2.1
  refine ⟨v2, hW, ⟨ho2.1.trans ho.1, ho2.2.1.trans ho.2.1, ho2.2.2.1.trans ho.2.2.1, Nat.le_trans hz ho2.2.2.2.1, fun k hk hn => ?_⟩, fun k hk => ?_⟩
  · refine (ho2.2.2.2.2 k (by omega) (fun hm => hn ?_)).trans (ho.2.2.2.2 k hk hn)
    rcases hm with h | h
    · exact .inl h
    · rcases hd k h with h | h
      · exact .inr h
      · omega
  · rcases hd2 k hk with h | h
    · exact hd k h
    · exact .inr (by omega)
theorem FillP.wrT {w : World} {g : Nat} {v : Value} {ys : List UInt8} {n : Nat} {low : Bool} {e : Ending} {w' : World} (h : FillP w g v ys n low e w') : e = .returned (.tuple #[]) ∧ WrT w g v ys n low w' := h
def AddP (w : World) (g : Nat) (v : Value) (l : List Bool) (low : Bool) (e : Ending) (w' : World) : Prop := e = .returned (.tuple #[]) ∧ WrT w g v (packB low l) l.length low w'
theorem gsh_lt (low : Bool) (used n : Nat) (hu : used < 8) (hn : n ≤ 32) : gsh low used n (8 * cnt used n) ≤ 40 := by
  have : cnt used n ≤ 5 := by unfold cnt; omega
  cases low <;> simp [gsh] <;> omega
theorem grp_val (low : Bool) (used n v : Nat) (hv : v < 2 ^ n) (hn : n ≤ 32) (hu : used < 8) :
    IntKind.u64.wrap ((v : Int) * 2 ^ min (gsh low used n (8 * cnt used n)) 64) = ((grpN low used n v : Nat) : Int) := by
  have h1 := gsh_lt low used n hu hn
  have h2 := grpN_lt low used n v hv hn hu
  rw [Nat.min_eq_left (by omega)]
  have e : ((v : Int) * 2 ^ gsh low used n (8 * cnt used n)) = ((grpN low used n v : Nat) : Int) := by unfold grpN; push_cast; rfl
  rw [e, IntWalk.u64_in _ (by omega)]
theorem addC_val (low : Bool) (used n v i : Nat) (hn : n ≤ 32) (hu : used < 8) (hi : i < cnt used n) :
    ((grpN low used n v : Nat) : Int) / 2 ^ min (gsh low (8 * i) 8 (8 * cnt used n)) 64 % 256 = (((addC low used n v i).toNat : Nat) : Int) := by
  have h1 : gsh low (8 * i) 8 (8 * cnt used n) ≤ 40 := by
    have : cnt used n ≤ 5 := by unfold cnt; omega
    cases low <;> simp [gsh] <;> omega
  rw [Nat.min_eq_left (by omega)]
  unfold addC
  generalize grpN low used n v = G
  generalize gsh low (8 * i) 8 (8 * cnt used n) = s
  have hb : G / 2 ^ s % 256 < 256 := Nat.mod_lt _ (by omega)
  have e2 : ((G : Int) / 2 ^ s) = ((G / 2 ^ s : Nat) : Int) := by push_cast; rfl
  rw [UInt8.toNat_ofNat', Nat.mod_eq_of_lt hb, e2]
  omega
/-- one step of add, whichever byte it is -/
theorem fill_step (w : World) (g : Nat) (v : Value) (l : List Bool) (low : Bool) (m n j : Nat) (hv : m < 2 ^ n) (hj : j < cnt (l.length % 8) n) (hl : l.length ≤ 2000000) (hn : n ≤ 32)
    (hW : Wr w g v (fillF low l (wordE low m n) j) l.length low) :
    Calls Tryd.prog 106 #[.pointer (some ⟨g, 0, none⟩), .int .i64 ((l.length / 8 + j : Nat) : Int), .int .u8 (((addC low (l.length % 8) n m j).toNat : Nat) : Int)] w (FillP w g v (fillF low l (wordE low m n) (j + 1)) l.length low) := by
  have hwl := wordE_length low m n
  by_cases hc : 1 ≤ j ∨ l.length % 8 = 0
  · have hlen := fillF_len low l (wordE low m n) n j hwl (by omega) hc
    have h1 := fill_new w g v _ l.length low (addC low (l.length % 8) n m j) hW (by rw [hlen]; unfold cnt at hj; omega)
    rw [hlen, fillF_new low l m n j hv hj hc] at h1
    exact h1
  · have hj0 : j = 0 := by omega
    subst hj0
    have hlen := packB_length low l
    rw [fillF_zero] at hW
    have hq : l.length / 8 < (packB low l).length := by rw [hlen]; omega
    have h1 := fill_or w g v _ l.length low (l.length / 8) (addC low (l.length % 8) n m 0) hW (by rw [hlen]; omega) hq
    rw [fillF_or low l m n hv (by omega) hq] at h1
    exact h1
set_option maxHeartbeats 1000000 in
theorem add_any (w : World) (g : Nat) (v : Value) (l : List Bool) (low : Bool) (m n : Nat) (hv : m < 2 ^ n) (hn : n ≤ 32) (hl : l.length ≤ 2000000) (hW : Wr w g v (packB low l) l.length low) :
    Calls Tryd.prog 100 #[.pointer (some ⟨g, 0, none⟩), .int .u32 (m : Int), .int .i64 (n : Int)] w (AddP w g v (l ++ wordE low m n) low) := by
  have c1 := hW.c1
  have c2 := hW.c2
  have hm32 : m < 4294967296 := by
    have h1 : (2 : Nat) ^ n ≤ 2 ^ 32 := Nat.pow_le_pow_right (by omega) hn
    omega
  have hgv := grp_val low (l.length % 8) n m hv hn (by omega)
  obtain ⟨c, hc⟩ : ∃ c, c = cnt (l.length % 8) n := ⟨_, rfl⟩
  have hc5 : c ≤ 5 := by rw [hc]; unfold cnt; omega
  have HGV := Lib.hid hgv
  have HC := Lib.hid hc
  have HW := Lib.hid hW
  clear hgv hc hW
  go_enter Tryd.func100, Tryd.ntmps100
  go_wp2_with fail
  have e2 : ((l.length : Int) % 8) + (n : Int) = ((l.length % 8 + n : Nat) : Int) := by omega
  rw [e2]
  refine (bytesFor_any _ _ (by omega)).mono ?_
  rintro e w' ⟨rfl, rfl⟩
  rw [show (l.length % 8 + n + 7) / 8 = c from HC.out.symm]
  clear e2
  have e3 : (l.length : Int) % 8 = ((l.length % 8 : Nat) : Int) := by omega
  have E3 := Lib.hid e3
  clear e3
  go_wp2_with fail
  rw [E3.out]
  refine (groupShift_any _ _ _ _ (by omega) hn).mono ?_
  rintro e w' ⟨rfl, rfl⟩
  go_wp2_with fail
  rw [HGV.out]
  go_loopw [9, 30] (fun u i wr => ∃ j : Nat, j ≤ c ∧ i = .int .i64 (j : Int) ∧ WrT w g v (fillF low l (wordE low m n) j) l.length low wr) (fun _ i _ => c - (intOf i).toNat)
  case atStart => exact ⟨0, by omega, rfl, WrT.refl HW.out⟩
  case round =>
    obtain ⟨j, hj, rfl, hT⟩ := hrel
    obtain ⟨v1, hW1, ho1, hd1⟩ := hT
    have k1 := hW1.c1
    have k2 := hW1.c2
    by_cases hlt : j < c
    · have hav := addC_val low (l.length % 8) n m j hn (by omega) (by rw [← HC.out]; exact hlt)
      rw [← HC.out] at hav
      have s1 : IntKind.i64.wrap ((l.length : Int) / 8 + (j : Int)) = (l.length : Int) / 8 + (j : Int) := IntWalk.i64_in _ (by omega)
      have s2 : ((l.length : Int) / 8 + (j : Int)) = ((l.length / 8 + j : Nat) : Int) := by omega
      have s0 : IntKind.i64.wrap ((l.length : Int) / 8) = (l.length : Int) / 8 := IntWalk.i64_in _ (by omega)
      have S0 := Lib.hid s0
      have S1 := Lib.hid s1
      clear s0 s1
      have S2 := Lib.hid s2
      have HAV := Lib.hid hav
      clear s2 hav
      have hfs := fill_step wr.drew g v1 l low m n j hv (by rw [← HC.out]; exact hlt) hl hn (by exact hW1)
      have HFS := Lib.hid hfs
      clear hfs
      go_wp2_with fail
      have kd1 : wr.drew.cell? ⟨g, 1, none⟩ = some (.int .i64 (l.length : Int)) := k1
      have kd2 : wr.drew.cell? ⟨g, 2, none⟩ = some (.bool low) := k2
      refine wp_region_held_drew (S := (fun w' => w'.cell? ⟨g, 1, none⟩ = some (.int .i64 (l.length : Int)) ∧ w'.cell? ⟨g, 2, none⟩ = some (.bool low))) (by kernel_rfl) ⟨kd1, kd2⟩ (fun hHeld => ?_)
      refine wpAnyH_take (i := 0) (v := ?v1) rfl (by kernel_rfl) (by kernel_rfl) (by kernel_rfl) (fun _ _ _ h => h) (Or.inl ⟨by rfl, fun w hSw => ?y1⟩) hHeld ?r1
      case y1 => (try dsimp only at hSw); first | (go_simp; done) | (go_simp; with_reducible rfl)
      try simp only [Act.put, List.setIfInBounds_toArray, List.set_cons_zero, List.set_cons_succ, List.getElem_toArray, List.getElem_cons_zero, List.getElem_cons_succ]
      refine wpAnyH_take (i := 1) (v := ?v2) rfl (by kernel_rfl) (by kernel_rfl) (by kernel_rfl) (fun _ _ _ h => h) (Or.inl ⟨by rfl, fun w hSw => ?y2⟩) hHeld ?r2
      case y2 => (try dsimp only at hSw); first | (go_simp; done) | (go_simp; with_reducible rfl)
      try simp only [Act.put, List.setIfInBounds_toArray, List.set_cons_zero, List.set_cons_succ, List.getElem_toArray, List.getElem_cons_zero, List.getElem_cons_succ]
      refine wpAnyH_take (i := 2) (v := ?v3) rfl (by kernel_rfl) (by kernel_rfl) (by kernel_rfl) (fun _ _ _ h => h) (Or.inl ⟨by rfl, fun w hSw => ?y3⟩) hHeld ?r3
      case y3 => (try dsimp only at hSw); first | (go_simp; done) | (go_simp; with_reducible rfl)
      try simp only [Act.put, List.setIfInBounds_toArray, List.set_cons_zero, List.set_cons_succ, List.getElem_toArray, List.getElem_cons_zero, List.getElem_cons_succ]
      refine wpAnyH_take (i := 3) (v := ?v4) rfl (by kernel_rfl) (by kernel_rfl) (by kernel_rfl) (fun _ _ _ h => h) (Or.inl ⟨by rfl, fun w hSw => ?y4⟩) hHeld ?r4
      case y4 => (try dsimp only at hSw); first | (go_simp; done) | (go_simp; with_reducible rfl)
      try simp only [Act.put, List.setIfInBounds_toArray, List.set_cons_zero, List.set_cons_succ, List.getElem_toArray, List.getElem_cons_zero, List.getElem_cons_succ]
      refine wpAnyH_take (i := 4) (v := ?v5) rfl (by kernel_rfl) (by kernel_rfl) (by kernel_rfl) (fun _ _ _ h => h) (Or.inl ⟨by rfl, fun w hSw => ?y5⟩) hHeld ?r5
      case y5 => (try dsimp only at hSw); first | (go_simp; done) | (go_simp; with_reducible rfl)
      try simp only [Act.put, List.setIfInBounds_toArray, List.set_cons_zero, List.set_cons_succ, List.getElem_toArray, List.getElem_cons_zero, List.getElem_cons_succ]
      refine wpAnyH_take (i := 5) (v := ?v6) rfl (by kernel_rfl) (by kernel_rfl) (by kernel_rfl) (fun _ _ _ h => h) (Or.inl ⟨by rfl, fun w hSw => ?y6⟩) hHeld ?r6
      case y6 => (try dsimp only at hSw); first | (go_simp; done) | (go_simp; with_reducible rfl)
      try simp only [Act.put, List.setIfInBounds_toArray, List.set_cons_zero, List.set_cons_succ, List.getElem_toArray, List.getElem_cons_zero, List.getElem_cons_succ]
      refine wpAnyH_take (i := 6) (v := ?v7) rfl (by kernel_rfl) (by kernel_rfl) (by kernel_rfl) (fun _ _ _ h => h) (Or.inl ⟨by rfl, fun w hSw => ?y7⟩) hHeld ?r7
      case y7 => (try dsimp only at hSw); first | (go_simp; done) | (go_simp; with_reducible rfl)
      try simp only [Act.put, List.setIfInBounds_toArray, List.set_cons_zero, List.set_cons_succ, List.getElem_toArray, List.getElem_cons_zero, List.getElem_cons_succ]
      refine wpAnyH_take (i := 7) (v := ?v8) rfl (by kernel_rfl) (by kernel_rfl) (by kernel_rfl) (fun _ _ _ h => h) (Or.inl ⟨by rfl, fun w hSw => ?y8⟩) hHeld ?r8
      case y8 => (try dsimp only at hSw); first | (go_simp; done) | (go_simp; with_reducible rfl)
      try simp only [Act.put, List.setIfInBounds_toArray, List.set_cons_zero, List.set_cons_succ, List.getElem_toArray, List.getElem_cons_zero, List.getElem_cons_succ]
      refine wpAnyH_take (i := 8) (v := ?v9) rfl (by kernel_rfl) (by kernel_rfl) (by kernel_rfl) (fun _ _ _ h => h) (Or.inl ⟨by rfl, fun w hSw => ?y9⟩) hHeld ?r9
      case y9 => (try dsimp only at hSw); first | (go_simp; done) | (go_simp; with_reducible rfl)
      try simp only [Act.put, List.setIfInBounds_toArray, List.set_cons_zero, List.set_cons_succ, List.getElem_toArray, List.getElem_cons_zero, List.getElem_cons_succ]
      refine wpAnyH_take (i := 9) (v := ?v10) rfl (by kernel_rfl) (by kernel_rfl) (by kernel_rfl) (fun _ _ _ h => h) (Or.inl ⟨by rfl, fun w hSw => ?y10⟩) hHeld ?r10
      case y10 => (try dsimp only at hSw); first | (go_simp; done) | (go_simp; with_reducible rfl)
      try simp only [Act.put, List.setIfInBounds_toArray, List.set_cons_zero, List.set_cons_succ, List.getElem_toArray, List.getElem_cons_zero, List.getElem_cons_succ]
      refine wpAnyH_take (i := 10) (v := ?v11) rfl (by kernel_rfl) (by kernel_rfl) (by kernel_rfl) (fun _ _ _ h => h) (Or.inl ⟨by rfl, fun w hSw => ?y11⟩) hHeld ?r11
      case y11 => (try dsimp only at hSw); first | (go_simp; done) | (go_simp; with_reducible rfl)
      try simp only [Act.put, List.setIfInBounds_toArray, List.set_cons_zero, List.set_cons_succ, List.getElem_toArray, List.getElem_cons_zero, List.getElem_cons_succ]
      refine wpAnyH_take (i := 11) (v := ?v12) rfl (by kernel_rfl) (by kernel_rfl) (by kernel_rfl) (fun _ _ _ h => h) (Or.inl ⟨by rfl, fun w hSw => ?y12⟩) hHeld ?r12
      case y12 => (try dsimp only at hSw); first | (go_simp; done) | (go_simp; with_reducible rfl)
      try simp only [Act.put, List.setIfInBounds_toArray, List.set_cons_zero, List.set_cons_succ, List.getElem_toArray, List.getElem_cons_zero, List.getElem_cons_succ]
      refine wpAnyH_take (i := 12) (v := ?v13) rfl (by kernel_rfl) (by kernel_rfl) (by kernel_rfl) (fun _ _ _ h => h) (Or.inl ⟨by rfl, fun w hSw => ?y13⟩) hHeld ?r13
      case y13 => (try dsimp only at hSw); first | (go_simp; done) | (go_simp; with_reducible rfl)
      try simp only [Act.put, List.setIfInBounds_toArray, List.set_cons_zero, List.set_cons_succ, List.getElem_toArray, List.getElem_cons_zero, List.getElem_cons_succ]
      refine wpAnyH_take (i := 13) (v := ?v14) rfl (by kernel_rfl) (by kernel_rfl) (by kernel_rfl) (fun _ _ _ h => h) (Or.inl ⟨by rfl, fun w hSw => ?y14⟩) hHeld ?r14
      case y14 => (try dsimp only at hSw); first | (go_simp; done) | (go_simp; with_reducible rfl)
      try simp only [Act.put, List.setIfInBounds_toArray, List.set_cons_zero, List.set_cons_succ, List.getElem_toArray, List.getElem_cons_zero, List.getElem_cons_succ]
      refine wpAnyH_take (i := 14) (v := ?v15) rfl (by kernel_rfl) (by kernel_rfl) (by kernel_rfl) (fun _ _ _ h => h) (Or.inl ⟨by rfl, fun w hSw => ?y15⟩) hHeld ?r15
      case y15 => (try dsimp only at hSw); first | (go_simp; done) | (go_simp; with_reducible rfl)
      try simp only [Act.put, List.setIfInBounds_toArray, List.set_cons_zero, List.set_cons_succ, List.getElem_toArray, List.getElem_cons_zero, List.getElem_cons_succ]
      refine wpAnyH_ready (rs := [15]) (by kernel_rfl) (by simp) ?_
      refine AllReadyH.cons rfl (fun K hK => ?_) AllReadyH.nil
      go_simp
      refine (byteShift_any _ _ _ _ hlt hc5).mono ?_
      rintro e w' ⟨rfl, rfl⟩
      go_wp2_with fail
      refine hK.out _ _ hHeld (fun hHeld1 => ?_)
      clear hK K
      try simp only [Act.put, List.setIfInBounds_toArray, List.set_cons_zero, List.set_cons_succ, List.getElem_toArray, List.getElem_cons_zero, List.getElem_cons_succ]
      refine wpAnyH_take (i := 16) (v := ?v16) rfl (by kernel_rfl) (by kernel_rfl) (by kernel_rfl) (fun _ _ _ h => h) (Or.inl ⟨by rfl, fun w hSw => ?y16⟩) hHeld ?r16
      case y16 => (try dsimp only at hSw); first | (go_simp; done) | (go_simp; with_reducible rfl)
      try simp only [Act.put, List.setIfInBounds_toArray, List.set_cons_zero, List.set_cons_succ, List.getElem_toArray, List.getElem_cons_zero, List.getElem_cons_succ]
      refine wpAnyH_take (i := 17) (v := ?v17) rfl (by kernel_rfl) (by kernel_rfl) (by kernel_rfl) (fun _ _ _ h => h) (Or.inl ⟨by rfl, fun w hSw => ?y17⟩) hHeld ?r17
      case y17 => (try dsimp only at hSw); first | (go_simp; done) | (go_simp; with_reducible rfl)
      try simp only [Act.put, List.setIfInBounds_toArray, List.set_cons_zero, List.set_cons_succ, List.getElem_toArray, List.getElem_cons_zero, List.getElem_cons_succ]
      refine wpAnyH_ready (rs := [18]) (by kernel_rfl) (by simp) ?_
      refine AllReadyH.cons rfl (fun K hK => ?_) AllReadyH.nil
      go_simp
      first | rw [S0.out, S1.out, S2.out] | rw [S1.out, S2.out] | rw [S2.out]
      first | rw [HAV.out] | rw [IntKind.wrap_u8, HAV.out]
      refine HFS.out.mono ?_
      rintro e w2 ⟨rfl, v2, hW2, ho2, hd2⟩
      go_wp2_with fail
      refine hK.out _ _ ⟨hW2.c1, hW2.c2⟩ (fun hHeld2 => ?_)
      clear hK K
      try simp only [Act.put, List.setIfInBounds_toArray, List.set_cons_zero, List.set_cons_succ, List.getElem_toArray, List.getElem_cons_zero, List.getElem_cons_succ]
      refine wpAnyH_done (by kernel_rfl) ?_ _
      go_wp2_with fail
      go_roundw
      case rel => exact ⟨j + 1, by omega, by go_num, WrT.more (ho1.trans (Only.drawn _ ⟨1, rfl⟩)) hd1 ⟨v2, hW2, ho2, hd2⟩⟩
      case measure => simp [intOf]; omega
    · have hjc : j = c := by omega
      subst hjc
      have hall := fillF_all low l (wordE low m n) n (wordE_length low m n)
      rw [← HC.out] at hall
      rw [hall] at hW1
      have hWS := hW1.setLen (l.length + n)
      have hO2 : Only (Mine g v1) wr (wr.setCell ⟨g, 1, none⟩ (.int .i64 ((l.length + n : Nat) : Int))) := Only.setCell (p := ⟨g, 1, none⟩) (.inl rfl) _
      have hfz := hW1.fz 1
      rw [show (((l.length + n : Nat)) : Int) = (l.length : Int) + (n : Int) by omega] at hWS hO2
      have HWS := Lib.hid hWS
      have HO2 := Lib.hid hO2
      clear hWS hO2 hall
      go_wp2_with fail
      go_end0
      have hlen : (l ++ wordE low m n).length = l.length + n := by rw [List.length_append, wordE_length]
      refine ⟨rfl, ?_⟩
      rw [hlen]
      exact WrT.more ho1 hd1 ⟨v1, HWS.out, HO2.out, fun _ h => .inl h⟩
end Go.Proofs.YtgddpjnikgcamaaDoor.Bit


/- A row above in memory, of which what lies behind is given up, and a row that is being read; the contracts of next and of turn. -/
import Derived.Test.YtmbfgejephgojaaGreatDoorMhP
import Derived.Test.YtmbfgejephgojaaGreatDoorRnK
import Derived.Test.YtmbfgejephgojaaGreatDoorFyK
import Derived.StillTailTactics
import Derived.BigQuiet
namespace Go.Proofs.YtmbfgejephgojaaGreatDoor.Mh
open Go.RowKit Go.Proofs.YtmbfgejephgojaaGreatDoor.Oct Go.Proofs.YtmbfgejephgojaaGreatDoor.Bit
open Go.Proofs.YtmbfgejephgojaaGreatDoor.Rn (changes togX cur nextX nextF nextI zl zl_length zl_append zl_get nextI_zl IOwn tail_ints tail_v head_ints head_v ints_new Valid)
open Go.Proofs.YtmbfgejephgojaaGreatDoor.Lp (VRow ints ints_length ints_append ints_one vrow_own wpList_append_vals Tryz.infoInt)
set_option linter.unusedVariables false
set_option linter.unusedSimpArgs false
set_option maxRecDepth 100000

theorem nextX_drop2 (n x y : Nat) (c : List Nat) (b : Bool) (a : Nat) (hx : x < a) (hy : y < a) : nextX n (x :: y :: c) b a = nextX n c b a := by
  unfold nextX
  rw [nextF, if_neg (by omega), nextF, if_neg (by omega), Bool.not_not]
/-- changes still to come, and a width, in the block g; the row itself lies in blocks of K -/
def Rst (w : World) (K : Nat → Prop) (g : Nat) (d : List Nat) (n : Nat) : Prop := (∀ k, K k → k < g) ∧ d.length ≤ 100000 ∧ d.Pairwise (· < ·) ∧ ∃ p cap, w.heap[g]? = some (.cells #[.slice p d.length cap, .int .i64 (n : Int)] 85 (0, 0)) ∧ VRow w g p (ints (zl d)) ∧ d.length ≤ cap ∧ ∀ ad, p = some ad → 0 < d.length → K ad.block
/-- what is still to come of a row, from a place on -/
def Up (w : World) (K : Nat → Prop) (g : Nat) (c : List Nat) (n a : Nat) : Prop := ∃ d, Rst w K g d n ∧ (∀ x ∈ d, x ∈ c) ∧ ∀ b a', a ≤ a' → nextX n d b a' = nextX n c b a'
theorem Up.mono {w : World} {K : Nat → Prop} {g n a a2 : Nat} {c : List Nat} (h : Up w K g c n a) (ha : a ≤ a2) : Up w K g c n a2 := by
  obtain ⟨d, h1, h2, h3⟩ := h
  exact ⟨d, h1, h2, fun b a' h => h3 b a' (by omega)⟩
theorem Rst.lt {w : World} {K : Nat → Prop} {g n : Nat} {d : List Nat} (h : Rst w K g d n) : g < w.heap.size := by
  obtain ⟨_, _, _, p, cap, h1, _⟩ := h
  rcases Nat.lt_or_ge g w.heap.size with hlt | hge
  · exact hlt
  · rw [Array.getElem?_eq_none hge] at h1; cases h1
theorem vrow_far {S : Nat → Prop} {w w' : World} {C : Nat} {p : Option Addr} {vs : List Value} (h : VRow w C p vs) (ho : Only S w w') (hC : C ≤ w.heap.size) (hS : ∀ a, p = some a → 0 < vs.length → ¬ S a.block) : VRow w' C p vs := by
  intro h0
  obtain ⟨b, off, e, hb, hc⟩ := h h0
  refine ⟨b, off, e, hb, fun i hi => ?_⟩
  rw [← hc i hi]
  exact World.cell?_of_block (w := w) (ho.2.2.2.2 b (by omega) (hS _ e h0))
theorem Rst.only {S K : Nat → Prop} {w w' : World} {g n : Nat} {d : List Nat} (h : Rst w K g d n) (ho : Only S w w') (hg : ¬ S g) (hS : ∀ k, K k → ¬ S k) : Rst w' K g d n := by
  have hlt := h.lt
  obtain ⟨h1, h2, h6, p, cap, h3, h4, h5, h7⟩ := h
  exact ⟨h1, h2, h6, p, cap, (ho.2.2.2.2 g hlt hg).trans h3, vrow_far h4 ho (by omega) (fun ad hp h0 => hS _ (h7 ad hp (by rwa [ints_length, zl_length] at h0))), h5, h7⟩
theorem Up.only {S K : Nat → Prop} {w w' : World} {g n a : Nat} {c : List Nat} (h : Up w K g c n a) (ho : Only S w w') (hg : ¬ S g) (hS : ∀ k, K k → ¬ S k) : Up w' K g c n a := by
  obtain ⟨d, h1, h2, h3⟩ := h
  exact ⟨d, h1.only ho hg hS, h2, h3⟩
theorem Up.lt {w : World} {K : Nat → Prop} {g n a : Nat} {c : List Nat} (h : Up w K g c n a) : g < w.heap.size := by
  obtain ⟨d, h1, _⟩ := h
  exact h1.lt
/-- how many changes are still to come -/
def restAt (g : Nat) (w : World) : Nat := match w.cell? ⟨g, 0, none⟩ with
  | some (.slice _ n _) => n
  | _ => 0
theorem restAt_of {w : World} {K : Nat → Prop} {g n : Nat} {d : List Nat} (h : Rst w K g d n) : restAt g w = d.length := by
  obtain ⟨h1, h2, h6, p, cap, h3, h4, h5⟩ := h
  unfold restAt
  simp [World.cell?, h3]
theorem tail_two (W : World) (p : Option Addr) (len cap : Nat) (h : 2 ≤ len) :
    (Instr.slice 38 (.slice p len cap) (some (.int .i64 2)) none none).run Tryz.prog W = .ok (.slice (tailA p cap 2) (len - 2) (cap - 2)) W := tail_ints W p len cap 2 h
/-- two of them are behind -/
theorem Rst.drop {w : World} {K : Nat → Prop} {g n x y cap : Nat} {p : Option Addr} {d : List Nat} (hC : ∀ k, K k → k < g) (hpw : (x :: y :: d).Pairwise (· < ·)) (hl : (x :: y :: d).length ≤ 100000) (hb : w.heap[g]? = some (.cells #[.slice p (x :: y :: d).length cap, .int .i64 (n : Int)] 85 (0, 0))) (hv : VRow w g p (ints (zl (x :: y :: d)))) (hc : (x :: y :: d).length ≤ cap) (hK : ∀ ad, p = some ad → 0 < (x :: y :: d).length → K ad.block) :
    Rst (w.setCell ⟨g, 0, none⟩ (.slice (tailA p cap 2) ((x :: y :: d).length - 2) (cap - 2))) K g d n := by
  have ho : Only (· = g) w (w.setCell ⟨g, 0, none⟩ (.slice (tailA p cap 2) ((x :: y :: d).length - 2) (cap - 2))) := Only.setCell (S := (· = g)) (p := ⟨g, 0, none⟩) (by rfl) _
  have hlt : g < w.heap.size := by
    rcases Nat.lt_or_ge g w.heap.size with hlt | hge
    · exact hlt
    · rw [Array.getElem?_eq_none hge] at hb; cases hb
  simp only [List.length_cons] at hl hc
  have hKt : ∀ ad, tailA p cap 2 = some ad → 0 < d.length → K ad.block := fun ad hp _ => by
    unfold tailA at hp
    split at hp
    · exact hK ad hp (by simp)
    · rcases p with _ | a0
      · cases hp
      · injection hp with hp
        rw [← hp]
        exact hK a0 rfl (by simp)
  refine ⟨hC, by omega, (List.pairwise_cons.1 (List.pairwise_cons.1 hpw).2).2, tailA p cap 2, cap - 2, ?_, ?_, by omega, hKt⟩
  · simp [World.setCell, Array.getElem?_modify, hb]
  · have h2 := tail_v cap 2 hv (by rw [zl_length, List.length_cons, List.length_cons]; omega)
    exact vrow_far h2 ho (by omega) (fun ad hp h0 e => by have := hC _ (hKt ad hp (by rw [ints_length, zl_length] at h0; exact h0)); omega)
def NextP (w : World) (K : Nat → Prop) (g n a : Nat) (c : List Nat) (tb : Bool) (e : Ending) (w' : World) : Prop :=
  e = .returned (.tuple #[.int .i64 (((nextX n c tb a).1 : Nat) : Int), .int .i64 (((nextX n c tb a).2 : Nat) : Int)]) ∧ Only (· = g) w w' ∧ w'.heap.size = w.heap.size ∧ Up w' K g c n a
set_option maxHeartbeats 2000000 in
theorem next_any (w : World) (K : Nat → Prop) (g n a : Nat) (c : List Nat) (tb : Bool) (f : Int) (hf : f = (a : Int) - 1) (h : Up w K g c n a) :
    Calls Tryz.prog 44 #[.pointer (some ⟨g, 0, none⟩), .int .i64 f, .bool tb] w (NextP w K g n a c tb) := by
  have HU := Lib.hid h
  have HF := Lib.hid hf
  clear h hf
  go_enter Tryz.func44, Tryz.ntmps44
  go_wp2_with fail
  go_loopw [] (fun wr => Hid (Only (· = g) w wr) ∧ Hid (wr.heap.size = w.heap.size) ∧ Hid (Up wr K g c n a)) (fun wr => restAt g wr)
  case atStart => exact ⟨Lib.hid (Only.refl _ _), Lib.hid rfl, HU⟩
  case round =>
    obtain ⟨HO, HZ, HUr⟩ := hrel
    obtain ⟨d, hR, hmem, hnx⟩ := HUr.out
    have HRA := Lib.hid (restAt_of hR)
    have hfz : ∀ i, wr.frozen? ⟨g, i, none⟩ = false := fun i => by
      obtain ⟨_, _, _, p, cap, h3, _⟩ := hR
      simp [World.frozen?, h3]
    have HRS := Lib.hid hR
    obtain ⟨hC, hl, hpw, p, cap, hb, hv, hcap, hKp⟩ := hR
    have c0 : wr.cell? ⟨g, 0, none⟩ = some (.slice p d.length cap) := by simp [World.cell?, hb]
    have c1 : wr.cell? ⟨g, 1, none⟩ = some (.int .i64 (n : Int)) := by simp [World.cell?, hb]
    have stop : ∀ k, Calls Tryz.prog 66 #[.slice p d.length cap, .int .i64 f, .bool tb, .int .i64 (n : Int)] (wr.drewN k) fun e w' => e = .returned (.tuple #[.int .i64 (((nextX n c tb a).1 : Nat) : Int), .int .i64 (((nextX n c tb a).2 : Nat) : Int)]) ∧ w' = wr.drewN k := fun k => by
      have hdk : Drawn wr (wr.drewN k) := ⟨k, rfl⟩
      have h1 := Rn.next_any p d.length cap (zl d) f tb n (wr.drewN k) g (vrow_far hv (Only.drawn (fun _ => False) hdk) (by have := HRS.out.lt; omega) (fun _ _ _ e => e)) (zl_length d) hl
      rw [HF.out, nextI_zl, hnx tb a (Nat.le_refl _)] at h1
      rw [HF.out]
      exact h1.mono fun _ _ h => ⟨h.1, h.2.symm⟩
    have HST := Lib.hid (fun k => Calls.quiet_of_same (stop k))
    clear stop
    have fin : ∀ nq, Hid (NextP w K g n a c tb (.returned (.tuple #[.int .i64 (((nextX n c tb a).1 : Nat) : Int), .int .i64 (((nextX n c tb a).2 : Nat) : Int)])) (wr.drewN nq)) := fun nq => by
      have hd : Drawn wr (wr.drewN nq) := ⟨nq, rfl⟩
      exact Lib.hid ⟨rfl, HO.out.trans (Only.drawn _ hd), HZ.out, HUr.out.only (Only.drawn (fun _ => False) hd) (fun e => e) (fun _ _ e => e)⟩
    rcases d with _ | ⟨x, _ | ⟨y, d⟩⟩
    · clear hmem hnx hb hv hpw hKp hC
      simp only [List.length_nil] at *
      go_wp2_with fail
      go_quiet ((go_at_call 66; with_reducible exact HST.out _))
      go_wp2_with fail
      go_ret2
      exact (fin _).out
    · clear hmem hnx hb hv hpw hKp hC
      simp only [List.length_cons, List.length_nil, Nat.zero_add] at *
      go_wp2_with fail
      go_quiet ((go_at_call 66; with_reducible exact HST.out _))
      go_wp2_with fail
      go_ret2
      exact (fin _).out
    · obtain ⟨b, off, hp, hbC⟩ := hv.addr (by rw [ints_length, zl_length]; simp)
      subst hp
      have hy := hv.int 1 (by rw [zl_length]; simp)
      rw [show (zl (x :: y :: d))[1]'(by rw [zl_length]; simp) = (y : Int) from by simp [zl]] at hy
      have hm : (x :: y :: d).length = d.length + 2 := by simp
      have HM := Lib.hid hm
      have hsl := fun W => tail_two W (some ⟨b, off, none⟩) (x :: y :: d).length cap (by omega)
      have hd1 : decide (1 < (((x :: y :: d).length : Nat) : Int)) = true := by simp; omega
      have i2 : (1 : Int) < (((x :: y :: d).length : Nat) : Int) := by rw [hm]; omega
      by_cases hya : y < a
      · have hd2 : decide ((y : Int) ≤ f) = true := by have := HF.out; simp; omega
        have HDR := Lib.hid (Rst.drop hC hpw hl hb hv hcap hKp)
        have HNX : Hid (Up (wr.setCell ⟨g, 0, none⟩ (.slice (tailA (some ⟨b, off, none⟩) cap 2) ((x :: y :: d).length - 2) (cap - 2))) K g c n a) := Lib.hid (by
          refine ⟨d, HDR.out, fun z hz => hmem z (by simp [hz]), fun b a' ha => ?_⟩
          have h1 := hnx b a' ha
          have hxy := (List.pairwise_cons.1 hpw).1 y (by simp)
          rw [← h1, nextX_drop2 n x y d b a' (by omega) (by omega)])
        have HO2 : Hid (Only (· = g) w (wr.setCell ⟨g, 0, none⟩ (.slice (tailA (some ⟨b, off, none⟩) cap 2) ((x :: y :: d).length - 2) (cap - 2)))) := Lib.hid (HO.out.trans (Only.setCell (S := (· = g)) (p := ⟨g, 0, none⟩) (by rfl) _))
        have HZ2 : Hid ((wr.setCell ⟨g, 0, none⟩ (.slice (tailA (some ⟨b, off, none⟩) cap 2) ((x :: y :: d).length - 2) (cap - 2))).heap.size = w.heap.size) := Lib.hid (by rw [← HZ.out]; simp [World.setCell])
        generalize (x :: y :: d).length = m at *
        clear hmem hnx hb hv hbC hm hcap hl hpw hKp hC
        go_wp2_with fail
        go_roundw
        case rel => exact ⟨HO2, HZ2, HNX⟩
        case measure => rw [HRA.out, restAt_of HDR.out]; have := HM.out; omega
      · have hd2 : decide ((y : Int) ≤ f) = false := by have := HF.out; simp; omega
        generalize (x :: y :: d).length = m at *
        clear hmem hnx hb hv hbC hm hcap hl hpw hKp hC
        go_wp2_with fail
        go_quiet ((go_at_call 66; with_reducible exact HST.out _))
        go_wp2_with fail
        go_ret2
        exact (fin _).out
end Go.Proofs.YtmbfgejephgojaaGreatDoor.Mh
/- A row that is being read, in memory; the contracts of turn and move. -/
namespace Go.Proofs.YtmbfgejephgojaaGreatDoor.Mh
open Go.RowKit Go.Proofs.YtmbfgejephgojaaGreatDoor.Oct Go.Proofs.YtmbfgejephgojaaGreatDoor.Bit
open Go.Proofs.YtmbfgejephgojaaGreatDoor.Rn (changes togX cur cur_run cur_flip nextX nextF nextI zl zl_length zl_append zl_get nextI_zl IOwn tail_ints tail_v head_ints head_v ints_new Valid)
open Go.Proofs.YtmbfgejephgojaaGreatDoor.Lp (VRow ints ints_length ints_append ints_one vrow_own wpList_append_vals Tryz.infoInt)
set_option linter.unusedVariables false
set_option linter.unusedSimpArgs false
set_option maxRecDepth 100000

/-- a place more at which the colour turns, but for the width -/
def turnX (d : List Nat) (x n : Nat) : List Nat := if x = n then d else togX d x
/-- where a row changes that is under way -/
def chgs (P : List Bool) (b : Bool) (n : Nat) : List Nat := if P.length < n then cur P b else changes P
theorem chgs_end (P : List Bool) (b : Bool) : chgs P b P.length = changes P := by
  unfold chgs
  rw [if_neg (by omega)]
theorem cur_more (P : List Bool) (b : Bool) (m : Nat) (h : 0 < m) : changes (P ++ List.replicate m b) = cur P b := by
  obtain ⟨k, rfl⟩ : ∃ k, m = k + 1 := ⟨m - 1, by omega⟩
  have h1 := cur_run P b k
  unfold cur at h1
  rw [List.append_assoc, ← List.replicate_succ'] at h1
  exact h1
theorem run_len (P : List Bool) (b : Bool) (x : Nat) (h : P.length ≤ x) : (P ++ List.replicate (x - P.length) b).length = x := by
  rw [List.length_append, List.length_replicate]
  omega
/-- a run more -/
theorem chgs_turn (P : List Bool) (b : Bool) (x n : Nat) (h : P.length ≤ x) (hx : x ≤ n) : turnX (chgs P b n) x n = chgs (P ++ List.replicate (x - P.length) b) (!b) n := by
  unfold turnX
  by_cases e : x = n
  · subst e
    rw [if_pos rfl]
    have h2 := chgs_end (P ++ List.replicate (x - P.length) b) (!b)
    rw [run_len P b x h] at h2
    rw [h2]
    by_cases hl : P.length < x
    · rw [cur_more P b _ (by omega)]
      unfold chgs
      rw [if_pos hl]
    · have : P.length = x := by omega
      subst this
      rw [Nat.sub_self, List.replicate_zero, List.append_nil, chgs_end]
  · rw [if_neg e]
    unfold chgs
    rw [if_pos (by omega), run_len P b x h, if_pos (by omega), ← cur_flip, run_len P b x h, cur_run]
/-- the same colour goes on -/
theorem chgs_pass (P : List Bool) (b : Bool) (x n : Nat) (h : P.length ≤ x) (hx : x ≤ n) (hp : P.length < n) : chgs P b n = chgs (P ++ List.replicate (x - P.length) b) b n := by
  by_cases e : x = n
  · subst e
    have h2 := chgs_end (P ++ List.replicate (x - P.length) b) b
    rw [run_len P b x h] at h2
    rw [h2, cur_more P b _ (by omega)]
    unfold chgs
    rw [if_pos hp]
  · unfold chgs
    rw [if_pos (by omega), run_len P b x h, if_pos (by omega), cur_run]
theorem chgs_len (P : List Bool) (b : Bool) (n : Nat) : (chgs P b n).length ≤ P.length + 1 := by
  unfold chgs
  split
  · have := Rn.chg_len (P ++ [b]) false 0
    rw [List.length_append] at this
    exact this
  · have := Rn.chg_len P false 0
    exact Nat.le_succ_of_le this
theorem own_onlyE {S : Nat → Prop} {w w' : World} {base e n : Nat} {v : Value} {cs : List Value} (h : w.ownsRow base e 1 v n cs) (ho : Only S w w') (hv : ∀ k, base ≤ k → ¬ S k) : w'.ownsRow base e 1 v n cs := by
  refine ⟨h.1, ?_⟩
  rcases h.2 with hn | ⟨g, cap, cur, rfl, hb, hh, r⟩
  · exact .inl hn
  · refine .inr ⟨g, cap, cur, rfl, hb, ?_, r⟩
    have hlt : g < w.heap.size := by
      rcases Nat.lt_or_ge g w.heap.size with hlt | hge
      · exact hlt
      · rw [Array.getElem?_eq_none hge] at hh; cases hh
    rw [ho.2.2.2.2 g hlt (hv g hb)]
    exact hh
/-- the head of an own row is one -/
theorem own_head {w : World} {base e n k : Nat} {v : Value} {cs : List Value} {q : Option Addr} {c : Nat} (h : w.ownsRow base e 1 v n cs) (hv : v = .slice q n c) (hk : k < n) : w.ownsRow base e 1 (.slice q k c) k (cs.take k) := by
  obtain ⟨h1, h2⟩ := h
  refine ⟨by rw [List.length_take]; omega, .inr ?_⟩
  rcases h2 with ⟨_, h0⟩ | ⟨g, cap, cur, he, hb, hh, h3, h4, h5, h6⟩
  · omega
  · rw [hv] at he
    injection he with e1 _ e3
    subst e1
    subst e3
    refine ⟨g, c, cur, rfl, hb, hh, by omega, h4, h5, ?_⟩
    rw [← h6, List.take_take]
    congr 1
    omega
/-- a row that is being read: up to which place, in which colour it goes on, where it has changed; its own row in blocks from E on -/
def Lin (w : World) (E g : Nat) (v : Value) (z : Int) (b : Bool) (d : List Nat) (n : Nat) : Prop :=
  g < E ∧ E ≤ w.heap.size ∧ w.heap[g]? = some (.cells #[.int .i64 z, .bool b, v, .int .i64 (n : Int)] 95 (0, 0)) ∧ IOwn w E v (zl d)
section
variable {w w' : World} {E g n : Nat} {v : Value} {z : Int} {b : Bool} {d : List Nat}
theorem Lin.c0 (h : Lin w E g v z b d n) : w.cell? ⟨g, 0, none⟩ = some (.int .i64 z) := by simp [World.cell?, h.2.2.1]
theorem Lin.c1 (h : Lin w E g v z b d n) : w.cell? ⟨g, 1, none⟩ = some (.bool b) := by simp [World.cell?, h.2.2.1]
theorem Lin.c2 (h : Lin w E g v z b d n) : w.cell? ⟨g, 2, none⟩ = some v := by simp [World.cell?, h.2.2.1]
theorem Lin.c3 (h : Lin w E g v z b d n) : w.cell? ⟨g, 3, none⟩ = some (.int .i64 (n : Int)) := by simp [World.cell?, h.2.2.1]
theorem Lin.fz (h : Lin w E g v z b d n) (i : Nat) : w.frozen? ⟨g, i, none⟩ = false := by simp [World.frozen?, h.2.2.1]
theorem Lin.lt (h : Lin w E g v z b d n) : g < w.heap.size := by have := h.1; have := h.2.1; omega
theorem Lin.form (h : Lin w E g v z b d n) : ∃ q c, v = .slice q d.length c ∧ (q = none → c = 0) ∧ d.length ≤ c ∧ c ≤ maxLen ∧ VRow w w.heap.size q (ints (zl d)) ∧ ∀ a, q = some a → E ≤ a.block := by
  have h1 := h.2.2.2
  unfold IOwn at h1
  obtain ⟨q, c, h2, h3, h4, h5, h6, h7⟩ := vrow_own h1 (by rw [ints_length])
  rw [zl_length] at h2 h4
  exact ⟨q, c, h2, h3, h4, h5, h6, h7⟩
theorem Lin.only {S : Nat → Prop} (h : Lin w E g v z b d n) (ho : Only S w w') (hg : ¬ S g) (hE : ∀ k, E ≤ k → ¬ S k) : Lin w' E g v z b d n :=
  ⟨h.1, Nat.le_trans h.2.1 ho.2.2.2.1, (ho.2.2.2.2 g h.lt hg).trans h.2.2.1, own_onlyE h.2.2.2 ho hE⟩
theorem Lin.setAt (h : Lin w E g v z b d n) (x : Int) : Lin (w.setCell ⟨g, 0, none⟩ (.int .i64 x)) E g v x b d n := by
  have ho : Only (· = g) w (w.setCell ⟨g, 0, none⟩ (.int .i64 x)) := Only.setCell (S := (· = g)) (p := ⟨g, 0, none⟩) (by rfl) _
  refine ⟨h.1, Nat.le_trans h.2.1 ho.2.2.2.1, ?_, own_onlyE h.2.2.2 ho (fun k hk e => by have := h.1; omega)⟩
  have := h.2.2.1
  simp [World.setCell, Array.getElem?_modify, this]
theorem Lin.setBlack (h : Lin w E g v z b d n) (c : Bool) : Lin (w.setCell ⟨g, 1, none⟩ (.bool c)) E g v z c d n := by
  have ho : Only (· = g) w (w.setCell ⟨g, 1, none⟩ (.bool c)) := Only.setCell (S := (· = g)) (p := ⟨g, 1, none⟩) (by rfl) _
  refine ⟨h.1, Nat.le_trans h.2.1 ho.2.2.2.1, ?_, own_onlyE h.2.2.2 ho (fun k hk e => by have := h.1; omega)⟩
  have := h.2.2.1
  simp [World.setCell, Array.getElem?_modify, this]
/-- another own row stands in its place -/
theorem Lin.put (h : Lin w E g v z b d n) {w2 : World} {v2 : Value} {d2 : List Nat} (ho : Only (fun k => E ≤ k) w w2) (hown : IOwn w2 E v2 (zl d2)) : Lin (w2.setCell ⟨g, 2, none⟩ v2) E g v2 z b d2 n ∧ Only (fun k => k = g ∨ E ≤ k) w (w2.setCell ⟨g, 2, none⟩ v2) ∧ w2.frozen? ⟨g, 2, none⟩ = false ∧ w2.cell? ⟨g, 2, none⟩ = some v := by
  have hb := (ho.2.2.2.2 g h.lt (by have := h.1; omega)).trans h.2.2.1
  have hs : Only (· = g) w2 (w2.setCell ⟨g, 2, none⟩ v2) := Only.setCell (S := (· = g)) (p := ⟨g, 2, none⟩) (by rfl) _
  refine ⟨⟨h.1, Nat.le_trans h.2.1 (Nat.le_trans ho.2.2.2.1 hs.2.2.2.1), ?_, own_onlyE hown hs (fun k hk e => by have := h.1; omega)⟩, (ho.mono fun k _ e => .inr e).trans (hs.mono fun k _ e => .inl e), ?_, ?_⟩
  · simp [World.setCell, Array.getElem?_modify, hb]
  · simp [World.frozen?, hb]
  · simp [World.cell?, hb]
end
def LnS (g E k : Nat) : Prop := k = g ∨ E ≤ k
def TurnP (w : World) (E g x n : Nat) (b : Bool) (d : List Nat) (e : Ending) (w' : World) : Prop :=
  e = .returned (.tuple #[]) ∧ (∃ v', Lin w' E g v' (x : Int) (!b) (turnX d x n) n) ∧ Only (LnS g E) w w'
set_option maxHeartbeats 2000000 in
theorem turn_any (w : World) (E g n x : Nat) (v : Value) (z : Int) (b : Bool) (d : List Nat) (h : Lin w E g v z b d n) (hd : d.length ≤ 100000) (hx : x ≤ 100000) (hn : n ≤ 100000) :
    Calls Tryz.prog 72 #[.pointer (some ⟨g, 0, none⟩), .int .i64 (x : Int)] w (TurnP w E g x n b d) := by
  obtain ⟨i0, hi, hz0, hz1, hz2⟩ := info_parts Tryz.infoInt
  have hL := (h.setAt (x : Int)).setBlack (!b)
  have hO : Only (LnS g E) w ((w.setCell ⟨g, 0, none⟩ (.int .i64 (x : Int))).setCell ⟨g, 1, none⟩ (.bool (!b))) := (Only.setCell (S := LnS g E) (p := ⟨g, 0, none⟩) (.inl rfl) _).trans (Only.setCell (S := LnS g E) (p := ⟨g, 1, none⟩) (.inl rfl) _)
  have k1 := h.c1
  have k0 := h.c0
  have f0 := h.fz 0
  have f1 := h.fz 1
  have HL := Lib.hid hL
  have HO := Lib.hid hO
  clear h hL hO
  go_enter Tryz.func72, Tryz.ntmps72
  go_upto_region 1 with fail
  generalize hw1 : (w.setCell ⟨g, 0, none⟩ (.int .i64 (x : Int))).setCell ⟨g, 1, none⟩ (.bool (!b)) = w1 at *
  obtain ⟨q, c, hv, hq0, hlc, hcm, hvr, hqE⟩ := HL.out.form
  subst hv
  have hown := HL.out.2.2.2
  unfold IOwn at hown
  rw [zl_length] at hown
  have c2 := HL.out.c2
  have c3 := HL.out.c3
  have fz := HL.out.fz 2
  have hEz := HL.out.2.1
  clear k0 k1 f0 f1 hw1
  by_cases hxn : x = n
  · have e1 : ((x : Int) == (n : Int)) = true := by simp; omega
    have HT : Hid (turnX d x n = d) := Lib.hid (by unfold turnX; rw [if_pos hxn])
    clear hown hvr hxn hqE
    generalize d.length = m at *
    go_wp2_with fail
    refine bodyPost_ret (results_none rfl _ _ _) rfl ?_
    exact ⟨rfl, ⟨_, by rw [HT.out]; exact HL.out⟩, HO.out⟩
  · have e1 : ((x : Int) == (n : Int)) = false := by simp; omega
    have HT : Hid (turnX d x n = togX d x) := Lib.hid (by unfold turnX; rw [if_neg hxn])
    have hb1 : Below w1.heap.size w1 (w1.alloc (.cells (ints [(x : Int)]).toArray 3)) := (Below.refl _ w1).alloc (Nat.le_refl _) _
    have HS := Lib.hid (ints_new w1 [(x : Int)] 3 (0, 0))
    have HOW := Lib.hid (own_below hown hb1)
    have hz2' : E ≤ (w1.alloc (.cells (ints [(x : Int)]).toArray 3)).heap.size := Nat.le_trans hEz hb1.size
    have HFIN : Hid (∀ v2 w2, w2.ownsRow E 3 1 v2 (d.length + 1) (ints (zl d) ++ ints [(x : Int)]) → Below E (w1.alloc (.cells (ints [(x : Int)]).toArray 3)) w2 → w2.frozen? ⟨g, 2, none⟩ = false ∧ w2.cell? ⟨g, 2, none⟩ = some (.slice q d.length c) ∧ (togX d x = d ++ [x] → TurnP w E g x n b d (.returned (.tuple #[])) (w2.setCell ⟨g, 2, none⟩ v2))) := Lib.hid (fun v2 w2 ho hb => by
      have e2 : ints (zl d) ++ ints [(x : Int)] = ints (zl (d ++ [x])) := by rw [zl_append, ints_append]; rfl
      have e3 : d.length + 1 = (zl (d ++ [x])).length := by rw [zl_length, List.length_append]; rfl
      rw [e2, e3] at ho
      have hon : Only (fun k => E ≤ k) w1 w2 := (Only.of_below hb1 : Only (fun k => E ≤ k) _ _).trans ⟨hb.os, hb.tape, hb.output, hb.size, fun k hk hn => hb.block k (by omega)⟩
      obtain ⟨p1, p2, p3, p4⟩ := HL.out.put (d2 := d ++ [x]) hon ho
      exact ⟨p3, p4, fun ht => ⟨rfl, ⟨v2, by rw [HT.out, ht]; exact p1⟩, HO.out.trans p2⟩⟩)
    have HZE := Lib.hid hz2'
    have HOWN := Lib.hid hown
    clear hown hb1 hz2' hqE
    rcases Nat.eq_zero_or_pos d.length with h0 | h0
    · have hd0 : d = [] := List.eq_nil_of_length_eq_zero h0
      subst hd0
      simp only [List.length_nil] at *
      clear hvr
      go_wp2_with (at_builtin; refine wpList_append_vals Tryz.underlying38 hi hz0 hz1 hz2 rfl (by decide) rfl _ _ rfl E _ 0 (ints (zl [])) rfl HOW.out (some ⟨w1.heap.size, 0, none⟩) 1 1 (ints [(x : Int)]) rfl HS.out rfl (fun h => by cases h) ints_one (by omega) HZE.out ?_)
      intro v2 w2 hown2 _ hb3
      obtain ⟨q2, cc2, hv2, _⟩ := vrow_own hown2 (rfl)
      subst hv2
      obtain ⟨p1, p2, p3⟩ := HFIN.out _ w2 hown2 hb3
      have HP3 := Lib.hid p3
      clear p3 hown2 hb3 HFIN HOW HS
      go_wp2_with fail
      refine bodyPost_ret (results_none rfl _ _ _) rfl ?_
      exact HP3.out rfl
    · obtain ⟨bb, off, hq, _⟩ := hvr.addr (by rw [ints_length, zl_length]; exact h0)
      subst hq
      have hk : d.length - 1 < d.length := by omega
      have hcell := hvr.int (d.length - 1) (by rw [zl_length]; exact hk)
      rw [zl_get d _ _ hk] at hcell
      have hlast : d.getLast? = some d[d.length - 1] := by rw [List.getLast?_eq_getElem?, List.getElem?_eq_getElem hk]
      have htg : togX d x = if d[d.length - 1] = x then d.take (d.length - 1) else d ++ [x] := by
        unfold togX
        rw [hlast]
        simp only [Option.some.injEq, List.dropLast_eq_take]
      have hoh := own_head HOWN.out rfl hk
      have hsl := fun W => head_ints W (some ⟨bb, off, none⟩) d.length c (d.length - 1) (by omega) (fun h => by cases h)
      have HOH := Lib.hid hoh
      have HTL : Hid ((d.take (d.length - 1)).length = d.length - 1) := Lib.hid (by rw [List.length_take]; omega)
      have HML := Lib.hid (rfl : d.length = d.length)
      clear hvr hlast hoh
      obtain ⟨m, hm⟩ : ∃ m, m = d.length - 1 := ⟨_, rfl⟩
      generalize hy : d[d.length - 1] = y at *
      simp only [← hm] at hcell htg hsl HOH HTL
      have hms : IntKind.i64.wrap ((d.length : Int) - 1) = (m : Int) := by rw [IntKind.wrap_i64]; omega
      have hms2 : (d.length : Int) - 1 = (m : Int) := by omega
      have i1 : (0 : Int) ≤ (m : Int) := by omega
      have i2 : (m : Int) < (d.length : Int) := by omega
      have d0 : decide ((0 : Int) ≤ (m : Int)) = true := by simp
      by_cases hyx : y = x
      · have e2 : ((y : Int) == (x : Int)) = true := by simp; omega
        rw [if_pos hyx] at htg
        have HFI : Hid (TurnP w E g x n b d (.returned (.tuple #[])) (w1.setCell ⟨g, 2, none⟩ (.slice (some ⟨bb, off, none⟩) m c))) := Lib.hid (by
          have h1 := HOH.out
          have h2 : IOwn w1 E (.slice (some ⟨bb, off, none⟩) m c) (zl (d.take m)) := by
            unfold IOwn
            rw [zl_length, HTL.out]
            have h3 : (ints (zl d)).take m = ints (zl (d.take m)) := by simp [ints, zl]
            rw [← h3]
            exact h1
          obtain ⟨p1, p2, _, _⟩ := HL.out.put (d2 := d.take m) (Only.refl _ _) h2
          exact ⟨rfl, ⟨_, by rw [HT.out, htg]; exact p1⟩, HO.out.trans p2⟩)
        clear HFIN HOW HS HOH hy htg hm
        generalize d.length = len at *
        go_wp2_with fail
        refine bodyPost_ret (results_none rfl _ _ _) rfl ?_
        exact HFI.out
      · have e2 : ((y : Int) == (x : Int)) = false := by simp; omega
        rw [if_neg hyx] at htg
        have HTG := Lib.hid htg
        clear HOH hy htg hm hsl
        generalize hlen : d.length = len at *
        go_wp2_with (at_builtin; refine wpList_append_vals Tryz.underlying38 hi hz0 hz1 hz2 rfl (by decide) rfl _ _ rfl E _ len (ints (zl d)) rfl HOW.out (some ⟨w1.heap.size, 0, none⟩) 1 1 (ints [(x : Int)]) rfl HS.out rfl (fun h => by cases h) ints_one (by omega) HZE.out ?_)
        intro v2 w2 hown2 _ hb3
        obtain ⟨q2, cc2, hv2, _⟩ := vrow_own hown2 (by rw [List.length_append, ints_length, zl_length, hlen]; rfl)
        subst hv2
        obtain ⟨p1, p2, p3⟩ := HFIN.out _ w2 hown2 hb3
        have HP3 := Lib.hid p3
        clear p3 hown2 hb3 HFIN HOW HS
        go_wp2_with fail
        refine bodyPost_ret (results_none rfl _ _ _) rfl ?_
        exact HP3.out HTG.out
end Go.Proofs.YtmbfgejephgojaaGreatDoor.Mh

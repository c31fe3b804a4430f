
/- The contracts of ReadRow and ReadAgainst. -/
import Derived.Test.YtidicajedckaoaaGreatDoorMiE
import Derived.Test.YtidicajedckaoaaGreatDoorMiD
namespace Go.Proofs.YtidicajedckaoaaGreatDoor.Mh
open Go.RowKit Go.Proofs.YtidicajedckaoaaGreatDoor.Oct Go.Proofs.YtidicajedckaoaaGreatDoor.Bit
open Go.Proofs.YtidicajedckaoaaGreatDoor.Fx (lookP lookP_le lenA lenA_eq modeZ Cd Out rd_only)
open Go.Proofs.YtidicajedckaoaaGreatDoor.Rn (changes togX cur cur_run cur_flip nextX nextF nextI zl zl_length zl_append zl_get nextI_zl IOwn Valid)
open Go.Proofs.YtidicajedckaoaaGreatDoor.Lp (VRow ints ints_length ints_append ints_one vrow_own)
open Go.Proofs.YtidicajedckaoaaGreatDoor.Hf (rdAt rdAt_of)
set_option linter.unusedVariables false
set_option linter.unusedSimpArgs false
set_option maxRecDepth 100000

def rowL : Except Nat (List Bool) → List Nat
  | .ok X => changes X
  | .error _ => []
def rowE : Except Nat (List Bool) → Int
  | .ok _ => 0
  | .error e => (e : Int)
/-- a row is read -/
def RowP (gr : Nat) (p : Option Addr) (cap : Nat) (xs : List UInt8) (low : Bool) (w : World) (r : Nat × Except Nat (List Bool)) (e : Ending) (w' : World) : Prop :=
  Rd w' gr p cap xs r.1 low ∧ Only (· = gr) w w' ∧ ∃ q c, e = .returned (.tuple #[.slice q (rowL r.2).length c, .int .i64 (rowE r.2)]) ∧ VRow w' w'.heap.size q (ints (zl (rowL r.2))) ∧ (q = none → c = 0) ∧ (rowL r.2).length ≤ c ∧ c ≤ maxLen ∧ ∀ a, q = some a → w.heap.size ≤ a.block
theorem RowP.err {gr : Nat} {p : Option Addr} {cap : Nat} {xs : List UInt8} {low : Bool} {w w' : World} {t e : Nat} (hr : Rd w' gr p cap xs t low) (ho : Only (· = gr) w w') : RowP gr p cap xs low w (t, .error e) (.returned (.tuple #[.slice none 0 0, .int .i64 (e : Int)])) w' :=
  ⟨hr, ho, none, 0, rfl, fun h => absurd h (by simp [rowL, zl, ints]), fun _ => rfl, Nat.le_refl _, by simp [maxLen], fun a h => by cases h⟩
theorem RowP.good {gr : Nat} {p : Option Addr} {cap : Nat} {xs : List UInt8} {low : Bool} {w w' : World} {t E g n : Nat} {v : Value} {z : Int} {b : Bool} {P : List Bool} {q : Option Addr} {c : Nat} (hr : Rd w' gr p cap xs t low) (ho : Only (· = gr) w w') (hl : Lin w' E g v z b (chgs P b n) n) (hP : P.length = n) (hE : w.heap.size ≤ E) (hv : v = .slice q (changes P).length c) : RowP gr p cap xs low w (t, .ok P) (.returned (.tuple #[.slice q (changes P).length c, .int .i64 0])) w' := by
  subst hP
  rw [chgs_end] at hl
  obtain ⟨q', c', h1, h2, h3, h4, h5, h6⟩ := hl.form
  rw [h1] at hv
  injection hv with e1 e2 e3
  subst e1
  subst e3
  exact ⟨hr, ho, q', c', rfl, h5, h2, h3, h4, fun a ha => Nat.le_trans hE (h6 a ha)⟩
/-- a row that isn't begun yet -/
theorem lin_at {w : World} {E g n : Nat} (hb : w.heap[g]? = some (.cells #[.int .i64 (-1), .bool false, .slice none 0 0, .int .i64 (n : Int)] 137 (0, 0))) (hg : g < E) (hE : E ≤ w.heap.size) (h1 : 1 ≤ n) : LinP w E g 0 [] false n := by
  refine ⟨rfl, by omega, .slice none 0 0, hg, hE, hb, ?_⟩
  have : chgs [] false n = [] := by
    unfold chgs
    rw [if_pos (by simp; omega), Rn.cur_nil]
  rw [this]
  exact World.ownsRow_nil _ _ _ _
theorem lin_new (w : World) (n : Nat) (h1 : 1 ≤ n) : LinP (w.alloc (.cells #[.int .i64 (-1), .bool false, .slice none 0 0, .int .i64 (n : Int)] 137)) (w.heap.size + 1) w.heap.size 0 [] false n :=
  lin_at (by
    show (w.heap.push _)[w.heap.size]? = _
    simp) (by omega) (by simp) h1
theorem only_in {S : Nat → Prop} {gr : Nat} {w w1 w' : World} (hb : Below w.heap.size w w1) (ho : Only S w1 w') (hS : ∀ k, S k → k = gr ∨ w.heap.size ≤ k) : Only (· = gr) w w' := by
  have h0 : Only (fun k => k = gr ∨ w.heap.size ≤ k) w w' := (Only.of_below hb : Only (fun k => k = gr ∨ w.heap.size ≤ k) w w1).trans (ho.mono fun k _ h => hS k h)
  exact h0.mono fun k hk h => by
    rcases h with e | e
    · exact e
    · omega
set_option maxHeartbeats 4000000 in
theorem readRow_any (w : World) (B C c gr : Nat) (p : Option Addr) (cap : Nat) (xs : List UInt8) (t : Nat) (low : Bool) (n : Nat) (hC : Cd w B C c) (hO : Out B C gr) (hR : Rd w gr p cap xs t low) (h1 : 1 ≤ n) (hn : n ≤ 32768) :
    Calls Tryz.prog 47 #[.pointer (some ⟨gr, 0, none⟩), .pointer (some ⟨c, 0, none⟩), .int .i64 (n : Int)] w (RowP gr p cap xs low w (readRowA (bitsOf low xs) n t [] false)) := by
  have HWD := Lib.hid (mwidth_any (n : Int) w)
  have hwd : wideM (n : Int) = true := by unfold wideM; simp; omega
  rw [hwd] at HWD
  have hal : t ≤ (bitsOf low xs).length := by rw [bitsOf_length]; exact hR.2.2.1
  have hgr := hR.lt
  obtain ⟨L, hL0⟩ : ∃ L, L = bitsOf low xs := ⟨_, rfl⟩
  have HL0 := Lib.hid hL0
  rw [← hL0] at hal ⊢
  obtain ⟨r, hr⟩ : ∃ r, r = readRowA L n t [] false := ⟨_, rfl⟩
  rw [← hr]
  have HRES := Lib.hid hr.symm
  have hb1 : Below w.heap.size w (w.alloc (.cells #[.int .i64 (-1), .bool false, .slice none 0 0, .int .i64 (n : Int)] 137)) := (Below.refl _ w).alloc (Nat.le_refl _) _
  have HLN := Lib.hid (lin_new w n h1)
  have HC1 := Lib.hid (hC.below hb1 hC.1)
  have HR1 := Lib.hid (hR.below hb1 hgr)
  have HCZ := Lib.hid hC.1
  have HB1 := Lib.hid hb1
  have HO := Lib.hid hO
  clear hC hO hR hL0 hr hwd hb1
  go_enter Tryz.func47, Tryz.ntmps47
  go_wp2_with fail
  refine HWD.out.mono ?_
  rintro e w' ⟨rfl, rfl⟩
  go_wp2_with fail
  generalize hg : w.heap.size = g at *
  generalize hw1 : w.alloc (.cells #[.int .i64 (-1), .bool false, .slice none 0 0, .int .i64 (n : Int)] 137) = w1 at *
  have HG := Lib.hid hg
  clear hw1 hg
  go_loopw [9] (fun _ wr => ∃ (t1 a : Nat) (P : List Bool) (b : Bool), t1 ≤ L.length ∧ Hid (Rd wr gr p cap xs t1 low) ∧ Hid (Only (LS gr g (g + 1)) w1 wr) ∧ Hid (LinP wr (g + 1) g a P b n) ∧ ((a ≤ n ∧ P.length < n ∧ Hid (readRowA L n t1 P b = r)) ∨ (n < a ∧ P.length = n ∧ Hid (r = (t1, .ok P))))) (fun _ wr => L.length - rdAt gr wr)
  case atStart => exact ⟨t, 0, [], false, hal, HR1, Lib.hid (Only.refl _ _), HLN, .inl ⟨by omega, h1, HRES⟩⟩
  case round =>
    obtain ⟨t1, a, P, b, ht1, HRr, HOr, HLr, hway⟩ := hrel
    obtain ⟨hPl, han, v, hlin⟩ := HLr.out
    have k0 := hlin.c0
    have k2 := hlin.c2
    have HLV := Lib.hid hlin
    have HRT := Lib.hid (rdAt_of HRr.out)
    have hgE : g < g + 1 := by omega
    rcases hway with ⟨ha, hP, HE⟩ | ⟨ha, hP, HE⟩
    · have hd : decide ((a : Int) - 1 < (n : Int)) = true := by simp; omega
      have HRL := Lib.hid (readLength_any wr B C c gr p cap xs t1 low (g + 1) g n a P b (HC1.out.only HOr.out (LS.out HC1.out HO.out HCZ.out hgE)) HO.out HCZ.out hgr HRr.out HLr.out hn)
      have HQ := Lib.hid (readRowA_eq L n t1 P b ht1)
      have HLE := Lib.hid (lenA_lt b (L := L) (most := n - P.length) (n := 0) ht1)
      rw [← HL0.out] at HRL
      unfold oneA at HRL
      generalize lenA b L (n - P.length) t1 0 = lr at *
      obtain ⟨t2, x⟩ := lr
      clear hlin hPl HLV k2
      go_wp2_with fail
      refine HRL.out.mono ?_
      rintro e w2 ⟨hr2, ho2, hres⟩
      have HO2 := Lib.hid (HOr.out.trans ho2)
      have HR2 := Lib.hid hr2
      clear hr2 ho2
      have hq := HQ.out
      rw [HE.out] at hq
      rcases x with ce | m
      · obtain ⟨rfl, hne⟩ := hres
        have HQ2 := Lib.hid hq
        clear hq
        go_wp2_with fail
        go_ret2
        rw [HQ2.out]
        exact RowP.err HR2.out (only_in (by rw [HG.out]; exact HB1.out) HO2.out (fun k hk => by rw [HG.out]; rcases hk with e | e | e <;> omega))
      · obtain ⟨rfl, hl2⟩ := hres
        have HL2 := Lib.hid hl2
        have hlt := HLE.out.2.2 m rfl
        have htl := HLE.out.1
        simp only at hlt htl hq
        have HWAY : Hid ((P.length + m + 1 ≤ n ∧ (P ++ List.replicate m b).length < n ∧ Hid (readRowA L n t2 (P ++ List.replicate m b) (!b) = r)) ∨ (n < P.length + m + 1 ∧ (P ++ List.replicate m b).length = n ∧ Hid (r = (t2, .ok (P ++ List.replicate m b))))) := Lib.hid (by
          rw [List.length_append, List.length_replicate]
          by_cases hc : P.length + m = n
          · rw [if_pos hc] at hq
            exact .inr ⟨by omega, hc, Lib.hid hq⟩
          · rw [if_neg hc] at hq
            exact .inl ⟨by omega, by omega, Lib.hid hq.symm⟩)
        clear hq hl2
        go_wp2_with fail
        go_roundw
        case rel => exact ⟨t2, P.length + m + 1, P ++ List.replicate m b, !b, htl, HR2, HO2, HL2, HWAY.out⟩
        case measure => rw [HRT.out, rdAt_of HR2.out]; omega
    · have hd : decide ((a : Int) - 1 < (n : Int)) = false := by simp; omega
      obtain ⟨q, cq, hv, _⟩ := hlin.form
      have HV := Lib.hid hv
      have hcl : (chgs P b n).length = (changes P).length := by rw [← hP, chgs_end]
      rw [hv] at k2
      have HCL := Lib.hid hcl
      rw [hcl] at k2
      have HP := Lib.hid hP
      clear hlin hPl hv hcl hP
      go_wp2_with fail
      go_ret2
      rw [HE.out]
      exact RowP.good HRr.out (only_in (by rw [HG.out]; exact HB1.out) HOr.out (fun k hk => by rw [HG.out]; rcases hk with e | e | e <;> omega)) HLV.out HP.out (by rw [HG.out]; omega) (by rw [HV.out, HCL.out])
theorem alloc_last (w : World) (cs : Array Value) (T : TypeId) : (w.alloc (.cells cs T)).heap[w.heap.size]? = some (.cells cs T (0, 0)) := by
  show (w.heap.push _)[w.heap.size]? = _
  simp
theorem alloc_at (w : World) (o : Obj) (k : Nat) (h : k < w.heap.size) : (w.alloc o).heap[k]? = w.heap[k]? :=
  ((Below.refl w.heap.size w).alloc (Nat.le_refl _) o).block k h
/-- nothing of a row is behind -/
theorem rst_new {w : World} {K : Nat → Prop} {g n len cap : Nat} {p : Option Addr} {d : List Nat} (hb : w.heap[g]? = some (.cells #[.slice p len cap, .int .i64 (n : Int)] 133 (0, 0))) (hr : VRow w g p (ints (zl d))) (hx : d.length = len) (hl : len ≤ 100000) (hc : len ≤ cap) (hv : Valid d n) (hK : ∀ k, K k → k < g) (hp : ∀ ad, p = some ad → 0 < d.length → K ad.block) : Up w K g d n 0 := by
  subst hx
  exact ⟨d, ⟨hK, hl, hv.1, p, cap, hb, hr, hc, hp⟩, fun x h => h, fun _ _ _ => rfl⟩
set_option maxHeartbeats 4000000 in
theorem readAgainst_any (w : World) (B C c gr : Nat) (p : Option Addr) (cap : Nat) (xs : List UInt8) (t : Nat) (low : Bool) (p2 : Option Addr) (len2 cap2 : Nat) (top : List Nat) (n : Nat) (hC : Cd w B C c) (hO : Out B C gr) (hR : Rd w gr p cap xs t low) (hr2 : VRow w w.heap.size p2 (ints (zl top))) (hx2 : top.length = len2) (hl2 : len2 ≤ 100000) (hc2 : len2 ≤ cap2) (hp2 : ∀ a, p2 = some a → 0 < top.length → a.block ≠ gr) (hv : Valid top n) (h1 : 1 ≤ n) (hn : n ≤ 32768) :
    Calls Tryz.prog 49 #[.pointer (some ⟨gr, 0, none⟩), .pointer (some ⟨c, 0, none⟩), .slice p2 len2 cap2, .int .i64 (n : Int)] w (RowP gr p cap xs low w (readGA (bitsOf low xs) top n t 0 [] false)) := by
  have hok := mrow_any p2 len2 cap2 (zl top) n w _ hr2 (by rw [zl_length]; exact hx2) (by unfold maxLen; omega)
  rw [valid_rowB hv h1 hn] at hok
  have HOK := Lib.hid hok
  have hal : t ≤ (bitsOf low xs).length := by rw [bitsOf_length]; exact hR.2.2.1
  have hgr := hR.lt
  obtain ⟨L, hL0⟩ : ∃ L, L = bitsOf low xs := ⟨_, rfl⟩
  have HL0 := Lib.hid hL0
  rw [← hL0] at hal ⊢
  obtain ⟨r, hr⟩ : ∃ r, r = readGA L top n t 0 [] false := ⟨_, rfl⟩
  rw [← hr]
  have HRES := Lib.hid hr.symm
  have ha1 : Below w.heap.size w (w.alloc (.cells #[.int .i64 (-1), .bool false, .slice none 0 0, .int .i64 (n : Int)] 137)) := (Below.refl _ w).alloc (Nat.le_refl _) _
  have hs1 : (w.alloc (.cells #[.int .i64 (-1), .bool false, .slice none 0 0, .int .i64 (n : Int)] 137)).heap.size = w.heap.size + 1 := by simp
  have hb1 : Below w.heap.size w ((w.alloc (.cells #[.int .i64 (-1), .bool false, .slice none 0 0, .int .i64 (n : Int)] 137)).alloc (.cells #[.slice p2 len2 cap2, .int .i64 (n : Int)] 133)) := ha1.alloc (by omega) _
  have hs2 : ((w.alloc (.cells #[.int .i64 (-1), .bool false, .slice none 0 0, .int .i64 (n : Int)] 137)).alloc (.cells #[.slice p2 len2 cap2, .int .i64 (n : Int)] 133)).heap.size = w.heap.size + 2 := by simp
  have hat1 := (alloc_at (w.alloc (.cells #[.int .i64 (-1), .bool false, .slice none 0 0, .int .i64 (n : Int)] 137)) (.cells #[.slice p2 len2 cap2, .int .i64 (n : Int)] 133) w.heap.size (by omega)).trans (alloc_last w _ _)
  have hat2 := alloc_last (w.alloc (.cells #[.int .i64 (-1), .bool false, .slice none 0 0, .int .i64 (n : Int)] 137)) #[.slice p2 len2 cap2, .int .i64 (n : Int)] 133
  rw [hs1] at hat2
  have HLN := Lib.hid (lin_at (E := w.heap.size + 2) hat1 (by omega) (by omega) h1)
  have HUP := Lib.hid (rst_new (K := fun k => k < w.heap.size ∧ k ≠ gr) hat2 ((hr2.below hb1 (Nat.le_refl _)).mono (by omega)) hx2 hl2 hc2 hv (fun k hk => by have := hk.1; omega) (fun a ha h0 => ⟨by
    obtain ⟨b0, off0, e, hb, _⟩ := hr2 (by rw [ints_length, zl_length]; exact h0)
    rw [ha] at e
    injection e with e
    rw [e]
    exact hb, hp2 a ha h0⟩))
  have HC1 := Lib.hid (hC.below hb1 hC.1)
  have HR1 := Lib.hid (hR.below hb1 hgr)
  have hCZ := hC.1
  have HB1 := Lib.hid hb1
  have HO := Lib.hid hO
  have HV := Lib.hid hv
  clear hC hO hR hL0 hr hok hb1 ha1 hat1 hat2 hr2 hx2 hp2 hv hs2
  go_enter Tryz.func49, Tryz.ntmps49
  go_wp2_with fail
  refine HOK.out.mono ?_
  rintro e w' ⟨rfl, rfl⟩
  go_wp2_with fail
  clear hs1
  generalize hg : w.heap.size = g at *
  generalize hw1 : (w.alloc (.cells #[.int .i64 (-1), .bool false, .slice none 0 0, .int .i64 (n : Int)] 137)).alloc (.cells #[.slice p2 len2 cap2, .int .i64 (n : Int)] 133) = w1 at *
  have HG := Lib.hid hg
  clear hw1 hg
  go_loopw [12] (fun _ wr => ∃ (t1 a : Nat) (P : List Bool) (b : Bool), t1 ≤ L.length ∧ Hid (Rd wr gr p cap xs t1 low) ∧ Hid (Only (S3 gr g (g + 1) (g + 2)) w1 wr) ∧ Hid (LinP wr (g + 2) g a P b n) ∧ Hid (Up wr (fun k => k < g ∧ k ≠ gr) (g + 1) top n a) ∧ Hid (readGA L top n t1 a P b = r)) (fun _ wr => L.length - rdAt gr wr)
  case atStart => exact ⟨t, 0, [], false, hal, HR1, Lib.hid (Only.refl _ _), HLN, HUP, HRES⟩
  case round =>
    obtain ⟨t1, a, P, b, ht1, HRr, HOr, HLr, HUr, HE⟩ := hrel
    obtain ⟨hPl, han, v, hlin⟩ := HLr.out
    have k0 := hlin.c0
    have k2 := hlin.c2
    have HLV := Lib.hid hlin
    have HRT := Lib.hid (rdAt_of HRr.out)
    by_cases ha : a ≤ n
    · have hd : decide ((a : Int) - 1 < (n : Int)) = true := by simp; omega
      have HST := Lib.hid (readStep_any wr B C c gr p cap xs t1 low (g + 2) g n a (g + 1) _ top P b (HC1.out.only HOr.out (S3.out HC1.out HO.out hCZ (by omega) (by omega))) HO.out hCZ (by omega) hgr (by omega) (by omega) (by omega) (fun k hk => hk) HRr.out HLr.out HUr.out HV.out hn h1 ha)
      have HQ := Lib.hid (readGA_step L top n t1 a P b ht1 ha)
      have HLE := Lib.hid (stepA_le (L := L) (top := top) (n := n) (t := t1) (a := a) (P := P) (b := b) ht1)
      rw [← HL0.out] at HST
      generalize stepA L top n t1 a P b = sr at *
      obtain ⟨t2, x⟩ := sr
      clear hlin hPl HLV k2
      go_wp2_with fail
      refine HST.out.mono ?_
      rintro e w2 ⟨hr2, ho2, hres⟩
      have HO2 := Lib.hid (HOr.out.trans ho2)
      have HR2 := Lib.hid hr2
      clear hr2 ho2
      have hq := HQ.out
      rw [HE.out] at hq
      rcases x with ce | s
      · obtain ⟨rfl, hne⟩ := hres
        have HQ2 := Lib.hid hq
        clear hq
        go_wp2_with fail
        go_ret2
        rw [HQ2.out]
        exact RowP.err HR2.out (only_in (by rw [HG.out]; exact HB1.out) HO2.out (fun k hk => by rw [HG.out]; rcases hk with e | e | e | e <;> omega))
      · obtain ⟨rfl, hl2, hu2⟩ := hres
        have HL2 := Lib.hid hl2
        have HU2 := Lib.hid hu2
        have hlt := HLE.out.2.2 s rfl
        have htl := HLE.out.1
        simp only at hlt htl hq
        have HQ2 := Lib.hid hq.symm
        clear hq hl2 hu2
        go_wp2_with fail
        go_roundw
        case rel => exact ⟨t2, s.1, s.2.1, s.2.2, htl, HR2, HO2, HL2, HU2, HQ2⟩
        case measure => rw [HRT.out, rdAt_of HR2.out]; omega
    · have hd : decide ((a : Int) - 1 < (n : Int)) = false := by simp; omega
      have hP : P.length = n := by omega
      have HQ : Hid (r = (t1, .ok P)) := Lib.hid (by
        have h2 := readGA_eq L top n t1 a P b ht1
        rw [if_pos (by omega), HE.out] at h2
        exact h2)
      obtain ⟨q, cq, hv, _⟩ := hlin.form
      have HVV := Lib.hid hv
      have hcl : (chgs P b n).length = (changes P).length := by rw [← hP, chgs_end]
      rw [hv] at k2
      have HCL := Lib.hid hcl
      rw [hcl] at k2
      have HP := Lib.hid hP
      clear hlin hPl hv hcl hP
      go_wp2_with fail
      go_ret2
      rw [HQ.out]
      exact RowP.good HRr.out (only_in (by rw [HG.out]; exact HB1.out) HOr.out (fun k hk => by rw [HG.out]; rcases hk with e | e | e | e <;> omega)) HLV.out HP.out (by rw [HG.out]; omega) (by rw [HVV.out, HCL.out])
end Go.Proofs.YtidicajedckaoaaGreatDoor.Mh
/- The contract of WriteAgainst. -/
namespace Go.Proofs.YtidicajedckaoaaGreatDoor.Mh
open Go.RowKit Go.Proofs.YtidicajedckaoaaGreatDoor.Oct Go.Proofs.YtidicajedckaoaaGreatDoor.Bit
open Go.Proofs.YtidicajedckaoaaGreatDoor.Fx (tellF modesF Cd Out OutW WrP cmode_any)
open Go.Proofs.YtidicajedckaoaaGreatDoor.Rn (changes nextX nextF nextI zl zl_length zl_append zl_get nextI_zl Valid ints_new)
open Go.Proofs.YtidicajedckaoaaGreatDoor.Lp (VRow ints ints_length ints_append ints_one vrow_own)
set_option linter.unusedVariables false
set_option linter.unusedSimpArgs false
set_option maxRecDepth 100000

/-- how many of these places lie from a place on -/
def cnt (c : List Nat) (a : Nat) : Nat := c.countP (fun x => decide (a ≤ x))
theorem cnt_mono (c : List Nat) {a a' : Nat} (h : a ≤ a') : cnt c a' ≤ cnt c a := by
  refine List.countP_mono_left (fun x _ hx => ?_)
  simp only [decide_eq_true_eq] at hx ⊢
  omega
theorem cnt_lt {c : List Nat} {a x : Nat} (hx : x ∈ c) (h : a ≤ x) : cnt c (x + 1) < cnt c a := by
  unfold cnt
  induction c with
  | nil => cases hx
  | cons y c ih =>
    rw [List.countP_cons, List.countP_cons]
    have hm := cnt_mono c (show a ≤ x + 1 by omega)
    unfold cnt at hm
    rcases List.mem_cons.1 hx with e | e
    · subst e
      simp only [decide_eq_true_eq]
      rw [if_neg (by omega), if_pos h]
      omega
    · have := ih e
      simp only [decide_eq_true_eq]
      by_cases h1 : x + 1 ≤ y
      · rw [if_pos h1, if_pos (by omega)]; omega
      · rw [if_neg h1]
        split <;> omega
theorem nextF_mem (w : Nat) : ∀ (c : List Nat) (b : Bool) (a : Nat), (nextF w c b a).1 ∈ c ∨ (nextF w c b a).1 = w
  | [], b, a => .inr rfl
  | x :: c, b, a => by
    rw [nextF]
    split
    · exact .inl (by simp)
    · rcases nextF_mem w c (!b) a with h | h
      · exact .inl (by simp [h])
      · exact .inr h
theorem nextF_mem2 (w : Nat) : ∀ (c : List Nat) (b : Bool) (a : Nat), (nextF w c b a).2 ∈ c ∨ (nextF w c b a).2 = w
  | [], b, a => .inr rfl
  | x :: c, b, a => by
    rw [nextF]
    split
    · cases c with
      | nil => exact .inr rfl
      | cons y c => exact .inl (by simp)
    · rcases nextF_mem2 w c (!b) a with h | h
      · exact .inl (by simp [h])
      · exact .inr h
/-- how long it is, what a row is told by another one by -/
theorem against_len {c top : List Nat} {w T : Nat} (hc : Valid c w) (ht : Valid top w) (hT : ∀ b x, x ≤ w → (tellF b x).length ≤ T) : ∀ (f a : Nat) (b : Bool), w + 1 ≤ f + a → a ≤ w → (againstA c top w a b).length ≤ (2 * T + 7) * (cnt c a + cnt top a + 1)
  | 0, a, b, hf, ha => by omega
  | f + 1, a, b, hf, ha => by
    have g1 := nextF_ge w c (!b) a ha hc.2
    have g2 := nextF_ge w top (!b) a ha ht.2
    have g3 := nextF_le w c (!b) a hc
    have g4 := nextF_le w top (!b) a ht
    have m1 := nextF_mem w c (!b) a
    have m2 := nextF_mem2 w c (!b) a
    have m3 := nextF_mem2 w top (!b) a
    rw [againstA_eq hc ht b ha]
    have e1 : nx w c b a = nextF w c (!b) a := rfl
    have e2 : nx w top b a = nextF w top (!b) a := rfl
    rw [e1, e2]
    generalize nextF w c (!b) a = r1 at *
    generalize nextF w top (!b) a = r2 at *
    obtain ⟨a1, a2⟩ := r1
    obtain ⟨b1, b2⟩ := r2
    simp only at *
    have key : ∀ (y : Nat) (bb : Bool), a ≤ y → y ≤ w → (y ∈ c ∨ y ∈ top ∨ y = w) → (againstA c top w (y + 1) bb).length + (2 * T + 7) ≤ (2 * T + 7) * (cnt c a + cnt top a + 1) := by
      intro y bb hy hyw hm
      by_cases he : y = w
      · rw [againstA_end bb (by omega), List.length_nil]
        have := Nat.le_mul_of_pos_right (2 * T + 7) (show 0 < cnt c a + cnt top a + 1 by omega)
        omega
      · have ih := against_len hc ht hT f (y + 1) bb (by omega) (by omega)
        have hlt : cnt c (y + 1) + cnt top (y + 1) + 1 ≤ cnt c a + cnt top a := by
          rcases hm with h | h | h
          · have := cnt_lt h hy; have := cnt_mono top (show a ≤ y + 1 by omega); omega
          · have := cnt_lt h hy; have := cnt_mono c (show a ≤ y + 1 by omega); omega
          · exact absurd h he
        have := Nat.mul_le_mul_left (2 * T + 7) hlt
        rw [Nat.mul_add, Nat.mul_one]
        omega
    split
    · rename_i h
      have := key b2 b (by omega) (by omega) (by rcases m3 with e | e <;> simp [e])
      have h8 := (Fx.mode_len (i := 8) (by decide)).2
      rw [List.length_append]
      omega
    · split
      · rename_i h
        have := key a1 (!b) (by omega) (by omega) (by rcases m1 with e | e <;> simp [e])
        have h8 := (Fx.mode_len (i := a1 + 3 - b1) (by omega)).2
        rw [List.length_append]
        omega
      · have := key a2 b (by omega) (by omega) (by rcases m2 with e | e <;> simp [e])
        have h8 := (Fx.mode_len (i := 7) (by decide)).2
        have t1 := hT b (a1 - (a - 1)) (by omega)
        have t2 := hT (!b) (a2 - a1) (by omega)
        rw [List.length_append, List.length_append, List.length_append]
        omega
theorem cnt_le (c : List Nat) (a : Nat) : cnt c a ≤ c.length := List.countP_le_length
theorem against_len0 {c top : List Nat} {w T : Nat} (hc : Valid c w) (ht : Valid top w) (hT : ∀ b x, x ≤ w → (tellF b x).length ≤ T) : (againstA c top w 0 false).length ≤ (2 * T + 7) * (c.length + top.length + 1) := by
  refine Nat.le_trans (against_len hc ht hT (w + 1) 0 false (by omega) (by omega)) (Nat.mul_le_mul_left _ ?_)
  have := cnt_le c 0
  have := cnt_le top 0
  omega
theorem tell_len2 (b : Bool) {n : Nat} (h : n < 2560) : (tellF b n).length ≤ 26 := by
  by_cases h1 : n < 64
  · rw [Fx.tell_last b h1]
    have := (Fx.word_len b (i := n) (by omega)).2
    omega
  · rw [Fx.tell_mid b (by omega) h, Fx.tell_last b (Nat.mod_lt _ (by decide)), List.length_append]
    have := (Fx.word_len b (i := 63 + n / 64) (by omega)).2
    have := (Fx.word_len b (i := n % 64) (by omega)).2
    omega
/-- which blocks writing by the row above turns -/
def SW (gw : Nat) (v : Value) (g k : Nat) : Prop := Mine gw v k ∨ k = g ∨ k = g + 1
/-- a writer under way, beside two rows of which less and less is to come -/
structure Wy (w1 : World) (gw : Nat) (v : Value) (l : List Bool) (low : Bool) (g : Nat) (K : Nat → Prop) (row top : List Nat) (n a : Nat) (d : List Bool) (wr : World) : Prop where
  ws : ∃ v', Ws wr gw v' (l ++ d) low ∧ (∀ k, v'.ownBlock = some k → v.ownBlock = some k ∨ g + 2 ≤ k)
  only : Only (SW gw v g) w1 wr
  own : Up wr K g row n a
  top : Up wr K (g + 1) top n a
section
variable {w1 : World} {gw : Nat} {v : Value} {l : List Bool} {low : Bool} {g : Nat} {K : Nat → Prop} {row top : List Nat} {n a : Nat} {d : List Bool} {wr w2 : World}
theorem Wy.next1 (h : Wy w1 gw v l low g K row top n a d wr) (hm : ∀ k, Mine gw v k → k < g) (hK : ∀ k, K k → k < g) (ho : Only (· = g) wr w2) (hu : Up w2 K g row n a) : Wy w1 gw v l low g K row top n a d w2 := by
  obtain ⟨⟨v', hw, hv⟩, h2, h3, h4⟩ := h
  refine ⟨⟨v', Wr.only hw ho (fun e => by have := hm gw (.inl rfl); omega) (fun k hk e => ?_), hv⟩, h2.trans (ho.mono fun k _ e => .inr (.inl e)), hu, h4.only ho (by omega) (fun k hk e => by have := hK k hk; omega)⟩
  rcases hv k hk with e2 | e2
  · have := hm k (.inr e2); omega
  · omega
theorem Wy.next2 (h : Wy w1 gw v l low g K row top n a d wr) (hm : ∀ k, Mine gw v k → k < g) (hK : ∀ k, K k → k < g) (ho : Only (· = g + 1) wr w2) (hu : Up w2 K (g + 1) top n a) : Wy w1 gw v l low g K row top n a d w2 := by
  obtain ⟨⟨v', hw, hv⟩, h2, h3, h4⟩ := h
  refine ⟨⟨v', Wr.only hw ho (fun e => by have := hm gw (.inl rfl); omega) (fun k hk e => ?_), hv⟩, h2.trans (ho.mono fun k _ e => .inr (.inr e)), h3.only ho (by omega) (fun k hk e => by have := hK k hk; omega), hu⟩
  rcases hv k hk with e2 | e2
  · have := hm k (.inr e2); omega
  · omega
/-- more is written -/
theorem Wy.wrote {m : List Bool} {a2 : Nat} {v' : Value} (h : Wy w1 gw v l low g K row top n a d wr) (hv' : Ws wr gw v' (l ++ d) low) (hvo : ∀ k, v'.ownBlock = some k → v.ownBlock = some k ∨ g + 2 ≤ k) (hm : ∀ k, Mine gw v k → k < g) (hK : ∀ k, K k → k < g ∧ ¬ Mine gw v k) (hz : w1.heap.size = g + 2) (ho : WsT wr gw v' (l ++ d ++ m) low w2) (ha : a ≤ a2) : Wy w1 gw v l low g K row top n a2 (d ++ m) w2 := by
  obtain ⟨_, h2, h3, h4⟩ := h
  obtain ⟨v2, hw2, ho2, hv2⟩ := ho
  have hz2 : g + 2 ≤ wr.heap.size := by have := h2.2.2.2.1; omega
  have hmine : ∀ k, Mine gw v' k → Mine gw v k ∨ g + 2 ≤ k := fun k hk => by
    rcases hk with e | e
    · exact .inl (.inl e)
    · rcases hvo k e with e2 | e2
      · exact .inl (.inr e2)
      · exact .inr e2
  have hno : ∀ k, k = g ∨ k = g + 1 → ¬ Mine gw v' k := fun k hk e => by
    rcases hmine k e with e2 | e2
    · have := hm k e2; omega
    · omega
  have hnK : ∀ k, K k → ¬ Mine gw v' k := fun k hk e => by
    rcases hmine k e with e2 | e2
    · exact (hK k hk).2 e2
    · have := (hK k hk).1; omega
  refine ⟨⟨v2, by rw [← List.append_assoc]; exact hw2, fun k hk => ?_⟩, ?_, (h3.only ho2 (hno g (.inl rfl)) hnK).mono ha, (h4.only ho2 (hno (g + 1) (.inr rfl)) hnK).mono ha⟩
  · rcases hv2 k hk with e | e
    · exact hvo k e
    · exact .inr (by omega)
  · refine ⟨ho2.1.trans h2.1, ho2.2.1.trans h2.2.1, ho2.2.2.1.trans h2.2.2.1, Nat.le_trans h2.2.2.2.1 ho2.2.2.2.1, fun k hk hn => ?_⟩
    have h0 := h2.2.2.2.2 k hk hn
    refine (ho2.2.2.2.2 k (by have := h2.2.2.2.1; omega) (fun e => ?_)).trans h0
    rcases hmine k e with e2 | e2
    · exact hn (.inl e2)
    · omega
end
set_option maxHeartbeats 8000000 in
theorem writeAgainst_any (w : World) (B C c gw : Nat) (v : Value) (l : List Bool) (low : Bool) (p1 : Option Addr) (len1 cap1 : Nat) (row : List Nat) (p2 : Option Addr) (len2 cap2 : Nat) (top : List Nat) (n : Nat) (hC : Cd w B C c) (hW : Ws w gw v l low) (hO : OutW B C gw v)
    (hr1 : VRow w w.heap.size p1 (ints (zl row))) (hx1 : row.length = len1) (hl1 : len1 ≤ 100000) (hc1 : len1 ≤ cap1) (hp1 : ∀ a, p1 = some a → 0 < row.length → ¬ Mine gw v a.block) (hv1 : Valid row n)
    (hr2 : VRow w w.heap.size p2 (ints (zl top))) (hx2 : top.length = len2) (hl2 : len2 ≤ 100000) (hc2 : len2 ≤ cap2) (hp2 : ∀ a, p2 = some a → 0 < top.length → ¬ Mine gw v a.block) (hv2 : Valid top n) (h1 : 1 ≤ n) (hn : n ≤ 32768) (hl : l.length + (againstA row top n 0 false).length ≤ 1700000) :
    Calls Tryz.prog 38 #[.pointer (some ⟨gw, 0, none⟩), .pointer (some ⟨c, 0, none⟩), .slice p1 len1 cap1, .slice p2 len2 cap2, .int .i64 (n : Int)] w (WrP w gw v l (againstA row top n 0 false) low) := by
  have hok1 := mrow_any p1 len1 cap1 (zl row) n w _ hr1 (by rw [zl_length]; exact hx1) (by unfold maxLen; omega)
  rw [valid_rowB hv1 h1 hn] at hok1
  have hok2 := mrow_any p2 len2 cap2 (zl top) n w _ hr2 (by rw [zl_length]; exact hx2) (by unfold maxLen; omega)
  rw [valid_rowB hv2 h1 hn] at hok2
  have HOK1 := Lib.hid hok1
  have HOK2 := Lib.hid hok2
  have hgl := Wr.lt hW
  have hmi : ∀ k, Mine gw v k → k < w.heap.size := fun k hk => by
    rcases hk with e | e
    · rw [e]; exact hgl
    · exact (hW.2.1.lt k e).2
  have HMI := Lib.hid hmi
  have ha1 : Below w.heap.size w (w.alloc (.cells #[.slice p1 len1 cap1, .int .i64 (n : Int)] 133)) := (Below.refl _ w).alloc (Nat.le_refl _) _
  have hs1 : (w.alloc (.cells #[.slice p1 len1 cap1, .int .i64 (n : Int)] 133)).heap.size = w.heap.size + 1 := by simp
  have hb1 : Below w.heap.size w ((w.alloc (.cells #[.slice p1 len1 cap1, .int .i64 (n : Int)] 133)).alloc (.cells #[.slice p2 len2 cap2, .int .i64 (n : Int)] 133)) := ha1.alloc (by omega) _
  have hs2 : ((w.alloc (.cells #[.slice p1 len1 cap1, .int .i64 (n : Int)] 133)).alloc (.cells #[.slice p2 len2 cap2, .int .i64 (n : Int)] 133)).heap.size = w.heap.size + 2 := by simp
  have hat1 := (alloc_at (w.alloc (.cells #[.slice p1 len1 cap1, .int .i64 (n : Int)] 133)) (.cells #[.slice p2 len2 cap2, .int .i64 (n : Int)] 133) w.heap.size (by omega)).trans (alloc_last w _ _)
  have hat2 := alloc_last (w.alloc (.cells #[.slice p1 len1 cap1, .int .i64 (n : Int)] 133)) #[.slice p2 len2 cap2, .int .i64 (n : Int)] 133
  rw [hs1] at hat2
  have inb : ∀ {p : Option Addr} {d : List Nat}, VRow w w.heap.size p (ints (zl d)) → ∀ a, p = some a → 0 < d.length → a.block < w.heap.size := fun {p d} hr a ha h0 => by
    obtain ⟨b0, off0, e, hb, _⟩ := hr (by rw [ints_length, zl_length]; exact h0)
    rw [ha] at e
    injection e with e
    rw [e]
    exact hb
  have HU1 := rst_new (K := fun k => k < w.heap.size ∧ ¬ Mine gw v k) hat1 (hr1.below hb1 (Nat.le_refl _)) hx1 hl1 hc1 hv1 (fun k hk => hk.1) (fun a ha h0 => ⟨inb hr1 a ha h0, hp1 a ha h0⟩)
  have HU2 := rst_new (K := fun k => k < w.heap.size ∧ ¬ Mine gw v k) hat2 ((hr2.below hb1 (Nat.le_refl _)).mono (by omega)) hx2 hl2 hc2 hv2 (fun k hk => by have := hk.1; omega) (fun a ha h0 => ⟨inb hr2 a ha h0, hp2 a ha h0⟩)
  have hWy : Wy ((w.alloc (.cells #[.slice p1 len1 cap1, .int .i64 (n : Int)] 133)).alloc (.cells #[.slice p2 len2 cap2, .int .i64 (n : Int)] 133)) gw v l low w.heap.size (fun k => k < w.heap.size ∧ ¬ Mine gw v k) row top n 0 [] ((w.alloc (.cells #[.slice p1 len1 cap1, .int .i64 (n : Int)] 133)).alloc (.cells #[.slice p2 len2 cap2, .int .i64 (n : Int)] 133)) :=
    ⟨⟨v, by rw [List.append_nil]; exact Wr.only hW (Only.of_below hb1 : Only (fun _ => False) _ _) (fun e => e) (fun _ _ e => e), fun k hk => .inl hk⟩, Only.refl _ _, HU1, HU2⟩
  have HWY := Lib.hid hWy
  have HC1 := Lib.hid (hC.below hb1 hC.1)
  have HB1 := Lib.hid hb1
  have HO := Lib.hid hO
  have hCz := hC.1
  have HV1 := Lib.hid hv1
  have HV2 := Lib.hid hv2
  obtain ⟨R, hR⟩ : ∃ R, R = againstA row top n 0 false := ⟨_, rfl⟩
  have HR := Lib.hid hR.symm
  rw [← hR] at hl ⊢
  have HSZ := Lib.hid hs2
  clear hok1 hok2 hC hW hO hr1 hx1 hp1 hv1 hr2 hx2 hp2 hv2 ha1 hb1 hat1 hat2 HU1 HU2 hWy hs2 inb hmi hgl hR hs1
  go_enter Tryz.func38, Tryz.ntmps38
  go_wp2_with fail
  refine HOK1.out.mono ?_
  rintro e w' ⟨rfl, rfl⟩
  go_wp2_with fail
  refine HOK2.out.mono ?_
  rintro e w' ⟨rfl, rfl⟩
  go_wp2_with fail
  generalize hg : w.heap.size = g at *
  generalize hw1 : (w.alloc (.cells #[.slice p1 len1 cap1, .int .i64 (n : Int)] 133)).alloc (.cells #[.slice p2 len2 cap2, .int .i64 (n : Int)] 133) = w1 at *
  have HG := Lib.hid hg
  clear hw1 hg HOK1 HOK2
  go_loopw [13, 14, 15, 16, 17, 18, 19, 20] (fun s13 s14 _ _ _ _ _ _ wr => ∃ (a : Nat) (b : Bool) (d : List Bool), a ≤ n + 1 ∧ s13 = .int .i64 ((a : Int) - 1) ∧ s14 = .bool b ∧ Hid (Wy w1 gw v l low g (fun k => k < g ∧ ¬ Mine gw v k) row top n a d wr) ∧ Hid (d ++ againstA row top n a b = R)) (fun s13 _ _ _ _ _ _ _ _ => n + 1 - (intOf s13 + 1).toNat)
  case atStart => exact ⟨0, false, [], by omega, rfl, rfl, HWY, HR⟩
  case round =>
    obtain ⟨a, b, d, han, rfl, rfl, HWr, HD⟩ := hrel
    by_cases ha : a ≤ n
    · have hd : decide ((a : Int) - 1 < (n : Int)) = true := by simp; omega
      have hN1 := next_any wr (fun k => k < g ∧ ¬ Mine gw v k) g n a row (!b) _ rfl HWr.out.own
      have HNT := Lib.hid (fun w2 h => next_any w2 (fun k => k < g ∧ ¬ Mine gw v k) (g + 1) n a top (!b) _ rfl h)
      have HQ := Lib.hid (againstA_eq HV1.out HV2.out b ha)
      have g1 := nextF_ge n row (!b) a ha HV1.out.2
      have g2 := nextF_ge n top (!b) a ha HV2.out.2
      have g3 := nextF_le n row (!b) a HV1.out
      have g4 := nextF_le n top (!b) a HV2.out
      have hKg : ∀ k, (k < g ∧ ¬ Mine gw v k) → k < g := fun k hk => hk.1
      unfold NextP at hN1
      unfold NextP at HNT
      have e1 : nx n row b a = nextF n row (!b) a := rfl
      have e2 : nx n top b a = nextF n top (!b) a := rfl
      have e3 : nextX n row (!b) a = nextF n row (!b) a := rfl
      have e4 : nextX n top (!b) a = nextF n top (!b) a := rfl
      rw [e3] at hN1
      rw [e4] at HNT
      rw [e1, e2] at HQ
      clear e1 e2 e3 e4
      generalize nextF n row (!b) a = r1 at *
      generalize nextF n top (!b) a = r2 at *
      obtain ⟨a1, a2⟩ := r1
      obtain ⟨b1, b2⟩ := r2
      simp only at hN1 HNT HQ g1 g2 g3 g4
      have HN1 := Lib.hid hN1
      clear hN1
      go_wp2_with fail
      refine HN1.out.mono ?_
      rintro e w2 ⟨rfl, ho2, hz2, hu2⟩
      have HW2 := Lib.hid (HWr.out.next1 HMI.out hKg ho2 hu2)
      have HN2 := Lib.hid (HNT.out w2 HW2.out.top)
      clear ho2 hu2 hz2
      go_wp2_with fail
      refine HN2.out.mono ?_
      rintro e w3 ⟨rfl, ho3, hz3, hu3⟩
      have HW3 := Lib.hid (HW2.out.next2 HMI.out hKg ho3 hu3)
      obtain ⟨v3, hws3, hvo3⟩ := HW3.out.ws
      have hdl : d.length ≤ R.length := by have := congrArg List.length HD.out; rw [List.length_append] at this; omega
      have hll : (l ++ d).length ≤ 1700000 := by rw [List.length_append]; omega
      have hout3 : OutW B C gw v3 := fun k hk => by
        rcases hk with e | e
        · exact HO.out k (.inl e)
        · rcases hvo3 k e with e2 | e2
          · exact HO.out k (.inr e2)
          · exact .inr (by omega)
      have hcd3 : Cd w3 B C c := HC1.out.only HW3.out.only (fun k hk => by
        rcases hk with e | e | e
        · exact HO.out k e
        · exact .inr (by omega)
        · exact .inr (by omega))
      have HCM := Lib.hid (fun i hi => cmode_any w3 B C c gw v3 (l ++ d) low i hcd3 hws3 hi (by omega))
      have HCD3 := Lib.hid hcd3
      have HWS3 := Lib.hid hws3
      have HVO3 := Lib.hid hvo3
      have HOU3 := Lib.hid hout3
      clear ho3 hu3 hz3 hws3 hvo3 hout3 hcd3
      have hK2 : ∀ k, (k < g ∧ ¬ Mine gw v k) → k < g ∧ ¬ Mine gw v k := fun k hk => hk
      by_cases hba : b2 < a1
      · have hd1 : decide ((b2 : Int) < (a1 : Int)) = true := by simp; omega
        have HC8 : Hid (Calls Tryz.prog 69 #[.pointer (some ⟨c, 0, none⟩), .pointer (some ⟨gw, 0, none⟩), .int .i64 5] w3 (WrP w3 gw v3 (l ++ d) (modesF.getD 8 []) low)) := Lib.hid (HCM.out 8 (by decide))
        have HD2 : Hid ((d ++ modesF.getD 8 []) ++ againstA row top n (b2 + 1) b = R) := Lib.hid (by
          have h2 := HD.out
          rw [HQ.out, if_pos hba, ← List.append_assoc] at h2
          exact h2)
        clear HCM
        go_wp2_with fail
        refine HC8.out.mono ?_
        rintro e w4 ⟨rfl, hws⟩
        have HW4 := Lib.hid (HW3.out.wrote HWS3.out HVO3.out HMI.out hK2 HSZ.out hws (show a ≤ b2 + 1 by omega))
        clear hws
        go_wp2_with fail
        go_roundw
        case rel => exact ⟨b2 + 1, b, _, by omega, by congr 1; omega, rfl, HW4, HD2⟩
        case measure => simp [intOf]; omega
      · have hd1 : decide (b2 < a1) = false := by simp; omega
        by_cases hc2 : a1 ≤ b1 + 3 ∧ b1 ≤ a1 + 3
        · have hd2 : decide (-3 ≤ (a1 : Int) - (b1 : Int)) = true := by simp; omega
          have hd3 : decide ((a1 : Int) - (b1 : Int) ≤ 3) = true := by simp; omega
          have hcm := HCM.out (a1 + 3 - b1) (by omega)
          rw [show (((a1 + 3 - b1 : Nat) : Int) - 3) = (a1 : Int) - (b1 : Int) by omega] at hcm
          have HCI := Lib.hid hcm
          have HD2 : Hid ((d ++ modesF.getD (a1 + 3 - b1) []) ++ againstA row top n (a1 + 1) (!b) = R) := Lib.hid (by
            have h2 := HD.out
            rw [HQ.out, if_neg hba, if_pos hc2, ← List.append_assoc] at h2
            exact h2)
          clear HCM hc2 hcm
          go_wp2_with fail
          refine HCI.out.mono ?_
          rintro e w4 ⟨rfl, hws⟩
          have HW4 := Lib.hid (HW3.out.wrote HWS3.out HVO3.out HMI.out hK2 HSZ.out hws (show a ≤ a1 + 1 by omega))
          clear hws
          go_wp2_with fail
          go_roundw
          case rel => exact ⟨a1 + 1, !b, _, by omega, by congr 1; omega, rfl, HW4, HD2⟩
          case measure => simp [intOf]; omega
        · obtain ⟨x, hx⟩ : ∃ x, x = a1 - (a - 1) := ⟨_, rfl⟩
          obtain ⟨y, hy⟩ : ∃ y, y = a2 - a1 := ⟨_, rfl⟩
          obtain ⟨am, ham⟩ : ∃ am, am = a - 1 := ⟨_, rfl⟩
          have HD2 : Hid ((d ++ (modesF.getD 7 [] ++ (tellF b x ++ tellF (!b) y))) ++ againstA row top n (a2 + 1) b = R) := Lib.hid (by
            have h2 := HD.out
            rw [HQ.out, if_neg hba, if_neg hc2, ← hx, ← hy] at h2
            simp only [List.append_assoc] at h2 ⊢
            exact h2)
          have hb4 : Below w3.heap.size w3 (w3.alloc (.cells (ints (zl [x, y])).toArray 3)) := (Below.refl _ w3).alloc (Nat.le_refl _) _
          have hon4 : Only (fun _ => False) w3 (w3.alloc (.cells (ints (zl [x, y])).toArray 3)) := Only.of_below hb4
          have hv4 := ints_new w3 (zl [x, y]) 3 (0, 0)
          have hlt3 := Wr.lt HWS3.out
          have hWT := writeTwo_any (w3.alloc (.cells (ints (zl [x, y])).toArray 3)) B C c gw v3 (l ++ d) low (some ⟨w3.heap.size, 0, none⟩) 2 x y b (HCD3.out.below hb4 HCD3.out.1) (Wr.only HWS3.out hon4 (fun e => e) (fun _ _ e => e)) HOU3.out hv4 (fun a0 ha0 hm0 => by
            injection ha0 with ha0
            subst ha0
            rcases hm0 with e | e
            · simp only at e; omega
            · have := (HWS3.out.2.1.lt _ e).2
              simp only at this
              omega) (by omega) (by omega) hll
          have HWT : Hid (Calls Tryz.prog 70 #[.pointer (some ⟨gw, 0, none⟩), .pointer (some ⟨c, 0, none⟩), .slice (some ⟨w3.heap.size, 0, none⟩) 2 2, .bool b] (w3.alloc (.cells #[.int .i64 (x : Int), .int .i64 (y : Int)] 3)) (WrP (w3.alloc (.cells (ints (zl [x, y])).toArray 3)) gw v3 (l ++ d) (modesF.getD 7 [] ++ (tellF b x ++ tellF (!b) y)) low)) := Lib.hid hWT
          have HB4 := Lib.hid hb4
          have hmx : max ((a : Int) - 1) 0 = (am : Int) := by omega
          have hxi : (a1 : Int) - (am : Int) = (x : Int) := by omega
          have hyi : (a2 : Int) - (a1 : Int) = (y : Int) := by omega
          have hways : (decide (-3 ≤ (a1 : Int) - (b1 : Int)) = false) ∨ (decide (-3 ≤ (a1 : Int) - (b1 : Int)) = true ∧ decide ((a1 : Int) - (b1 : Int) ≤ 3) = false) := by
            by_cases h3 : a1 + 3 < b1
            · left; simp; omega
            · right
              constructor
              · simp; omega
              · simp; omega
          have hbx : x ≤ 32768 := by omega
          have hby : y ≤ 32768 := by omega
          have ham2 : am ≤ 32768 := by omega
          have ha21 : a ≤ a2 + 1 := by omega
          clear HCM hc2 hWT hb4 hon4 hv4 hlt3 hx hy ham
          rcases hways with hw1 | ⟨hw1, hw2⟩
          · go_wp2_with fail
            refine HWT.out.mono ?_
            rintro e w4 ⟨rfl, hws⟩
            have HW4 := Lib.hid (HW3.out.wrote HWS3.out HVO3.out HMI.out hK2 HSZ.out (WrT.more (Only.of_below HB4.out) (fun k hk => .inl hk) hws) ha21)
            clear hws
            go_wp2_with fail
            go_roundw
            case rel => exact ⟨a2 + 1, b, _, by omega, by congr 1; omega, rfl, HW4, HD2⟩
            case measure => simp [intOf]; omega
          · go_wp2_with fail
            refine HWT.out.mono ?_
            rintro e w4 ⟨rfl, hws⟩
            have HW4 := Lib.hid (HW3.out.wrote HWS3.out HVO3.out HMI.out hK2 HSZ.out (WrT.more (Only.of_below HB4.out) (fun k hk => .inl hk) hws) ha21)
            clear hws
            go_wp2_with fail
            go_roundw
            case rel => exact ⟨a2 + 1, b, _, by omega, by congr 1; omega, rfl, HW4, HD2⟩
            case measure => simp [intOf]; omega
    · have hd : decide ((a : Int) - 1 < (n : Int)) = false := by simp; omega
      obtain ⟨v3, hws3, hvo3⟩ := HWr.out.ws
      have HF : Hid (WsT w gw v (l ++ R) low wr) := Lib.hid (by
        have h2 := HD.out
        rw [againstA_end b (by omega), List.append_nil] at h2
        subst h2
        refine ⟨v3, hws3, ?_, fun k hk => ?_⟩
        · have h0 := HWr.out.only
          have hB := HB1.out
          rw [← HG.out] at hB h0
          have hz0 := hB.size
          refine ⟨h0.1.trans hB.os, h0.2.1.trans hB.tape, h0.2.2.1.trans hB.output, Nat.le_trans hz0 h0.2.2.2.1, fun k hk hn => (h0.2.2.2.2 k (by omega) (fun e => ?_)).trans (hB.block k hk)⟩
          rcases e with e | e | e
          · exact hn e
          · omega
          · omega
        · rcases hvo3 k hk with e | e
          · exact .inl e
          · exact .inr (by rw [HG.out]; omega))
      clear hws3 hvo3
      go_wp2_with fail
      go_ret
      exact ⟨rfl, HF.out⟩
end Go.Proofs.YtidicajedckaoaaGreatDoor.Mh

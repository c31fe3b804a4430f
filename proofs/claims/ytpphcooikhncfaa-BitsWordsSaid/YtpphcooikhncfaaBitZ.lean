/- The walk of BitsWords: it returns true for any bits and either end, and nothing that was there is written. -/
import Derived.Test.YtpphcooikhncfaaBitY
import Derived.Deep.RegionHeld3
namespace Go.Proofs.Ytpphcooikhncfaa.Bit
open Go.RowKit Go.Proofs.Ytpphcooikhncfaa.Oct Go.ChangeShapes Go.WideShapes Go.Deep
set_option linter.unusedVariables false
set_option linter.unusedSimpArgs false

def IsBools (w : World) (a : Option Addr) (len cap : Nat) : Prop :=
  len ≤ cap ∧ cap ≤ maxLen ∧ (0 < len → ∃ b off, a = some ⟨b, off, none⟩ ∧ b < w.heap.size ∧ ∀ i, i < len → ∃ x : Bool, w.cell? ⟨b, off + i, none⟩ = some (.bool x))
theorem open_bools {H : Type} {enc : TypeId × Value → H} {w : World} {spare : Nat → Bool} {held : Bool} {fuel : Nat} {a : Option Addr} {len cap : Nat} {x : DataW H × List MemPlace}
    (h : DataW.trod enc Try.prog w 0 spare held fuel 57 [.slice a len cap] = some x) : IsBools w a len cap := by
  have hC : Try.prog.cellsOf 4 = 1 := by kernel_rfl
  rcases open_slice Try.underlying57 h with ⟨hcs, _⟩ | ⟨ad, l, c, m, n, D, Pl, hcs, hb, hl, hm, hmm, _, hi⟩
  · simp at hcs
    obtain ⟨rfl, rfl, rfl⟩ := hcs
    exact ⟨Nat.le_refl _, by simp [maxLen], fun h => by omega⟩
  · simp at hcs
    obtain ⟨rfl, rfl, rfl⟩ := hcs
    refine ⟨hl, hm, fun hp => ?_⟩
    have hlm : len ≤ m := by rw [hmm]; split <;> omega
    obtain ⟨b, off, spot⟩ := ad
    have key : ∀ i, i < len → ∃ x : Bool, w.cell? ((⟨b, off, spot⟩ : Addr).add i) = some (.bool x) := by
      intro i hil
      obtain ⟨cs', hc, ht⟩ := hi i (by omega)
      rw [hC, Nat.mul_one] at hc
      obtain ⟨_, hcl, hat⟩ := World.cells?_some hc
      obtain ⟨x, hx, _⟩ := DataW.trod_bool Try.underlying4 ht
      subst hx
      have h0 := hat 0 (by omega)
      have e : ((⟨b, off, spot⟩ : Addr).add i).add 0 = (⟨b, off, spot⟩ : Addr).add i := by cases spot <;> simp [Addr.add]
      rw [e] at h0
      exact ⟨x, h0⟩
    have hs : spot = none := by
      obtain ⟨x, hx⟩ := key 0 hp
      simpa [Addr.add] using World.cell?_spot hx
    subst hs
    have key' : ∀ i, i < len → ∃ x : Bool, w.cell? ⟨b, off + i, none⟩ = some (.bool x) := fun i hi => by
      obtain ⟨x, hx⟩ := key i hi
      rw [Oct.add_plain] at hx
      exact ⟨x, hx⟩
    obtain ⟨x, hx⟩ := key' 0 hp
    exact ⟨b, off, rfl, lt_of_cell hx, key'⟩
theorem Ws.later {w w' : World} {g : Nat} {v : Value} {l : List Bool} {low : Bool} (h : Ws w g v l low) (hb : Below w.heap.size w w') : Ws w' g v l low :=
  Wr.only h (Only.of_below (S := fun _ => False) hb) (fun h => h) (fun _ _ h => h)
def BitP (w : World) (g : Nat) (v : Value) (l : List Bool) (low : Bool) (e : Ending) (w' : World) : Prop := e = .returned (.int .i64 0) ∧ WsT w g v l low w'
theorem bit_write (x : Bool) (w : World) (g : Nat) (v : Value) (l : List Bool) (low : Bool) (hl : l.length ≤ 1000000) (hW : Ws w g v l low) :
    Calls Try.prog 22 #[.pointer (some ⟨g, 0, none⟩), .int .u32 (if x then 1 else 0), .int .i64 1] w (BitP w g v (l ++ [x]) low) := by
  have h := write_any w g v l low x.toNat 1 (by cases x <;> simp) hl hW
  have e1 : wrE x.toNat 1 = 0 := by cases x <;> decide
  have e2 : wrL low l x.toNat 1 = l ++ [x] := by
    have ho : okW x.toNat 1 = true := by cases x <;> decide
    unfold wrL
    rw [ho, if_pos rfl, show ((1 : Int).toNat) = 1 from rfl, wordE_one]
  have e3 : ((x.toNat : Nat) : Int) = (if x then 1 else 0) := by cases x <;> rfl
  unfold WrtP at h
  rw [e1, e2, e3] at h
  exact h
theorem bit_write0 (w : World) (g : Nat) (v : Value) (l : List Bool) (low : Bool) (hl : l.length ≤ 1000000) (hW : Ws w g v l low) :
    Calls Try.prog 22 #[.pointer (some ⟨g, 0, none⟩), .int .u32 0, .int .i64 1] w (BitP w g v (l ++ [false]) low) := bit_write false w g v l low hl hW
theorem bit_write1 (w : World) (g : Nat) (v : Value) (l : List Bool) (low : Bool) (hl : l.length ≤ 1000000) (hW : Ws w g v l low) :
    Calls Try.prog 22 #[.pointer (some ⟨g, 0, none⟩), .int .u32 1, .int .i64 1] w (BitP w g v (l ++ [true]) low) := bit_write true w g v l low hl hW
/-- the three writers: a has nothing yet, b and c have the same bits -/
def WdR (W : World) (ga gb gc : Nat) (L : List Bool) (low : Bool) (wr : World) : Prop :=
  Below W.heap.size W wr ∧ Ws wr ga (.slice none 0 0) [] low ∧ ∃ vb vc, Ws wr gb vb L low ∧ Ws wr gc vc L (!low) ∧ (∀ k, vb.ownBlock = some k → gc < k) ∧ (∀ k, vc.ownBlock = some k → gc < k) ∧ ∀ k, vb.ownBlock = some k → vc.ownBlock ≠ some k
theorem own_lt {w : World} {g n : Nat} {v : Value} {xs : List UInt8} {low : Bool} (h : Wr w g v xs n low) : ∀ k, v.ownBlock = some k → k < w.heap.size := fun k hk => (World.ownsRow.lt h.2.1 k hk).2
set_option maxHeartbeats 4000000 in
set_option maxRecDepth 100000 in
theorem words_walk (p : Option Addr) (len cap : Nat) (low : Bool) (w : World) (hbo : IsBools w p len cap) :
    Calls Try.prog 8 #[.slice p len cap, .bool low] w fun e w' => e = .returned (.bool true) ∧ Below w.heap.size w w' := by
  obtain ⟨hlc, hcm, hbs⟩ := hbo
  unfold maxLen at hcm
  by_cases hbig : 2000 < len
  · have hd : decide (2000 < (len : Int)) = true := by simp; omega
    go_enter Try.func8, Try.ntmps8
    go_wp2_with fail
    refine (lives_any _).mono ?_
    rintro e w1 ⟨rfl, hb1⟩
    go_wp2_with fail
    refine (lives_any _).mono ?_
    rintro e w2 ⟨rfl, hb2⟩
    go_wp2_with fail
    go_ret
    exact ⟨rfl, hb1.trans (hb2.mono hb1.size)⟩
  · have hd : decide (2000 < (len : Int)) = false := by simp; omega
    go_enter Try.func8, Try.ntmps8
    go_wp2_with fail
    refine (lives_any _).mono ?_
    rintro e w1 ⟨rfl, hb1⟩
    go_wp2_with fail
    refine (newWriter_any _ _).mono ?_
    rintro e w2 ⟨hb2, rfl, hWa2⟩
    obtain ⟨ga, hga⟩ : ∃ g, g = w1.heap.size := ⟨_, rfl⟩
    rw [← hga] at hWa2 ⊢
    have HGA := Lib.hid hga
    clear hga
    go_wp2_with fail
    refine (newWriter_any _ _).mono ?_
    rintro e w3 ⟨hb3, rfl, hWb3⟩
    obtain ⟨gb, hgb⟩ : ∃ g, g = w2.heap.size := ⟨_, rfl⟩
    rw [← hgb] at hWb3 ⊢
    have HGB := Lib.hid hgb
    clear hgb
    go_wp2_with fail
    refine (newWriter_any _ _).mono ?_
    rintro e w4 ⟨hb4, rfl, hWc4⟩
    obtain ⟨gc, hgc⟩ : ∃ g, g = w3.heap.size := ⟨_, rfl⟩
    rw [← hgc] at hWc4 ⊢
    have hWa4 := Ws.later (Ws.later hWa2 hb3) hb4
    have hWb4 := Ws.later hWb3 hb4
    have hab : ga < gb := by rw [HGB.out]; exact Wr.lt hWa2
    have hbc : gb < gc := by rw [hgc]; exact Wr.lt hWb3
    have hwa : w.heap.size ≤ ga := by rw [HGA.out]; exact hb1.size
    have hB4 : Below w.heap.size w w4 := ((hb1.trans (hb2.mono hb1.size)).trans (hb3.mono (by have := hb1.size; have := hb2.size; omega))).trans (hb4.mono (by have := hb1.size; have := hb2.size; have := hb3.size; omega))
    have hD : WdR w ga gb gc [] low w4 := ⟨hB4, hWa4, _, _, hWb4, hWc4, (fun k h => by cases h), (fun k h => by cases h), (fun k h => by cases h)⟩
    clear HGA HGB hgc hWa2 hWb3 hWc4 hWa4 hWb4 hb1 hb2 hb3 hb4 hB4
    have hcv0 : ∀ w : World, (convert 21 9 (.int .i32 48)).run Try.prog w = .ok (.string (ds [false])) w := fun _ => by kernel_rfl
    have hcv1 : ∀ w : World, (convert 21 9 (.int .i32 49)).run Try.prog w = .ok (.string (ds [true])) w := fun _ => by kernel_rfl
    have hz0 : (ds [false]).size = 1 := rfl
    have hz1 : (ds [true]).size = 1 := rfl
    go_wp2_with fail
    go_loopw [8, 29] (fun s c wr => ∃ L : List Bool, L.length ≤ len ∧ s = .string (ds L) ∧ c = .int .i64 (L.length : Int) ∧ WdR w ga gb gc L low wr) (fun _ c _ => len - (intOf c).toNat)
    case atStart => exact ⟨[], by simp, rfl, rfl, hD⟩
    case round =>
      obtain ⟨L, hL, rfl, rfl, hR⟩ := hrel
      obtain ⟨hB, hWa, vb, vc, hWb, hWc, hvb, hvc, hne⟩ := hR
      have hzL : (ds L).size ≤ 2000 := by rw [ds_size]; omega
      by_cases hlt : L.length < len
      · obtain ⟨b, off, rfl, hbl, hall⟩ := hbs (by omega)
        obtain ⟨x, hx⟩ := hall L.length hlt
        have hcx := (hB.cell (p := ⟨b, off + L.length, none⟩) hbl).trans hx
        have HWB0 := Lib.hid (bit_write0 wr gb vb L low (by omega) hWb)
        have HWB1 := Lib.hid (bit_write1 wr gb vb L low (by omega) hWb)
        have HVB := Lib.hid hvb
        have HVC := Lib.hid hvc
        have HNE := Lib.hid hne
        clear hall hx hvb hvc hne hD
        have key : ∀ w5, WsT wr gb vb (L ++ [x]) low w5 → ∃ vb', Ws w5 gb vb' (L ++ [x]) low ∧ Ws w5 gc vc L (!low) ∧ Ws w5 ga (.slice none 0 0) [] low ∧ Below w.heap.size w w5 ∧ (∀ k, vb'.ownBlock = some k → gc < k) ∧ ∀ k, vb'.ownBlock = some k → vc.ownBlock ≠ some k := by
          rintro w5 ⟨vb', hW5, ho5, hd5⟩
          have hz5 := hB.size
          have hnb : ∀ k, k < gb → ¬ Mine gb vb k := fun k hk hm => by
            rcases hm with h | h
            · omega
            · have := HVB.out k h; omega
          refine ⟨vb', hW5, Wr.only hWc ho5 ?_ ?_, Wr.only hWa ho5 (hnb ga hab) (fun k hk => by cases hk), hB.trans (ho5.below hz5 (fun k hk => hnb k (by omega))), fun k hk => ?_, fun k hk hc => ?_⟩
          · rintro (h | h)
            · omega
            · have := HVB.out gc h; omega
          · intro k hk hm
            rcases hm with h | h
            · have := HVC.out k hk; omega
            · exact HNE.out k h hk
          · rcases hd5 k hk with h | h
            · exact HVB.out k h
            · have := Wr.lt hWc; omega
          · rcases hd5 k hk with h | h
            · exact HNE.out k h hc
            · have := own_lt hWc k hc; omega
        have key2 : ∀ w5 vb', Ws w5 gb vb' (L ++ [x]) low → Ws w5 gc vc L (!low) → Ws w5 ga (.slice none 0 0) [] low → Below w.heap.size w w5 → (∀ k, vb'.ownBlock = some k → gc < k) → (∀ k, vb'.ownBlock = some k → vc.ownBlock ≠ some k) →
            ∀ w6, WsT w5 gc vc (L ++ [x]) (!low) w6 → WdR w ga gb gc (L ++ [x]) low w6 := by
          rintro w5 vb' hWb5 hWc5 hWa5 hB5 hvb5 hne5 w6 ⟨vc', hW6, ho6, hd6⟩
          have hz5 := hB5.size
          have hnc : ∀ k, k < gc → ¬ Mine gc vc k := fun k hk hm => by
            rcases hm with h | h
            · omega
            · have := HVC.out k h; omega
          refine ⟨hB5.trans (ho6.below hz5 (fun k hk => hnc k (by omega))), Wr.only hWa5 ho6 (hnc ga (by omega)) (fun k hk => by cases hk), vb', vc', Wr.only hWb5 ho6 (hnc gb hbc) ?_, hW6, hvb5, fun k hk => ?_, fun k hk hc => ?_⟩
          · intro k hk hm
            rcases hm with h | h
            · have := hvb5 k hk; omega
            · exact hne5 k hk h
          · rcases hd6 k hk with h | h
            · exact HVC.out k h
            · have := Wr.lt hWc5; omega
          · rcases hd6 k hc with h | h
            · exact hne5 k hk h
            · have := own_lt hWb5 k hk; omega
        have hll : (L ++ [x]).length = L.length + 1 := by simp
        have happ : ds L ++ ds [x] = ds (L ++ [x]) := ds_append L [x]
        have HKEY := Lib.hid key
        have HKEY2 := Lib.hid key2
        have HLL := Lib.hid hll
        have HAPP := Lib.hid happ
        have hL1 : L.length ≤ 1000000 := by omega
        clear key key2 hll happ hWb hWc hWa
        cases x
        · go_wp2_with fail
          refine HWB0.out.mono ?_
          rintro e w5 ⟨rfl, hT5⟩
          obtain ⟨vb', hWb5, hWc5, hWa5, hB5, hvb5, hne5⟩ := HKEY.out w5 hT5
          have hwc := bit_write0 w5 gc vc L (!low) hL1 hWc5
          have HWC := Lib.hid hwc
          have HK2 := Lib.hid (HKEY2.out w5 vb' hWb5 hWc5 hWa5 hB5 hvb5 hne5)
          clear hwc hWb5 hWc5 hWa5 hB5 hvb5 hne5 hT5
          go_wp2_with fail
          refine HWC.out.mono ?_
          rintro e w6 ⟨rfl, hT6⟩
          go_wp2_with fail
          go_roundw
          case rel => exact ⟨L ++ [false], by rw [HLL.out]; omega, by rw [HAPP.out], by rw [HLL.out]; go_num, HK2.out w6 hT6⟩
          case measure => simp [intOf]; omega
        · go_wp2_with fail
          refine HWB1.out.mono ?_
          rintro e w5 ⟨rfl, hT5⟩
          obtain ⟨vb', hWb5, hWc5, hWa5, hB5, hvb5, hne5⟩ := HKEY.out w5 hT5
          have hwc := bit_write1 w5 gc vc L (!low) hL1 hWc5
          have HWC := Lib.hid hwc
          have HK2 := Lib.hid (HKEY2.out w5 vb' hWb5 hWc5 hWa5 hB5 hvb5 hne5)
          clear hwc hWb5 hWc5 hWa5 hB5 hvb5 hne5 hT5
          go_wp2_with fail
          refine HWC.out.mono ?_
          rintro e w6 ⟨rfl, hT6⟩
          go_wp2_with fail
          go_roundw
          case rel => exact ⟨L ++ [true], by rw [HLL.out]; omega, by rw [HAPP.out], by rw [HLL.out]; go_num, HK2.out w6 hT6⟩
          case measure => simp [intOf]; omega
      · have hlen : len = L.length := by omega
        have hwd := word_any wr ga (.slice none 0 0) [] L low (by simp; omega) hWa
        have HWD := Lib.hid hwd
        have hL1 : L.length ≤ 1000000 := by omega
        clear hwd
        subst hlen
        go_wp2_with fail
        refine HWD.out.mono ?_
        rintro e w2 ⟨rfl, hT2⟩
        obtain ⟨va, hWa2, ho2, hd2⟩ := hT2
        rw [List.nil_append] at hWa2
        have hWb2 : Ws w2 gb vb L low := Wr.only hWb ho2 (by rintro (h | h); omega; cases h) (by
          intro k hk hm
          rcases hm with h | h
          · have := hvb k hk; omega
          · cases h)
        have hWc2 : Ws w2 gc vc L (!low) := Wr.only hWc ho2 (by rintro (h | h); omega; cases h) (by
          intro k hk hm
          rcases hm with h | h
          · have := hvc k hk; omega
          · cases h)
        have hB2 : Below w.heap.size w w2 := hB.trans (ho2.below hB.size (fun k hk hm => by
          rcases hm with h | h
          · omega
          · cases h))
        have hl1 := len_any w2 ga va L low hWa2
        have hl2 := len_any w2 gb vb L low hWb2
        have hy1 := bytes_any w2.drew ga va L low (by exact hWa2) hL1
        have HL1 := Lib.hid hl1
        have HL2 := Lib.hid hl2
        have HY1 := Lib.hid hy1
        have HWA2 := Lib.hid hWa2
        have HWB2 := Lib.hid hWb2
        have HWC2 := Lib.hid hWc2
        have hpl1 := packB_length low L
        have hpl2 := packB_length (!low) L
        have HPL1 := Lib.hid hpl1
        have HPL2 := Lib.hid hpl2
        have HRV := Lib.hid (packB_rev low L)
        clear hl1 hl2 hy1 hWa2 hWb2 hWc2 hpl1 hpl2 hWa hWb hWc hvb hvc hne ho2 hd2 hcv0 hcv1 hD hz0 hz1
        go_wp2_with fail
        refine HL1.out.mono ?_
        rintro e w' ⟨rfl, rfl⟩
        go_wp2_with fail
        refine HL2.out.mono ?_
        rintro e w' ⟨rfl, rfl⟩
        go_wp2_with fail
        refine wp_region_held_drew (S := fun _ => True) (by kernel_rfl) trivial (fun hHeld => ?_)
        refine wpAnyH_take (i := 0) (v := ?v1) rfl (by kernel_rfl) (by kernel_rfl) (by kernel_rfl) (fun _ _ _ h => h) (Or.inl ⟨by rfl, fun w hSw => ?y1⟩) trivial ?r1
        case y1 => (try dsimp only at hSw); first | (go_simp; done) | (go_simp; with_reducible rfl)
        try simp only [Act.put, List.setIfInBounds_toArray, List.set_cons_zero, List.set_cons_succ, List.getElem_toArray, List.getElem_cons_zero, List.getElem_cons_succ]
        refine wpAnyH_take (i := 3) (v := ?v2) rfl (by kernel_rfl) (by kernel_rfl) (by kernel_rfl) (fun _ _ _ h => h) (Or.inl ⟨by rfl, fun w hSw => ?y2⟩) trivial ?r2
        case y2 => (try dsimp only at hSw); first | (go_simp; done) | (go_simp; with_reducible rfl)
        try simp only [Act.put, List.setIfInBounds_toArray, List.set_cons_zero, List.set_cons_succ, List.getElem_toArray, List.getElem_cons_zero, List.getElem_cons_succ]
        refine wpAnyH_ready (rs := [1]) (by kernel_rfl) (by simp) ?_
        refine AllReadyH.cons rfl (fun K hK => ?_) AllReadyH.nil
        go_simp
        refine HY1.out.mono ?_
        rintro e w3 ⟨hb3, q1, cap1, rfl, hr1, _⟩
        have cvA3 := conv_row (packB low L).length cap1 hr1 rfl
        have hWb3 : Ws w3 gb vb L low := Ws.later (w := w2.drew) (by exact HWB2.out) hb3
        have hWc3 : Ws w3 gc vc L (!low) := Ws.later (w := w2.drew) (by exact HWC2.out) hb3
        have hWa3 : Ws w3 ga va L low := Ws.later (w := w2.drew) (by exact HWA2.out) hb3
        have HY4 := Lib.hid (bytes_any w3 gb vb L low hWb3 hL1)
        have HR1 := Lib.hid hr1
        have HWC3 := Lib.hid hWc3
        have HWA3 := Lib.hid hWa3
        clear hr1 hWb3 hWc3 hWa3
        go_wp2_with fail
        refine hK.out _ _ trivial (fun hH1 => ?_)
        clear hK K
        try simp only [Act.put, List.setIfInBounds_toArray, List.set_cons_zero, List.set_cons_succ, List.getElem_toArray, List.getElem_cons_zero, List.getElem_cons_succ]
        refine wpAnyH_ready (rs := [2, 4]) (by kernel_rfl) (by simp) ?_
        refine AllReadyH.cons rfl (fun K hK => ?_) (AllReadyH.cons rfl (fun K hK => ?_) AllReadyH.nil)
        · go_simp
          refine hK.out _ _ trivial (fun hH2 => ?_)
          clear hK K
          try simp only [Act.put, List.setIfInBounds_toArray, List.set_cons_zero, List.set_cons_succ, List.getElem_toArray, List.getElem_cons_zero, List.getElem_cons_succ]
          refine wpAnyH_ready (rs := [4]) (by kernel_rfl) (by simp) ?_
          refine AllReadyH.cons rfl (fun K hK => ?_) AllReadyH.nil
          go_simp
          refine HY4.out.mono ?_
          rintro e w4 ⟨hb4, q2, cap2, rfl, hr2, _⟩
          have cvA4 := conv_row (packB low L).length cap1 (HR1.out.below hb4) rfl
          have cvB4 := conv_row (packB low L).length cap2 hr2 rfl
          have hWc4 : Ws w4 gc vc L (!low) := Ws.later HWC3.out hb4
          have hWa4 : Ws w4 ga va L low := Ws.later HWA3.out hb4
          have HY9 := Lib.hid (bytes_any w4 gc vc L (!low) hWc4 hL1)
          have HWA4 := Lib.hid hWa4
          clear hr2 hWc4 hWa4
          go_wp2_with fail
          refine hK.out _ _ trivial (fun hH3 => ?_)
          clear hK K
          try simp only [Act.put, List.setIfInBounds_toArray, List.set_cons_zero, List.set_cons_succ, List.getElem_toArray, List.getElem_cons_zero, List.getElem_cons_succ]
          refine wpAnyH_ready (rs := [5]) (by kernel_rfl) (by simp) ?_
          refine AllReadyH.cons rfl (fun K hK => ?_) AllReadyH.nil
          go_simp
          refine hK.out _ _ trivial (fun hH4 => ?_)
          clear hK K
          try simp only [Act.put, List.setIfInBounds_toArray, List.set_cons_zero, List.set_cons_succ, List.getElem_toArray, List.getElem_cons_zero, List.getElem_cons_succ]
          refine wpAnyH_take (i := 6) (v := ?v3) rfl (by kernel_rfl) (by kernel_rfl) (by kernel_rfl) (fun _ _ _ h => h) (Or.inl ⟨by rfl, fun w hSw => ?y3⟩) trivial ?r3
          case y3 => (try dsimp only at hSw); first | (go_simp; done) | (go_simp; with_reducible rfl)
          try simp only [Act.put, List.setIfInBounds_toArray, List.set_cons_zero, List.set_cons_succ, List.getElem_toArray, List.getElem_cons_zero, List.getElem_cons_succ]
          refine wpAnyH_take (i := 7) (v := ?v4) rfl (by kernel_rfl) (by kernel_rfl) (by kernel_rfl) (fun _ _ _ h => h) (Or.inl ⟨by rfl, fun w hSw => ?y4⟩) trivial ?r4
          case y4 => (try dsimp only at hSw); first | (go_simp; done) | (go_simp; with_reducible rfl)
          try simp only [Act.put, List.setIfInBounds_toArray, List.set_cons_zero, List.set_cons_succ, List.getElem_toArray, List.getElem_cons_zero, List.getElem_cons_succ]
          refine wpAnyH_take (i := 8) (v := ?v5) rfl (by kernel_rfl) (by kernel_rfl) (by kernel_rfl) (fun _ _ _ h => h) (Or.inl ⟨by rfl, fun w hSw => ?y5⟩) trivial ?r5
          case y5 => (try dsimp only at hSw); first | (go_simp; done) | (go_simp; with_reducible rfl)
          try simp only [Act.put, List.setIfInBounds_toArray, List.set_cons_zero, List.set_cons_succ, List.getElem_toArray, List.getElem_cons_zero, List.getElem_cons_succ]
          refine wpAnyH_take (i := 12) (v := ?v6) rfl (by kernel_rfl) (by kernel_rfl) (by kernel_rfl) (fun _ _ _ h => h) (Or.inl ⟨by rfl, fun w hSw => ?y6⟩) trivial ?r6
          case y6 => (try dsimp only at hSw); first | (go_simp; done) | (go_simp; with_reducible rfl)
          try simp only [Act.put, List.setIfInBounds_toArray, List.set_cons_zero, List.set_cons_succ, List.getElem_toArray, List.getElem_cons_zero, List.getElem_cons_succ]
          refine wpAnyH_ready (rs := [9]) (by kernel_rfl) (by simp) ?_
          refine AllReadyH.cons rfl (fun K hK => ?_) AllReadyH.nil
          go_simp
          refine HY9.out.mono ?_
          rintro e w5 ⟨hb5, q3, cap3, rfl, hr3, _⟩
          have hWa5 : Ws w5 ga va L low := Ws.later HWA4.out hb5
          have HY10 := Lib.hid (reverseAll_any q3 (packB (!low) L).length cap3 (packB (!low) L) w5 hr3 rfl (by rw [HPL2.out]; omega))
          have HWA5 := Lib.hid hWa5
          clear hr3 hWa5
          go_wp2_with fail
          refine hK.out _ _ trivial (fun hH5 => ?_)
          clear hK K
          try simp only [Act.put, List.setIfInBounds_toArray, List.set_cons_zero, List.set_cons_succ, List.getElem_toArray, List.getElem_cons_zero, List.getElem_cons_succ]
          refine wpAnyH_ready (rs := [10]) (by kernel_rfl) (by simp) ?_
          refine AllReadyH.cons rfl (fun K hK => ?_) AllReadyH.nil
          go_simp
          refine HY10.out.mono ?_
          rintro e w6 ⟨hb6, rfl, hB6⟩
          rw [HRV.out] at hB6
          have cvC6 := conv_row (packB (!low) L).length (packB (!low) L).length hB6.row (by rw [HPL1.out, HPL2.out])
          have hWa6 : Ws w6 ga va L low := Ws.later HWA5.out hb6
          have HY13 := Lib.hid (bytes_any w6 ga va L low hWa6 hL1)
          have HB6 := Lib.hid (show Row w6 (some ⟨w5.heap.size, 0, none⟩) (packB low L) from hB6.row)
          clear hB6 hWa6
          go_wp2_with fail
          refine hK.out _ _ trivial (fun hH6 => ?_)
          clear hK K
          try simp only [Act.put, List.setIfInBounds_toArray, List.set_cons_zero, List.set_cons_succ, List.getElem_toArray, List.getElem_cons_zero, List.getElem_cons_succ]
          refine wpAnyH_ready (rs := [11, 13]) (by kernel_rfl) (by simp) ?_
          refine AllReadyH.cons rfl (fun K hK => ?_) (AllReadyH.cons rfl (fun K hK => ?_) AllReadyH.nil)
          · go_simp
            refine hK.out _ _ trivial (fun hH7 => ?_)
            clear hK K
            try simp only [Act.put, List.setIfInBounds_toArray, List.set_cons_zero, List.set_cons_succ, List.getElem_toArray, List.getElem_cons_zero, List.getElem_cons_succ]
            refine wpAnyH_ready (rs := [13]) (by kernel_rfl) (by simp) ?_
            refine AllReadyH.cons rfl (fun K hK => ?_) AllReadyH.nil
            go_simp
            refine HY13.out.mono ?_
            rintro e w7 ⟨hb7, q4, cap4, rfl, hr4, _⟩
            have cvC7 := conv_row (packB (!low) L).length (packB (!low) L).length (HB6.out.below hb7) (by rw [HPL1.out, HPL2.out])
            have cvD7 := conv_row (packB low L).length cap4 hr4 rfl
            clear hr4
            go_wp2_with fail
            refine hK.out _ _ trivial (fun hH8 => ?_)
            clear hK K
            try simp only [Act.put, List.setIfInBounds_toArray, List.set_cons_zero, List.set_cons_succ, List.getElem_toArray, List.getElem_cons_zero, List.getElem_cons_succ]
            refine wpAnyH_ready (rs := [14]) (by kernel_rfl) (by simp) ?_
            refine AllReadyH.cons rfl (fun K hK => ?_) AllReadyH.nil
            go_simp
            refine hK.out _ _ trivial (fun hH9 => ?_)
            clear hK K
            try simp only [Act.put, List.setIfInBounds_toArray, List.set_cons_zero, List.set_cons_succ, List.getElem_toArray, List.getElem_cons_zero, List.getElem_cons_succ]
            refine wpAnyH_take (i := 15) (v := ?v7) rfl (by kernel_rfl) (by kernel_rfl) (by kernel_rfl) (fun _ _ _ h => h) (Or.inl ⟨by rfl, fun w hSw => ?y7⟩) trivial ?r7
            case y7 => (try dsimp only at hSw); first | (go_simp; done) | (go_simp; with_reducible rfl)
            try simp only [Act.put, List.setIfInBounds_toArray, List.set_cons_zero, List.set_cons_succ, List.getElem_toArray, List.getElem_cons_zero, List.getElem_cons_succ]
            refine wpAnyH_take (i := 16) (v := ?v8) rfl (by kernel_rfl) (by kernel_rfl) (by kernel_rfl) (fun _ _ _ h => h) (Or.inl ⟨by rfl, fun w hSw => ?y8⟩) trivial ?r8
            case y8 => (try dsimp only at hSw); first | (go_simp; done) | (go_simp; with_reducible rfl)
            try simp only [Act.put, List.setIfInBounds_toArray, List.set_cons_zero, List.set_cons_succ, List.getElem_toArray, List.getElem_cons_zero, List.getElem_cons_succ]
            refine wpAnyH_take (i := 17) (v := ?v9) rfl (by kernel_rfl) (by kernel_rfl) (by kernel_rfl) (fun _ _ _ h => h) (Or.inl ⟨by rfl, fun w hSw => ?y9⟩) trivial ?r9
            case y9 => (try dsimp only at hSw); first | (go_simp; done) | (go_simp; with_reducible rfl)
            try simp only [Act.put, List.setIfInBounds_toArray, List.set_cons_zero, List.set_cons_succ, List.getElem_toArray, List.getElem_cons_zero, List.getElem_cons_succ]
            refine wpAnyH_done (by kernel_rfl) ?_ _
            have hdr : Below w2.heap.size w2 w2.drew := (Only.drawn (fun _ => False) ⟨1, rfl⟩ : Only (fun _ => False) w2 w2.drew).below (Nat.le_refl _) (fun _ _ h => h)
            have hz3 : w2.heap.size ≤ w3.heap.size := hb3.size
            have hz4 := hb4.size
            have hz5 := hb5.size
            have hz6 := hb6.size
            have hz0 := hB2.size
            have hB7 : Below w.heap.size w w7 := (((((hB2.trans (hdr.mono hz0)).trans (hb3.mono (by exact hz0))).trans (hb4.mono (by omega))).trans (hb5.mono (by omega))).trans (hb6.mono (by omega))).trans (hb7.mono (by omega))
            go_wp2_with fail
            go_ret
            exact ⟨rfl, hB7⟩
          · go_simp
            refine HY13.out.mono ?_
            rintro e w7 ⟨hb7, q4, cap4, rfl, hr4, _⟩
            have cvC7 := conv_row (packB (!low) L).length (packB (!low) L).length (HB6.out.below hb7) (by rw [HPL1.out, HPL2.out])
            have cvD7 := conv_row (packB low L).length cap4 hr4 rfl
            clear hr4
            go_wp2_with fail
            refine hK.out _ _ trivial (fun hH10 => ?_)
            clear hK K
            try simp only [Act.put, List.setIfInBounds_toArray, List.set_cons_zero, List.set_cons_succ, List.getElem_toArray, List.getElem_cons_zero, List.getElem_cons_succ]
            refine wpAnyH_ready (rs := [11, 14]) (by kernel_rfl) (by simp) ?_
            refine AllReadyH.cons rfl (fun K hK => ?_) (AllReadyH.cons rfl (fun K hK => ?_) AllReadyH.nil)
            · go_simp
              refine hK.out _ _ trivial (fun hH11 => ?_)
              clear hK K
              try simp only [Act.put, List.setIfInBounds_toArray, List.set_cons_zero, List.set_cons_succ, List.getElem_toArray, List.getElem_cons_zero, List.getElem_cons_succ]
              refine wpAnyH_ready (rs := [14]) (by kernel_rfl) (by simp) ?_
              refine AllReadyH.cons rfl (fun K hK => ?_) AllReadyH.nil
              go_simp
              refine hK.out _ _ trivial (fun hH12 => ?_)
              clear hK K
              try simp only [Act.put, List.setIfInBounds_toArray, List.set_cons_zero, List.set_cons_succ, List.getElem_toArray, List.getElem_cons_zero, List.getElem_cons_succ]
              refine wpAnyH_take (i := 15) (v := ?v10) rfl (by kernel_rfl) (by kernel_rfl) (by kernel_rfl) (fun _ _ _ h => h) (Or.inl ⟨by rfl, fun w hSw => ?y10⟩) trivial ?r10
              case y10 => (try dsimp only at hSw); first | (go_simp; done) | (go_simp; with_reducible rfl)
              try simp only [Act.put, List.setIfInBounds_toArray, List.set_cons_zero, List.set_cons_succ, List.getElem_toArray, List.getElem_cons_zero, List.getElem_cons_succ]
              refine wpAnyH_take (i := 16) (v := ?v11) rfl (by kernel_rfl) (by kernel_rfl) (by kernel_rfl) (fun _ _ _ h => h) (Or.inl ⟨by rfl, fun w hSw => ?y11⟩) trivial ?r11
              case y11 => (try dsimp only at hSw); first | (go_simp; done) | (go_simp; with_reducible rfl)
              try simp only [Act.put, List.setIfInBounds_toArray, List.set_cons_zero, List.set_cons_succ, List.getElem_toArray, List.getElem_cons_zero, List.getElem_cons_succ]
              refine wpAnyH_take (i := 17) (v := ?v12) rfl (by kernel_rfl) (by kernel_rfl) (by kernel_rfl) (fun _ _ _ h => h) (Or.inl ⟨by rfl, fun w hSw => ?y12⟩) trivial ?r12
              case y12 => (try dsimp only at hSw); first | (go_simp; done) | (go_simp; with_reducible rfl)
              try simp only [Act.put, List.setIfInBounds_toArray, List.set_cons_zero, List.set_cons_succ, List.getElem_toArray, List.getElem_cons_zero, List.getElem_cons_succ]
              refine wpAnyH_done (by kernel_rfl) ?_ _
              have hdr : Below w2.heap.size w2 w2.drew := (Only.drawn (fun _ => False) ⟨1, rfl⟩ : Only (fun _ => False) w2 w2.drew).below (Nat.le_refl _) (fun _ _ h => h)
              have hz3 : w2.heap.size ≤ w3.heap.size := hb3.size
              have hz4 := hb4.size
              have hz5 := hb5.size
              have hz6 := hb6.size
              have hz0 := hB2.size
              have hB7 : Below w.heap.size w w7 := (((((hB2.trans (hdr.mono hz0)).trans (hb3.mono (by exact hz0))).trans (hb4.mono (by omega))).trans (hb5.mono (by omega))).trans (hb6.mono (by omega))).trans (hb7.mono (by omega))
              go_wp2_with fail
              go_ret
              exact ⟨rfl, hB7⟩
            · go_simp
              refine hK.out _ _ trivial (fun hH13 => ?_)
              clear hK K
              try simp only [Act.put, List.setIfInBounds_toArray, List.set_cons_zero, List.set_cons_succ, List.getElem_toArray, List.getElem_cons_zero, List.getElem_cons_succ]
              refine wpAnyH_ready (rs := [11]) (by kernel_rfl) (by simp) ?_
              refine AllReadyH.cons rfl (fun K hK => ?_) AllReadyH.nil
              go_simp
              refine hK.out _ _ trivial (fun hH14 => ?_)
              clear hK K
              try simp only [Act.put, List.setIfInBounds_toArray, List.set_cons_zero, List.set_cons_succ, List.getElem_toArray, List.getElem_cons_zero, List.getElem_cons_succ]
              refine wpAnyH_take (i := 15) (v := ?v13) rfl (by kernel_rfl) (by kernel_rfl) (by kernel_rfl) (fun _ _ _ h => h) (Or.inl ⟨by rfl, fun w hSw => ?y13⟩) trivial ?r13
              case y13 => (try dsimp only at hSw); first | (go_simp; done) | (go_simp; with_reducible rfl)
              try simp only [Act.put, List.setIfInBounds_toArray, List.set_cons_zero, List.set_cons_succ, List.getElem_toArray, List.getElem_cons_zero, List.getElem_cons_succ]
              refine wpAnyH_take (i := 16) (v := ?v14) rfl (by kernel_rfl) (by kernel_rfl) (by kernel_rfl) (fun _ _ _ h => h) (Or.inl ⟨by rfl, fun w hSw => ?y14⟩) trivial ?r14
              case y14 => (try dsimp only at hSw); first | (go_simp; done) | (go_simp; with_reducible rfl)
              try simp only [Act.put, List.setIfInBounds_toArray, List.set_cons_zero, List.set_cons_succ, List.getElem_toArray, List.getElem_cons_zero, List.getElem_cons_succ]
              refine wpAnyH_take (i := 17) (v := ?v15) rfl (by kernel_rfl) (by kernel_rfl) (by kernel_rfl) (fun _ _ _ h => h) (Or.inl ⟨by rfl, fun w hSw => ?y15⟩) trivial ?r15
              case y15 => (try dsimp only at hSw); first | (go_simp; done) | (go_simp; with_reducible rfl)
              try simp only [Act.put, List.setIfInBounds_toArray, List.set_cons_zero, List.set_cons_succ, List.getElem_toArray, List.getElem_cons_zero, List.getElem_cons_succ]
              refine wpAnyH_done (by kernel_rfl) ?_ _
              have hdr : Below w2.heap.size w2 w2.drew := (Only.drawn (fun _ => False) ⟨1, rfl⟩ : Only (fun _ => False) w2 w2.drew).below (Nat.le_refl _) (fun _ _ h => h)
              have hz3 : w2.heap.size ≤ w3.heap.size := hb3.size
              have hz4 := hb4.size
              have hz5 := hb5.size
              have hz6 := hb6.size
              have hz0 := hB2.size
              have hB7 : Below w.heap.size w w7 := (((((hB2.trans (hdr.mono hz0)).trans (hb3.mono (by exact hz0))).trans (hb4.mono (by omega))).trans (hb5.mono (by omega))).trans (hb6.mono (by omega))).trans (hb7.mono (by omega))
              go_wp2_with fail
              go_ret
              exact ⟨rfl, hB7⟩
        · go_simp
          refine HY4.out.mono ?_
          rintro e w4 ⟨hb4, q2, cap2, rfl, hr2, _⟩
          have cvA4 := conv_row (packB low L).length cap1 (HR1.out.below hb4) rfl
          have cvB4 := conv_row (packB low L).length cap2 hr2 rfl
          have hWc4 : Ws w4 gc vc L (!low) := Ws.later HWC3.out hb4
          have hWa4 : Ws w4 ga va L low := Ws.later HWA3.out hb4
          have HY9 := Lib.hid (bytes_any w4 gc vc L (!low) hWc4 hL1)
          have HWA4 := Lib.hid hWa4
          clear hr2 hWc4 hWa4
          go_wp2_with fail
          refine hK.out _ _ trivial (fun hH15 => ?_)
          clear hK K
          try simp only [Act.put, List.setIfInBounds_toArray, List.set_cons_zero, List.set_cons_succ, List.getElem_toArray, List.getElem_cons_zero, List.getElem_cons_succ]
          refine wpAnyH_ready (rs := [2, 5]) (by kernel_rfl) (by simp) ?_
          refine AllReadyH.cons rfl (fun K hK => ?_) (AllReadyH.cons rfl (fun K hK => ?_) AllReadyH.nil)
          · go_simp
            refine hK.out _ _ trivial (fun hH16 => ?_)
            clear hK K
            try simp only [Act.put, List.setIfInBounds_toArray, List.set_cons_zero, List.set_cons_succ, List.getElem_toArray, List.getElem_cons_zero, List.getElem_cons_succ]
            refine wpAnyH_ready (rs := [5]) (by kernel_rfl) (by simp) ?_
            refine AllReadyH.cons rfl (fun K hK => ?_) AllReadyH.nil
            go_simp
            refine hK.out _ _ trivial (fun hH17 => ?_)
            clear hK K
            try simp only [Act.put, List.setIfInBounds_toArray, List.set_cons_zero, List.set_cons_succ, List.getElem_toArray, List.getElem_cons_zero, List.getElem_cons_succ]
            refine wpAnyH_take (i := 6) (v := ?v16) rfl (by kernel_rfl) (by kernel_rfl) (by kernel_rfl) (fun _ _ _ h => h) (Or.inl ⟨by rfl, fun w hSw => ?y16⟩) trivial ?r16
            case y16 => (try dsimp only at hSw); first | (go_simp; done) | (go_simp; with_reducible rfl)
            try simp only [Act.put, List.setIfInBounds_toArray, List.set_cons_zero, List.set_cons_succ, List.getElem_toArray, List.getElem_cons_zero, List.getElem_cons_succ]
            refine wpAnyH_take (i := 7) (v := ?v17) rfl (by kernel_rfl) (by kernel_rfl) (by kernel_rfl) (fun _ _ _ h => h) (Or.inl ⟨by rfl, fun w hSw => ?y17⟩) trivial ?r17
            case y17 => (try dsimp only at hSw); first | (go_simp; done) | (go_simp; with_reducible rfl)
            try simp only [Act.put, List.setIfInBounds_toArray, List.set_cons_zero, List.set_cons_succ, List.getElem_toArray, List.getElem_cons_zero, List.getElem_cons_succ]
            refine wpAnyH_take (i := 8) (v := ?v18) rfl (by kernel_rfl) (by kernel_rfl) (by kernel_rfl) (fun _ _ _ h => h) (Or.inl ⟨by rfl, fun w hSw => ?y18⟩) trivial ?r18
            case y18 => (try dsimp only at hSw); first | (go_simp; done) | (go_simp; with_reducible rfl)
            try simp only [Act.put, List.setIfInBounds_toArray, List.set_cons_zero, List.set_cons_succ, List.getElem_toArray, List.getElem_cons_zero, List.getElem_cons_succ]
            refine wpAnyH_take (i := 12) (v := ?v19) rfl (by kernel_rfl) (by kernel_rfl) (by kernel_rfl) (fun _ _ _ h => h) (Or.inl ⟨by rfl, fun w hSw => ?y19⟩) trivial ?r19
            case y19 => (try dsimp only at hSw); first | (go_simp; done) | (go_simp; with_reducible rfl)
            try simp only [Act.put, List.setIfInBounds_toArray, List.set_cons_zero, List.set_cons_succ, List.getElem_toArray, List.getElem_cons_zero, List.getElem_cons_succ]
            refine wpAnyH_ready (rs := [9]) (by kernel_rfl) (by simp) ?_
            refine AllReadyH.cons rfl (fun K hK => ?_) AllReadyH.nil
            go_simp
            refine HY9.out.mono ?_
            rintro e w5 ⟨hb5, q3, cap3, rfl, hr3, _⟩
            have hWa5 : Ws w5 ga va L low := Ws.later HWA4.out hb5
            have HY10 := Lib.hid (reverseAll_any q3 (packB (!low) L).length cap3 (packB (!low) L) w5 hr3 rfl (by rw [HPL2.out]; omega))
            have HWA5 := Lib.hid hWa5
            clear hr3 hWa5
            go_wp2_with fail
            refine hK.out _ _ trivial (fun hH18 => ?_)
            clear hK K
            try simp only [Act.put, List.setIfInBounds_toArray, List.set_cons_zero, List.set_cons_succ, List.getElem_toArray, List.getElem_cons_zero, List.getElem_cons_succ]
            refine wpAnyH_ready (rs := [10]) (by kernel_rfl) (by simp) ?_
            refine AllReadyH.cons rfl (fun K hK => ?_) AllReadyH.nil
            go_simp
            refine HY10.out.mono ?_
            rintro e w6 ⟨hb6, rfl, hB6⟩
            rw [HRV.out] at hB6
            have cvC6 := conv_row (packB (!low) L).length (packB (!low) L).length hB6.row (by rw [HPL1.out, HPL2.out])
            have hWa6 : Ws w6 ga va L low := Ws.later HWA5.out hb6
            have HY13 := Lib.hid (bytes_any w6 ga va L low hWa6 hL1)
            have HB6 := Lib.hid (show Row w6 (some ⟨w5.heap.size, 0, none⟩) (packB low L) from hB6.row)
            clear hB6 hWa6
            go_wp2_with fail
            refine hK.out _ _ trivial (fun hH19 => ?_)
            clear hK K
            try simp only [Act.put, List.setIfInBounds_toArray, List.set_cons_zero, List.set_cons_succ, List.getElem_toArray, List.getElem_cons_zero, List.getElem_cons_succ]
            refine wpAnyH_ready (rs := [11, 13]) (by kernel_rfl) (by simp) ?_
            refine AllReadyH.cons rfl (fun K hK => ?_) (AllReadyH.cons rfl (fun K hK => ?_) AllReadyH.nil)
            · go_simp
              refine hK.out _ _ trivial (fun hH20 => ?_)
              clear hK K
              try simp only [Act.put, List.setIfInBounds_toArray, List.set_cons_zero, List.set_cons_succ, List.getElem_toArray, List.getElem_cons_zero, List.getElem_cons_succ]
              refine wpAnyH_ready (rs := [13]) (by kernel_rfl) (by simp) ?_
              refine AllReadyH.cons rfl (fun K hK => ?_) AllReadyH.nil
              go_simp
              refine HY13.out.mono ?_
              rintro e w7 ⟨hb7, q4, cap4, rfl, hr4, _⟩
              have cvC7 := conv_row (packB (!low) L).length (packB (!low) L).length (HB6.out.below hb7) (by rw [HPL1.out, HPL2.out])
              have cvD7 := conv_row (packB low L).length cap4 hr4 rfl
              clear hr4
              go_wp2_with fail
              refine hK.out _ _ trivial (fun hH21 => ?_)
              clear hK K
              try simp only [Act.put, List.setIfInBounds_toArray, List.set_cons_zero, List.set_cons_succ, List.getElem_toArray, List.getElem_cons_zero, List.getElem_cons_succ]
              refine wpAnyH_ready (rs := [14]) (by kernel_rfl) (by simp) ?_
              refine AllReadyH.cons rfl (fun K hK => ?_) AllReadyH.nil
              go_simp
              refine hK.out _ _ trivial (fun hH22 => ?_)
              clear hK K
              try simp only [Act.put, List.setIfInBounds_toArray, List.set_cons_zero, List.set_cons_succ, List.getElem_toArray, List.getElem_cons_zero, List.getElem_cons_succ]
              refine wpAnyH_take (i := 15) (v := ?v20) rfl (by kernel_rfl) (by kernel_rfl) (by kernel_rfl) (fun _ _ _ h => h) (Or.inl ⟨by rfl, fun w hSw => ?y20⟩) trivial ?r20
              case y20 => (try dsimp only at hSw); first | (go_simp; done) | (go_simp; with_reducible rfl)
              try simp only [Act.put, List.setIfInBounds_toArray, List.set_cons_zero, List.set_cons_succ, List.getElem_toArray, List.getElem_cons_zero, List.getElem_cons_succ]
              refine wpAnyH_take (i := 16) (v := ?v21) rfl (by kernel_rfl) (by kernel_rfl) (by kernel_rfl) (fun _ _ _ h => h) (Or.inl ⟨by rfl, fun w hSw => ?y21⟩) trivial ?r21
              case y21 => (try dsimp only at hSw); first | (go_simp; done) | (go_simp; with_reducible rfl)
              try simp only [Act.put, List.setIfInBounds_toArray, List.set_cons_zero, List.set_cons_succ, List.getElem_toArray, List.getElem_cons_zero, List.getElem_cons_succ]
              refine wpAnyH_take (i := 17) (v := ?v22) rfl (by kernel_rfl) (by kernel_rfl) (by kernel_rfl) (fun _ _ _ h => h) (Or.inl ⟨by rfl, fun w hSw => ?y22⟩) trivial ?r22
              case y22 => (try dsimp only at hSw); first | (go_simp; done) | (go_simp; with_reducible rfl)
              try simp only [Act.put, List.setIfInBounds_toArray, List.set_cons_zero, List.set_cons_succ, List.getElem_toArray, List.getElem_cons_zero, List.getElem_cons_succ]
              refine wpAnyH_done (by kernel_rfl) ?_ _
              have hdr : Below w2.heap.size w2 w2.drew := (Only.drawn (fun _ => False) ⟨1, rfl⟩ : Only (fun _ => False) w2 w2.drew).below (Nat.le_refl _) (fun _ _ h => h)
              have hz3 : w2.heap.size ≤ w3.heap.size := hb3.size
              have hz4 := hb4.size
              have hz5 := hb5.size
              have hz6 := hb6.size
              have hz0 := hB2.size
              have hB7 : Below w.heap.size w w7 := (((((hB2.trans (hdr.mono hz0)).trans (hb3.mono (by exact hz0))).trans (hb4.mono (by omega))).trans (hb5.mono (by omega))).trans (hb6.mono (by omega))).trans (hb7.mono (by omega))
              go_wp2_with fail
              go_ret
              exact ⟨rfl, hB7⟩
            · go_simp
              refine HY13.out.mono ?_
              rintro e w7 ⟨hb7, q4, cap4, rfl, hr4, _⟩
              have cvC7 := conv_row (packB (!low) L).length (packB (!low) L).length (HB6.out.below hb7) (by rw [HPL1.out, HPL2.out])
              have cvD7 := conv_row (packB low L).length cap4 hr4 rfl
              clear hr4
              go_wp2_with fail
              refine hK.out _ _ trivial (fun hH23 => ?_)
              clear hK K
              try simp only [Act.put, List.setIfInBounds_toArray, List.set_cons_zero, List.set_cons_succ, List.getElem_toArray, List.getElem_cons_zero, List.getElem_cons_succ]
              refine wpAnyH_ready (rs := [11, 14]) (by kernel_rfl) (by simp) ?_
              refine AllReadyH.cons rfl (fun K hK => ?_) (AllReadyH.cons rfl (fun K hK => ?_) AllReadyH.nil)
              · go_simp
                refine hK.out _ _ trivial (fun hH24 => ?_)
                clear hK K
                try simp only [Act.put, List.setIfInBounds_toArray, List.set_cons_zero, List.set_cons_succ, List.getElem_toArray, List.getElem_cons_zero, List.getElem_cons_succ]
                refine wpAnyH_ready (rs := [14]) (by kernel_rfl) (by simp) ?_
                refine AllReadyH.cons rfl (fun K hK => ?_) AllReadyH.nil
                go_simp
                refine hK.out _ _ trivial (fun hH25 => ?_)
                clear hK K
                try simp only [Act.put, List.setIfInBounds_toArray, List.set_cons_zero, List.set_cons_succ, List.getElem_toArray, List.getElem_cons_zero, List.getElem_cons_succ]
                refine wpAnyH_take (i := 15) (v := ?v23) rfl (by kernel_rfl) (by kernel_rfl) (by kernel_rfl) (fun _ _ _ h => h) (Or.inl ⟨by rfl, fun w hSw => ?y23⟩) trivial ?r23
                case y23 => (try dsimp only at hSw); first | (go_simp; done) | (go_simp; with_reducible rfl)
                try simp only [Act.put, List.setIfInBounds_toArray, List.set_cons_zero, List.set_cons_succ, List.getElem_toArray, List.getElem_cons_zero, List.getElem_cons_succ]
                refine wpAnyH_take (i := 16) (v := ?v24) rfl (by kernel_rfl) (by kernel_rfl) (by kernel_rfl) (fun _ _ _ h => h) (Or.inl ⟨by rfl, fun w hSw => ?y24⟩) trivial ?r24
                case y24 => (try dsimp only at hSw); first | (go_simp; done) | (go_simp; with_reducible rfl)
                try simp only [Act.put, List.setIfInBounds_toArray, List.set_cons_zero, List.set_cons_succ, List.getElem_toArray, List.getElem_cons_zero, List.getElem_cons_succ]
                refine wpAnyH_take (i := 17) (v := ?v25) rfl (by kernel_rfl) (by kernel_rfl) (by kernel_rfl) (fun _ _ _ h => h) (Or.inl ⟨by rfl, fun w hSw => ?y25⟩) trivial ?r25
                case y25 => (try dsimp only at hSw); first | (go_simp; done) | (go_simp; with_reducible rfl)
                try simp only [Act.put, List.setIfInBounds_toArray, List.set_cons_zero, List.set_cons_succ, List.getElem_toArray, List.getElem_cons_zero, List.getElem_cons_succ]
                refine wpAnyH_done (by kernel_rfl) ?_ _
                have hdr : Below w2.heap.size w2 w2.drew := (Only.drawn (fun _ => False) ⟨1, rfl⟩ : Only (fun _ => False) w2 w2.drew).below (Nat.le_refl _) (fun _ _ h => h)
                have hz3 : w2.heap.size ≤ w3.heap.size := hb3.size
                have hz4 := hb4.size
                have hz5 := hb5.size
                have hz6 := hb6.size
                have hz0 := hB2.size
                have hB7 : Below w.heap.size w w7 := (((((hB2.trans (hdr.mono hz0)).trans (hb3.mono (by exact hz0))).trans (hb4.mono (by omega))).trans (hb5.mono (by omega))).trans (hb6.mono (by omega))).trans (hb7.mono (by omega))
                go_wp2_with fail
                go_ret
                exact ⟨rfl, hB7⟩
              · go_simp
                refine hK.out _ _ trivial (fun hH26 => ?_)
                clear hK K
                try simp only [Act.put, List.setIfInBounds_toArray, List.set_cons_zero, List.set_cons_succ, List.getElem_toArray, List.getElem_cons_zero, List.getElem_cons_succ]
                refine wpAnyH_ready (rs := [11]) (by kernel_rfl) (by simp) ?_
                refine AllReadyH.cons rfl (fun K hK => ?_) AllReadyH.nil
                go_simp
                refine hK.out _ _ trivial (fun hH27 => ?_)
                clear hK K
                try simp only [Act.put, List.setIfInBounds_toArray, List.set_cons_zero, List.set_cons_succ, List.getElem_toArray, List.getElem_cons_zero, List.getElem_cons_succ]
                refine wpAnyH_take (i := 15) (v := ?v26) rfl (by kernel_rfl) (by kernel_rfl) (by kernel_rfl) (fun _ _ _ h => h) (Or.inl ⟨by rfl, fun w hSw => ?y26⟩) trivial ?r26
                case y26 => (try dsimp only at hSw); first | (go_simp; done) | (go_simp; with_reducible rfl)
                try simp only [Act.put, List.setIfInBounds_toArray, List.set_cons_zero, List.set_cons_succ, List.getElem_toArray, List.getElem_cons_zero, List.getElem_cons_succ]
                refine wpAnyH_take (i := 16) (v := ?v27) rfl (by kernel_rfl) (by kernel_rfl) (by kernel_rfl) (fun _ _ _ h => h) (Or.inl ⟨by rfl, fun w hSw => ?y27⟩) trivial ?r27
                case y27 => (try dsimp only at hSw); first | (go_simp; done) | (go_simp; with_reducible rfl)
                try simp only [Act.put, List.setIfInBounds_toArray, List.set_cons_zero, List.set_cons_succ, List.getElem_toArray, List.getElem_cons_zero, List.getElem_cons_succ]
                refine wpAnyH_take (i := 17) (v := ?v28) rfl (by kernel_rfl) (by kernel_rfl) (by kernel_rfl) (fun _ _ _ h => h) (Or.inl ⟨by rfl, fun w hSw => ?y28⟩) trivial ?r28
                case y28 => (try dsimp only at hSw); first | (go_simp; done) | (go_simp; with_reducible rfl)
                try simp only [Act.put, List.setIfInBounds_toArray, List.set_cons_zero, List.set_cons_succ, List.getElem_toArray, List.getElem_cons_zero, List.getElem_cons_succ]
                refine wpAnyH_done (by kernel_rfl) ?_ _
                have hdr : Below w2.heap.size w2 w2.drew := (Only.drawn (fun _ => False) ⟨1, rfl⟩ : Only (fun _ => False) w2 w2.drew).below (Nat.le_refl _) (fun _ _ h => h)
                have hz3 : w2.heap.size ≤ w3.heap.size := hb3.size
                have hz4 := hb4.size
                have hz5 := hb5.size
                have hz6 := hb6.size
                have hz0 := hB2.size
                have hB7 : Below w.heap.size w w7 := (((((hB2.trans (hdr.mono hz0)).trans (hb3.mono (by exact hz0))).trans (hb4.mono (by omega))).trans (hb5.mono (by omega))).trans (hb6.mono (by omega))).trans (hb7.mono (by omega))
                go_wp2_with fail
                go_ret
                exact ⟨rfl, hB7⟩
          · go_simp
            refine hK.out _ _ trivial (fun hH28 => ?_)
            clear hK K
            try simp only [Act.put, List.setIfInBounds_toArray, List.set_cons_zero, List.set_cons_succ, List.getElem_toArray, List.getElem_cons_zero, List.getElem_cons_succ]
            refine wpAnyH_ready (rs := [2]) (by kernel_rfl) (by simp) ?_
            refine AllReadyH.cons rfl (fun K hK => ?_) AllReadyH.nil
            go_simp
            refine hK.out _ _ trivial (fun hH29 => ?_)
            clear hK K
            try simp only [Act.put, List.setIfInBounds_toArray, List.set_cons_zero, List.set_cons_succ, List.getElem_toArray, List.getElem_cons_zero, List.getElem_cons_succ]
            refine wpAnyH_take (i := 6) (v := ?v29) rfl (by kernel_rfl) (by kernel_rfl) (by kernel_rfl) (fun _ _ _ h => h) (Or.inl ⟨by rfl, fun w hSw => ?y29⟩) trivial ?r29
            case y29 => (try dsimp only at hSw); first | (go_simp; done) | (go_simp; with_reducible rfl)
            try simp only [Act.put, List.setIfInBounds_toArray, List.set_cons_zero, List.set_cons_succ, List.getElem_toArray, List.getElem_cons_zero, List.getElem_cons_succ]
            refine wpAnyH_take (i := 7) (v := ?v30) rfl (by kernel_rfl) (by kernel_rfl) (by kernel_rfl) (fun _ _ _ h => h) (Or.inl ⟨by rfl, fun w hSw => ?y30⟩) trivial ?r30
            case y30 => (try dsimp only at hSw); first | (go_simp; done) | (go_simp; with_reducible rfl)
            try simp only [Act.put, List.setIfInBounds_toArray, List.set_cons_zero, List.set_cons_succ, List.getElem_toArray, List.getElem_cons_zero, List.getElem_cons_succ]
            refine wpAnyH_take (i := 8) (v := ?v31) rfl (by kernel_rfl) (by kernel_rfl) (by kernel_rfl) (fun _ _ _ h => h) (Or.inl ⟨by rfl, fun w hSw => ?y31⟩) trivial ?r31
            case y31 => (try dsimp only at hSw); first | (go_simp; done) | (go_simp; with_reducible rfl)
            try simp only [Act.put, List.setIfInBounds_toArray, List.set_cons_zero, List.set_cons_succ, List.getElem_toArray, List.getElem_cons_zero, List.getElem_cons_succ]
            refine wpAnyH_take (i := 12) (v := ?v32) rfl (by kernel_rfl) (by kernel_rfl) (by kernel_rfl) (fun _ _ _ h => h) (Or.inl ⟨by rfl, fun w hSw => ?y32⟩) trivial ?r32
            case y32 => (try dsimp only at hSw); first | (go_simp; done) | (go_simp; with_reducible rfl)
            try simp only [Act.put, List.setIfInBounds_toArray, List.set_cons_zero, List.set_cons_succ, List.getElem_toArray, List.getElem_cons_zero, List.getElem_cons_succ]
            refine wpAnyH_ready (rs := [9]) (by kernel_rfl) (by simp) ?_
            refine AllReadyH.cons rfl (fun K hK => ?_) AllReadyH.nil
            go_simp
            refine HY9.out.mono ?_
            rintro e w5 ⟨hb5, q3, cap3, rfl, hr3, _⟩
            have hWa5 : Ws w5 ga va L low := Ws.later HWA4.out hb5
            have HY10 := Lib.hid (reverseAll_any q3 (packB (!low) L).length cap3 (packB (!low) L) w5 hr3 rfl (by rw [HPL2.out]; omega))
            have HWA5 := Lib.hid hWa5
            clear hr3 hWa5
            go_wp2_with fail
            refine hK.out _ _ trivial (fun hH30 => ?_)
            clear hK K
            try simp only [Act.put, List.setIfInBounds_toArray, List.set_cons_zero, List.set_cons_succ, List.getElem_toArray, List.getElem_cons_zero, List.getElem_cons_succ]
            refine wpAnyH_ready (rs := [10]) (by kernel_rfl) (by simp) ?_
            refine AllReadyH.cons rfl (fun K hK => ?_) AllReadyH.nil
            go_simp
            refine HY10.out.mono ?_
            rintro e w6 ⟨hb6, rfl, hB6⟩
            rw [HRV.out] at hB6
            have cvC6 := conv_row (packB (!low) L).length (packB (!low) L).length hB6.row (by rw [HPL1.out, HPL2.out])
            have hWa6 : Ws w6 ga va L low := Ws.later HWA5.out hb6
            have HY13 := Lib.hid (bytes_any w6 ga va L low hWa6 hL1)
            have HB6 := Lib.hid (show Row w6 (some ⟨w5.heap.size, 0, none⟩) (packB low L) from hB6.row)
            clear hB6 hWa6
            go_wp2_with fail
            refine hK.out _ _ trivial (fun hH31 => ?_)
            clear hK K
            try simp only [Act.put, List.setIfInBounds_toArray, List.set_cons_zero, List.set_cons_succ, List.getElem_toArray, List.getElem_cons_zero, List.getElem_cons_succ]
            refine wpAnyH_ready (rs := [11, 13]) (by kernel_rfl) (by simp) ?_
            refine AllReadyH.cons rfl (fun K hK => ?_) (AllReadyH.cons rfl (fun K hK => ?_) AllReadyH.nil)
            · go_simp
              refine hK.out _ _ trivial (fun hH32 => ?_)
              clear hK K
              try simp only [Act.put, List.setIfInBounds_toArray, List.set_cons_zero, List.set_cons_succ, List.getElem_toArray, List.getElem_cons_zero, List.getElem_cons_succ]
              refine wpAnyH_ready (rs := [13]) (by kernel_rfl) (by simp) ?_
              refine AllReadyH.cons rfl (fun K hK => ?_) AllReadyH.nil
              go_simp
              refine HY13.out.mono ?_
              rintro e w7 ⟨hb7, q4, cap4, rfl, hr4, _⟩
              have cvC7 := conv_row (packB (!low) L).length (packB (!low) L).length (HB6.out.below hb7) (by rw [HPL1.out, HPL2.out])
              have cvD7 := conv_row (packB low L).length cap4 hr4 rfl
              clear hr4
              go_wp2_with fail
              refine hK.out _ _ trivial (fun hH33 => ?_)
              clear hK K
              try simp only [Act.put, List.setIfInBounds_toArray, List.set_cons_zero, List.set_cons_succ, List.getElem_toArray, List.getElem_cons_zero, List.getElem_cons_succ]
              refine wpAnyH_ready (rs := [14]) (by kernel_rfl) (by simp) ?_
              refine AllReadyH.cons rfl (fun K hK => ?_) AllReadyH.nil
              go_simp
              refine hK.out _ _ trivial (fun hH34 => ?_)
              clear hK K
              try simp only [Act.put, List.setIfInBounds_toArray, List.set_cons_zero, List.set_cons_succ, List.getElem_toArray, List.getElem_cons_zero, List.getElem_cons_succ]
              refine wpAnyH_take (i := 15) (v := ?v33) rfl (by kernel_rfl) (by kernel_rfl) (by kernel_rfl) (fun _ _ _ h => h) (Or.inl ⟨by rfl, fun w hSw => ?y33⟩) trivial ?r33
              case y33 => (try dsimp only at hSw); first | (go_simp; done) | (go_simp; with_reducible rfl)
              try simp only [Act.put, List.setIfInBounds_toArray, List.set_cons_zero, List.set_cons_succ, List.getElem_toArray, List.getElem_cons_zero, List.getElem_cons_succ]
              refine wpAnyH_take (i := 16) (v := ?v34) rfl (by kernel_rfl) (by kernel_rfl) (by kernel_rfl) (fun _ _ _ h => h) (Or.inl ⟨by rfl, fun w hSw => ?y34⟩) trivial ?r34
              case y34 => (try dsimp only at hSw); first | (go_simp; done) | (go_simp; with_reducible rfl)
              try simp only [Act.put, List.setIfInBounds_toArray, List.set_cons_zero, List.set_cons_succ, List.getElem_toArray, List.getElem_cons_zero, List.getElem_cons_succ]
              refine wpAnyH_take (i := 17) (v := ?v35) rfl (by kernel_rfl) (by kernel_rfl) (by kernel_rfl) (fun _ _ _ h => h) (Or.inl ⟨by rfl, fun w hSw => ?y35⟩) trivial ?r35
              case y35 => (try dsimp only at hSw); first | (go_simp; done) | (go_simp; with_reducible rfl)
              try simp only [Act.put, List.setIfInBounds_toArray, List.set_cons_zero, List.set_cons_succ, List.getElem_toArray, List.getElem_cons_zero, List.getElem_cons_succ]
              refine wpAnyH_done (by kernel_rfl) ?_ _
              have hdr : Below w2.heap.size w2 w2.drew := (Only.drawn (fun _ => False) ⟨1, rfl⟩ : Only (fun _ => False) w2 w2.drew).below (Nat.le_refl _) (fun _ _ h => h)
              have hz3 : w2.heap.size ≤ w3.heap.size := hb3.size
              have hz4 := hb4.size
              have hz5 := hb5.size
              have hz6 := hb6.size
              have hz0 := hB2.size
              have hB7 : Below w.heap.size w w7 := (((((hB2.trans (hdr.mono hz0)).trans (hb3.mono (by exact hz0))).trans (hb4.mono (by omega))).trans (hb5.mono (by omega))).trans (hb6.mono (by omega))).trans (hb7.mono (by omega))
              go_wp2_with fail
              go_ret
              exact ⟨rfl, hB7⟩
            · go_simp
              refine HY13.out.mono ?_
              rintro e w7 ⟨hb7, q4, cap4, rfl, hr4, _⟩
              have cvC7 := conv_row (packB (!low) L).length (packB (!low) L).length (HB6.out.below hb7) (by rw [HPL1.out, HPL2.out])
              have cvD7 := conv_row (packB low L).length cap4 hr4 rfl
              clear hr4
              go_wp2_with fail
              refine hK.out _ _ trivial (fun hH35 => ?_)
              clear hK K
              try simp only [Act.put, List.setIfInBounds_toArray, List.set_cons_zero, List.set_cons_succ, List.getElem_toArray, List.getElem_cons_zero, List.getElem_cons_succ]
              refine wpAnyH_ready (rs := [11, 14]) (by kernel_rfl) (by simp) ?_
              refine AllReadyH.cons rfl (fun K hK => ?_) (AllReadyH.cons rfl (fun K hK => ?_) AllReadyH.nil)
              · go_simp
                refine hK.out _ _ trivial (fun hH36 => ?_)
                clear hK K
                try simp only [Act.put, List.setIfInBounds_toArray, List.set_cons_zero, List.set_cons_succ, List.getElem_toArray, List.getElem_cons_zero, List.getElem_cons_succ]
                refine wpAnyH_ready (rs := [14]) (by kernel_rfl) (by simp) ?_
                refine AllReadyH.cons rfl (fun K hK => ?_) AllReadyH.nil
                go_simp
                refine hK.out _ _ trivial (fun hH37 => ?_)
                clear hK K
                try simp only [Act.put, List.setIfInBounds_toArray, List.set_cons_zero, List.set_cons_succ, List.getElem_toArray, List.getElem_cons_zero, List.getElem_cons_succ]
                refine wpAnyH_take (i := 15) (v := ?v36) rfl (by kernel_rfl) (by kernel_rfl) (by kernel_rfl) (fun _ _ _ h => h) (Or.inl ⟨by rfl, fun w hSw => ?y36⟩) trivial ?r36
                case y36 => (try dsimp only at hSw); first | (go_simp; done) | (go_simp; with_reducible rfl)
                try simp only [Act.put, List.setIfInBounds_toArray, List.set_cons_zero, List.set_cons_succ, List.getElem_toArray, List.getElem_cons_zero, List.getElem_cons_succ]
                refine wpAnyH_take (i := 16) (v := ?v37) rfl (by kernel_rfl) (by kernel_rfl) (by kernel_rfl) (fun _ _ _ h => h) (Or.inl ⟨by rfl, fun w hSw => ?y37⟩) trivial ?r37
                case y37 => (try dsimp only at hSw); first | (go_simp; done) | (go_simp; with_reducible rfl)
                try simp only [Act.put, List.setIfInBounds_toArray, List.set_cons_zero, List.set_cons_succ, List.getElem_toArray, List.getElem_cons_zero, List.getElem_cons_succ]
                refine wpAnyH_take (i := 17) (v := ?v38) rfl (by kernel_rfl) (by kernel_rfl) (by kernel_rfl) (fun _ _ _ h => h) (Or.inl ⟨by rfl, fun w hSw => ?y38⟩) trivial ?r38
                case y38 => (try dsimp only at hSw); first | (go_simp; done) | (go_simp; with_reducible rfl)
                try simp only [Act.put, List.setIfInBounds_toArray, List.set_cons_zero, List.set_cons_succ, List.getElem_toArray, List.getElem_cons_zero, List.getElem_cons_succ]
                refine wpAnyH_done (by kernel_rfl) ?_ _
                have hdr : Below w2.heap.size w2 w2.drew := (Only.drawn (fun _ => False) ⟨1, rfl⟩ : Only (fun _ => False) w2 w2.drew).below (Nat.le_refl _) (fun _ _ h => h)
                have hz3 : w2.heap.size ≤ w3.heap.size := hb3.size
                have hz4 := hb4.size
                have hz5 := hb5.size
                have hz6 := hb6.size
                have hz0 := hB2.size
                have hB7 : Below w.heap.size w w7 := (((((hB2.trans (hdr.mono hz0)).trans (hb3.mono (by exact hz0))).trans (hb4.mono (by omega))).trans (hb5.mono (by omega))).trans (hb6.mono (by omega))).trans (hb7.mono (by omega))
                go_wp2_with fail
                go_ret
                exact ⟨rfl, hB7⟩
              · go_simp
                refine hK.out _ _ trivial (fun hH38 => ?_)
                clear hK K
                try simp only [Act.put, List.setIfInBounds_toArray, List.set_cons_zero, List.set_cons_succ, List.getElem_toArray, List.getElem_cons_zero, List.getElem_cons_succ]
                refine wpAnyH_ready (rs := [11]) (by kernel_rfl) (by simp) ?_
                refine AllReadyH.cons rfl (fun K hK => ?_) AllReadyH.nil
                go_simp
                refine hK.out _ _ trivial (fun hH39 => ?_)
                clear hK K
                try simp only [Act.put, List.setIfInBounds_toArray, List.set_cons_zero, List.set_cons_succ, List.getElem_toArray, List.getElem_cons_zero, List.getElem_cons_succ]
                refine wpAnyH_take (i := 15) (v := ?v39) rfl (by kernel_rfl) (by kernel_rfl) (by kernel_rfl) (fun _ _ _ h => h) (Or.inl ⟨by rfl, fun w hSw => ?y39⟩) trivial ?r39
                case y39 => (try dsimp only at hSw); first | (go_simp; done) | (go_simp; with_reducible rfl)
                try simp only [Act.put, List.setIfInBounds_toArray, List.set_cons_zero, List.set_cons_succ, List.getElem_toArray, List.getElem_cons_zero, List.getElem_cons_succ]
                refine wpAnyH_take (i := 16) (v := ?v40) rfl (by kernel_rfl) (by kernel_rfl) (by kernel_rfl) (fun _ _ _ h => h) (Or.inl ⟨by rfl, fun w hSw => ?y40⟩) trivial ?r40
                case y40 => (try dsimp only at hSw); first | (go_simp; done) | (go_simp; with_reducible rfl)
                try simp only [Act.put, List.setIfInBounds_toArray, List.set_cons_zero, List.set_cons_succ, List.getElem_toArray, List.getElem_cons_zero, List.getElem_cons_succ]
                refine wpAnyH_take (i := 17) (v := ?v41) rfl (by kernel_rfl) (by kernel_rfl) (by kernel_rfl) (fun _ _ _ h => h) (Or.inl ⟨by rfl, fun w hSw => ?y41⟩) trivial ?r41
                case y41 => (try dsimp only at hSw); first | (go_simp; done) | (go_simp; with_reducible rfl)
                try simp only [Act.put, List.setIfInBounds_toArray, List.set_cons_zero, List.set_cons_succ, List.getElem_toArray, List.getElem_cons_zero, List.getElem_cons_succ]
                refine wpAnyH_done (by kernel_rfl) ?_ _
                have hdr : Below w2.heap.size w2 w2.drew := (Only.drawn (fun _ => False) ⟨1, rfl⟩ : Only (fun _ => False) w2 w2.drew).below (Nat.le_refl _) (fun _ _ h => h)
                have hz3 : w2.heap.size ≤ w3.heap.size := hb3.size
                have hz4 := hb4.size
                have hz5 := hb5.size
                have hz6 := hb6.size
                have hz0 := hB2.size
                have hB7 : Below w.heap.size w w7 := (((((hB2.trans (hdr.mono hz0)).trans (hb3.mono (by exact hz0))).trans (hb4.mono (by omega))).trans (hb5.mono (by omega))).trans (hb6.mono (by omega))).trans (hb7.mono (by omega))
                go_wp2_with fail
                go_ret
                exact ⟨rfl, hB7⟩
end Go.Proofs.Ytpphcooikhncfaa.Bit

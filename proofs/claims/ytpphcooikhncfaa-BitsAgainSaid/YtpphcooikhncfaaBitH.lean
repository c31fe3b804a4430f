/- The walk of BitsAgain: it returns true for either end and any ops, and nothing that was there is written. -/
import Derived.Test.YtpphcooikhncfaaBitG
import Derived.Deep.RegionHeld3
namespace Go.Proofs.Ytpphcooikhncfaa.Bit
open Go.RowKit Go.Proofs.Ytpphcooikhncfaa.Oct
set_option linter.unusedVariables false
set_option linter.unusedSimpArgs false

theorem Try.infoOp : (Try.prog.info? 31).map (fun i => (i.zero, i.size, i.bytes)) = some (some (.agg #[.int .i64 0, .int .i64 0, .int .u32 0, .string ByteArray.empty]), 4, 40) := by kernel_rfl
theorem Only.cellx {S : Nat → Prop} {w w' : World} (h : Only S w w') {p : Addr} (hp : p.block < w.heap.size) (hs : ¬ S p.block) : w'.cell? p = w.cell? p :=
  World.cell?_of_block (w := w) (h.2.2.2.2 p.block hp hs)
theorem own_onlyN {S : Nat → Prop} {w w' : World} {e n z : Nat} {v : Value} {cs : List Value} (h : w.ownsRow 0 e z v n cs) (ho : Only S w w') (hv : ∀ k, v.ownBlock = some k → ¬ S k) : w'.ownsRow 0 e z v n cs := by
  refine ⟨h.1, ?_⟩
  rcases h.2 with hn | ⟨g, cap, cur, rfl, hb, hh, r⟩
  · exact .inl hn
  · refine .inr ⟨g, cap, cur, rfl, hb, ?_, r⟩
    have hlt : g < w.heap.size := by
      rcases Nat.lt_or_ge g w.heap.size with hlt | hge
      · exact hlt
      · rw [Array.getElem?_eq_none hge] at hh; cases hh
    rw [ho.2.2.2.2 g hlt (hv g rfl)]
    exact hh
/-- what is kept, and the writer that has written it, apart in memory -/
def AgR (W : World) (g : Nat) (low : Bool) (ks : List Kept) (vk : Value) (wr : World) : Prop :=
  Below W.heap.size W wr ∧ fitK ks ∧ wr.ownsRow 0 31 4 vk ks.length (cellsK ks) ∧ (∀ k, vk.ownBlock = some k → g < k) ∧
  ∃ v, Ws wr g v (bitsK low ks) low ∧ (∀ k, v.ownBlock = some k → g < k) ∧ ∀ k, v.ownBlock = some k → vk.ownBlock ≠ some k
theorem fitK_snoc {ks : List Kept} (h : fitK ks) (k : Int) (n m : Nat) (s : ByteArray) (hn : n ≤ 32) (hm : m < 2 ^ n) : fitK (ks ++ [(k, n, m, s)]) := by
  intro q hq
  rcases List.mem_append.1 hq with hq | hq
  · exact h q hq
  · have : q = (k, n, m, s) := by simpa using hq
    subst this
    exact ⟨hn, hm⟩
/-- while it is read back: both readers are behind the first i -/
def AgS (W : World) (g g1 g2 : Nat) (q1 q2 : Option Addr) (cap1 cap2 : Nat) (B : List UInt8) (low : Bool) (ks : List Kept) (vk v : Value) (L : List Bool) (at_ : Nat) (wr : World) : Prop :=
  Below W.heap.size W wr ∧ Rd wr g1 q1 cap1 B at_ low ∧ Rd wr g2 q2 cap2 (B.map revB) at_ (!low) ∧ wr.ownsRow 0 31 4 vk ks.length (cellsK ks) ∧ Ws wr g v L low
theorem Rd.onlyx {S : Nat → Prop} {w w' : World} {g : Nat} {p : Option Addr} {cap : Nat} {xs : List UInt8} {at_ : Nat} {low : Bool} (h : Rd w g p cap xs at_ low) (ho : Only S w w') (hg : ¬ S g) (hp : ∀ a, p = some a → ¬ S a.block) : Rd w' g p cap xs at_ low := by
  have hlt := h.lt
  refine ⟨(ho.2.2.2.2 g hlt hg).trans h.1, fun h0 => ?_, h.2.2⟩
  obtain ⟨b, off, e, hb, hc⟩ := h.2.1 h0
  refine ⟨b, off, e, hb, fun i hi => ?_⟩
  rw [← hc i hi]
  exact World.cell?_of_block (w := w) (ho.2.2.2.2 b (by omega) (hp _ e))
theorem AgS.later {W w w' : World} {g g1 g2 : Nat} {q1 q2 : Option Addr} {cap1 cap2 : Nat} {B : List UInt8} {low : Bool} {ks : List Kept} {vk v : Value} {L : List Bool} {at_ : Nat}
    (h : AgS W g g1 g2 q1 q2 cap1 cap2 B low ks vk v L at_ w) (hb : Below w.heap.size w w') : AgS W g g1 g2 q1 q2 cap1 cap2 B low ks vk v L at_ w' :=
  ⟨h.1.trans (hb.mono h.1.size), h.2.1.below hb h.2.1.lt, h.2.2.1.below hb h.2.2.1.lt, own_onlyN h.2.2.2.1 (Only.of_below (S := fun _ => False) hb) (fun _ _ h => h), Wr.only h.2.2.2.2 (Only.of_below (S := fun _ => False) hb) (fun h => h) (fun _ _ h => h)⟩
/-- behind a call on the writer that wrote -/
theorem AgR.wrote {W w1 w2 : World} {g : Nat} {low : Bool} {ks : List Kept} {vk v : Value} {l : List Bool} (hB : Below W.heap.size W w1) (hg : W.heap.size ≤ g) (ho : w1.ownsRow 0 31 4 vk ks.length (cellsK ks)) (hvk : ∀ k, vk.ownBlock = some k → g < k)
    (hv : ∀ k, v.ownBlock = some k → g < k) (hne : ∀ k, v.ownBlock = some k → vk.ownBlock ≠ some k) (hW1 : g < w1.heap.size) (hT : WsT w1 g v l low w2) :
    Below W.heap.size W w2 ∧ w2.ownsRow 0 31 4 vk ks.length (cellsK ks) ∧ ∃ v2, Ws w2 g v2 l low ∧ (∀ k, v2.ownBlock = some k → g < k) ∧ (∀ k, v2.ownBlock = some k → vk.ownBlock ≠ some k) ∧ Only (Mine g v) w1 w2 := by
  obtain ⟨v2, hW, hO, hd⟩ := hT
  refine ⟨hB.trans (hO.below hB.size (fun k hk hm => ?_)), own_onlyN ho hO (fun k hk hm => ?_), v2, hW, fun k hk => ?_, fun k hk hc => ?_, hO⟩
  · rcases hm with h | h
    · omega
    · have := hv k h; omega
  · rcases hm with h | h
    · have := hvk k hk; omega
    · exact hne k h hk
  · rcases hd k hk with h | h
    · exact hv k h
    · omega
  · rcases hd k hk with h | h
    · exact hne k h hc
    · have := (World.ownsRow.lt ho k hc).2; omega
set_option maxHeartbeats 4000000 in
set_option maxRecDepth 100000 in
theorem again_walk (low : Bool) (p2 : Option Addr) (len2 cap2 : Nat) (w : World) (hops : IsOps w p2 len2 cap2) :
    Calls Try.prog 5 #[.bool low, .slice p2 len2 cap2] w fun e w' => e = .returned (.bool true) ∧ Below w.heap.size w w' := by
  obtain ⟨i0, hi0, hz0, hz1, hz2⟩ := info_parts Try.infoOp
  go_enter Try.func5, Try.ntmps5
  go_wp2_with fail
  refine (lives_any _).mono ?_
  rintro e w1 ⟨rfl, hb1⟩
  have hzb1 := hb1.size
  have hops1 : IsOps w1 p2 len2 cap2 := ⟨hops.1, hops.2.1, fun h0 => by
    obtain ⟨b, off, e, hlt, hall⟩ := hops.2.2 h0
    exact ⟨b, off, e, by omega, fun i hi => by
      obtain ⟨k, n, v, s, hat, hok⟩ := hall i hi
      exact ⟨k, n, v, s, hat.below hb1 hlt, hok⟩⟩⟩
  go_wp2_with fail
  refine (fits_any _ _ _ _ hops1).mono ?_
  rintro e w2 ⟨hb2, fb, rfl, hfb⟩
  have hzb2 := hb2.size
  have hbw2 : Below w.heap.size w w2 := hb1.trans (hb2.mono hzb1)
  cases fb
  · clear hfb
    go_wp2_with fail
    refine (lives_any _).mono ?_
    rintro e w3 ⟨rfl, hb3⟩
    go_wp2_with fail
    go_ret
    exact ⟨rfl, hbw2.trans (hb3.mono (by omega))⟩
  · obtain ⟨hl100, _⟩ := hfb rfl
    clear hfb
    go_wp2_with fail
    refine (newWriter_any _ _).mono ?_
    rintro e w3 ⟨hb3, rfl, hW3⟩
    obtain ⟨g, hg⟩ : ∃ g, g = w2.heap.size := ⟨_, rfl⟩
    rw [← hg] at hW3 ⊢
    have hg0 : w.heap.size ≤ g := by omega
    have hbw3 : Below w.heap.size w w3 := hbw2.trans (hb3.mono (by omega))
    clear hg hb2 hb3 hb1 hops1
    have hA3 : AgR w g low [] (.slice none 0 0) w3 := ⟨hbw3, (fun q h => by cases h), World.ownsRow_nil _ _ _ _, (fun k h => by cases h), _, hW3, (fun k h => by cases h), (fun k h => by cases h)⟩
    clear hW3
    go_wp2_with fail
    go_loopw [6, 30] (fun kv c wr => ∃ (j : Nat) (ks : List Kept), j ≤ len2 ∧ ks.length ≤ j ∧ c = .int .i64 (j : Int) ∧ AgR w g low ks kv wr) (fun _ c _ => len2 - (intOf c).toNat)
    case atStart => exact ⟨0, [], by omega, by simp, rfl, hA3⟩
    case round =>
      obtain ⟨j, ks, hj, hkj, rfl, hA⟩ := hrel
      clear hA3
      obtain ⟨vk, rfl⟩ : ∃ vk, vk = u6 := ⟨_, rfl⟩
      obtain ⟨hB, hfit, hown, hvk, v0, hW, hv0, hne0⟩ := hA
      have hbl32 := bitsK_length low ks hfit
      by_cases hlt : j < len2
      · obtain ⟨b, off, hpe, hbl, hall⟩ := hops.2.2 (by omega)
        subst hpe
        obtain ⟨k, n, v, s, hat, hok⟩ := hall j hlt
        obtain ⟨c0, c1, c2, c3⟩ := hat.below hB hbl
        obtain ⟨k1, k2, n1, n2, hv1, hv2', _⟩ := hok
        clear hall
        obtain ⟨m, rfl⟩ : ∃ m : Nat, v = (m : Int) := ⟨v.toNat, by omega⟩
        have hm32 : m < 4294967296 := by omega
        have hlt0 := Wr.lt hW
        have hBa : Below w.heap.size w (wr.alloc (.cells #[.int .i64 k, .int .i64 n, .int .u32 (m : Int), .string s] 31)) := hB.alloc hB.size _
        have hAl : Only (fun _ => False) wr (wr.alloc (.cells #[.int .i64 k, .int .i64 n, .int .u32 (m : Int), .string s] 31)) := Only.of_below ((Below.refl wr.heap.size wr).alloc (Nat.le_refl _) _)
        have hWa : Ws (wr.alloc (.cells #[.int .i64 k, .int .i64 n, .int .u32 (m : Int), .string s] 31)) g v0 (bitsK low ks) low := Wr.only hW hAl (fun h => h) (fun _ _ h => h)
        have hOa := own_onlyN hown hAl (fun _ _ h => h)
        have hvl : ∀ k, v0.ownBlock = some k → k < wr.heap.size := fun k hk => (World.ownsRow.lt hW.2.1 k hk).2
        have hwr := write_any _ g v0 (bitsK low ks) low m n hm32 (by omega) hWa
        have hag := fun w2 l => AgR.wrote (w2 := w2) (l := l) (low := low) hBa hg0 hOa hvk hv0 hne0 (by simp; omega)
        have cb0 : (wr.alloc (.cells #[.int .i64 k, .int .i64 n, .int .u32 (m : Int), .string s] 31)).cell? ⟨wr.heap.size, 0, none⟩ = some (.int .i64 k) := by simp
        have cb1 : (wr.alloc (.cells #[.int .i64 k, .int .i64 n, .int .u32 (m : Int), .string s] 31)).cell? ⟨wr.heap.size, 1, none⟩ = some (.int .i64 n) := by simp
        have cb2 : (wr.alloc (.cells #[.int .i64 k, .int .i64 n, .int .u32 (m : Int), .string s] 31)).cell? ⟨wr.heap.size, 2, none⟩ = some (.int .u32 (m : Int)) := by simp
        have cb3 : (wr.alloc (.cells #[.int .i64 k, .int .i64 n, .int .u32 (m : Int), .string s] 31)).cell? ⟨wr.heap.size, 3, none⟩ = some (.string s) := by simp
        have hnm : ¬ Mine g v0 wr.heap.size := by
          rintro (h | h)
          · omega
          · have := hvl _ h; omega
        have hzr : wr.heap.size < (wr.alloc (.cells #[.int .i64 k, .int .i64 n, .int .u32 (m : Int), .string s] 31)).heap.size := by simp
        have HWR := Lib.hid hwr
        have HAG := Lib.hid hag
        have HC0 := Lib.hid cb0
        have HC1 := Lib.hid cb1
        have HC2 := Lib.hid cb2
        have HC3 := Lib.hid cb3
        have HNM := Lib.hid hnm
        have HZR := Lib.hid hzr
        clear hwr hag cb0 cb1 cb2 cb3 hnm hBa hAl hWa hOa hvl hW hown hzr
        cases ho : okW m n
        · have he : (wrE m n == 0) = false := by
            unfold wrE
            rw [ho]
            cases cntB n <;> decide
          have hl : wrL low (bitsK low ks) m n = bitsK low ks := by unfold wrL; rw [ho]; rfl
          have HL := Lib.hid hl
          clear hl ho
          go_wp2_with fail
          refine HWR.out.mono ?_
          rintro e w2 ⟨rfl, hT2⟩
          rw [HL.out] at hT2
          obtain ⟨hB2, hO2, v2, hW2, hvv2, hne2, _⟩ := HAG.out w2 _ hT2
          generalize wrE m n = er at he ⊢
          go_wp2_with fail
          go_roundw
          case rel => exact ⟨j + 1, ks, by omega, by omega, by go_num, hB2, hfit, hO2, hvk, v2, hW2, hvv2, hne2⟩
          case measure => simp [intOf]; omega
        · have hcn : cntB n = true := by
            unfold okW at ho
            cases hc : cntB n
            · rw [hc] at ho; cases ho
            · rfl
          have hcb := of_decide_eq_true hcn
          obtain ⟨nn, rfl⟩ : ∃ nn : Nat, n = (nn : Int) := ⟨n.toNat, by omega⟩
          have hm2 : m < 2 ^ nn := by
            unfold okW at ho
            rw [hcn] at ho
            simpa using ho
          have he : wrE m (nn : Int) = 0 := by unfold wrE; rw [hcn, ho]; rfl
          have hl : wrL low (bitsK low ks) m (nn : Int) = bitsK low (ks ++ [(k, nn, m, s)]) := by
            unfold wrL
            rw [ho, if_pos rfl, bitsK_append]
            congr 1
            simp [bitsK]
          have HL := Lib.hid hl
          have HE := Lib.hid he
          clear hl ho he hcn
          go_wp2_with fail
          refine HWR.out.mono ?_
          rintro e w2 ⟨rfl, hT2⟩
          rw [HL.out] at hT2
          rw [HE.out]
          obtain ⟨hB2, hO2, v2, hW2, hvv2, hne2, ho2⟩ := HAG.out w2 _ hT2
          have d0 := (ho2.cellx (p := ⟨wr.heap.size, 0, none⟩) HZR.out HNM.out).trans HC0.out
          have d1 := (ho2.cellx (p := ⟨wr.heap.size, 1, none⟩) HZR.out HNM.out).trans HC1.out
          have d2 := (ho2.cellx (p := ⟨wr.heap.size, 2, none⟩) HZR.out HNM.out).trans HC2.out
          have d3 := (ho2.cellx (p := ⟨wr.heap.size, 3, none⟩) HZR.out HNM.out).trans HC3.out
          have hA2 : Only (fun _ => False) w2 (w2.alloc (.cells #[.int .i64 k, .int .i64 (nn : Int), .int .u32 (m : Int), .string s] 31)) := Only.of_below ((Below.refl _ w2).alloc (Nat.le_refl _) _)
          have hO2a := own_onlyN hO2 hA2 (fun _ _ h => h)
          have hnews : ∀ j u, (cellsK [(k, nn, m, s)])[j]? = some u → (w2.alloc (.cells #[.int .i64 k, .int .i64 (nn : Int), .int .u32 (m : Int), .string s] 31)).cell? ((⟨w2.heap.size, 0, none⟩ : Addr).add j) = some u := by
            intro j u hj
            have hjl : j < 4 := by
              rcases Nat.lt_or_ge j 4 with h | h
              · exact h
              · rw [List.getElem?_eq_none (by rw [cellsK_length]; simpa using h)] at hj; cases hj
            rw [Oct.add_plain, Nat.zero_add]
            match j, hjl with
            | 0, _ => simp [cellsK] at hj; subst hj; simp
            | 1, _ => simp [cellsK] at hj; subst hj; simp
            | 2, _ => simp [cellsK] at hj; subst hj; simp
            | 3, _ => simp [cellsK] at hj; subst hj; simp
          have HO2A := Lib.hid hO2a
          have HNEWS := Lib.hid hnews
          have HW2 := Lib.hid hW2
          have HB2 := Lib.hid hB2
          have HVV2 := Lib.hid hvv2
          have HNE2 := Lib.hid hne2
          have HVK := Lib.hid hvk
          clear hO2a hnews hW2 hB2 hvv2 hne2 hO2 hT2 ho2 hA2 hvk hv0 hne0
          go_wp2_with (at_builtin; refine wpList_append_lies _ rfl _ _ 23 rfl 0 31 i0 (.agg #[.int .i64 0, .int .i64 0, .int .u32 0, .string ByteArray.empty]) 4 40 Try.underlying23 hi0 hz0 hz1 hz2 rfl (by decide) _ ks.length (cellsK ks) rfl HO2A.out ⟨w2.heap.size, 0, none⟩ 1 1 (cellsK [(k, nn, m, s)]) rfl rfl HNEWS.out (cellsK_one _) (by decide) ?d2 ?d3 (Nat.zero_le _) (w2.heap.size + 1) (by simp) ?_)
          case d2 => unfold maxLen; omega
          case d3 => omega
          intro g' cap' w3 hown3 hgrow hdich hlt3
          have hG := Only.grown hgrow
          have HG := Lib.hid hG
          have HO3 := Lib.hid hown3
          have HD := Lib.hid hdich
          clear hG hown3 hgrow hdich
          go_wp2_with fail
          go_roundw
          case rel =>
            have hAx : Only (fun _ => False) w2 (w2.alloc (.cells #[.int .i64 k, .int .i64 (nn : Int), .int .u32 (m : Int), .string s] 31)) := Only.of_below ((Below.refl _ w2).alloc (Nat.le_refl _) _)
            have h23 : Only (fun k => vk.ownBlock = some k) w2 w3 := (hAx.mono (fun _ _ h => h.elim)).trans HG.out
            refine ⟨j + 1, ks ++ [(k, nn, m, s)], by omega, by simp; omega, by go_num, HB2.out.trans (h23.below HB2.out.size (fun k hk hm => by have := HVK.out k hm; omega)), fitK_snoc hfit k nn m s (by omega) hm2, ?_, ?_, v2, Wr.only HW2.out h23 (fun h => by have := HVK.out g h; omega) (fun k hk hm => HNE2.out k hk hm), HVV2.out, ?_⟩
            · have := HO3.out
              rw [← cellsK_append] at this
              simpa using this
            · intro k hk
              injection hk with hk
              have hk' : g' = k := hk
              subst hk'
              rcases HD.out with h | h
              · exact HVK.out _ h
              · have := Wr.lt HW2.out; omega
            · intro k hk hc
              injection hc with hc
              have hc' : g' = k := hc
              subst hc'
              rcases HD.out with h | h
              · exact HNE2.out _ hk h
              · have := (World.ownsRow.lt HW2.out.2.1 _ hk).2; omega
          case measure => simp [intOf]; omega
      · obtain ⟨L, hLe⟩ : ∃ L, L = bitsK low ks := ⟨_, rfl⟩
        rw [← hLe] at hW hbl32
        have hL0 : L.length ≤ 3200 := by omega
        have hby := bytes_any wr g v0 L low hW (by omega)
        have HBY := Lib.hid hby
        have HLE := Lib.hid hLe
        have hBl := packB_length low L
        obtain ⟨B, hBe⟩ : ∃ B, B = packB low L := ⟨_, rfl⟩
        rw [← hBe] at hBl
        have hBl2 : B.length ≤ 401 := by omega
        have hBl8 : L.length ≤ 8 * B.length := by omega
        have hBl9 : 8 * B.length < L.length + 8 := by omega
        have HBE := Lib.hid hBe
        have HW := Lib.hid hW
        have HOWN := Lib.hid hown
        have HVK := Lib.hid hvk
        have HFIT := Lib.hid hfit
        clear hby hLe hBl hBe hW hown hvk hv0 hne0 hfit
        go_wp2_with fail
        refine HBY.out.mono ?_
        rw [← HBE.out]
        rintro e w4 ⟨hb4, q4, cap4, rfl, hr4, _, _, hn4, _⟩
        have hz4 := hb4.size
        have hnr1 := newReader_any q4 B.length cap4 B low w4 hr4 rfl hn4 (by omega)
        have HNR1 := Lib.hid hnr1
        have HR4 := Lib.hid hr4
        clear hnr1 hr4 hn4
        go_wp2_with fail
        refine HNR1.out.mono ?_
        rintro e w5 ⟨hb5, g1, q1, cap1, rfl, hg1, hR1, hq1⟩
        have hz5 := hb5.size
        have hra := reverseAll_any q4 B.length cap4 B w5 (HR4.out.below hb5) rfl (by omega)
        have HRA := Lib.hid hra
        have HR1 := Lib.hid hR1
        have hg1lt := hR1.lt
        clear hra hR1 hq1
        go_wp2_with fail
        refine HRA.out.mono ?_
        rintro e w6 ⟨hb6, rfl, hB6⟩
        have hz6 := hb6.size
        have hnr2 := newReader_any (some ⟨w5.heap.size, 0, none⟩) B.length B.length (B.map revB) (!low) w6 hB6.row (by simp) (fun h => by cases h) (by omega)
        have HNR2 := Lib.hid hnr2
        clear hnr2 hB6
        go_wp2_with fail
        refine HNR2.out.mono ?_
        rintro e w7 ⟨hb7, g2, q2, cap2', rfl, hg2, hR2, hq2⟩
        have hz7 := hb7.size
        have hR1' : Rd w7 g1 q1 cap1 B 0 low := (HR1.out.below hb6 hg1lt).below hb7 (by omega)
        have h47 : Below wr.heap.size wr w7 := ((hb4.trans (hb5.mono hz4)).trans (hb6.mono (by omega))).trans (hb7.mono (by omega))
        have hW7 : Ws w7 g v0 L low := Wr.only HW.out (Only.of_below (S := fun _ => False) h47) (fun h => h) (fun _ _ h => h)
        have hO7 := own_onlyN HOWN.out (Only.of_below (S := fun _ => False) h47) (fun _ _ h => h)
        have hB7 : Below w.heap.size w w7 := hB.trans (h47.mono hB.size)
        have hgl := Wr.lt HW.out
        have hvkl : ∀ k, vk.ownBlock = some k → k < wr.heap.size := fun k hk => (World.ownsRow.lt HOWN.out k hk).2
        have hvl : ∀ k, v0.ownBlock = some k → k < wr.heap.size := fun k hk => (World.ownsRow.lt HW.out.2.1 k hk).2
        obtain ⟨pk, capk, hvkf, hvkb⟩ : ∃ pk capk, vk = .slice pk ks.length capk ∧ (0 < ks.length → ∃ r, pk = some ⟨r, 0, none⟩ ∧ vk.ownBlock = some r) := by
          rcases HOWN.out.2 with ⟨h1, h2⟩ | ⟨r, capk, cur, h1, _⟩
          · exact ⟨none, 0, by rw [h1, h2], fun h => by omega⟩
          · exact ⟨some ⟨r, 0, none⟩, capk, h1, fun _ => ⟨r, rfl, by rw [h1]; rfl⟩⟩
        have hA7 : AgS w g g1 g2 q1 q2 cap1 cap2' B low ks vk v0 L 0 w7 := ⟨hB7, hR1', hR2, hO7, hW7⟩
        have hq21 : ∀ a, q2 = some a → a.block ≠ g1 := fun a ha => by have := hq2 a ha; omega
        have HVKL := Lib.hid hvkl
        have HVL := Lib.hid hvl
        have HVKB := Lib.hid hvkb
        have HQ21 := Lib.hid hq21
        have hg1r : wr.heap.size ≤ g1 := by omega
        have hg12 : g1 < g2 := by omega
        subst hvkf
        clear hR1' hR2 hW7 hO7 hB7 h47 hq2 hvkl hvl hvkb hq21 hb4 hb5 hb6 hb7
        have hvk1 : ∀ k, (Value.slice pk ks.length capk).ownBlock = some k → k < g1 := fun k hk => by have := HVKL.out k hk; omega
        have hv01 : ∀ k, v0.ownBlock = some k → k < g1 := fun k hk => by have := HVL.out k hk; omega
        have hgg1 : g < g1 := by omega
        have hwg1 : w.heap.size ≤ g1 := by omega
        have HVK1 := Lib.hid hvk1
        have HV01 := Lib.hid hv01
        clear hvk1 hv01 HVKL HVL
        go_wp2_with fail
        go_loopw [58] (fun c wr => ∃ i : Nat, i ≤ ks.length ∧ c = .int .i64 (i : Int) ∧ AgS w g g1 g2 q1 q2 cap1 cap2' B low ks (.slice pk ks.length capk) v0 L (bitsK low (ks.take i)).length wr) (fun c _ => ks.length - (intOf c).toNat)
        case atStart => exact ⟨0, by omega, rfl, hA7⟩
        case round =>
          obtain ⟨i, hi, rfl, hS⟩ := hrel
          clear hA7
          by_cases hlt' : i < ks.length
          · obtain ⟨r, hpk, hrk⟩ := HVKB.out (by omega)
            subst hpk
            obtain ⟨q, hq⟩ : ∃ q, q = ks[i] := ⟨_, rfl⟩
            have ck := cellsK_at ks i hlt'
            have hfq := HFIT.out ks[i] (List.getElem_mem hlt')
            have hn1 := next_same low ks i hlt' HFIT.out
            have hn2 := next_other low ks i hlt' HFIT.out
            have htk := bitsK_take low ks i hlt'
            rw [← hq] at ck hfq hn1 hn2 htk
            rw [← HLE.out, ← HBE.out] at hn1 hn2
            obtain ⟨k, n, m, s⟩ := q
            simp only at ck hfq hn1 hn2 htk
            have hat2 : (bitsK low (ks.take (i + 1))).length = (bitsK low (ks.take i)).length + n := by rw [htk, List.length_append, wordE_length]
            have hle2 : (bitsK low (ks.take (i + 1))).length ≤ L.length := by
              rw [HLE.out]
              have e3 : bitsK low ks = bitsK low (ks.take (i + 1)) ++ bitsK low (ks.drop (i + 1)) := by rw [← bitsK_append, List.take_append_drop]
              rw [e3, List.length_append]; omega
            obtain ⟨at_, hate⟩ : ∃ a, a = (bitsK low (ks.take i)).length := ⟨_, rfl⟩
            rw [← hate] at hn1 hn2 hat2 hS
            have hO := hS.2.2.2.1
            have x0 := hO.cells hrk (i * 4) (.int .i64 k) (by have e := List.getElem?_drop (xs := cellsK ks) (i := i * 4) (j := 0); rw [ck] at e; exact e.symm)
            have x1 := hO.cells hrk (i * 4 + 1) (.int .i64 (n : Int)) (by have e := List.getElem?_drop (xs := cellsK ks) (i := i * 4) (j := 1); rw [ck] at e; exact e.symm)
            have x2 := hO.cells hrk (i * 4 + 2) (.int .u32 (m : Int)) (by have e := List.getElem?_drop (xs := cellsK ks) (i := i * 4) (j := 2); rw [ck] at e; exact e.symm)
            have x3 := hO.cells hrk (i * 4 + 3) (.string s) (by have e := List.getElem?_drop (xs := cellsK ks) (i := i * 4) (j := 3); rw [ck] at e; exact e.symm)
            rw [Oct.add_plain, Nat.zero_add] at x0 x1 x2 x3
            obtain ⟨hn32, hm2⟩ := hfq
            have hm32 : m < 4294967296 := by
              have h1 : (2 : Nat) ^ n ≤ 2 ^ 32 := Nat.pow_le_pow_right (by omega) hn32
              omega
            obtain ⟨u, hu⟩ : ∃ u, u = num (word m n).reverse := ⟨_, rfl⟩
            have hu32 : u < 4294967296 := by
              have h1 := num_bd (word m n).reverse (by rw [List.length_reverse, word_length]; exact hn32)
              omega
            have hwo := word_other m n
            rw [← hu] at hwo hn2
            have hcn : cntB (n : Int) = true := by unfold cntB; simp; omega
            have ho1 : okR (n : Int) (8 * B.length) at_ = true := by unfold okR; rw [hcn]; simp; omega
            have ho2 : okR (n : Int) (8 * (B.map revB).length) at_ = true := by rw [List.length_map]; exact ho1
            have e1 : readV (n : Int) low B at_ = (m : Int) := by unfold readV; rw [ho1, if_pos rfl, Int.toNat_natCast, hn1]
            have e2 : readE (n : Int) (8 * B.length) at_ = 0 := by unfold readE; rw [ho1]; rfl
            have e3 : readA (n : Int) (8 * B.length) at_ = at_ + n := by unfold readA; rw [ho1]; rfl
            have f1 : readV (n : Int) (!low) (B.map revB) at_ = (u : Int) := by unfold readV; rw [ho2, if_pos rfl, Int.toNat_natCast, hn2]
            have f2 : readE (n : Int) (8 * (B.map revB).length) at_ = 0 := by unfold readE; rw [ho2]; rfl
            have f3 : readA (n : Int) (8 * (B.map revB).length) at_ = at_ + n := by unfold readA; rw [ho2]; rfl
            have hSa := hS.later ((Below.refl wr.heap.size wr).alloc (Nat.le_refl _) (.cells #[.int .i64 k, .int .i64 (n : Int), .int .u32 (m : Int), .string s] 31))
            have hbx : wr.heap.size < (wr.alloc (.cells #[.int .i64 k, .int .i64 (n : Int), .int .u32 (m : Int), .string s] 31)).heap.size := by simp
            have cb1 : (wr.alloc (.cells #[.int .i64 k, .int .i64 (n : Int), .int .u32 (m : Int), .string s] 31)).cell? ⟨wr.heap.size, 1, none⟩ = some (.int .i64 (n : Int)) := by simp
            have cb2 : (wr.alloc (.cells #[.int .i64 k, .int .i64 (n : Int), .int .u32 (m : Int), .string s] 31)).cell? ⟨wr.heap.size, 2, none⟩ = some (.int .u32 (m : Int)) := by simp
            have hg1x : g1 < wr.heap.size := hS.2.1.lt
            have hg2x : g2 < wr.heap.size := hS.2.2.1.lt
            have HSA := Lib.hid hSa
            have HBX := Lib.hid hbx
            have HC1 := Lib.hid cb1
            have HC2 := Lib.hid cb2
            have E1 := Lib.hid e1
            have E2 := Lib.hid e2
            have E3 := Lib.hid e3
            have F1 := Lib.hid f1
            have F2 := Lib.hid f2
            have F3 := Lib.hid f3
            have HAT2 := Lib.hid hat2
            have HWO := Lib.hid hwo
            clear hSa hbx cb1 cb2 e1 e2 e3 f1 f2 f3 hat2 hwo hu hq ck hn1 hn2 htk hate hcn ho1 ho2 hO hS
            go_wp2_with fail
            refine (read_any _ _ _ _ _ _ _ _ HSA.out.2.1).mono ?_
            rintro e w8 ⟨rfl, hR18, ho8, hz8⟩
            rw [E1.out, E2.out]
            rw [E3.out] at hR18
            have hB8 : Below w.heap.size w w8 := HSA.out.1.trans (ho8.below HSA.out.1.size (fun k hk e => by omega))
            have hR28 := HSA.out.2.2.1.onlyx ho8 (by omega) (fun a ha => HQ21.out a ha)
            have hO8 := own_onlyN HSA.out.2.2.2.1 ho8 (fun k hk e => by have := HVK1.out k hk; omega)
            have hW8 : Ws w8 g v0 L low := Wr.only HSA.out.2.2.2.2 ho8 (by omega) (fun k hk e => by have := HV01.out k hk; omega)
            have k1 := (ho8.cellx (p := ⟨wr.heap.size, 1, none⟩) HBX.out (by show ¬ wr.heap.size = g1; omega)).trans HC1.out
            have k2 := (ho8.cellx (p := ⟨wr.heap.size, 2, none⟩) HBX.out (by show ¬ wr.heap.size = g1; omega)).trans HC2.out
            have hbx8 : wr.heap.size < w8.heap.size := by have := HBX.out; omega
            have HR18 := Lib.hid hR18
            have HR28 := Lib.hid hR28
            have HO8 := Lib.hid hO8
            have HW8 := Lib.hid hW8
            clear hR18 hR28 hO8 hW8 ho8 hz8 HSA
            go_wp2_with fail
            refine (read_any _ _ _ _ _ _ _ _ HR28.out).mono ?_
            rintro e w9 ⟨rfl, hR29, ho9, hz9⟩
            rw [F1.out, F2.out]
            rw [F3.out] at hR29
            have h89 : Below g2 w8 w9 := ho9.below (by omega) (fun k hk e => by omega)
            have hB9 : Below w.heap.size w w9 := hB8.trans (h89.mono (by omega))
            have hR19 := HR18.out.below h89 hg12
            have hO9 := own_onlyN HO8.out ho9 (fun k hk e => by have := HVK1.out k hk; omega)
            have hW9 : Ws w9 g v0 L low := Wr.only HW8.out ho9 (by omega) (fun k hk e => by have := HV01.out k hk; omega)
            have m1 := (ho9.cellx (p := ⟨wr.heap.size, 1, none⟩) (by exact hbx8) (by show ¬ wr.heap.size = g2; omega)).trans k1
            have m2 := (ho9.cellx (p := ⟨wr.heap.size, 2, none⟩) (by exact hbx8) (by show ¬ wr.heap.size = g2; omega)).trans k2
            have hbx9 : wr.heap.size < w9.heap.size := by omega
            have hS9 : AgS w g g1 g2 q1 q2 cap1 cap2' B low ks (.slice (some ⟨r, 0, none⟩) ks.length capk) v0 L (at_ + n) w9 := ⟨hB9, hR19, hR29, hO9, hW9⟩
            have HS9 := Lib.hid hS9
            have hc16 := rword_any u n w9.drew hn32 hu32
            rw [HWO.out] at hc16
            have HC16 := Lib.hid hc16
            clear hS9 hR29 ho9 hz9 h89 hB9 hR19 hO9 hW9 k1 k2 hB8 HR18 HR28 HO8 HW8 hc16
            have md1 : w9.drew.cell? ⟨wr.heap.size, 1, none⟩ = some (.int .i64 (n : Int)) := m1
            have md2 : w9.drew.cell? ⟨wr.heap.size, 2, none⟩ = some (.int .u32 (m : Int)) := m2
            go_wp2_with fail
            refine wp_region_held_drew (S := fun w' => w'.cell? ⟨wr.heap.size, 1, none⟩ = some (.int .i64 (n : Int)) ∧ w'.cell? ⟨wr.heap.size, 2, none⟩ = some (.int .u32 (m : Int))) (by kernel_rfl) ⟨md1, md2⟩ (fun hHeld => ?_)
            refine wpAnyH_take (i := 0) (v := ?v1) rfl (by kernel_rfl) (by kernel_rfl) (by kernel_rfl) (fun _ _ _ h => h) (Or.inl ⟨by rfl, fun w hSw => ?y1⟩) hHeld ?r1
            case y1 => (try dsimp only at hSw); first | (go_simp; done) | (go_simp; with_reducible rfl)
            try simp only [Act.put, List.setIfInBounds_toArray, List.set_cons_zero, List.set_cons_succ, List.getElem_toArray, List.getElem_cons_zero, List.getElem_cons_succ]
            refine wpAnyH_take (i := 1) (v := ?v2) rfl (by kernel_rfl) (by kernel_rfl) (by kernel_rfl) (fun _ _ _ h => h) (Or.inl ⟨by rfl, fun w hSw => ?y2⟩) hHeld ?r2
            case y2 => (try dsimp only at hSw); first | (go_simp; done) | (go_simp; with_reducible rfl)
            try simp only [Act.put, List.setIfInBounds_toArray, List.set_cons_zero, List.set_cons_succ, List.getElem_toArray, List.getElem_cons_zero, List.getElem_cons_succ]
            refine wpAnyH_take (i := 2) (v := ?v3) rfl (by kernel_rfl) (by kernel_rfl) (by kernel_rfl) (fun _ _ _ h => h) (Or.inl ⟨by rfl, fun w hSw => ?y3⟩) hHeld ?r3
            case y3 => (try dsimp only at hSw); first | (go_simp; done) | (go_simp; with_reducible rfl)
            try simp only [Act.put, List.setIfInBounds_toArray, List.set_cons_zero, List.set_cons_succ, List.getElem_toArray, List.getElem_cons_zero, List.getElem_cons_succ]
            refine wpAnyH_take (i := 3) (v := ?v4) rfl (by kernel_rfl) (by kernel_rfl) (by kernel_rfl) (fun _ _ _ h => h) (Or.inl ⟨by rfl, fun w hSw => ?y4⟩) hHeld ?r4
            case y4 => (try dsimp only at hSw); first | (go_simp; done) | (go_simp; with_reducible rfl)
            try simp only [Act.put, List.setIfInBounds_toArray, List.set_cons_zero, List.set_cons_succ, List.getElem_toArray, List.getElem_cons_zero, List.getElem_cons_succ]
            refine wpAnyH_take (i := 4) (v := ?v5) rfl (by kernel_rfl) (by kernel_rfl) (by kernel_rfl) (fun _ _ _ h => h) (Or.inl ⟨by rfl, fun w hSw => ?y5⟩) hHeld ?r5
            case y5 => (try dsimp only at hSw); first | (go_simp; done) | (go_simp; with_reducible rfl)
            try simp only [Act.put, List.setIfInBounds_toArray, List.set_cons_zero, List.set_cons_succ, List.getElem_toArray, List.getElem_cons_zero, List.getElem_cons_succ]
            refine wpAnyH_take (i := 5) (v := ?v6) rfl (by kernel_rfl) (by kernel_rfl) (by kernel_rfl) (fun _ _ _ h => h) (Or.inl ⟨by rfl, fun w hSw => ?y6⟩) hHeld ?r6
            case y6 => (try dsimp only at hSw); first | (go_simp; done) | (go_simp; with_reducible rfl)
            try simp only [Act.put, List.setIfInBounds_toArray, List.set_cons_zero, List.set_cons_succ, List.getElem_toArray, List.getElem_cons_zero, List.getElem_cons_succ]
            refine wpAnyH_take (i := 6) (v := ?v7) rfl (by kernel_rfl) (by kernel_rfl) (by kernel_rfl) (fun _ _ _ h => h) (Or.inl ⟨by rfl, fun w hSw => ?y7⟩) hHeld ?r7
            case y7 => (try dsimp only at hSw); first | (go_simp; done) | (go_simp; with_reducible rfl)
            try simp only [Act.put, List.setIfInBounds_toArray, List.set_cons_zero, List.set_cons_succ, List.getElem_toArray, List.getElem_cons_zero, List.getElem_cons_succ]
            refine wpAnyH_take (i := 7) (v := ?v8) rfl (by kernel_rfl) (by kernel_rfl) (by kernel_rfl) (fun _ _ _ h => h) (Or.inl ⟨by rfl, fun w hSw => ?y8⟩) hHeld ?r8
            case y8 => (try dsimp only at hSw); first | (go_simp; done) | (go_simp; with_reducible rfl)
            try simp only [Act.put, List.setIfInBounds_toArray, List.set_cons_zero, List.set_cons_succ, List.getElem_toArray, List.getElem_cons_zero, List.getElem_cons_succ]
            refine wpAnyH_take (i := 8) (v := ?v9) rfl (by kernel_rfl) (by kernel_rfl) (by kernel_rfl) (fun _ _ _ h => h) (Or.inl ⟨by rfl, fun w hSw => ?y9⟩) hHeld ?r9
            case y9 => (try dsimp only at hSw); first | (go_simp; done) | (go_simp; with_reducible rfl)
            try simp only [Act.put, List.setIfInBounds_toArray, List.set_cons_zero, List.set_cons_succ, List.getElem_toArray, List.getElem_cons_zero, List.getElem_cons_succ]
            refine wpAnyH_take (i := 9) (v := ?v10) rfl (by kernel_rfl) (by kernel_rfl) (by kernel_rfl) (fun _ _ _ h => h) (Or.inl ⟨by rfl, fun w hSw => ?y10⟩) hHeld ?r10
            case y10 => (try dsimp only at hSw); first | (go_simp; done) | (go_simp; with_reducible rfl)
            try simp only [Act.put, List.setIfInBounds_toArray, List.set_cons_zero, List.set_cons_succ, List.getElem_toArray, List.getElem_cons_zero, List.getElem_cons_succ]
            refine wpAnyH_take (i := 10) (v := ?v11) rfl (by kernel_rfl) (by kernel_rfl) (by kernel_rfl) (fun _ _ _ h => h) (Or.inl ⟨by rfl, fun w hSw => ?y11⟩) hHeld ?r11
            case y11 => (try dsimp only at hSw); first | (go_simp; done) | (go_simp; with_reducible rfl)
            try simp only [Act.put, List.setIfInBounds_toArray, List.set_cons_zero, List.set_cons_succ, List.getElem_toArray, List.getElem_cons_zero, List.getElem_cons_succ]
            refine wpAnyH_take (i := 11) (v := ?v12) rfl (by kernel_rfl) (by kernel_rfl) (by kernel_rfl) (fun _ _ _ h => h) (Or.inl ⟨by rfl, fun w hSw => ?y12⟩) hHeld ?r12
            case y12 => (try dsimp only at hSw); first | (go_simp; done) | (go_simp; with_reducible rfl)
            try simp only [Act.put, List.setIfInBounds_toArray, List.set_cons_zero, List.set_cons_succ, List.getElem_toArray, List.getElem_cons_zero, List.getElem_cons_succ]
            refine wpAnyH_take (i := 12) (v := ?v13) rfl (by kernel_rfl) (by kernel_rfl) (by kernel_rfl) (fun _ _ _ h => h) (Or.inl ⟨by rfl, fun w hSw => ?y13⟩) hHeld ?r13
            case y13 => (try dsimp only at hSw); first | (go_simp; done) | (go_simp; with_reducible rfl)
            try simp only [Act.put, List.setIfInBounds_toArray, List.set_cons_zero, List.set_cons_succ, List.getElem_toArray, List.getElem_cons_zero, List.getElem_cons_succ]
            refine wpAnyH_take (i := 13) (v := ?v14) rfl (by kernel_rfl) (by kernel_rfl) (by kernel_rfl) (fun _ _ _ h => h) (Or.inl ⟨by rfl, fun w hSw => ?y14⟩) hHeld ?r14
            case y14 => (try dsimp only at hSw); first | (go_simp; done) | (go_simp; with_reducible rfl)
            try simp only [Act.put, List.setIfInBounds_toArray, List.set_cons_zero, List.set_cons_succ, List.getElem_toArray, List.getElem_cons_zero, List.getElem_cons_succ]
            refine wpAnyH_take (i := 14) (v := ?v15) rfl (by kernel_rfl) (by kernel_rfl) (by kernel_rfl) (fun _ _ _ h => h) (Or.inl ⟨by rfl, fun w hSw => ?y15⟩) hHeld ?r15
            case y15 => (try dsimp only at hSw); first | (go_simp; done) | (go_simp; with_reducible rfl)
            try simp only [Act.put, List.setIfInBounds_toArray, List.set_cons_zero, List.set_cons_succ, List.getElem_toArray, List.getElem_cons_zero, List.getElem_cons_succ]
            refine wpAnyH_take (i := 15) (v := ?v16) rfl (by kernel_rfl) (by kernel_rfl) (by kernel_rfl) (fun _ _ _ h => h) (Or.inl ⟨by rfl, fun w hSw => ?y16⟩) hHeld ?r16
            case y16 => (try dsimp only at hSw); first | (go_simp; done) | (go_simp; with_reducible rfl)
            try simp only [Act.put, List.setIfInBounds_toArray, List.set_cons_zero, List.set_cons_succ, List.getElem_toArray, List.getElem_cons_zero, List.getElem_cons_succ]
            refine wpAnyH_take (i := 17) (v := ?v17) rfl (by kernel_rfl) (by kernel_rfl) (by kernel_rfl) (fun _ _ _ h => h) (Or.inl ⟨by rfl, fun w hSw => ?y17⟩) hHeld ?r17
            case y17 => (try dsimp only at hSw); first | (go_simp; done) | (go_simp; with_reducible rfl)
            try simp only [Act.put, List.setIfInBounds_toArray, List.set_cons_zero, List.set_cons_succ, List.getElem_toArray, List.getElem_cons_zero, List.getElem_cons_succ]
            refine wpAnyH_take (i := 18) (v := ?v18) rfl (by kernel_rfl) (by kernel_rfl) (by kernel_rfl) (fun _ _ _ h => h) (Or.inl ⟨by rfl, fun w hSw => ?y18⟩) hHeld ?r18
            case y18 => (try dsimp only at hSw); first | (go_simp; done) | (go_simp; with_reducible rfl)
            try simp only [Act.put, List.setIfInBounds_toArray, List.set_cons_zero, List.set_cons_succ, List.getElem_toArray, List.getElem_cons_zero, List.getElem_cons_succ]
            refine wpAnyH_take (i := 19) (v := ?v19) rfl (by kernel_rfl) (by kernel_rfl) (by kernel_rfl) (fun _ _ _ h => h) (Or.inl ⟨by rfl, fun w hSw => ?y19⟩) hHeld ?r19
            case y19 => (try dsimp only at hSw); first | (go_simp; done) | (go_simp; with_reducible rfl)
            try simp only [Act.put, List.setIfInBounds_toArray, List.set_cons_zero, List.set_cons_succ, List.getElem_toArray, List.getElem_cons_zero, List.getElem_cons_succ]
            refine wpAnyH_take (i := 20) (v := ?v20) rfl (by kernel_rfl) (by kernel_rfl) (by kernel_rfl) (fun _ _ _ h => h) (Or.inl ⟨by rfl, fun w hSw => ?y20⟩) hHeld ?r20
            case y20 => (try dsimp only at hSw); first | (go_simp; done) | (go_simp; with_reducible rfl)
            try simp only [Act.put, List.setIfInBounds_toArray, List.set_cons_zero, List.set_cons_succ, List.getElem_toArray, List.getElem_cons_zero, List.getElem_cons_succ]
            refine wpAnyH_ready (rs := [16]) (by kernel_rfl) (by simp) ?_
            refine AllReadyH.cons rfl (fun K hK => ?_) AllReadyH.nil
            go_simp
            refine HC16.out.mono ?_
            rintro e w10 ⟨rfl, hb10⟩
            have o1 := (hb10.cell (p := ⟨wr.heap.size, 1, none⟩) (by exact hbx9)).trans md1
            have o2 := (hb10.cell (p := ⟨wr.heap.size, 2, none⟩) (by exact hbx9)).trans md2
            have hz10' : w9.heap.size ≤ w10.heap.size := hb10.size
            go_wp2_with fail
            refine hK.out _ _ ⟨o1, o2⟩ (fun hHeld2 => ?_)
            clear hK K
            try simp only [Act.put, List.setIfInBounds_toArray, List.set_cons_zero, List.set_cons_succ, List.getElem_toArray, List.getElem_cons_zero, List.getElem_cons_succ]
            refine wpAnyH_ready (rs := [21]) (by kernel_rfl) (by simp) ?_
            refine AllReadyH.cons rfl (fun K hK => ?_) AllReadyH.nil
            go_simp
            refine (rword_any _ _ _ hn32 hm32).mono ?_
            rintro e w11 ⟨rfl, hb11⟩
            have p1 := (hb11.cell (p := ⟨wr.heap.size, 1, none⟩) (by show wr.heap.size < w10.heap.size; omega)).trans o1
            have p2' := (hb11.cell (p := ⟨wr.heap.size, 2, none⟩) (by show wr.heap.size < w10.heap.size; omega)).trans o2
            go_wp2_with fail
            refine hK.out _ _ ⟨p1, p2'⟩ (fun hHeld3 => ?_)
            clear hK K
            try simp only [Act.put, List.setIfInBounds_toArray, List.set_cons_zero, List.set_cons_succ, List.getElem_toArray, List.getElem_cons_zero, List.getElem_cons_succ]
            refine wpAnyH_ready (rs := [22]) (by kernel_rfl) (by simp) ?_
            refine AllReadyH.cons rfl (fun K hK => ?_) AllReadyH.nil
            go_simp
            refine (dturn_any _ _ (by rw [word_length]; omega)).mono ?_
            rintro e w' ⟨rfl, rfl⟩
            go_wp2_with fail
            refine hK.out _ _ ⟨p1, p2'⟩ (fun hHeld4 => ?_)
            clear hK K
            try simp only [Act.put, List.setIfInBounds_toArray, List.set_cons_zero, List.set_cons_succ, List.getElem_toArray, List.getElem_cons_zero, List.getElem_cons_succ]
            refine wpAnyH_take (i := 23) (v := ?v21) rfl (by kernel_rfl) (by kernel_rfl) (by kernel_rfl) (fun _ _ _ h => h) (Or.inl ⟨by rfl, fun w hSw => ?y21⟩) hHeld4 ?r21
            case y21 => (try dsimp only at hSw); first | (go_simp; done) | (go_simp; with_reducible rfl)
            try simp only [Act.put, List.setIfInBounds_toArray, List.set_cons_zero, List.set_cons_succ, List.getElem_toArray, List.getElem_cons_zero, List.getElem_cons_succ]
            refine wpAnyH_take (i := 24) (v := ?v22) rfl (by kernel_rfl) (by kernel_rfl) (by kernel_rfl) (fun _ _ _ h => h) (Or.inl ⟨by rfl, fun w hSw => ?y22⟩) hHeld4 ?r22
            case y22 => (try dsimp only at hSw); first | (go_simp; done) | (go_simp; with_reducible rfl)
            try simp only [Act.put, List.setIfInBounds_toArray, List.set_cons_zero, List.set_cons_succ, List.getElem_toArray, List.getElem_cons_zero, List.getElem_cons_succ]
            refine wpAnyH_done (by kernel_rfl) ?_ _
            have hd9 : Below w9.heap.size w9 w9.drew := (Only.drawn (fun _ => False) ⟨1, rfl⟩ : Only (fun _ => False) w9 w9.drew).below (Nat.le_refl _) (fun _ _ h => h)
            have hz10 : w9.heap.size ≤ w10.heap.size := hb10.size
            have h911 : Below w9.heap.size w9 w11 := (hd9.trans hb10).trans (hb11.mono hz10)
            go_wp2_with fail
            go_roundw
            case rel => exact ⟨i + 1, by omega, by go_num, by rw [HAT2.out]; exact HS9.out.later h911⟩
            case measure => simp [intOf]; omega
          · have hik : i = ks.length := by omega
            subst hik
            rw [List.take_length, ← HLE.out] at hS
            have hlf0 : 8 * B.length - L.length < 8 := by omega
            have hla := left_any _ _ _ _ _ _ _ hS.2.1
            generalize 8 * B.length - L.length = lf at hlf0 hla
            have hd : decide ((lf : Int) < 8) = true := by simp; omega
            have hd' : decide (lf < 8) = true := by simp; omega
            have HLA := Lib.hid hla
            have HS := Lib.hid hS
            clear hla hS
            go_wp2_with fail
            refine HLA.out.mono ?_
            rintro e w8 ⟨rfl, hd8⟩
            go_wp2_with fail
            refine (at_any _ _ _ _ _ _ _ (HS.out.2.1.drawn hd8)).mono ?_
            rintro e w' ⟨rfl, rfl⟩
            go_wp2_with fail
            refine (len_any _ _ _ _ _ (Wr.only HS.out.2.2.2.2 (Only.drawn (fun _ => False) hd8) (fun h => h) (fun _ _ h => h))).mono ?_
            rintro e w' ⟨rfl, rfl⟩
            go_wp2_with fail
            go_ret
            exact ⟨rfl, HS.out.1.trans (hd8.below _)⟩
end Go.Proofs.Ytpphcooikhncfaa.Bit


/- The contract of New of the books of all words; which book is a colour's. -/
import Derived.Test.YtplbbejdnahibaaDoorFyC
import Derived.Test.YtplbbejdnahibaaDoorFyD
import Derived.Test.YtplbbejdnahibaaDoorFxG
namespace Go.Proofs.YtplbbejdnahibaaDoor.Fx
open Go.RowKit Go.Proofs.YtplbbejdnahibaaDoor.Oct Go.Proofs.YtplbbejdnahibaaDoor.Bit Go.Proofs.YtplbbejdnahibaaDoor.Hf Go.Proofs.YtplbbejdnahibaaDoor.Inf
set_option linter.unusedVariables false
set_option linter.unusedSimpArgs false
set_option maxRecDepth 100000

theorem heap_last (w : World) (cs : Array Value) (T : TypeId) : (w.alloc (.cells cs T)).heap[w.heap.size]? = some (.cells cs T (0, 0)) := by
  show (w.heap.push _)[w.heap.size]? = _
  simp
theorem words_small {W : List (List Bool)} (h : ∀ x ∈ W, x.length ≤ 13) : ∀ s ∈ wordsU W, s.length ≤ 1000000 := by
  intro s hs
  obtain ⟨m, hm, rfl⟩ := List.mem_map.1 hs
  have := h m hm
  rw [List.length_map]
  omega
theorem boU_bk {w : World} {B C g : Nat} {ws : List (List UInt8)} {ms : List Value} (h : BoU w B C g ws ms) : Bk w C g ws ms := by
  obtain ⟨h0, pw, cw, pm, cm, A, E, h1, h2, h3, h4⟩ := h
  obtain ⟨h5, h6, h7⟩ := h4 w (fun _ _ _ => rfl)
  exact ⟨pw, cw, pm, cm, A, E, h5, h1, h6, h7, h2, h3⟩
/-- a book in the blocks from B up to C -/
def BoI (w : World) (B C g : Nat) (W : List (List Bool)) (ms : List Value) : Prop := ∃ B1 C1, B ≤ B1 ∧ C1 ≤ C ∧ BoU w B1 C1 g (wordsU W) ms
theorem BoI.same {w w' : World} {B C g : Nat} {W : List (List Bool)} {ms : List Value} (h : BoI w B C g W ms) (hz : w.heap.size ≤ w'.heap.size) (hs : ∀ k, B ≤ k → k < C → w'.heap[k]? = w.heap[k]?) : BoI w' B C g W ms := by
  obtain ⟨B1, C1, h1, h2, h3⟩ := h
  exact ⟨B1, C1, h1, h2, h3.same hz fun k a b => hs k (by omega) (by omega)⟩
theorem BoI.bk {w : World} {B C g : Nat} {W : List (List Bool)} {ms : List Value} (h : BoI w B C g W ms) : ∃ C1, Bk w C1 g (wordsU W) ms := by
  obtain ⟨B1, C1, h1, h2, h3⟩ := h
  exact ⟨C1, boU_bk h3⟩
theorem BoI.mono {w : World} {B C B2 C2 g : Nat} {W : List (List Bool)} {ms : List Value} (h : BoI w B C g W ms) (hb : B2 ≤ B) (hc : C ≤ C2) : BoI w B2 C2 g W ms := by
  obtain ⟨B1, C1, h1, h2, h3⟩ := h
  exact ⟨B1, C1, by omega, by omega, h3⟩
/-- the books of all words, in the blocks from B up to C -/
def Cd (w : World) (B C c : Nat) : Prop := C ≤ w.heap.size ∧ B ≤ c ∧ c < C ∧ ∃ g1 g2 g3,
  w.heap[c]? = some (.cells #[.pointer (some ⟨g1, 0, none⟩), .pointer (some ⟨g2, 0, none⟩), .pointer (some ⟨g3, 0, none⟩)] 74 (0, 0)) ∧
  BoI w B C g1 (wordsF false) (ints (lensF 104)) ∧ BoI w B C g2 (wordsF true) (ints (lensF 104)) ∧ BoI w B C g3 modesF (ints (modesN 10))
theorem Cd.same {w w' : World} {B C c : Nat} (h : Cd w B C c) (hz : w.heap.size ≤ w'.heap.size) (hs : ∀ k, B ≤ k → k < C → w'.heap[k]? = w.heap[k]?) : Cd w' B C c := by
  obtain ⟨h1, h2, h3, g1, g2, g3, h4, h5, h6, h7⟩ := h
  exact ⟨Nat.le_trans h1 hz, h2, h3, g1, g2, g3, (hs c h2 h3).trans h4, h5.same hz hs, h6.same hz hs, h7.same hz hs⟩
theorem Cd.below {w w' : World} {B C D c : Nat} (h : Cd w B C c) (hb : Below D w w') (hC : C ≤ D) : Cd w' B C c := h.same hb.size fun k _ hk => hb.block k (by omega)
/-- a place outside the blocks from B up to C -/
def Out (B C k : Nat) : Prop := k < B ∨ C ≤ k
theorem Cd.only {w w' : World} {B C c : Nat} {S : Nat → Prop} (h : Cd w B C c) (ho : Only S w w') (hS : ∀ k, S k → Out B C k) : Cd w' B C c :=
  h.same ho.2.2.2.1 fun k h1 h2 => ho.2.2.2.2 k (by have := h.1; omega) (fun e => by rcases hS k e with h | h <;> omega)
theorem Cd.lt {w : World} {B C c : Nat} (h : Cd w B C c) : c < w.heap.size := by have h1 := h.1; have h2 := h.2.2.1; omega
def CodesP (w : World) (e : Ending) (w' : World) : Prop := Below w.heap.size w w' ∧ ∃ c, e = .returned (.pointer (some ⟨c, 0, none⟩)) ∧ Cd w' w.heap.size w'.heap.size c
set_option maxHeartbeats 2000000 in
theorem codes_any (w : World) (hT : Tab w) : Calls Tryd.prog 14 #[] w (CodesP w) := by
  have HT := Lib.hid hT
  clear hT
  go_enter Tryd.func14, Tryd.ntmps14
  go_wp2_with fail
  refine (words_any false w HT.out).mono ?_
  rintro e w1 ⟨hb1, p1, c1, q1, d1, rfl, hv1, hu1⟩
  rw [strs_length, wordsU_length, wordsF_length] at *
  rw [ints_length, lensF_length] at *
  have HB1 := Lib.hid hb1
  have HN1 := Lib.hid (newI_any p1 q1 104 c1 d1 (wordsU (wordsF false)) (ints (lensF 104)) w1 hv1.1 (by rw [wordsU_length, wordsF_length]) hv1.2.1 hu1.1 (by rw [ints_length, lensF_length]) hu1.2.1 (by omega) ints_one (words_small fun x hx => (words_len false x hx).2))
  clear hb1 hv1 hu1
  go_wp2_with fail
  refine HN1.out.mono ?_
  rintro e w2 ⟨hb2, ⟨_, _, _, hbad⟩ | ⟨g1, rfl, hg1, hg1', hk1⟩⟩
  · exact absurd (words_good false) hbad
  have HB2 := Lib.hid (HB1.out.trans (hb2.mono HB1.out.size))
  have HK1 : Hid (BoI w2 w.heap.size w2.heap.size g1 (wordsF false) (ints (lensF 104))) := Lib.hid ⟨_, _, HB1.out.size, Nat.le_refl _, hk1.boU hg1⟩
  clear hb2 hk1 hg1 hg1' HN1
  go_wp2_with fail
  refine (words_any true w2 (HT.out.below HB2.out HT.out.lt)).mono ?_
  rintro e w3 ⟨hb3, p3, c3, q3, d3, rfl, hv3, hu3⟩
  rw [strs_length, wordsU_length, wordsF_length] at *
  rw [ints_length, lensF_length] at *
  have HB3 := Lib.hid (HB2.out.trans (hb3.mono HB2.out.size))
  have HB23 := Lib.hid hb3
  have HN2 := Lib.hid (newI_any p3 q3 104 c3 d3 (wordsU (wordsF true)) (ints (lensF 104)) w3 hv3.1 (by rw [wordsU_length, wordsF_length]) hv3.2.1 hu3.1 (by rw [ints_length, lensF_length]) hu3.2.1 (by omega) ints_one (words_small fun x hx => (words_len true x hx).2))
  clear hb3 hv3 hu3
  go_wp2_with fail
  refine HN2.out.mono ?_
  rintro e w4 ⟨hb4, ⟨_, _, _, hbad⟩ | ⟨g2, rfl, hg2, hg2', hk2⟩⟩
  · exact absurd (words_good true) hbad
  have HB4 := Lib.hid (HB3.out.trans (hb4.mono HB3.out.size))
  have HB24 := Lib.hid (HB23.out.trans (hb4.mono HB23.out.size))
  have HK2 : Hid (BoI w4 w.heap.size w4.heap.size g2 (wordsF true) (ints (lensF 104))) := Lib.hid ⟨_, _, HB3.out.size, Nat.le_refl _, hk2.boU hg2⟩
  clear hb4 hk2 hg2 hg2' HN2
  go_wp2_with fail
  refine (modes_any w4 (HT.out.below HB4.out HT.out.lt)).mono ?_
  rintro e w5 ⟨hb5, p5, c5, q5, d5, rfl, hv5, hu5⟩
  rw [strs_length, wordsU_length, modesF_length] at *
  rw [ints_length, modesN_length] at *
  have HB5 := Lib.hid (HB4.out.trans (hb5.mono HB4.out.size))
  have HB45 := Lib.hid hb5
  have HN3 := Lib.hid (mnewI_any p5 q5 10 c5 d5 (wordsU modesF) (ints (modesN 10)) w5 hv5.1 (by rw [wordsU_length, modesF_length]) hv5.2.1 hu5.1 (by rw [ints_length, modesN_length]) hu5.2.1 (by omega) ints_one (words_small fun x hx => by have := (modes_len x hx).2; omega))
  clear hb5 hv5 hu5
  go_wp2_with fail
  refine HN3.out.mono ?_
  rintro e w6 ⟨hb6, ⟨_, _, _, hbad⟩ | ⟨g3, rfl, hg3, hg3', hk3⟩⟩
  · exact absurd modes_good hbad
  have HB6 := Lib.hid (HB5.out.trans (hb6.mono HB5.out.size))
  have HB46 := Lib.hid (HB45.out.trans (hb6.mono HB45.out.size))
  have HK3 : Hid (BoI w6 w.heap.size w6.heap.size g3 modesF (ints (modesN 10))) := Lib.hid ⟨_, _, HB5.out.size, Nat.le_refl _, hk3.boU hg3⟩
  clear hb6 hk3 hg3 hg3' HN3
  go_wp2_with fail
  go_ret
  have hba : Below w6.heap.size w6 (w6.alloc (.cells #[.pointer (some ⟨g1, 0, none⟩), .pointer (some ⟨g2, 0, none⟩), .pointer (some ⟨g3, 0, none⟩)] 74)) := (Below.refl _ w6).alloc (Nat.le_refl _) _
  have hz2 := HB24.out.size
  have hz4 := HB46.out.size
  have hz := HB6.out.size
  have hza : (w6.alloc (.cells #[.pointer (some ⟨g1, 0, none⟩), .pointer (some ⟨g2, 0, none⟩), .pointer (some ⟨g3, 0, none⟩)] 74)).heap.size = w6.heap.size + 1 := by simp
  refine ⟨HB6.out.trans (hba.mono hz), w6.heap.size, rfl, Nat.le_refl _, hz, by rw [hza]; omega, g1, g2, g3, heap_last w6 _ _, ?_, ?_, ?_⟩
  · exact (((HK1.out.same hz2 fun k _ hk => HB24.out.block k hk).mono (Nat.le_refl _) hz2).same hz4 fun k _ hk => HB46.out.block k hk).mono (Nat.le_refl _) hz4 |>.same hba.size (fun k _ hk => hba.block k hk) |>.mono (Nat.le_refl _) hba.size
  · exact (HK2.out.same hz4 fun k _ hk => HB46.out.block k hk).mono (Nat.le_refl _) hz4 |>.same hba.size (fun k _ hk => hba.block k hk) |>.mono (Nat.le_refl _) hba.size
  · exact HK3.out.same hba.size (fun k _ hk => hba.block k hk) |>.mono (Nat.le_refl _) hba.size
/-- a colour's book -/
theorem colour_any (b : Bool) (w : World) (B C c : Nat) (h : Cd w B C c) : Calls Tryd.prog 36 #[.pointer (some ⟨c, 0, none⟩), .bool b] w fun e w' => (∃ g, e = .returned (.pointer (some ⟨g, 0, none⟩)) ∧ BoI w B C g (wordsF b) (ints (lensF 104))) ∧ w = w' := by
  obtain ⟨h1, h2, h3, g1, g2, g3, h4, h5, h6, h7⟩ := h
  have k1 : w.cell? ⟨c, 0, none⟩ = some (.pointer (some ⟨g1, 0, none⟩)) := by simp [World.cell?, h4]
  have k2 : w.cell? ⟨c, 1, none⟩ = some (.pointer (some ⟨g2, 0, none⟩)) := by simp [World.cell?, h4]
  have H5 := Lib.hid h5
  have H6 := Lib.hid h6
  clear h1 h2 h3 h4 h5 h6 h7
  go_enter Tryd.func36, Tryd.ntmps36
  cases b
  · go_wp2_with fail
    go_ret
    exact ⟨⟨g1, rfl, H5.out⟩, rfl⟩
  · go_wp2_with fail
    go_ret
    exact ⟨⟨g2, rfl, H6.out⟩, rfl⟩
/-- where a length that has a word is -/
theorem index_any (n : Nat) (hn : n ≤ 2560) (w : World) : Calls Tryd.prog 38 #[.int .i64 (n : Int)] w fun e w' => e = .returned (.int .i64 ((if n < 64 then n else 63 + n / 64 : Nat) : Int)) ∧ w = w' := by
  by_cases h : n < 64
  · have hd : decide ((n : Int) < (64 : Int)) = true := by simp; omega
    rw [if_pos h]
    clear h
    go_enter Tryd.func38, Tryd.ntmps38
    go_wp2_with fail
    go_ret
    exact ⟨rfl, rfl⟩
  · have hd : decide ((n : Int) < (64 : Int)) = false := by simp; omega
    rw [if_neg h]
    have e1 : (n : Int) / 64 = ((n / 64 : Nat) : Int) := by omega
    have e2 : n / 64 ≤ 40 := by omega
    have e3 : 1 ≤ n / 64 := by omega
    generalize n / 64 = d at *
    clear h
    go_enter Tryd.func38, Tryd.ntmps38
    go_wp2_with fail
    go_ret
    refine ⟨?_, rfl⟩
    rw [show ((63 + d : Nat) : Int) = 64 + (d : Int) - 1 by omega]
    rfl
end Go.Proofs.YtplbbejdnahibaaDoor.Fx

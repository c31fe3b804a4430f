
/- Canonical words make a book; the chapter's example holds. -/
import Derived.Test.YtaohakdeicfpoaaHfW
import Derived.Test.YtaohakdeicfpoaaHfD
namespace Go.Proofs.Ytaohakdeicfpoaa.Hf
open Go.RowKit Go.Proofs.Ytaohakdeicfpoaa.Oct Go.Proofs.Ytaohakdeicfpoaa.Bit
set_option linter.unusedVariables false
set_option linter.unusedSimpArgs false
set_option maxRecDepth 100000

theorem dig_inj {a b : List Bool} (h : a.map dig = b.map dig) : a = b := by
  have hinj : ∀ a b : Bool, dig a = dig b → a = b := by intro a b; cases a <;> cases b <;> simp [dig]
  exact (List.map_inj_right (f := dig) (fun a b => hinj a b)).1 h
theorem dig_prefix {a b : List Bool} (h : a.map dig <+: b.map dig) : a <+: b := by
  rw [List.prefix_iff_eq_take] at h ⊢
  rw [List.length_map, ← List.map_take] at h
  exact dig_inj h
theorem canonB_some (L : List Nat) (i : Nat) (s : List UInt8) (h : (canonB L)[i]? = some s) : ∃ hi : i < L.length, s = (wordAt (pos L L[i] i) L[i]).map dig := by
  obtain ⟨hi, he⟩ := List.getElem?_eq_some_iff.1 h
  have hi' : i < L.length := by rwa [canonB_length] at hi
  exact ⟨hi', by rw [← he, canonB_get L i hi hi']⟩
theorem canon_good (L : List Nat) (hL : ∀ i (h : i < L.length), L[i] ≤ 30) (hT : startN L 31 ≤ 1073741824) : Good (canonB L) := by
  constructor
  · intro s hs
    obtain ⟨i, hi⟩ := List.mem_iff_getElem?.1 hs
    obtain ⟨_, rfl⟩ := canonB_some L i s hi
    exact wordB_dig _
  · intro i j s t hi hj hij hs ht hp
    obtain ⟨hi', rfl⟩ := canonB_some L i s hi
    obtain ⟨hj', rfl⟩ := canonB_some L j t hj
    have h0 : L[i] ≠ 0 := by
      intro e
      apply hs
      rw [List.map_eq_nil_iff]
      exact List.eq_nil_of_length_eq_zero (by rw [wordAt_length, e])
    exact canon_free L hL hT i j hi' hj' hij h0 (dig_prefix hp)
theorem ex_err : cErr [2, 1, 0, 2] = 0 := by decide
theorem ex_full : decide (startN (lensN [2, 1, 0, 2]) 31 = 1073741824) = true := by decide
theorem ex_words : canonB (lensN [2, 1, 0, 2]) = [[49, 48], [48], [], [49, 49]] := by decide
theorem ex_good : Good [[49, 48], [48], [], [49, 49]] := by
  rw [← ex_words]
  exact canon_good _ (by decide) (by decide)
def TrueP (w : World) (e : Ending) (w' : World) : Prop := e = .returned (.bool true) ∧ Below w.heap.size w w'
set_option maxHeartbeats 2000000 in
theorem lives_any (w : World) : Calls Try.prog 7 #[] w (TrueP w) := by
  have hz0 : VRow (w.alloc (.cells #[.int .i64 2, .int .i64 1, .int .i64 0, .int .i64 2] 3)) (w.alloc (.cells #[.int .i64 2, .int .i64 1, .int .i64 0, .int .i64 2] 3)).heap.size (some ⟨w.heap.size, 0, none⟩) (ints [2, 1, 0, 2]) := vrow_blk (vs := ints [2, 1, 0, 2]) (heap_alloc_last w _) (by simp)
  have HCA := Lib.hid (canon_any _ 4 4 _ _ hz0 rfl (by omega))
  have hb0 : Below w.heap.size w (w.alloc (.cells #[.int .i64 2, .int .i64 1, .int .i64 0, .int .i64 2] 3)) := (Below.refl _ w).alloc (Nat.le_refl _) _
  have HB0 := Lib.hid hb0
  clear hz0 hb0
  go_enter Try.func7, Try.ntmps7
  go_wp2_with fail
  refine HCA.out.mono ?_
  rintro e w1 ⟨hb1, hres⟩
  have HB1 := Lib.hid (HB0.out.trans (hb1.mono HB0.out.size))
  rw [ex_full, ex_words, ex_err] at hres
  rcases hres with ⟨h, _⟩ | ⟨_, q, c, rfl, hv1, hq0, hlc, hcm, hqb⟩
  · exact absurd rfl h
  obtain ⟨b, off, rfl, hbw⟩ := hv1.addr (by decide)
  have hvs : VRow (w1.alloc (.cells #[.string { data := #[97] }, .string { data := #[98] }, .string { data := #[99] }, .string { data := #[100] }] 9)) (w1.alloc (.cells #[.string { data := #[97] }, .string { data := #[98] }, .string { data := #[99] }, .string { data := #[100] }] 9)).heap.size (some ⟨w1.heap.size, 0, none⟩) (strs [[97], [98], [99], [100]]) := vrow_blk (vs := strs [[97], [98], [99], [100]]) (heap_alloc_last w1 _) (by simp)
  have hbs : Below w1.heap.size w1 (w1.alloc (.cells #[.string { data := #[97] }, .string { data := #[98] }, .string { data := #[99] }, .string { data := #[100] }] 9)) := (Below.refl _ w1).alloc (Nat.le_refl _) _
  have HNW := Lib.hid (newS_any _ _ 4 c 4 _ _ _ ((hv1.below hbs (Nat.le_refl _)).mono (by simp)) rfl (fun h => by cases h) hvs rfl (fun h => by cases h) (by omega) strs_one (by decide))
  have HBS := Lib.hid (HB1.out.trans (hbs.mono HB1.out.size))
  have HZ1 := Lib.hid hbs.size
  have HV1 := Lib.hid hv1
  have HC0 := Lib.hid (hv1.str 0 (by decide))
  have HC1 := Lib.hid (hv1.str 1 (by decide))
  have HC2 := Lib.hid (hv1.str 2 (by decide))
  have HBW := Lib.hid hbw
  have HBS1 := Lib.hid hbs
  clear hvs hbs hv1 hb1 hq0 hlc hcm hqb
  go_wp2_with fail
  refine HNW.out.mono ?_
  rintro e w2 ⟨hb2, hres⟩
  have HB2 := Lib.hid (HBS.out.trans (hb2.mono HBS.out.size))
  have HB12 := Lib.hid (HBS1.out.trans (hb2.mono HBS1.out.size))
  rcases hres with ⟨_, _, _, hbad⟩ | ⟨g, rfl, hg1, hg2, hbk⟩
  · exact absurd ex_good hbad
  have HBK := Lib.hid hbk.bk
  clear hb2 hbk
  go_wp2_with fail
  refine (newReader_any _ _ _ [192] _ _ (by exact row_one w2 192 _) rfl (fun h => by cases h) (by simp)).mono ?_
  rintro e w3 ⟨hb3, gr, q3, c3, rfl, hg3, hR3, _⟩
  have hb23 : Below w2.heap.size w2 w3 := ((Below.refl _ w2).alloc (Nat.le_refl _) _).trans (hb3.mono (by simp))
  have HBK3 := Lib.hid (HBK.out.below hb23)
  have HR3 := Lib.hid hR3
  have HB23 := Lib.hid hb23
  have HG3 := Lib.hid (show w2.heap.size ≤ gr by simp at hg3; omega)
  clear hb3 hR3 hb23 hg3
  have HRD := Lib.hid (readS_any w3 w2.heap.size g _ _ gr q3 c3 [192] 0 false 3 [true, true] [false, false, false, false, false, false] (.string (bs [100])) HBK3.out HG3.out HR3.out rfl (by simp) rfl (by decide))
  go_wp2_with fail
  refine HRD.out.mono ?_
  rintro e w4 ⟨rfl, hR4, ho4, hz4⟩
  have HB34 := Lib.hid (ho4.below (B := w2.heap.size) (by have := HB23.out.size; omega) (fun k hk e => by have := HG3.out; omega))
  have HB4 := Lib.hid (HB2.out.trans ((HB23.out.trans HB34.out).mono HB2.out.size))
  have HB14 := Lib.hid (HB12.out.trans ((HB23.out.trans HB34.out).mono HB12.out.size))
  have c0 : w4.cell? ⟨b, off, none⟩ = some (.string { data := #[49, 48] }) := (HB14.out.cell (p := ⟨b, off, none⟩) HBW.out).trans HC0.out
  have c1 : w4.cell? ⟨b, off + 1, none⟩ = some (.string { data := #[48] }) := (HB14.out.cell (p := ⟨b, off + 1, none⟩) HBW.out).trans HC1.out
  have c2 : w4.cell? ⟨b, off + 2, none⟩ = some (.string { data := #[] }) := (HB14.out.cell (p := ⟨b, off + 2, none⟩) HBW.out).trans HC2.out
  rw [show bs [100] = { data := #[100] } from rfl]
  clear hR4 ho4 hz4
  go_wp2_with fail
  go_ret
  exact ⟨rfl, HB4.out⟩
end Go.Proofs.Ytaohakdeicfpoaa.Hf

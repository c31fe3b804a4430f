
/- Things in order of how often they come; the walk of LimitOrder. -/
import Derived.Test.YtefniglinligeaaLpM
namespace Go.Proofs.Ytefniglinligeaa.Lp
open Go.RowKit Go.Proofs.Ytefniglinligeaa.Oct Go.Proofs.Ytefniglinligeaa.Lm
set_option linter.unusedVariables false
set_option linter.unusedSimpArgs false
set_option maxRecDepth 100000

theorem syms_has : ∀ (zs : List Int) (s i : Nat), i < zs.length → 0 < zs.getD i 0 → (⟨zs.getD i 0, ((s + i : Nat) : Int), none, 0, 0⟩ : Pk) ∈ symsC zs s
  | [], s, i, h, _ => by simp at h
  | z :: zs, s, 0, _, hp => by
    have hp : 0 < z := hp
    simp only [symsC]
    rw [if_pos hp]
    exact List.mem_cons_self ..
  | z :: zs, s, i + 1, h, hp => by
    have h1 := syms_has zs (s + 1) i (by simpa using h) hp
    have e : s + 1 + i = s + (i + 1) := by omega
    rw [e] at h1
    simp only [symsC]
    split
    · exact List.mem_cons_of_mem _ h1
    · exact h1
theorem ix_onto (zs : List Int) (i : Nat) (h : i < zs.length) (hp : 0 < zs.getD i 0) : ∃ r, r < (come (natsOf zs)).length ∧ ixOf zs r = i := by
  obtain ⟨r, hr, e⟩ := List.getElem_of_mem (syms_has zs 0 i h hp)
  refine ⟨r, by rw [← (sgl zs).len]; exact hr, ?_⟩
  unfold ixOf
  rw [syms_get zs r hr, e]
  simp
theorem Fine.order {zs : List Int} {most : Nat} {ls : List Nat} (h : Fine zs most ls) (i k : Nat) (hi : i < zs.length) (hk : k < zs.length) (h1 : zs.getD k 0 < zs.getD i 0) (h2 : 0 < zs.getD k 0) : ls.getD i 0 ≤ ls.getD k 0 := by
  obtain ⟨r, hr, er⟩ := ix_onto zs i hi (by omega)
  obtain ⟨s, hs, es⟩ := ix_onto zs k hk h2
  have hS := sgl zs
  have f1 := (hS.leaf r hr).1
  have f2 := (hS.leaf s hs).1
  have hr' : r < (symsC zs 0).length := by rw [hS.len]; exact hr
  have hs' : s < (symsC zs 0).length := by rw [hS.len]; exact hs
  have g1 : ((symsC zs 0).getD r default).wt = zs.getD i 0 := by
    obtain ⟨j, hj, e, _⟩ := syms_mem zs 0 _ (List.getElem_mem hr')
    have : ixOf zs r = j := by unfold ixOf; rw [syms_get zs r hr', e]; simp
    rw [syms_get zs r hr', e, ← er, this]
  have g2 : ((symsC zs 0).getD s default).wt = zs.getD k 0 := by
    obtain ⟨j, hj, e, _⟩ := syms_mem zs 0 _ (List.getElem_mem hs')
    have : ixOf zs s = j := by unfold ixOf; rw [syms_get zs s hs', e]; simp
    rw [syms_get zs s hs', e, ← es, this]
  have hll := comeL_ix ls zs h.len
  have hlen : (comeL (natsOf zs) ls).length = (come (natsOf zs)).length := h.least.ok.len
  have ho := least_order h.least r s hr hs (by omega) (by omega) (by
    have a1 : (come (natsOf zs)).getD r 0 = (come (natsOf zs))[r] := by rw [List.getD_eq_getElem?_getD, List.getElem?_eq_getElem hr]; rfl
    have a2 : (come (natsOf zs)).getD s 0 = (come (natsOf zs))[s] := by rw [List.getD_eq_getElem?_getD, List.getElem?_eq_getElem hs]; rfl
    rw [a1] at f1
    rw [a2] at f2
    rw [g1] at f1
    rw [g2] at f2
    omega)
  have b1 : (comeL (natsOf zs) ls)[r]'(by omega) = ls.getD i 0 := by
    rw [← er]; simp only [hll, List.getElem_map, List.getElem_range]
  have b2 : (comeL (natsOf zs) ls)[s]'(by omega) = ls.getD k 0 := by
    rw [← es]; simp only [hll, List.getElem_map, List.getElem_range]
  rw [b1, b2] at ho
  exact ho
theorem VRow.intD {w : World} {C : Nat} {b off : Nat} {zs : List Int} (h : VRow w C (some ⟨b, off, none⟩) (ints zs)) (i : Nat) (hi : i < zs.length) : w.cell? ⟨b, off + i, none⟩ = some (.int .i64 (zs.getD i 0)) := by
  rw [h.int i hi, List.getD_eq_getElem?_getD, List.getElem?_eq_getElem hi]
  rfl
set_option maxHeartbeats 8000000 in
theorem order_walk (a : Option Addr) (len cap : Nat) (most : Int) (W : World) (h : IsInts W a len cap) (hwf : (Lit.int IntKind.i64 most).wf = true) :
    Calls Try.prog 5 #[.slice a len cap, .int .i64 most] W fun e w' => e = .returned (.bool true) ∧ Below W.heap.size W w' := by
  obtain ⟨zs, hx, hr, _, _, _⟩ := h
  have HX := Lib.hid hx
  have HR := Lib.hid hr
  clear hx hr hwf
  go_enter Try.func5, Try.ntmps5
  go_wp2_with fail
  refine (lives_any _).mono ?_
  rintro e w1 ⟨rfl, hb1⟩
  have HB1 := Lib.hid hb1
  clear hb1
  by_cases hbig : 100 < len
  · have hd : decide ((100 : Int) < (len : Int)) = true := decide_eq_true (by omega)
    go_wp2_with fail
    refine (lives_any _).mono ?_
    rintro e w2 ⟨rfl, hb2⟩
    have HB2 := Lib.hid (HB1.out.trans (hb2.mono HB1.out.size))
    clear hb2
    go_wp2_with fail
    go_ret
    exact ⟨rfl, HB2.out⟩
  · have hd : decide ((100 : Int) < (len : Int)) = false := decide_eq_false (by omega)
    have hl := lengths_any a len cap most zs w1 ((HR.out.below HB1.out (Nat.le_refl _)).mono HB1.out.size) HX.out
    go_wp2_with fail
    refine hl.mono ?_
    rintro e w2 ⟨hb2, hres⟩
    have HB2 := Lib.hid (HB1.out.trans (hb2.mono HB1.out.size))
    clear hl hb2
    rcases hres with ⟨_, rfl⟩ | ⟨_, _, rfl⟩ | ⟨hok, _, bl, ls, rfl, hlr, _, hfine⟩
    · go_wp2_with fail
      go_ret
      exact ⟨rfl, HB2.out⟩
    · go_wp2_with fail
      go_ret
      exact ⟨rfl, HB2.out⟩
    · have HF : Hid (Fine zs most.toNat ls ∧ LRow w2 bl ls ∧ ls.length = len ∧ bl < w2.heap.size) := ⟨hfine, hlr, by rw [hfine.len]; exact HX.out, hlr.lt⟩
      rw [HX.out]
      clear hok hlr hfine
      go_wp2_with fail
      go_loopg [30] len (fun kx s30 wr => ∃ (i : Nat), s30 = .int .i64 (i : Int) ∧ i ≤ len ∧ len - i ≤ kx ∧ Hid (Below w2.heap.size w2 wr))
      case atStart => exact ⟨0, rfl, by omega, by omega, (show Hid _ from Below.refl _ _)⟩
      case round =>
        obtain ⟨i, rfl, hil, hkx, HW⟩ := hrel
        by_cases hi : i < len
        · have hiz : (i : Int) < (len : Int) := by omega
          have hi0 : (0 : Int) ≤ (i : Int) := by omega
          go_wp2_with fail
          go_loopg [35] len (fun kx s35 wr => ∃ (k : Nat), s35 = .int .i64 (k : Int) ∧ k ≤ len ∧ len - k ≤ kx ∧ Hid (Below w2.heap.size w2 wr))
          case atStart => exact ⟨0, rfl, by omega, by omega, HW⟩
          case round =>
            clear HW
            obtain ⟨k, rfl, hkl, hkx2, HW⟩ := hrel
            by_cases hk : k < len
            · have hkz : (k : Int) < (len : Int) := by omega
              have hk0 : (0 : Int) ≤ (k : Int) := by omega
              obtain ⟨b, off, hp, hbl⟩ := HR.out.addr (by rw [ints_length, HX.out]; omega)
              subst hp
              obtain ⟨f1, f2, f3, f4⟩ := HF.out
              have hxl := HX.out
              have hB := HB2.out.trans (HW.out.mono HB2.out.size)
              have c1 : ∀ j, (wr.drewN j).cell? ⟨b, off + i, none⟩ = some (.int .i64 (zs.getD i 0)) := fun j => (hB.cell (p := ⟨b, off + i, none⟩) hbl).trans (HR.out.intD i (by omega))
              have c2 : ∀ j, (wr.drewN j).cell? ⟨b, off + k, none⟩ = some (.int .i64 (zs.getD k 0)) := fun j => (hB.cell (p := ⟨b, off + k, none⟩) hbl).trans (HR.out.intD k (by omega))
              have c3 : ∀ j, (wr.drewN j).cell? ⟨bl, i, none⟩ = some (.int .i64 ((ls.getD i 0 : Nat) : Int)) := fun j => (HW.out.cell (p := ⟨bl, i, none⟩) f4).trans (lrow_cell f2 i (by omega))
              have c4 : ∀ j, (wr.drewN j).cell? ⟨bl, k, none⟩ = some (.int .i64 ((ls.getD k 0 : Nat) : Int)) := fun j => (HW.out.cell (p := ⟨bl, k, none⟩) f4).trans (lrow_cell f2 k (by omega))
              have HO : Hid (zs.getD k 0 < zs.getD i 0 → 0 < zs.getD k 0 → ls.getD i 0 ≤ ls.getD k 0) := fun h1 h2 => f1.order i k (by omega) (by omega) h1 h2
              generalize zs.getD i 0 = zi at c1 HO
              generalize zs.getD k 0 = zk at c2 HO
              generalize ls.getD i 0 = li at c3 HO
              generalize ls.getD k 0 = lk at c4 HO
              clear f1 f2 f3 f4 hxl hB
              have HNX : Hid (∀ j, Below w2.heap.size w2 (wr.drewN j)) := fun j => HW.out.trans ⟨rfl, rfl, rfl, Nat.le_refl _, fun _ _ => rfl⟩
              by_cases h1 : zk < zi
              · have d1 : decide (zk < zi) = true := decide_eq_true h1
                by_cases h2 : 0 < zk
                · have d2 : decide (0 < zk) = true := decide_eq_true h2
                  have h3 := HO.out h1 h2
                  have d3 : decide ((lk : Int) < (li : Int)) = false := decide_eq_false (by omega)
                  go_wp2_with fail
                  go_quiet (fail)
                  go_wp2_with fail
                  go_roundg (len - (k + 1))
                  case measure => omega
                  case rel => exact ⟨k + 1, by go_num, by omega, Nat.le_refl _, HNX.out _⟩
                · have d2 : decide (0 < zk) = false := decide_eq_false h2
                  go_wp2_with fail
                  go_quiet (fail)
                  go_wp2_with fail
                  go_roundg (len - (k + 1))
                  case measure => omega
                  case rel => exact ⟨k + 1, by go_num, by omega, Nat.le_refl _, HNX.out _⟩
              · have d1 : decide (zk < zi) = false := decide_eq_false h1
                go_wp2_with fail
                go_quiet (fail)
                go_wp2_with fail
                go_roundg (len - (k + 1))
                case measure => omega
                case rel => exact ⟨k + 1, by go_num, by omega, Nat.le_refl _, HNX.out _⟩
            · have hkz : ¬ (k : Int) < (len : Int) := by omega
              go_wp2_with fail
              go_roundg (len - (i + 1))
              case measure => omega
              case rel => exact ⟨i + 1, by go_num, by omega, Nat.le_refl _, HW⟩
        · have hiz : ¬ (i : Int) < (len : Int) := by omega
          go_wp2_with fail
          go_ret
          exact ⟨rfl, HB2.out.trans (HW.out.mono HB2.out.size)⟩
end Go.Proofs.Ytefniglinligeaa.Lp

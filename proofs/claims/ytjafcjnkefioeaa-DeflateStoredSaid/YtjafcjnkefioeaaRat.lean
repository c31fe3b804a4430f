/- LpH, LpI, LpJ: merged. -/
import Derived.Sort.LotA
import Derived.Test.YtjafcjnkefioeaaRows
import Derived.Laws.BitsAllLaws
import Derived.Laws.Strings
import Derived.Laws.BytesArg
import Derived.WalkKit
import Derived.ProofKit
import Derived.WalkLawsBesides
import Derived.Lib.Hide
import Derived.Deep.QuietTactic
import Derived.BigQuiet
import Derived.Outline
import Derived.Laws.NewBlocks
import Derived.Laws.CopyOwn
import Derived.Laws.Concat
import Derived.Laws.Strings2
import Derived.WalkSpells
import Derived.Laws.AppendOwnNone
import Derived.OpenShut
import Derived.Shelf.SlSortCmp.PdqK
import Derived.Deep.DeepCutAuto
import Derived.Lib.SliceRun
import Derived.ChangeSlices
import Derived.Lib.BufferMore
import Derived.RegionTactic
import Derived.BigRegion
import Derived.OwnWalk
import Derived.Deep.WholeRow
import Derived.Shelf.Spec.SlicesGrow
import Derived.Lib.MinMax
import Derived.Test.YtjafcjnkefioeaaRas
set_option linter.unusedVariables false
set_option linter.unusedSimpArgs false
/- lightest: the packs of the smallest weight. -/
namespace Go.Proofs.Ytjafcjnkefioeaa.Lp
open Go.RowKit Go.Sort Go.Proofs.Ytjafcjnkefioeaa.Oct Go.Proofs.Ytjafcjnkefioeaa.Lm
set_option maxRecDepth 100000
theorem two_cells (w : World) (x y : Value) (T : TypeId) : (w.alloc (.cells #[x, y] T)).cell? ⟨w.heap.size, 0, none⟩ = some x ∧ (w.alloc (.cells #[x, y] T)).cell? ⟨w.heap.size, 1, none⟩ = some y := by
  have h := heap_alloc_last w (.cells #[x, y] T)
  exact ⟨by unfold World.cell?; dsimp only; rw [h]; rfl, by unfold World.cell?; dsimp only; rw [h]; rfl⟩
def LightP (w : World) (ix : Nat → Nat) (f : List Nat) (most : Nat) (e : Ending) (w' : World) : Prop :=
  ∃ (p : Option Addr) (lb cap : Nat) (z : List (Tree × Pk)), e = .returned (.slice p (2 * (f.length - 1)) cap) ∧ (2 ≤ f.length → p = some ⟨lb, 0, none⟩ ∧ w.heap.size ≤ lb ∧ lb < w'.heap.size) ∧ PRow w' lb (z.map Prod.snd) ∧ (∀ x ∈ z, Mn w' w.heap.size lb ix x.1 x.2) ∧ LevelR f most (z.map Prod.fst) ∧ 2 * (f.length - 1) ≤ z.length ∧ Below w.heap.size w w'
theorem head_packs (W : World) (p : Option Addr) (len cap k : Nat) (h : k ≤ cap) (hp : p = none → cap = 0) :
    (Instr.slice 124 (.slice p len cap) none (some (.int .i64 (k : Int))) none).run Try.prog W = .ok (.slice p k cap) W := by
  have ht' : Try.prog.underlying 124 = some (.slice (Try.prog.elem 124)) := by kernel_rfl
  have he : Try.prog.elem 124 = 127 := by kernel_rfl
  rw [run_slice_h W 124 p len cap ht' .i64 _ (by omega) (by omega), he, Sm.sizeP]
  rcases p with _ | a
  · have := hp rfl
    subst this
    simp [Result.andThen, sliced]
  · simp only [Result.andThen_ok, sliced, Int.toNat_natCast]
    obtain ⟨b, o, s⟩ := a
    by_cases h0 : cap = 0
    · simp [h0]
    · rw [if_neg h0]
      simp [Addr.add]
set_option maxHeartbeats 8000000 in
theorem lightest_any (p : Option Addr) (n cap most : Nat) (S : List Pk) (f : List Nat) (ix : Nat → Nat) (w : World) (hS : Sgl S f ix) (hn : n = S.length) (hpv : PV w w.heap.size p S) (hpc : p = none → cap = 0) (hl : n ≤ 1000) (hm1 : 1 ≤ most) (hm : most ≤ 30) (hf1 : ∀ x ∈ f, 1 ≤ x) (hf2 : ∀ x ∈ f, x ≤ 1073741824) (hnm : f.length ≤ 2 ^ most) :
    Calls Try.prog 68 #[.slice p n cap, .int .i64 most] w (LightP w ix f most) := by
  have H0 : Hid (Sgl S f ix ∧ n = S.length ∧ PV w w.heap.size p S ∧ (p = none → cap = 0) ∧ (∀ x ∈ f, 1 ≤ x) ∧ (∀ x ∈ f, x ≤ 1073741824) ∧ f.length ≤ 2 ^ most) := ⟨hS, hn, hpv, hpc, hf1, hf2, hnm⟩
  have HST : Hid (Lst w w.heap.size ix f 0 (.slice none 0 0) [] ∧ Below w.heap.size w w) := ⟨⟨none, 0, 0, rfl, fun h => absurd rfl h, fun _ => rfl, Nat.le_refl _, fun i hi => by simp at hi, fun x hx => absurd hx List.not_mem_nil, rfl⟩, Below.refl _ _⟩
  clear hS hn hpv hpc hf1 hf2 hnm
  go_enter Try.func68, Try.ntmps68
  go_wp2
  go_loopg [5, 7] most (fun kx s5 s7 wr => ∃ (l : Nat) (z : List (Tree × Pk)), s7 = .int .i64 (l : Int) ∧ l ≤ most ∧ most - l ≤ kx ∧ Hid (Lst wr w.heap.size ix f l s5 z ∧ Below w.heap.size w wr))
  case atStart => exact ⟨0, [], rfl, by omega, by omega, HST⟩
  case round =>
    clear HST
    obtain ⟨l, z, rfl, hlm, hkx, HR⟩ := hrel
    obtain ⟨⟨q, lb, c, rfl, e1, e2, e3, e4, e5, e6⟩, hb⟩ := HR.out
    by_cases hlt : l < most
    · have hkz : (l : Int) < (most : Int) := by omega
      obtain ⟨h1, h2, h3, h4, h5, h6, h7⟩ := H0.out
      have hzl : z.length ≤ 2 * f.length := by have := level_length e6; rwa [List.length_map] at this
      have hpow : 2 ^ l ≤ 2 ^ 29 := Nat.pow_le_pow_right (by omega) (by omega)
      have hbd : ∀ x ∈ z.map Prod.snd, 0 ≤ x.wt ∧ x.wt ≤ 2305843009213693952 := by
        intro x hx
        obtain ⟨y, hy, rfl⟩ := List.mem_map.1 hx
        have a1 := (e5 y hy).wt
        have a2 := (level_bound h6 e6 y.1 (List.mem_map_of_mem hy)).1
        rw [a1]
        have : (2 : Nat) ^ 29 = 536870912 := by decide
        generalize 2 ^ l = x2 at hpow a2
        omega
      have hpr := pairs_any q lb z.length c (z.map Prod.snd) wr (fun h => (e1 h).1) (by rw [List.length_map]) e4 (fun h => (e1 h).2.2) (by have := h1.len; omega) e3 hbd
      have HZ : Hid ((z.length ≠ 0 → q = some ⟨lb, 0, none⟩ ∧ w.heap.size ≤ lb ∧ lb < wr.heap.size) ∧ z.length ≤ c ∧ PRow wr lb (z.map Prod.snd) ∧ (∀ x ∈ z, Mn wr w.heap.size lb ix x.1 x.2) ∧ LevelR f l (z.map Prod.fst) ∧ Below w.heap.size w wr ∧ z.length ≤ 2 * f.length) := ⟨e1, e3, e4, e5, e6, hb, hzl⟩
      clear e1 e2 e3 e4 e5 e6 hb hzl hbd h1 h2 h3 h4 h5 h6 h7 HR hpow
      go_wp2_with (go_at_call 83; refine hpr.mono ?_; rintro e w1 ⟨rfl, pr1, sz1, be1⟩)
      clear hpr
      rw [List.length_map] at *
      have HP : Hid (PRow w1 wr.heap.size ((zP lb c z).map Prod.snd) ∧ wr.heap.size < w1.heap.size ∧ Below wr.heap.size wr w1 ∧ (zP lb c z).length = z.length / 2) := ⟨by rw [zP_snd, List.length_map]; exact pr1, sz1, be1, by simp [zP]⟩
      clear pr1 sz1 be1
      have hcell := two_cells w1 (.slice p n cap) (.slice (some ⟨wr.heap.size, 0, none⟩) (z.length / 2) (z.length / 2)) 124
      have hbw : Below wr.heap.size wr (w1.alloc (.cells #[.slice p n cap, .slice (some ⟨wr.heap.size, 0, none⟩) (z.length / 2) (z.length / 2)] 124)) := HP.out.2.2.1.trans (((Below.refl _ w1).alloc (Nat.le_refl _) _).mono (Nat.le_of_lt HP.out.2.1))
      have hsz2 : w1.heap.size < (w1.alloc (.cells #[.slice p n cap, .slice (some ⟨wr.heap.size, 0, none⟩) (z.length / 2) (z.length / 2)] 124)).heap.size := by simp
      have hkp := ((only_alloc (fun _ => False) w1 (.cells #[.slice p n cap, .slice (some ⟨wr.heap.size, 0, none⟩) (z.length / 2) (z.length / 2)] 124)).2.2.2.2 wr.heap.size HP.out.2.1 (fun h => h))
      generalize w1.alloc (.cells #[.slice p n cap, .slice (some ⟨wr.heap.size, 0, none⟩) (z.length / 2) (z.length / 2)] 124) = w2 at hcell hbw hsz2 hkp ⊢
      have hcat := concat_any w1.heap.size 2 p (some ⟨wr.heap.size, 0, none⟩) cap (z.length / 2) S ((zP lb c z).map Prod.snd) w2 hsz2 (by rw [← H0.out.2.1]; exact hcell.1) (by rw [List.length_map, HP.out.2.2.2]; exact hcell.2)
        ((H0.out.2.2.1.below (HZ.out.2.2.2.2.2.1.trans (hbw.mono HZ.out.2.2.2.2.2.1.size)) (Nat.le_refl _)).mono (by have := HZ.out.2.2.2.2.2.1.size; have := hbw.size; omega))
        (fun _ => ⟨wr.heap.size, rfl, by have := HP.out.2.1; omega, HP.out.1.keep hkp⟩) H0.out.2.2.2.1 (fun h => by cases h) ⟨by have := H0.out.2.1; omega, by rw [List.length_map, HP.out.2.2.2]; have := HZ.out.2.2.2.2.2.2; have := H0.out.1.len; have := H0.out.2.1; omega⟩
      refine hcat.mono ?_
      rintro e w3 ⟨v, rfl, ho, hb3⟩
      have H3 : Hid (POwn w3 w2.heap.size v (S ++ (zP lb c z).map Prod.snd) ∧ Below wr.heap.size wr w3 ∧ wr.heap.size < w2.heap.size) := ⟨ho, hbw.trans (hb3.mono hbw.size), by have := HP.out.2.1; omega⟩
      clear hcat hcell hbw hsz2 hkp ho hb3
      obtain ⟨q2, c2, rfl, hq0, hle, hmx, hpv, hge⟩ := H3.out.1.shape
      by_cases h0 : (S ++ (zP lb c z).map Prod.snd).length = 0
      · rw [h0]
        have hsn := sort_none q2 c2 (.func (.func 85) #[] #[])
        have H4 : Hid (q2 = none → c2 = 0) := hq0
        have hS0 : S = [] ∧ z = [] := by
          simp only [List.length_append, List.length_map] at h0
          have h1 : S.length = 0 := by omega
          refine ⟨List.eq_nil_of_length_eq_zero h1, List.eq_nil_of_length_eq_zero ?_⟩
          have := HZ.out.2.2.2.2.2.2
          have := H0.out.1.len
          omega
        have HN : Hid (Lst w3 w.heap.size ix f (l + 1) (.slice q2 0 c2) [] ∧ Below w.heap.size w w3) := by
          obtain ⟨hs1, rfl⟩ := hS0
          have hf0 : f = [] := List.eq_nil_of_length_eq_zero (by rw [← H0.out.1.len, hs1]; rfl)
          refine ⟨⟨q2, 0, c2, rfl, fun h => absurd rfl h, hq0, Nat.zero_le _, fun i hi => by simp at hi, fun x hx => absurd hx List.not_mem_nil, trivial, [], HZ.out.2.2.2.2.1, ?_⟩, HZ.out.2.2.2.2.2.1.trans (H3.out.2.1.mono HZ.out.2.2.2.2.2.1.size)⟩
          rw [hf0]
          exact List.Perm.refl _
        clear hq0 hle hmx hpv hge h0 hS0
        go_wp2_with (go_at_call 84; refine (hsn _).mono ?_; rintro e w' ⟨rfl, rfl⟩)
        go_roundg (most - (l + 1))
        case measure => omega
        case rel => exact ⟨l + 1, [], by go_num, by omega, Nat.le_refl _, HN⟩
      · obtain ⟨g, rfl, hg, hrow⟩ := hpv (by omega)
        have hgb := hge _ rfl
        have hgb : w2.heap.size ≤ g := hgb
        have hH := holds_of hrow H3.out.1.fz
        have hlen : (S ++ (zP lb c z).map Prod.snd).length ≤ 100000 := by
          rw [List.length_append, List.length_map, HP.out.2.2.2]
          have := HZ.out.2.2.2.2.2.2; have := H0.out.1.len; have := H0.out.2.1; omega
        have hso := sort_packs g 0 c2 _ w3 hH hg (by rw [List.size_toArray]; omega)
        rw [List.size_toArray] at hso
        have HH : Hid (HoldsK encP 3 w3 g 0 (S ++ (zP lb c z).map Prod.snd).toArray ∧ g < w3.heap.size ∧ w2.heap.size ≤ g ∧ (S ++ (zP lb c z).map Prod.snd).length ≤ c2) := ⟨hH, hg, hgb, hle⟩
        have HLN : Hid ((S ++ (zP lb c z).map Prod.snd).length = (zL f S ++ zP lb c z).length) := by
          show _ = _
          rw [List.length_append, List.length_append, List.length_map, HP.out.2.2.2]; simp [zL, H0.out.1.len]
        clear hq0 hle hmx hpv hge h0 hg hrow hgb hH
        generalize hnn : (S ++ (zP lb c z).map Prod.snd).length = nn at hso hlen
        have HNN : Hid ((S ++ (zP lb c z).map Prod.snd).length = nn) := hnn
        clear hnn
        go_wp2_with (go_at_call 84; refine hso.mono ?_; rintro e w4 ⟨rfl, d', hS4, hp4, hs4⟩)
        clear hso
        have HN : Hid (∃ z', Lst w4 w.heap.size ix f (l + 1) (.slice (some ⟨g, 0, none⟩) nn c2) z' ∧ Below w.heap.size w w4) := by
          obtain ⟨b1, b2, b3, b4⟩ := HH.out
          have hwlt : w.heap.size ≤ wr.heap.size := HZ.out.2.2.2.2.2.1.size
          have hwr2 := H3.out.2.2
          have hmz : ∀ x ∈ zL f S ++ zP lb c z, Mn w3 w.heap.size g ix x.1 x.2 := by
            intro x hx
            rcases List.mem_append.1 hx with hx | hx
            · unfold zL at hx
              obtain ⟨r, hr, rfl⟩ := List.mem_map.1 hx
              exact leaf_any (H0.out.1.leaf r (by simpa using hr))
            · exact (zP_mean (hi := wr.heap.size) HZ.out.2.2.1 HZ.out.2.2.2.1 (fun h => (HZ.out.1 h).2) HZ.out.2.1 x hx).keep (by omega) (fun k _ hk => H3.out.2.1.block k hk)
          have hsz4 : (S ++ (zP lb c z).map Prod.snd).toArray.size = nn := by rw [List.size_toArray]; exact HNN.out
          obtain ⟨z', e1, e2, e3, e4⟩ := next_level (z := z) (zc := zL f S ++ zP lb c z) (d := (S ++ (zP lb c z).map Prod.snd).toArray) HZ.out.2.2.2.2.1 (by rw [List.map_append, zL_fst, zP_fst]) (by rw [List.map_append, zL_snd H0.out.1]) hmz hS4 b1 b2 (by rw [hsz4]; exact hp4) (by rw [hsz4]; exact hs4)
          have hlz : z'.length = nn := by rw [e1, ← HLN.out]; exact HNN.out
          obtain ⟨k1, k2, k3, k4, k5⟩ := swk_keep hS4
          refine ⟨z', ⟨some ⟨g, 0, none⟩, g, c2, by rw [hlz], fun _ => ⟨rfl, by omega, by omega⟩, fun h => (by cases h), by rw [hlz, ← HNN.out]; exact b4, e2, e3, e4⟩, ?_⟩
          have hB3 := HZ.out.2.2.2.2.2.1.trans (H3.out.2.1.mono hwlt)
          exact ⟨k3.trans hB3.os, k4.trans hB3.tape, k5.trans hB3.output, Nat.le_trans hB3.size k1, fun k hk => (k2 k (by omega) (by omega)).trans (hB3.block k hk)⟩
        clear hS4 hp4 hs4
        go_roundg (most - (l + 1))
        case measure => omega
        case rel =>
          obtain ⟨z', hN⟩ := HN.out
          exact ⟨l + 1, z', by go_num, by omega, Nat.le_refl _, hN⟩
    · have hkz : ¬ (l : Int) < (most : Int) := by omega
      have hlm2 : l = most := by omega
      subst hlm2
      obtain ⟨h1, h2, h3, h4, h5, h6, h7⟩ := H0.out
      have hnf : n = f.length := by rw [h2, h1.len]
      have hmany : 2 * (f.length - 1) ≤ z.length := by
        by_cases h9 : 2 ≤ f.length
        · have := parcels_many hm1 hm h9 h5 h7
          rw [← e6.parcels] at this
          simpa using this
        · omega
      have hmax : max ((n : Int) - 1) 0 = ((n - 1 : Nat) : Int) := by omega
      obtain ⟨k, hk⟩ : ∃ k, k = 2 * (n - 1) := ⟨_, rfl⟩
      have hw1 : IntKind.i64.wrap ((n : Int) - 1) = (n : Int) - 1 := by rw [IntKind.wrap_i64]; omega
      have hw2 : IntKind.i64.wrap (2 * ((n - 1 : Nat) : Int)) = (k : Int) := by rw [IntKind.wrap_i64]; omega
      have hsl := fun W => head_packs W q z.length c k (by omega) e2
      have HK : Hid (k = 2 * (f.length - 1)) := by show _ = _; rw [hk, hnf]
      have HNF : Hid (n = f.length) := hnf
      have HF : Hid ((z.length ≠ 0 → q = some ⟨lb, 0, none⟩ ∧ w.heap.size ≤ lb ∧ lb < wr.heap.size) ∧ PRow wr lb (z.map Prod.snd) ∧ (∀ x ∈ z, Mn wr w.heap.size lb ix x.1 x.2) ∧ LevelR f l (z.map Prod.fst) ∧ 2 * (f.length - 1) ≤ z.length ∧ Below w.heap.size w wr) := ⟨e1, e4, e5, e6, hmany, hb⟩
      clear h1 h2 h3 h4 h5 h6 h7 hnf e1 e4 e5 e6 hmany hb hk HR
      go_wp2
      go_ret
      obtain ⟨a1, a2, a3, a4, a5, a6⟩ := HF.out
      exact ⟨q, lb, c, z, by rw [← HK.out]; rfl, fun h => a1 (by omega), a2, a3, a4, a5, a6⟩
end Go.Proofs.Ytjafcjnkefioeaa.Lp
/- The packs of the things that come, their places, and the lengths that trees add up to; no program in sight. -/
namespace Go.Proofs.Ytjafcjnkefioeaa.Lp
open Go.RowKit Go.Proofs.Ytjafcjnkefioeaa.Oct Go.Proofs.Ytjafcjnkefioeaa.Lm
set_option maxRecDepth 100000
def symsC : List Int → Nat → List Pk
  | [], _ => []
  | z :: zs, s => if 0 < z then ⟨z, (s : Int), none, 0, 0⟩ :: symsC zs (s + 1) else symsC zs (s + 1)
theorem symsC_append (a b : List Int) (s : Nat) : symsC (a ++ b) s = symsC a s ++ symsC b (s + a.length) := by
  induction a generalizing s with
  | nil => rfl
  | cons x a ih =>
    rw [List.cons_append]
    simp only [symsC]
    rw [ih (s + 1), show s + 1 + a.length = s + (x :: a).length by simp; omega]
    split <;> rfl
theorem syms_take (zs : List Int) (k : Nat) (h : k ≤ zs.length) : syms zs k = symsC (zs.take k) 0 := by
  induction k with
  | zero => simp [syms, symsC]
  | succ k ih =>
    have hk : k < zs.length := by omega
    simp only [syms]
    rw [ih (by omega), List.take_succ_eq_append_getElem hk, symsC_append, List.length_take, Nat.min_eq_left (by omega), Nat.zero_add]
    have hg : zs.getD k 0 = zs[k] := by rw [List.getD_eq_getElem?_getD, List.getElem?_eq_getElem hk]; rfl
    rw [hg]
    simp only [symsC]
theorem syms_all (zs : List Int) : syms zs zs.length = symsC zs 0 := by rw [syms_take zs _ (Nat.le_refl _), List.take_length]
def natsOf (zs : List Int) : List Nat := zs.map Int.toNat
theorem come_syms (zs : List Int) (s : Nat) : come (natsOf zs) = (symsC zs s).map fun p => p.wt.toNat := by
  induction zs generalizing s with
  | nil => rfl
  | cons z zs ih =>
    have ih := ih (s + 1)
    unfold come natsOf at ih ⊢
    rw [List.map_cons]
    simp only [symsC]
    by_cases h : 0 < z
    · rw [if_pos h, List.filter_cons_of_pos (by simp; omega), List.map_cons, ih]
    · rw [if_neg h, List.filter_cons_of_neg (by simp; omega), ih]
theorem syms_mem (zs : List Int) (s : Nat) : ∀ p ∈ symsC zs s, ∃ i, i < zs.length ∧ p = ⟨zs.getD i 0, ((s + i : Nat) : Int), none, 0, 0⟩ ∧ 0 < zs.getD i 0 := by
  induction zs generalizing s with
  | nil => intro p hp; cases hp
  | cons z zs ih =>
    intro p hp
    have key : p ∈ symsC zs (s + 1) → ∃ i, i < (z :: zs).length ∧ p = ⟨(z :: zs).getD i 0, ((s + i : Nat) : Int), none, 0, 0⟩ ∧ 0 < (z :: zs).getD i 0 := fun h => by
      obtain ⟨i, h1, h2, h3⟩ := ih (s + 1) p h
      exact ⟨i + 1, by simp; omega, by rw [h2, show s + 1 + i = s + (i + 1) by omega]; rfl, h3⟩
    simp only [symsC] at hp
    by_cases h : 0 < z
    · rw [if_pos h] at hp
      rcases List.mem_cons.1 hp with rfl | hp
      · exact ⟨0, by simp, rfl, h⟩
      · exact key hp
    · rw [if_neg h] at hp
      exact key hp
theorem syms_rise (zs : List Int) (s : Nat) : (symsC zs s).Pairwise fun p q => p.sym < q.sym := by
  induction zs generalizing s with
  | nil => exact List.Pairwise.nil
  | cons z zs ih =>
    simp only [symsC]
    split
    · refine List.Pairwise.cons (fun q hq => ?_) (ih _)
      obtain ⟨i, _, rfl, _⟩ := syms_mem zs (s + 1) q hq
      show (s : Int) < ((s + 1 + i : Nat) : Int)
      omega
    · exact ih _
def ixOf (zs : List Int) (r : Nat) : Nat := ((symsC zs 0).getD r default).sym.toNat
theorem syms_get (zs : List Int) (r : Nat) (h : r < (symsC zs 0).length) : (symsC zs 0).getD r default = (symsC zs 0)[r] := by rw [List.getD_eq_getElem?_getD, List.getElem?_eq_getElem h]; rfl
theorem sgl (zs : List Int) : Sgl (symsC zs 0) (come (natsOf zs)) (ixOf zs) := by
  have e := come_syms zs 0
  have hlen : (symsC zs 0).length = (come (natsOf zs)).length := by rw [e, List.length_map]
  refine ⟨hlen, fun r hr => ?_⟩
  have hr' : r < (symsC zs 0).length := by omega
  obtain ⟨i, h1, h2, h3⟩ := syms_mem zs 0 _ (List.getElem_mem hr')
  have hix : ixOf zs r = i := by unfold ixOf; rw [syms_get zs r hr', h2]; simp
  have hf : (come (natsOf zs)).getD r 0 = (symsC zs 0)[r].wt.toNat := by
    rw [List.getD_eq_getElem?_getD, e, List.getElem?_map, List.getElem?_eq_getElem hr']; rfl
  rw [syms_get zs r hr', hf]
  show (symsC zs 0)[r].wt = _ ∧ (symsC zs 0)[r].sym = _ ∧ (symsC zs 0)[r].ptr = none ∧ (symsC zs 0)[r].len = 0 ∧ (symsC zs 0)[r].cap = 0
  have q1 : (symsC zs 0)[r].wt = zs.getD i 0 := by rw [h2]
  have q2 : (symsC zs 0)[r].sym = ((0 + i : Nat) : Int) := by rw [h2]
  refine ⟨?_, ?_, by rw [h2], by rw [h2], by rw [h2]⟩
  · omega
  · rw [hix, q2]; omega
theorem ix_lt (zs : List Int) (r : Nat) (h : r < (come (natsOf zs)).length) : ixOf zs r < zs.length := by
  have hr' : r < (symsC zs 0).length := by rw [come_syms zs 0, List.length_map] at h; exact h
  obtain ⟨i, h1, h2, h3⟩ := syms_mem zs 0 _ (List.getElem_mem hr')
  unfold ixOf
  rw [syms_get zs r hr', h2]
  simpa using h1
theorem ix_pos (zs : List Int) (r : Nat) (h : r < (come (natsOf zs)).length) : 0 < zs.getD (ixOf zs r) 0 := by
  have hr' : r < (symsC zs 0).length := by rw [come_syms zs 0, List.length_map] at h; exact h
  obtain ⟨i, h1, h2, h3⟩ := syms_mem zs 0 _ (List.getElem_mem hr')
  have e : ixOf zs r = i := by unfold ixOf; rw [syms_get zs r hr', h2]; simp
  rw [e]
  exact h3
theorem ix_inj (zs : List Int) {r s : Nat} (hr : r < (come (natsOf zs)).length) (hs : s < (come (natsOf zs)).length) (h : ixOf zs r = ixOf zs s) : r = s := by
  have hl : (symsC zs 0).length = (come (natsOf zs)).length := (sgl zs).len
  have key : ∀ a b, a < b → b < (symsC zs 0).length → ixOf zs a ≠ ixOf zs b := by
    intro a b hab hb
    have h1 := (List.pairwise_iff_getElem.1 (syms_rise zs 0)) a b (by omega) hb hab
    obtain ⟨i, _, h2, _⟩ := syms_mem zs 0 _ (List.getElem_mem (show a < (symsC zs 0).length by omega))
    obtain ⟨j, _, h3, _⟩ := syms_mem zs 0 _ (List.getElem_mem hb)
    unfold ixOf
    rw [syms_get zs a (by omega), syms_get zs b hb]
    rw [h2, h3] at h1 ⊢
    simp at h1 ⊢
    omega
  rcases Nat.lt_trichotomy r s with h1 | h1 | h1
  · exact absurd h (key r s h1 (by omega))
  · exact h1
  · exact absurd h.symm (key s r h1 (by omega))
theorem comeL_syms (ls : List Nat) (zs : List Int) (s : Nat) (h : ls.length = s + zs.length) : comeL (natsOf zs) (ls.drop s) = (symsC zs s).map fun p => ls.getD p.sym.toNat 0 := by
  induction zs generalizing s with
  | nil => simp [natsOf, comeL, symsC]
  | cons z zs ih =>
    have hs : s < ls.length := by simp at h; omega
    have ih := ih (s + 1) (by simp at h; omega)
    rw [List.drop_eq_getElem_cons hs]
    unfold natsOf at ih ⊢
    rw [List.map_cons]
    simp only [comeL, symsC]
    by_cases hz : 0 < z
    · rw [if_pos (by omega), if_pos hz, List.map_cons, ih]
      congr 1
      rw [List.getD_eq_getElem?_getD]
      simp [hs]
    · rw [if_neg (by omega), if_neg hz, ih]
theorem comeL_ix (ls : List Nat) (zs : List Int) (h : ls.length = zs.length) : comeL (natsOf zs) ls = (List.range (come (natsOf zs)).length).map fun r => ls.getD (ixOf zs r) 0 := by
  have h1 := comeL_syms ls zs 0 (by omega)
  rw [List.drop_zero] at h1
  rw [h1]
  have hl := (sgl zs).len
  refine List.ext_getElem (by simp [hl]) (fun i h1 h2 => ?_)
  have hi : i < (symsC zs 0).length := by simpa using h1
  simp only [List.getElem_map, List.getElem_range]
  unfold ixOf
  rw [syms_get zs i hi]
def addA (ix : Nat → Nat) : List Tree → List Nat → List Nat
  | [], ls => ls
  | t :: Q, ls => addA ix Q (addL ix t ls)
theorem addA_length (ix : Nat → Nat) (Q : List Tree) (ls : List Nat) : (addA ix Q ls).length = ls.length := by
  induction Q generalizing ls with
  | nil => rfl
  | cons t Q ih => simp only [addA]; rw [ih, addL_length]
theorem addA_append (ix : Nat → Nat) (A B : List Tree) (ls : List Nat) : addA ix (A ++ B) ls = addA ix B (addA ix A ls) := by
  induction A generalizing ls with
  | nil => rfl
  | cons t A ih => simp only [List.cons_append, addA]; rw [ih]
theorem addA_le (ix : Nat → Nat) {B M : Nat} : ∀ (Q : List Tree) (ls : List Nat), (∀ t ∈ Q, sizeT t ≤ M) → (∀ x ∈ ls, x ≤ B) → ∀ x ∈ addA ix Q ls, x ≤ B + Q.length * M
  | [], ls, _, h, x, hx => by have := h x hx; simp; omega
  | t :: Q, ls, hM, h, x, hx => by
    have h1 := addL_le ix t ls h
    have h2 := hM t (by simp)
    have := addA_le ix (B := B + M) Q (addL ix t ls) (fun t ht => hM t (by simp [ht])) (fun y hy => by have := h1 y hy; omega) x hx
    rw [List.length_cons, Nat.succ_mul]
    omega
theorem addL_at {ix : Nat → Nat} {n : Nat} (hix : ∀ a b, a < n → b < n → ix a = ix b → a = b) {r : Nat} (hr : r < n) : ∀ (t : Tree) (ls : List Nat), InT (fun s => s) n t → ix r < ls.length → (addL ix t ls).getD (ix r) 0 = ls.getD (ix r) 0 + t.cnt r
  | .leaf _ s, ls, hs, hl => by
    simp only [addL, Tree.cnt]
    have hs : s < n := hs
    rw [List.getD_eq_getElem?_getD, List.getElem?_set]
    by_cases h : s = r
    · subst h
      rw [if_pos rfl, if_pos hl, if_pos rfl]
      rfl
    · rw [if_neg (fun e => h (hix s r hs hr e)), if_neg h, ← List.getD_eq_getElem?_getD]
      omega
  | .node a b, ls, ⟨ha, hb⟩, hl => by
    simp only [addL, Tree.cnt]
    rw [addL_at hix hr b _ hb (by rw [addL_length]; exact hl), addL_at hix hr a ls ha hl]
    omega
theorem addL_off {ix : Nat → Nat} {n j : Nat} (hj : ∀ s, s < n → ix s ≠ j) : ∀ (t : Tree) (ls : List Nat), InT (fun s => s) n t → (addL ix t ls).getD j 0 = ls.getD j 0
  | .leaf _ s, ls, hs => by
    have hs : s < n := hs
    simp only [addL]
    rw [List.getD_eq_getElem?_getD, List.getElem?_set, if_neg (hj s hs), ← List.getD_eq_getElem?_getD]
  | .node a b, ls, ⟨ha, hb⟩ => by
    simp only [addL]
    rw [addL_off hj b _ hb, addL_off hj a ls ha]
theorem addA_at {ix : Nat → Nat} {n : Nat} (hix : ∀ a b, a < n → b < n → ix a = ix b → a = b) {r : Nat} (hr : r < n) : ∀ (Q : List Tree) (ls : List Nat), (∀ t ∈ Q, InT (fun s => s) n t) → ix r < ls.length → (addA ix Q ls).getD (ix r) 0 = ls.getD (ix r) 0 + cntL r Q
  | [], ls, _, _ => by simp [addA, cntL]
  | t :: Q, ls, h, hl => by
    simp only [addA]
    rw [addA_at hix hr Q _ (fun t ht => h t (by simp [ht])) (by rw [addL_length]; exact hl), addL_at hix hr t ls (h t (by simp)) hl]
    simp only [cntL, List.map_cons, List.sum_cons]
    omega
theorem addA_off {ix : Nat → Nat} {n j : Nat} (hj : ∀ s, s < n → ix s ≠ j) : ∀ (Q : List Tree) (ls : List Nat), (∀ t ∈ Q, InT (fun s => s) n t) → (addA ix Q ls).getD j 0 = ls.getD j 0
  | [], ls, _ => rfl
  | t :: Q, ls, h => by
    simp only [addA]
    rw [addA_off hj Q _ (fun t ht => h t (by simp [ht])), addL_off hj t ls (h t (by simp))]
structure Fine (zs : List Int) (most : Nat) (ls : List Nat) : Prop where
  len : ls.length = zs.length
  zero : ∀ i, i < zs.length → zs.getD i 0 = 0 → ls.getD i 0 = 0
  least : Least (come (natsOf zs)) most (comeL (natsOf zs) ls)
theorem fine_trees {zs : List Int} {most : Nat} {T : List Tree} (hz : ∀ z ∈ zs, 0 ≤ z) (h2 : 2 ≤ (come (natsOf zs)).length) (hm1 : 1 ≤ most) (hm : most ≤ 30) (hT : LevelR (come (natsOf zs)) most T) (hn : 2 * ((come (natsOf zs)).length - 1) ≤ T.length) :
    Fine zs most (addA (ixOf zs) (T.take (2 * ((come (natsOf zs)).length - 1))) (List.replicate zs.length 0)) := by
  have hin : ∀ t ∈ T.take (2 * ((come (natsOf zs)).length - 1)), InT (fun s => s) (come (natsOf zs)).length t := fun t ht => level_in (ix := fun s => s) (fun r hr => hr) hT t (List.mem_of_mem_take ht)
  have hinj : ∀ a b, a < (come (natsOf zs)).length → b < (come (natsOf zs)).length → ixOf zs a = ixOf zs b → a = b := fun a b ha hb h => ix_inj zs ha hb h
  refine ⟨by rw [addA_length, List.length_replicate], fun i hi h0 => ?_, ?_⟩
  · rw [addA_off (n := (come (natsOf zs)).length) (fun s hs e => ?_) _ _ hin]
    · rw [List.getD_eq_getElem?_getD]; simp [hi]
    · have := ix_pos zs s hs
      rw [e, h0] at this
      omega
  · rw [comeL_ix _ zs (by rw [addA_length, List.length_replicate])]
    have e : ((List.range (come (natsOf zs)).length).map fun r => (addA (ixOf zs) (T.take (2 * ((come (natsOf zs)).length - 1))) (List.replicate zs.length 0)).getD (ixOf zs r) 0) = (List.range (come (natsOf zs)).length).map fun r => cntL r (T.take (2 * ((come (natsOf zs)).length - 1))) := by
      refine List.map_congr_left (fun r hr => ?_)
      have hr : r < (come (natsOf zs)).length := by simpa using hr
      have hl := ix_lt zs r hr
      rw [addA_at hinj hr _ _ hin (by rw [List.length_replicate]; exact hl)]
      have : (List.replicate zs.length 0).getD (ixOf zs r) 0 = 0 := by rw [List.getD_eq_getElem?_getD]; simp [hl]
      rw [this, Nat.zero_add]
    rw [e]
    exact top_least h2 (come_pos _) hm1 hm hT hn
theorem fine_one {zs : List Int} {most : Nat} (hm1 : 1 ≤ most) (h1 : (come (natsOf zs)).length = 1) : Fine zs most ((List.replicate zs.length 0).set (ixOf zs 0) 1) := by
  have hl := ix_lt zs 0 (by omega)
  refine ⟨by simp, fun i hi h0 => ?_, ?_⟩
  · have := ix_pos zs 0 (by omega)
    rw [List.getD_eq_getElem?_getD, List.getElem?_set, if_neg (fun e => by rw [e, h0] at this; omega)]
    simp [hi]
  · rw [comeL_ix _ zs (by simp), h1]
    have e : ((List.range 1).map fun r => ((List.replicate zs.length 0).set (ixOf zs 0) 1).getD (ixOf zs r) 0) = [1] := by
      simp [List.range_succ, List.getD_eq_getElem?_getD, hl]
    rw [e]
    obtain ⟨x, hx⟩ : ∃ x, come (natsOf zs) = [x] := by
      rcases hc : come (natsOf zs) with _ | ⟨x, _ | ⟨y, t⟩⟩
      · rw [hc] at h1; cases h1
      · exact ⟨x, rfl⟩
      · rw [hc] at h1; simp at h1
    rw [hx]
    exact least_one x most hm1
theorem fine_none {zs : List Int} {most : Nat} (h0 : (come (natsOf zs)).length = 0) : Fine zs most (List.replicate zs.length 0) := by
  refine ⟨by simp, fun i hi _ => by rw [List.getD_eq_getElem?_getD]; simp [hi], ?_⟩
  rw [comeL_ix _ zs (by simp), h0, List.eq_nil_of_length_eq_zero h0]
  exact least_none most
end Go.Proofs.Ytjafcjnkefioeaa.Lp
/- allowed, and Cost. -/
namespace Go.Proofs.Ytjafcjnkefioeaa.Lp
open Go.RowKit Go.Proofs.Ytjafcjnkefioeaa.Oct Go.Proofs.Ytjafcjnkefioeaa.Lm
set_option maxRecDepth 100000
def badZ (z : Int) : Bool := decide (z < 0) || decide (1073741824 < z)
theorem bad_any (z : Int) (w : World) : Calls Try.prog 80 #[.int .i64 z] w fun e w' => e = .returned (.bool (badZ z)) ∧ w' = w := by
  have HB : Hid (badZ z = (decide (z < 0) || decide (1073741824 < z))) := rfl
  by_cases h : z < 0
  · have hd : decide (z < 0) = true := decide_eq_true h
    go_enter Try.func80, Try.ntmps80
    go_wp2
    go_ret
    exact ⟨by rw [HB.out, hd]; simp, rfl⟩
  · have hd : decide (z < 0) = false := decide_eq_false h
    go_enter Try.func80, Try.ntmps80
    go_wp2
    go_ret
    exact ⟨by rw [HB.out, hd]; simp, rfl⟩
def IdxP (zs : List Int) (w : World) (e : Ending) (w' : World) : Prop := ∃ r : Int, e = .returned (.int .i64 r) ∧ (0 ≤ r ↔ zs.any badZ = true) ∧ w' = w
set_option maxHeartbeats 2000000 in
theorem index_any (p : Option Addr) (len cap : Nat) (zs : List Int) (w : World) (hr : VRow w w.heap.size p (ints zs)) (hx : zs.length = len) (hl : len ≤ 100000) : Calls Try.prog 90 #[.slice p len cap, .func (.func 80) #[] #[]] w (IdxP zs w) := by
  have HR := Lib.hid hr
  have HX := Lib.hid hx
  clear hr hx
  have hbad := bad_any
  go_enter Try.func90, Try.ntmps90
  go_wp2
  go_loopg [8] len (fun kx s8 wr => ∃ (k : Nat), s8 = .int .i64 (k : Int) ∧ k ≤ len ∧ len - k ≤ kx ∧ Hid ((zs.take k).any badZ = false) ∧ w = wr)
  case atStart => exact ⟨0, rfl, by omega, by omega, (show Hid _ from rfl), rfl⟩
  case round =>
    obtain ⟨k, rfl, hk, hkx, HA, rfl⟩ := hrel
    by_cases hlt : k < len
    · have hkz : (k : Int) < (len : Int) := by omega
      have hk0 : (0 : Int) ≤ (k : Int) := by omega
      have hkl : k < zs.length := by rw [HX.out]; exact hlt
      obtain ⟨b, off, hp, hbl⟩ := HR.out.addr (by rw [ints_length]; omega)
      subst hp
      have hc := HR.out.int k hkl
      have HT : Hid ((zs.take (k + 1)).any badZ = badZ zs[k]) := by
        show _ = _
        rw [List.take_succ_eq_append_getElem hkl, List.any_append, HA.out]
        simp
      have HM : Hid (zs[k] ∈ zs) := List.getElem_mem hkl
      generalize zs[k] = z at hc HT HM
      have hz := bad_any z w
      cases hb : badZ z with
      | true =>
        rw [hb] at hz HT
        have HBT := Lib.hid hb
        clear hb
        go_wp2_with (go_at_call 80; refine hz.mono ?_; rintro e w' ⟨rfl, rfl⟩)
        go_ret
        exact ⟨_, rfl, ⟨fun _ => List.any_eq_true.2 ⟨z, HM.out, HBT.out⟩, fun _ => hk0⟩, rfl⟩
      | false =>
        rw [hb] at hz HT
        clear hb
        go_wp2_with (go_at_call 80; refine hz.mono ?_; rintro e w' ⟨rfl, rfl⟩)
        go_roundg (len - (k + 1))
        case measure => omega
        case rel => exact ⟨k + 1, by go_num, by omega, Nat.le_refl _, HT, rfl⟩
    · have hkz : ¬ (k : Int) < (len : Int) := by omega
      go_wp2
      go_ret
      have e : zs.take k = zs := List.take_of_length_le (by rw [HX.out]; omega)
      have hA := HA.out
      rw [e] at hA
      exact ⟨-1, rfl, by rw [hA]; simp, rfl⟩
theorem contains_any (p : Option Addr) (len cap : Nat) (zs : List Int) (w : World) (hr : VRow w w.heap.size p (ints zs)) (hx : zs.length = len) (hl : len ≤ 100000) : Calls Try.prog 81 #[.slice p len cap, .func (.func 80) #[] #[]] w fun e w' => e = .returned (.bool (zs.any badZ)) ∧ w' = w := by
  have hi := index_any p len cap zs w hr hx hl
  clear hr
  go_enter Try.func81, Try.ntmps81
  go_wp2_with (go_at_call 90; refine hi.mono ?_; rintro e w' ⟨r, rfl, hr, rfl⟩; have HRR := Lib.hid hr; clear hr)
  go_ret
  refine ⟨?_, rfl⟩
  have e : decide (0 ≤ r) = zs.any badZ := by rw [Bool.eq_iff_iff, decide_eq_true_eq]; exact HRR.out
  exact congrArg (fun b => Ending.returned (.bool b)) e
def okB (zs : List Int) (most : Int) : Bool := decide (1 ≤ most) && decide (most ≤ 30) && decide (zs.length ≤ 300) && !zs.any badZ
set_option maxHeartbeats 2000000 in
theorem allowed_any (p : Option Addr) (len cap : Nat) (most : Int) (zs : List Int) (w : World) (hr : VRow w w.heap.size p (ints zs)) (hx : zs.length = len) : Calls Try.prog 66 #[.slice p len cap, .int .i64 most] w fun e w' => e = .returned (.bool (okB zs most)) ∧ w' = w := by
  have HO : Hid (okB zs most = (decide (1 ≤ most) && decide (most ≤ 30) && decide (len ≤ 300) && !zs.any badZ)) := by show _ = _; unfold okB; rw [hx]
  have HC : Hid (len ≤ 300 → Calls Try.prog 81 #[.slice p len cap, .func (.func 80) #[] #[]] w fun e w' => e = .returned (.bool (zs.any badZ)) ∧ w' = w) := fun h => contains_any p len cap zs w hr hx (by omega)
  clear hr hx
  by_cases h1 : 1 ≤ most
  · have d1 : decide (1 ≤ most) = true := decide_eq_true h1
    by_cases h2 : most ≤ 30
    · have d2 : decide (most ≤ 30) = true := decide_eq_true h2
      by_cases h3 : len ≤ 300
      · have d3 : decide ((len : Int) ≤ 300) = true := decide_eq_true (by omega)
        have hc := HC.out h3
        go_enter Try.func66, Try.ntmps66
        go_wp2_with (go_at_call 81; refine hc.mono ?_; rintro e w' ⟨rfl, rfl⟩)
        go_ret
        exact ⟨by rw [HO.out, d1, d2]; simp [h3], rfl⟩
      · have d3 : decide ((len : Int) ≤ 300) = false := decide_eq_false (by omega)
        go_enter Try.func66, Try.ntmps66
        go_wp2
        go_ret
        exact ⟨by rw [HO.out, d1, d2]; simp [h3], rfl⟩
    · have d2 : decide (most ≤ 30) = false := decide_eq_false h2
      go_enter Try.func66, Try.ntmps66
      go_wp2
      go_ret
      exact ⟨by rw [HO.out, d1, d2]; simp, rfl⟩
  · have d1 : decide (1 ≤ most) = false := decide_eq_false h1
    go_enter Try.func66, Try.ntmps66
    go_wp2
    go_ret
    exact ⟨by rw [HO.out, d1]; simp, rfl⟩
end Go.Proofs.Ytjafcjnkefioeaa.Lp


/- lightest: the packs of the smallest weight. -/
import Derived.Test.YtefniglinligeaaLpG
namespace Go.Proofs.Ytefniglinligeaa.Lp
open Go.RowKit Go.Sort Go.Proofs.Ytefniglinligeaa.Oct Go.Proofs.Ytefniglinligeaa.Lm
set_option linter.unusedVariables false
set_option linter.unusedSimpArgs false
set_option maxRecDepth 100000

theorem two_cells (w : World) (x y : Value) (T : TypeId) : (w.alloc (.cells #[x, y] T)).cell? ⟨w.heap.size, 0, none⟩ = some x ∧ (w.alloc (.cells #[x, y] T)).cell? ⟨w.heap.size, 1, none⟩ = some y := by
  have h := heap_alloc_last w (.cells #[x, y] T)
  exact ⟨by unfold World.cell?; dsimp only; rw [h]; rfl, by unfold World.cell?; dsimp only; rw [h]; rfl⟩
/-- what lightest gives: the level's first packs -/
def LightP (w : World) (ix : Nat → Nat) (f : List Nat) (most : Nat) (e : Ending) (w' : World) : Prop :=
  ∃ (p : Option Addr) (lb cap : Nat) (z : List (Tree × Pk)), e = .returned (.slice p (2 * (f.length - 1)) cap) ∧ (2 ≤ f.length → p = some ⟨lb, 0, none⟩ ∧ w.heap.size ≤ lb ∧ lb < w'.heap.size) ∧ PRow w' lb (z.map Prod.snd) ∧ (∀ x ∈ z, Mn w' w.heap.size lb ix x.1 x.2) ∧ LevelR f most (z.map Prod.fst) ∧ 2 * (f.length - 1) ≤ z.length ∧ Below w.heap.size w w'
theorem head_packs (W : World) (p : Option Addr) (len cap k : Nat) (h : k ≤ cap) (hp : p = none → cap = 0) :
    (Instr.slice 36 (.slice p len cap) none (some (.int .i64 (k : Int))) none).run Try.prog W = .ok (.slice p k cap) W := by
  have ht' : Try.prog.underlying 36 = some (.slice (Try.prog.elem 36)) := by kernel_rfl
  have he : Try.prog.elem 36 = 39 := by kernel_rfl
  rw [run_slice_h W 36 p len cap ht' .i64 _ (by omega) (by omega), he, Sm.sizeP]
  rcases p with _ | a
  · have := hp rfl
    subst this
    simp [Result.andThen, sliced]
  · simp only [Result.andThen_ok, sliced, Int.toNat_natCast]
    obtain ⟨b, o, s⟩ := a
    by_cases h0 : cap = 0
    · simp [h0]
    · rw [if_neg h0]
      simp [Addr.add]
set_option maxHeartbeats 8000000 in
theorem lightest_any (p : Option Addr) (n cap most : Nat) (S : List Pk) (f : List Nat) (ix : Nat → Nat) (w : World) (hS : Sgl S f ix) (hn : n = S.length) (hpv : PV w w.heap.size p S) (hpc : p = none → cap = 0) (hl : n ≤ 1000) (hm1 : 1 ≤ most) (hm : most ≤ 30) (hf1 : ∀ x ∈ f, 1 ≤ x) (hf2 : ∀ x ∈ f, x ≤ 1073741824) (hnm : f.length ≤ 2 ^ most) :
    Calls Try.prog 16 #[.slice p n cap, .int .i64 most] w (LightP w ix f most) := by
  have H0 : Hid (Sgl S f ix ∧ n = S.length ∧ PV w w.heap.size p S ∧ (p = none → cap = 0) ∧ (∀ x ∈ f, 1 ≤ x) ∧ (∀ x ∈ f, x ≤ 1073741824) ∧ f.length ≤ 2 ^ most) := ⟨hS, hn, hpv, hpc, hf1, hf2, hnm⟩
  have HST : Hid (Lst w w.heap.size ix f 0 (.slice none 0 0) [] ∧ Below w.heap.size w w) := ⟨⟨none, 0, 0, rfl, fun h => absurd rfl h, fun _ => rfl, Nat.le_refl _, fun i hi => by simp at hi, fun x hx => absurd hx List.not_mem_nil, rfl⟩, Below.refl _ _⟩
  clear hS hn hpv hpc hf1 hf2 hnm
  go_enter Try.func16, Try.ntmps16
  go_wp2
  go_loopg [5, 7] most (fun kx s5 s7 wr => ∃ (l : Nat) (z : List (Tree × Pk)), s7 = .int .i64 (l : Int) ∧ l ≤ most ∧ most - l ≤ kx ∧ Hid (Lst wr w.heap.size ix f l s5 z ∧ Below w.heap.size w wr))
  case atStart => exact ⟨0, [], rfl, by omega, by omega, HST⟩
  case round =>
    clear HST
    obtain ⟨l, z, rfl, hlm, hkx, HR⟩ := hrel
    obtain ⟨⟨q, lb, c, rfl, e1, e2, e3, e4, e5, e6⟩, hb⟩ := HR.out
    by_cases hlt : l < most
    · have hkz : (l : Int) < (most : Int) := by omega
      obtain ⟨h1, h2, h3, h4, h5, h6, h7⟩ := H0.out
      have hzl : z.length ≤ 2 * f.length := by have := level_length e6; rwa [List.length_map] at this
      have hpow : 2 ^ l ≤ 2 ^ 29 := Nat.pow_le_pow_right (by omega) (by omega)
      have hbd : ∀ x ∈ z.map Prod.snd, 0 ≤ x.wt ∧ x.wt ≤ 2305843009213693952 := by
        intro x hx
        obtain ⟨y, hy, rfl⟩ := List.mem_map.1 hx
        have a1 := (e5 y hy).wt
        have a2 := (level_bound h6 e6 y.1 (List.mem_map_of_mem hy)).1
        rw [a1]
        have : (2 : Nat) ^ 29 = 536870912 := by decide
        generalize 2 ^ l = x2 at hpow a2
        omega
      have hpr := pairs_any q lb z.length c (z.map Prod.snd) wr (fun h => (e1 h).1) (by rw [List.length_map]) e4 (fun h => (e1 h).2.2) (by have := h1.len; omega) e3 hbd
      have HZ : Hid ((z.length ≠ 0 → q = some ⟨lb, 0, none⟩ ∧ w.heap.size ≤ lb ∧ lb < wr.heap.size) ∧ z.length ≤ c ∧ PRow wr lb (z.map Prod.snd) ∧ (∀ x ∈ z, Mn wr w.heap.size lb ix x.1 x.2) ∧ LevelR f l (z.map Prod.fst) ∧ Below w.heap.size w wr ∧ z.length ≤ 2 * f.length) := ⟨e1, e3, e4, e5, e6, hb, hzl⟩
      clear e1 e2 e3 e4 e5 e6 hb hzl hbd h1 h2 h3 h4 h5 h6 h7 HR hpow
      go_wp2_with (go_at_call 22; refine hpr.mono ?_; rintro e w1 ⟨rfl, pr1, sz1, be1⟩)
      clear hpr
      rw [List.length_map] at *
      have HP : Hid (PRow w1 wr.heap.size ((zP lb c z).map Prod.snd) ∧ wr.heap.size < w1.heap.size ∧ Below wr.heap.size wr w1 ∧ (zP lb c z).length = z.length / 2) := ⟨by rw [zP_snd, List.length_map]; exact pr1, sz1, be1, by simp [zP]⟩
      clear pr1 sz1 be1
      have hcell := two_cells w1 (.slice p n cap) (.slice (some ⟨wr.heap.size, 0, none⟩) (z.length / 2) (z.length / 2)) 36
      have hbw : Below wr.heap.size wr (w1.alloc (.cells #[.slice p n cap, .slice (some ⟨wr.heap.size, 0, none⟩) (z.length / 2) (z.length / 2)] 36)) := HP.out.2.2.1.trans (((Below.refl _ w1).alloc (Nat.le_refl _) _).mono (Nat.le_of_lt HP.out.2.1))
      have hsz2 : w1.heap.size < (w1.alloc (.cells #[.slice p n cap, .slice (some ⟨wr.heap.size, 0, none⟩) (z.length / 2) (z.length / 2)] 36)).heap.size := by simp
      have hkp := ((only_alloc (fun _ => False) w1 (.cells #[.slice p n cap, .slice (some ⟨wr.heap.size, 0, none⟩) (z.length / 2) (z.length / 2)] 36)).2.2.2.2 wr.heap.size HP.out.2.1 (fun h => h))
      generalize w1.alloc (.cells #[.slice p n cap, .slice (some ⟨wr.heap.size, 0, none⟩) (z.length / 2) (z.length / 2)] 36) = w2 at hcell hbw hsz2 hkp ⊢
      have hcat := concat_any w1.heap.size 2 p (some ⟨wr.heap.size, 0, none⟩) cap (z.length / 2) S ((zP lb c z).map Prod.snd) w2 hsz2 (by rw [← H0.out.2.1]; exact hcell.1) (by rw [List.length_map, HP.out.2.2.2]; exact hcell.2)
        ((H0.out.2.2.1.below (HZ.out.2.2.2.2.2.1.trans (hbw.mono HZ.out.2.2.2.2.2.1.size)) (Nat.le_refl _)).mono (by have := HZ.out.2.2.2.2.2.1.size; have := hbw.size; omega))
        (fun _ => ⟨wr.heap.size, rfl, by have := HP.out.2.1; omega, HP.out.1.keep hkp⟩) H0.out.2.2.2.1 (fun h => by cases h) ⟨by have := H0.out.2.1; omega, by rw [List.length_map, HP.out.2.2.2]; have := HZ.out.2.2.2.2.2.2; have := H0.out.1.len; have := H0.out.2.1; omega⟩
      refine hcat.mono ?_
      rintro e w3 ⟨v, rfl, ho, hb3⟩
      have H3 : Hid (POwn w3 w2.heap.size v (S ++ (zP lb c z).map Prod.snd) ∧ Below wr.heap.size wr w3 ∧ wr.heap.size < w2.heap.size) := ⟨ho, hbw.trans (hb3.mono hbw.size), by have := HP.out.2.1; omega⟩
      clear hcat hcell hbw hsz2 hkp ho hb3
      obtain ⟨q2, c2, rfl, hq0, hle, hmx, hpv, hge⟩ := H3.out.1.shape
      by_cases h0 : (S ++ (zP lb c z).map Prod.snd).length = 0
      · rw [h0]
        have hsn := sort_none q2 c2 (.func (.func 24) #[] #[])
        have H4 : Hid (q2 = none → c2 = 0) := hq0
        have hS0 : S = [] ∧ z = [] := by
          simp only [List.length_append, List.length_map] at h0
          have h1 : S.length = 0 := by omega
          refine ⟨List.eq_nil_of_length_eq_zero h1, List.eq_nil_of_length_eq_zero ?_⟩
          have := HZ.out.2.2.2.2.2.2
          have := H0.out.1.len
          omega
        have HN : Hid (Lst w3 w.heap.size ix f (l + 1) (.slice q2 0 c2) [] ∧ Below w.heap.size w w3) := by
          obtain ⟨hs1, rfl⟩ := hS0
          have hf0 : f = [] := List.eq_nil_of_length_eq_zero (by rw [← H0.out.1.len, hs1]; rfl)
          refine ⟨⟨q2, 0, c2, rfl, fun h => absurd rfl h, hq0, Nat.zero_le _, fun i hi => by simp at hi, fun x hx => absurd hx List.not_mem_nil, trivial, [], HZ.out.2.2.2.2.1, ?_⟩, HZ.out.2.2.2.2.2.1.trans (H3.out.2.1.mono HZ.out.2.2.2.2.2.1.size)⟩
          rw [hf0]
          exact List.Perm.refl _
        clear hq0 hle hmx hpv hge h0 hS0
        go_wp2_with (go_at_call 23; refine (hsn _).mono ?_; rintro e w' ⟨rfl, rfl⟩)
        go_roundg (most - (l + 1))
        case measure => omega
        case rel => exact ⟨l + 1, [], by go_num, by omega, Nat.le_refl _, HN⟩
      · obtain ⟨g, rfl, hg, hrow⟩ := hpv (by omega)
        have hgb := hge _ rfl
        have hgb : w2.heap.size ≤ g := hgb
        have hH := holds_of hrow H3.out.1.fz
        have hlen : (S ++ (zP lb c z).map Prod.snd).length ≤ 100000 := by
          rw [List.length_append, List.length_map, HP.out.2.2.2]
          have := HZ.out.2.2.2.2.2.2; have := H0.out.1.len; have := H0.out.2.1; omega
        have hso := sort_packs g 0 c2 _ w3 hH hg (by rw [List.size_toArray]; omega)
        rw [List.size_toArray] at hso
        have HH : Hid (HoldsK encP 3 w3 g 0 (S ++ (zP lb c z).map Prod.snd).toArray ∧ g < w3.heap.size ∧ w2.heap.size ≤ g ∧ (S ++ (zP lb c z).map Prod.snd).length ≤ c2) := ⟨hH, hg, hgb, hle⟩
        have HLN : Hid ((S ++ (zP lb c z).map Prod.snd).length = (zL f S ++ zP lb c z).length) := by
          show _ = _
          rw [List.length_append, List.length_append, List.length_map, HP.out.2.2.2]; simp [zL, H0.out.1.len]
        clear hq0 hle hmx hpv hge h0 hg hrow hgb hH
        generalize hnn : (S ++ (zP lb c z).map Prod.snd).length = nn at hso hlen
        have HNN : Hid ((S ++ (zP lb c z).map Prod.snd).length = nn) := hnn
        clear hnn
        go_wp2_with (go_at_call 23; refine hso.mono ?_; rintro e w4 ⟨rfl, d', hS4, hp4, hs4⟩)
        clear hso
        have HN : Hid (∃ z', Lst w4 w.heap.size ix f (l + 1) (.slice (some ⟨g, 0, none⟩) nn c2) z' ∧ Below w.heap.size w w4) := by
          obtain ⟨b1, b2, b3, b4⟩ := HH.out
          have hwlt : w.heap.size ≤ wr.heap.size := HZ.out.2.2.2.2.2.1.size
          have hwr2 := H3.out.2.2
          have hmz : ∀ x ∈ zL f S ++ zP lb c z, Mn w3 w.heap.size g ix x.1 x.2 := by
            intro x hx
            rcases List.mem_append.1 hx with hx | hx
            · unfold zL at hx
              obtain ⟨r, hr, rfl⟩ := List.mem_map.1 hx
              exact leaf_any (H0.out.1.leaf r (by simpa using hr))
            · exact (zP_mean (hi := wr.heap.size) HZ.out.2.2.1 HZ.out.2.2.2.1 (fun h => (HZ.out.1 h).2) HZ.out.2.1 x hx).keep (by omega) (fun k _ hk => H3.out.2.1.block k hk)
          have hsz4 : (S ++ (zP lb c z).map Prod.snd).toArray.size = nn := by rw [List.size_toArray]; exact HNN.out
          obtain ⟨z', e1, e2, e3, e4⟩ := next_level (z := z) (zc := zL f S ++ zP lb c z) (d := (S ++ (zP lb c z).map Prod.snd).toArray) HZ.out.2.2.2.2.1 (by rw [List.map_append, zL_fst, zP_fst]) (by rw [List.map_append, zL_snd H0.out.1]) hmz hS4 b1 b2 (by rw [hsz4]; exact hp4) (by rw [hsz4]; exact hs4)
          have hlz : z'.length = nn := by rw [e1, ← HLN.out]; exact HNN.out
          obtain ⟨k1, k2, k3, k4, k5⟩ := swk_keep hS4
          refine ⟨z', ⟨some ⟨g, 0, none⟩, g, c2, by rw [hlz], fun _ => ⟨rfl, by omega, by omega⟩, fun h => (by cases h), by rw [hlz, ← HNN.out]; exact b4, e2, e3, e4⟩, ?_⟩
          have hB3 := HZ.out.2.2.2.2.2.1.trans (H3.out.2.1.mono hwlt)
          exact ⟨k3.trans hB3.os, k4.trans hB3.tape, k5.trans hB3.output, Nat.le_trans hB3.size k1, fun k hk => (k2 k (by omega) (by omega)).trans (hB3.block k hk)⟩
        clear hS4 hp4 hs4
        go_roundg (most - (l + 1))
        case measure => omega
        case rel =>
          obtain ⟨z', hN⟩ := HN.out
          exact ⟨l + 1, z', by go_num, by omega, Nat.le_refl _, hN⟩
    · have hkz : ¬ (l : Int) < (most : Int) := by omega
      have hlm2 : l = most := by omega
      subst hlm2
      obtain ⟨h1, h2, h3, h4, h5, h6, h7⟩ := H0.out
      have hnf : n = f.length := by rw [h2, h1.len]
      have hmany : 2 * (f.length - 1) ≤ z.length := by
        by_cases h9 : 2 ≤ f.length
        · have := parcels_many hm1 hm h9 h5 h7
          rw [← e6.parcels] at this
          simpa using this
        · omega
      have hmax : max ((n : Int) - 1) 0 = ((n - 1 : Nat) : Int) := by omega
      obtain ⟨k, hk⟩ : ∃ k, k = 2 * (n - 1) := ⟨_, rfl⟩
      have hw1 : IntKind.i64.wrap ((n : Int) - 1) = (n : Int) - 1 := by rw [IntKind.wrap_i64]; omega
      have hw2 : IntKind.i64.wrap (2 * ((n - 1 : Nat) : Int)) = (k : Int) := by rw [IntKind.wrap_i64]; omega
      have hsl := fun W => head_packs W q z.length c k (by omega) e2
      have HK : Hid (k = 2 * (f.length - 1)) := by show _ = _; rw [hk, hnf]
      have HNF : Hid (n = f.length) := hnf
      have HF : Hid ((z.length ≠ 0 → q = some ⟨lb, 0, none⟩ ∧ w.heap.size ≤ lb ∧ lb < wr.heap.size) ∧ PRow wr lb (z.map Prod.snd) ∧ (∀ x ∈ z, Mn wr w.heap.size lb ix x.1 x.2) ∧ LevelR f l (z.map Prod.fst) ∧ 2 * (f.length - 1) ≤ z.length ∧ Below w.heap.size w wr) := ⟨e1, e4, e5, e6, hmany, hb⟩
      clear h1 h2 h3 h4 h5 h6 h7 hnf e1 e4 e5 e6 hmany hb hk HR
      go_wp2
      go_ret
      obtain ⟨a1, a2, a3, a4, a5, a6⟩ := HF.out
      exact ⟨q, lb, c, z, by rw [← HK.out]; rfl, fun h => a1 (by omega), a2, a3, a4, a5, a6⟩
end Go.Proofs.Ytefniglinligeaa.Lp

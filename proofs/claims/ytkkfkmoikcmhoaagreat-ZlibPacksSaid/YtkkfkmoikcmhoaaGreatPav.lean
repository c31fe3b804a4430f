/- LpH, LpI, LpJ, LpK: merged. -/
import Derived.Lib.MinMax
import Derived.Test.YtkkfkmoikcmhoaaGreatPau
set_option linter.unusedVariables false
set_option linter.unusedSimpArgs false
namespace Go.Proofs.YtkkfkmoikcmhoaaGreat.Lp
open Go.RowKit Go.Sort Oct Lm
set_option maxRecDepth 100000
theorem Ysb (w : World) (x y : Value) (T : TypeId) : (w.alloc (.cells #[x, y] T)).cell? ⟨w.heap.size, 0, none⟩ = some x ∧ (w.alloc (.cells #[x, y] T)).cell? ⟨w.heap.size, 1, none⟩ = some y := by
 have h := heap_alloc_last w (.cells #[x, y] T)
 exact ⟨by unfold World.cell?; dsimp only; rw [h]; rfl, by unfold World.cell?; dsimp only; rw [h]; rfl⟩
def X07 (w : World) (ix : Nat → Nat) (f : List Nat) (most : Nat) (e : Ending) (w' : World) : Prop :=
 ∃ (p : Option Addr) (lb cap : Nat) (z : List (Tree × Pk)), e = .returned (.slice p (2 * (f.length - 1)) cap) ∧ (2 ≤ f.length → p = some ⟨lb, 0, none⟩ ∧ w.heap.size ≤ lb ∧ lb < w'.heap.size) ∧ PRow w' lb (z.map Prod.snd) ∧ (∀ x ∈ z, Mn w' w.heap.size lb ix x.1 x.2) ∧ Y33 f most (z.map Prod.fst) ∧ 2 * (f.length - 1) ≤ z.length ∧ Below w.heap.size w w'
theorem Ylv (W : World) (p : Option Addr) (len cap k : Nat) (h : k ≤ cap) (hp : p = none → cap = 0) :
  (Instr.slice 218 (.slice p len cap) none (some (.int .i64 (k : Int))) none).run Tryz.prog W = .ok (.slice p k cap) W := by
 have ht' : Tryz.prog.underlying 218 = some (.slice (Tryz.prog.elem 218)) := by kernel_rfl
 have he : Tryz.prog.elem 218 = 221 := by kernel_rfl
 rw [run_slice_h W 218 p len cap ht' .i64 _ (by omega) (by omega), he, Sm.Yvr]
 rcases p with _ | a
 ·have := hp rfl
  subst this
  simp [Result.andThen, sliced]
 ·simp only [Result.andThen_ok, sliced, Int.toNat_natCast]
  obtain ⟨b, o, s⟩ := a
  by_cases h0 : cap = 0
  ·simp [h0]
  ·rw [if_neg h0]
   simp [Addr.add]
set_option maxHeartbeats 8000000 in
theorem Yfl (p : Option Addr) (n cap most : Nat) (S : List Pk) (f : List Nat) (ix : Nat → Nat) (w : World) (hS : Sgl S f ix) (hn : n = S.length) (hpv : PV w w.heap.size p S) (hpc : p = none → cap = 0) (hl : n ≤ 1000) (hm1 : 1 ≤ most) (hm : most ≤ 30) (hf1 : ∀ x ∈ f, 1 ≤ x) (hf2 : ∀ x ∈ f, x ≤ 1073741824) (hnm : f.length ≤ 2 ^ most) :
  Calls Tryz.prog 146 #[.slice p n cap, .int .i64 most] w (X07 w ix f most) := by
 have H0 : Hid (Sgl S f ix ∧ n = S.length ∧ PV w w.heap.size p S ∧ (p = none → cap = 0) ∧ (∀ x ∈ f, 1 ≤ x) ∧ (∀ x ∈ f, x ≤ 1073741824) ∧ f.length ≤ 2 ^ most) := ⟨hS, hn, hpv, hpc, hf1, hf2, hnm⟩
 have HST : Hid (Lst w w.heap.size ix f 0 (.slice none 0 0) [] ∧ Below w.heap.size w w) := ⟨⟨none, 0, 0, rfl, fun h => absurd rfl h, fun _ => rfl, Nat.le_refl _, fun i hi => by simp at hi, fun x hx => absurd hx List.not_mem_nil, rfl⟩, Below.refl _ _⟩
 clear hS hn hpv hpc hf1 hf2 hnm
 go_enter Tryz.func146, Tryz.ntmps146
 go_wp2
 go_loopg [5, 7] most (fun kx s5 s7 wr => ∃ (l : Nat) (z : List (Tree × Pk)), s7 = .int .i64 (l : Int) ∧ l ≤ most ∧ most - l ≤ kx ∧ Hid (Lst wr w.heap.size ix f l s5 z ∧ Below w.heap.size w wr))
 case atStart => exact ⟨0, [], rfl, by omega, by omega, HST⟩
 case round =>
  clear HST
  obtain ⟨l, z, rfl, hlm, hkx, HR⟩ := hrel
  obtain ⟨⟨q, lb, c, rfl, e1, e2, e3, e4, e5, e6⟩, hb⟩ := HR.out
  by_cases hlt : l < most
  ·have hkz : (l : Int) < (most : Int) := by omega
   obtain ⟨h1, h2, h3, h4, h5, h6, h7⟩ := H0.out
   have hzl : z.length ≤ 2 * f.length := by have := Y94 e6; rwa [List.length_map] at this
   have hpow : 2 ^ l ≤ 2 ^ 29 := Nat.pow_le_pow_right (by omega) (by omega)
   have hbd : ∀ x ∈ z.map Prod.snd, 0 ≤ x.wt ∧ x.wt ≤ 2305843009213693952 := by
    intro x hx
    obtain ⟨y, hy, rfl⟩ := List.mem_map.1 hx
    have a1 := (e5 y hy).wt
    have a2 := (Y53 h6 e6 y.1 (List.mem_map_of_mem hy)).1
    rw [a1]
    have : (2 : Nat) ^ 29 = 536870912 := by decide
    generalize 2 ^ l = x2 at hpow a2
    omega
   have hpr := Yr0 q lb z.length c (z.map Prod.snd) wr (fun h => (e1 h).1) (by rw [List.length_map]) e4 (fun h => (e1 h).2.2) (by have := h1.len; omega) e3 hbd
   have HZ : Hid ((z.length ≠ 0 → q = some ⟨lb, 0, none⟩ ∧ w.heap.size ≤ lb ∧ lb < wr.heap.size) ∧ z.length ≤ c ∧ PRow wr lb (z.map Prod.snd) ∧ (∀ x ∈ z, Mn wr w.heap.size lb ix x.1 x.2) ∧ Y33 f l (z.map Prod.fst) ∧ Below w.heap.size w wr ∧ z.length ≤ 2 * f.length) := ⟨e1, e3, e4, e5, e6, hb, hzl⟩
   clear e1 e2 e3 e4 e5 e6 hb hzl hbd h1 h2 h3 h4 h5 h6 h7 HR hpow
   go_wp2_with (go_at_call 160; refine hpr.mono ?_; rintro e w1 ⟨rfl, pr1, sz1, be1⟩)
   clear hpr
   rw [List.length_map] at *
   have HP : Hid (PRow w1 wr.heap.size ((zP lb c z).map Prod.snd) ∧ wr.heap.size < w1.heap.size ∧ Below wr.heap.size wr w1 ∧ (zP lb c z).length = z.length / 2) := ⟨by rw [X1b, List.length_map]; exact pr1, sz1, be1, by simp [zP]⟩
   clear pr1 sz1 be1
   have hcell := Ysb w1 (.slice p n cap) (.slice (some ⟨wr.heap.size, 0, none⟩) (z.length / 2) (z.length / 2)) 218
   have hbw : Below wr.heap.size wr (w1.alloc (.cells #[.slice p n cap, .slice (some ⟨wr.heap.size, 0, none⟩) (z.length / 2) (z.length / 2)] 218)) := HP.out.2.2.1.trans (((Below.refl _ w1).alloc (Nat.le_refl _) _).mono (Nat.le_of_lt HP.out.2.1))
   have hsz2 : w1.heap.size < (w1.alloc (.cells #[.slice p n cap, .slice (some ⟨wr.heap.size, 0, none⟩) (z.length / 2) (z.length / 2)] 218)).heap.size := by simp
   have hkp := ((Y1c (fun _ => False) w1 (.cells #[.slice p n cap, .slice (some ⟨wr.heap.size, 0, none⟩) (z.length / 2) (z.length / 2)] 218)).2.2.2.2 wr.heap.size HP.out.2.1 (fun h => h))
   generalize w1.alloc (.cells #[.slice p n cap, .slice (some ⟨wr.heap.size, 0, none⟩) (z.length / 2) (z.length / 2)] 218) = w2 at hcell hbw hsz2 hkp ⊢
   have hcat := Y8k w1.heap.size 2 p (some ⟨wr.heap.size, 0, none⟩) cap (z.length / 2) S ((zP lb c z).map Prod.snd) w2 hsz2 (by rw [← H0.out.2.1]; exact hcell.1) (by rw [List.length_map, HP.out.2.2.2]; exact hcell.2)
    ((H0.out.2.2.1.below (HZ.out.2.2.2.2.2.1.trans (hbw.mono HZ.out.2.2.2.2.2.1.size)) (Nat.le_refl _)).mono (by have := HZ.out.2.2.2.2.2.1.size; have := hbw.size; omega))
    (fun _ => ⟨wr.heap.size, rfl, by have := HP.out.2.1; omega, HP.out.1.keep hkp⟩) H0.out.2.2.2.1 (fun h => by cases h) ⟨by have := H0.out.2.1; omega, by rw [List.length_map, HP.out.2.2.2]; have := HZ.out.2.2.2.2.2.2; have := H0.out.1.len; have := H0.out.2.1; omega⟩
   refine hcat.mono ?_
   rintro e w3 ⟨v, rfl, ho, hb3⟩
   have H3 : Hid (POwn w3 w2.heap.size v (S ++ (zP lb c z).map Prod.snd) ∧ Below wr.heap.size wr w3 ∧ wr.heap.size < w2.heap.size) := ⟨ho, hbw.trans (hb3.mono hbw.size), by have := HP.out.2.1; omega⟩
   clear hcat hcell hbw hsz2 hkp ho hb3
   obtain ⟨q2, c2, rfl, hq0, hle, hmx, hpv, hge⟩ := H3.out.1.shape
   by_cases h0 : (S ++ (zP lb c z).map Prod.snd).length = 0
   ·rw [h0]
    have hsn := Yrn q2 c2 (.func (.func 162) #[] #[])
    have H4 : Hid (q2 = none → c2 = 0) := hq0
    have hS0 : S = [] ∧ z = [] := by
     simp only [List.length_append, List.length_map] at h0
     have h1 : S.length = 0 := by omega
     refine ⟨List.eq_nil_of_length_eq_zero h1, List.eq_nil_of_length_eq_zero ?_⟩
     have := HZ.out.2.2.2.2.2.2
     have := H0.out.1.len
     omega
    have HN : Hid (Lst w3 w.heap.size ix f (l + 1) (.slice q2 0 c2) [] ∧ Below w.heap.size w w3) := by
     obtain ⟨hs1, rfl⟩ := hS0
     have hf0 : f = [] := List.eq_nil_of_length_eq_zero (by rw [← H0.out.1.len, hs1]; rfl)
     refine ⟨⟨q2, 0, c2, rfl, fun h => absurd rfl h, hq0, Nat.zero_le _, fun i hi => by simp at hi, fun x hx => absurd hx List.not_mem_nil, trivial, [], HZ.out.2.2.2.2.1, ?_⟩, HZ.out.2.2.2.2.2.1.trans (H3.out.2.1.mono HZ.out.2.2.2.2.2.1.size)⟩
     rw [hf0]
     exact List.Perm.refl _
    clear hq0 hle hmx hpv hge h0 hS0
    go_wp2_with (go_at_call 161; refine (hsn _).mono ?_; rintro e w' ⟨rfl, rfl⟩)
    go_roundg (most - (l + 1))
    case measure => omega
    case rel => exact ⟨l + 1, [], by go_num, by omega, Nat.le_refl _, HN⟩
   ·obtain ⟨g, rfl, hg, hrow⟩ := hpv (by omega)
    have hgb := hge _ rfl
    have hgb : w2.heap.size ≤ g := hgb
    have hH := Yua hrow H3.out.1.fz
    have hlen : (S ++ (zP lb c z).map Prod.snd).length ≤ 100000 := by
     rw [List.length_append, List.length_map, HP.out.2.2.2]
     have := HZ.out.2.2.2.2.2.2; have := H0.out.1.len; have := H0.out.2.1; omega
    have hso := Ymw g 0 c2 _ w3 hH hg (by rw [List.size_toArray]; omega)
    rw [List.size_toArray] at hso
    have HH : Hid (HoldsK Yhm 3 w3 g 0 (S ++ (zP lb c z).map Prod.snd).toArray ∧ g < w3.heap.size ∧ w2.heap.size ≤ g ∧ (S ++ (zP lb c z).map Prod.snd).length ≤ c2) := ⟨hH, hg, hgb, hle⟩
    have HLN : Hid ((S ++ (zP lb c z).map Prod.snd).length = (zL f S ++ zP lb c z).length) := by
     show _ = _
     rw [List.length_append, List.length_append, List.length_map, HP.out.2.2.2]; simp [zL, H0.out.1.len]
    clear hq0 hle hmx hpv hge h0 hg hrow hgb hH
    generalize hnn : (S ++ (zP lb c z).map Prod.snd).length = nn at hso hlen
    have HNN : Hid ((S ++ (zP lb c z).map Prod.snd).length = nn) := hnn
    clear hnn
    go_wp2_with (go_at_call 161; refine hso.mono ?_; rintro e w4 ⟨rfl, d', hS4, hp4, hs4⟩)
    clear hso
    have HN : Hid (∃ z', Lst w4 w.heap.size ix f (l + 1) (.slice (some ⟨g, 0, none⟩) nn c2) z' ∧ Below w.heap.size w w4) := by
     obtain ⟨b1, b2, b3, b4⟩ := HH.out
     have hwlt : w.heap.size ≤ wr.heap.size := HZ.out.2.2.2.2.2.1.size
     have hwr2 := H3.out.2.2
     have hmz : ∀ x ∈ zL f S ++ zP lb c z, Mn w3 w.heap.size g ix x.1 x.2 := by
      intro x hx
      rcases List.mem_append.1 hx with hx | hx
      ·unfold zL at hx
       obtain ⟨r, hr, rfl⟩ := List.mem_map.1 hx
       exact Yui (H0.out.1.leaf r (by simpa using hr))
      ·exact (Yzp (hi := wr.heap.size) HZ.out.2.2.1 HZ.out.2.2.2.1 (fun h => (HZ.out.1 h).2) HZ.out.2.1 x hx).keep (by omega) (fun k _ hk => H3.out.2.1.block k hk)
     have hsz4 : (S ++ (zP lb c z).map Prod.snd).toArray.size = nn := by rw [List.size_toArray]; exact HNN.out
     obtain ⟨z', e1, e2, e3, e4⟩ := Yme (z := z) (zc := zL f S ++ zP lb c z) (d := (S ++ (zP lb c z).map Prod.snd).toArray) HZ.out.2.2.2.2.1 (by rw [List.map_append, X18, X1a]) (by rw [List.map_append, X19 H0.out.1]) hmz hS4 b1 b2 (by rw [hsz4]; exact hp4) (by rw [hsz4]; exact hs4)
     have hlz : z'.length = nn := by rw [e1, ← HLN.out]; exact HNN.out
     obtain ⟨k1, k2, k3, k4, k5⟩ := Ykl hS4
     refine ⟨z', ⟨some ⟨g, 0, none⟩, g, c2, by rw [hlz], fun _ => ⟨rfl, by omega, by omega⟩, fun h => (by cases h), by rw [hlz, ← HNN.out]; exact b4, e2, e3, e4⟩, ?_⟩
     have hB3 := HZ.out.2.2.2.2.2.1.trans (H3.out.2.1.mono hwlt)
     exact ⟨k3.trans hB3.os, k4.trans hB3.tape, k5.trans hB3.output, Nat.le_trans hB3.size k1, fun k hk => (k2 k (by omega) (by omega)).trans (hB3.block k hk)⟩
    clear hS4 hp4 hs4
    go_roundg (most - (l + 1))
    case measure => omega
    case rel =>
     obtain ⟨z', hN⟩ := HN.out
     exact ⟨l + 1, z', by go_num, by omega, Nat.le_refl _, hN⟩
  ·have hkz : ¬ (l : Int) < (most : Int) := by omega
   have hlm2 : l = most := by omega
   subst hlm2
   obtain ⟨h1, h2, h3, h4, h5, h6, h7⟩ := H0.out
   have hnf : n = f.length := by rw [h2, h1.len]
   have hmany : 2 * (f.length - 1) ≤ z.length := by
    by_cases h9 : 2 ≤ f.length
    ·have := Yg0 hm1 hm h9 h5 h7
     rw [← e6.parcels] at this
     simpa using this
    ·omega
   have hmax : max ((n : Int) - 1) 0 = ((n - 1 : Nat) : Int) := by omega
   obtain ⟨k, hk⟩ : ∃ k, k = 2 * (n - 1) := ⟨_, rfl⟩
   have hw1 : IntKind.i64.wrap ((n : Int) - 1) = (n : Int) - 1 := by rw [IntKind.wrap_i64]; omega
   have hw2 : IntKind.i64.wrap (2 * ((n - 1 : Nat) : Int)) = (k : Int) := by rw [IntKind.wrap_i64]; omega
   have hsl := fun W => Ylv W q z.length c k (by omega) e2
   have HK : Hid (k = 2 * (f.length - 1)) := by show _ = _; rw [hk, hnf]
   have HNF : Hid (n = f.length) := hnf
   have HF : Hid ((z.length ≠ 0 → q = some ⟨lb, 0, none⟩ ∧ w.heap.size ≤ lb ∧ lb < wr.heap.size) ∧ PRow wr lb (z.map Prod.snd) ∧ (∀ x ∈ z, Mn wr w.heap.size lb ix x.1 x.2) ∧ Y33 f l (z.map Prod.fst) ∧ 2 * (f.length - 1) ≤ z.length ∧ Below w.heap.size w wr) := ⟨e1, e4, e5, e6, hmany, hb⟩
   clear h1 h2 h3 h4 h5 h6 h7 hnf e1 e4 e5 e6 hmany hb hk HR
   go_wp2
   go_ret
   obtain ⟨a1, a2, a3, a4, a5, a6⟩ := HF.out
   exact ⟨q, lb, c, z, by rw [← HK.out]; rfl, fun h => a1 (by omega), a2, a3, a4, a5, a6⟩
end Go.Proofs.YtkkfkmoikcmhoaaGreat.Lp
namespace Go.Proofs.YtkkfkmoikcmhoaaGreat.Lp
open Go.RowKit Oct Lm
set_option maxRecDepth 100000
def Y12 : List Int → Nat → List Pk
 | [], _ => []
 | z :: zs, s => if 0 < z then ⟨z, (s : Int), none, 0, 0⟩ :: Y12 zs (s + 1) else Y12 zs (s + 1)
theorem Ygn (a b : List Int) (s : Nat) : Y12 (a ++ b) s = Y12 a s ++ Y12 b (s + a.length) := by
 induction a generalizing s with
 | nil => rfl
 | cons x a ih =>
  rw [List.cons_append]
  simp only [Y12]
  rw [ih (s + 1), show s + 1 + a.length = s + (x :: a).length by simp; omega]
  split <;> rfl
theorem Yrz (zs : List Int) (k : Nat) (h : k ≤ zs.length) : syms zs k = Y12 (zs.take k) 0 := by
 induction k with
 | zero => simp [syms, Y12]
 | succ k ih =>
  have hk : k < zs.length := by omega
  simp only [syms]
  rw [ih (by omega), List.take_succ_eq_append_getElem hk, Ygn, List.length_take, Nat.min_eq_left (by omega), Nat.zero_add]
  have hg : zs.getD k 0 = zs[k] := by rw [List.getD_eq_getElem?_getD, List.getElem?_eq_getElem hk]; rfl
  rw [hg]
  simp only [Y12]
theorem Ykn (zs : List Int) : syms zs zs.length = Y12 zs 0 := by rw [Yrz zs _ (Nat.le_refl _), List.take_length]
def Y0h (zs : List Int) : List Nat := zs.map Int.toNat
theorem Ya8 (zs : List Int) (s : Nat) : come (Y0h zs) = (Y12 zs s).map fun p => p.wt.toNat := by
 induction zs generalizing s with
 | nil => rfl
 | cons z zs ih =>
  have ih := ih (s + 1)
  unfold come Y0h at ih ⊢
  rw [List.map_cons]
  simp only [Y12]
  by_cases h : 0 < z
  ·rw [if_pos h, List.filter_cons_of_pos (by simp; omega), List.map_cons, ih]
  ·rw [if_neg h, List.filter_cons_of_neg (by simp; omega), ih]
theorem Y6m (zs : List Int) (s : Nat) : ∀ p ∈ Y12 zs s, ∃ i, i < zs.length ∧ p = ⟨zs.getD i 0, ((s + i : Nat) : Int), none, 0, 0⟩ ∧ 0 < zs.getD i 0 := by
 induction zs generalizing s with
 | nil => intro p hp; cases hp
 | cons z zs ih =>
  intro p hp
  have key : p ∈ Y12 zs (s + 1) → ∃ i, i < (z :: zs).length ∧ p = ⟨(z :: zs).getD i 0, ((s + i : Nat) : Int), none, 0, 0⟩ ∧ 0 < (z :: zs).getD i 0 := fun h => by
   obtain ⟨i, h1, h2, h3⟩ := ih (s + 1) p h
   exact ⟨i + 1, by simp; omega, by rw [h2, show s + 1 + i = s + (i + 1) by omega]; rfl, h3⟩
  simp only [Y12] at hp
  by_cases h : 0 < z
  ·rw [if_pos h] at hp
   rcases List.mem_cons.1 hp with rfl | hp
   ·exact ⟨0, by simp, rfl, h⟩
   ·exact key hp
  ·rw [if_neg h] at hp
   exact key hp
theorem Yry (zs : List Int) (s : Nat) : (Y12 zs s).Pairwise fun p q => p.sym < q.sym := by
 induction zs generalizing s with
 | nil => exact List.Pairwise.nil
 | cons z zs ih =>
  simp only [Y12]
  split
  ·refine List.Pairwise.cons (fun q hq => ?_) (ih _)
   obtain ⟨i, _, rfl, _⟩ := Y6m zs (s + 1) q hq
   show (s : Int) < ((s + 1 + i : Nat) : Int)
   omega
  ·exact ih _
def ixOf (zs : List Int) (r : Nat) : Nat := ((Y12 zs 0).getD r default).sym.toNat
theorem Y4g (zs : List Int) (r : Nat) (h : r < (Y12 zs 0).length) : (Y12 zs 0).getD r default = (Y12 zs 0)[r] := by rw [List.getD_eq_getElem?_getD, List.getElem?_eq_getElem h]; rfl
theorem sgl (zs : List Int) : Sgl (Y12 zs 0) (come (Y0h zs)) (ixOf zs) := by
 have e := Ya8 zs 0
 have hlen : (Y12 zs 0).length = (come (Y0h zs)).length := by rw [e, List.length_map]
 refine ⟨hlen, fun r hr => ?_⟩
 have hr' : r < (Y12 zs 0).length := by omega
 obtain ⟨i, h1, h2, h3⟩ := Y6m zs 0 _ (List.getElem_mem hr')
 have hix : ixOf zs r = i := by unfold ixOf; rw [Y4g zs r hr', h2]; simp
 have hf : (come (Y0h zs)).getD r 0 = (Y12 zs 0)[r].wt.toNat := by
  rw [List.getD_eq_getElem?_getD, e, List.getElem?_map, List.getElem?_eq_getElem hr']; rfl
 rw [Y4g zs r hr', hf]
 show (Y12 zs 0)[r].wt = _ ∧ (Y12 zs 0)[r].sym = _ ∧ (Y12 zs 0)[r].ptr = none ∧ (Y12 zs 0)[r].len = 0 ∧ (Y12 zs 0)[r].cap = 0
 have q1 : (Y12 zs 0)[r].wt = zs.getD i 0 := by rw [h2]
 have q2 : (Y12 zs 0)[r].sym = ((0 + i : Nat) : Int) := by rw [h2]
 refine ⟨?_, ?_, by rw [h2], by rw [h2], by rw [h2]⟩
 ·omega
 ·rw [hix, q2]; omega
theorem Yuf (zs : List Int) (r : Nat) (h : r < (come (Y0h zs)).length) : ixOf zs r < zs.length := by
 have hr' : r < (Y12 zs 0).length := by rw [Ya8 zs 0, List.length_map] at h; exact h
 obtain ⟨i, h1, h2, h3⟩ := Y6m zs 0 _ (List.getElem_mem hr')
 unfold ixOf
 rw [Y4g zs r hr', h2]
 simpa using h1
theorem Ywv (zs : List Int) (r : Nat) (h : r < (come (Y0h zs)).length) : 0 < zs.getD (ixOf zs r) 0 := by
 have hr' : r < (Y12 zs 0).length := by rw [Ya8 zs 0, List.length_map] at h; exact h
 obtain ⟨i, h1, h2, h3⟩ := Y6m zs 0 _ (List.getElem_mem hr')
 have e : ixOf zs r = i := by unfold ixOf; rw [Y4g zs r hr', h2]; simp
 rw [e]
 exact h3
theorem X0m (zs : List Int) {r s : Nat} (hr : r < (come (Y0h zs)).length) (hs : s < (come (Y0h zs)).length) (h : ixOf zs r = ixOf zs s) : r = s := by
 have hl : (Y12 zs 0).length = (come (Y0h zs)).length := (sgl zs).len
 have key : ∀ a b, a < b → b < (Y12 zs 0).length → ixOf zs a ≠ ixOf zs b := by
  intro a b hab hb
  have h1 := (List.pairwise_iff_getElem.1 (Yry zs 0)) a b (by omega) hb hab
  obtain ⟨i, _, h2, _⟩ := Y6m zs 0 _ (List.getElem_mem (show a < (Y12 zs 0).length by omega))
  obtain ⟨j, _, h3, _⟩ := Y6m zs 0 _ (List.getElem_mem hb)
  unfold ixOf
  rw [Y4g zs a (by omega), Y4g zs b hb]
  rw [h2, h3] at h1 ⊢
  simp at h1 ⊢
  omega
 rcases Nat.lt_trichotomy r s with h1 | h1 | h1
 ·exact absurd h (key r s h1 (by omega))
 ·exact h1
 ·exact absurd h.symm (key s r h1 (by omega))
theorem Yld (ls : List Nat) (zs : List Int) (s : Nat) (h : ls.length = s + zs.length) : Y4o (Y0h zs) (ls.drop s) = (Y12 zs s).map fun p => ls.getD p.sym.toNat 0 := by
 induction zs generalizing s with
 | nil => simp [Y0h, Y4o, Y12]
 | cons z zs ih =>
  have hs : s < ls.length := by simp at h; omega
  have ih := ih (s + 1) (by simp at h; omega)
  rw [List.drop_eq_getElem_cons hs]
  unfold Y0h at ih ⊢
  rw [List.map_cons]
  simp only [Y4o, Y12]
  by_cases hz : 0 < z
  ·rw [if_pos (by omega), if_pos hz, List.map_cons, ih]
   congr 1
   rw [List.getD_eq_getElem?_getD]
   simp [hs]
  ·rw [if_neg (by omega), if_neg hz, ih]
theorem Yd5 (ls : List Nat) (zs : List Int) (h : ls.length = zs.length) : Y4o (Y0h zs) ls = (List.range (come (Y0h zs)).length).map fun r => ls.getD (ixOf zs r) 0 := by
 have h1 := Yld ls zs 0 (by omega)
 rw [List.drop_zero] at h1
 rw [h1]
 have hl := (sgl zs).len
 refine List.ext_getElem (by simp [hl]) (fun i h1 h2 => ?_)
 have hi : i < (Y12 zs 0).length := by simpa using h1
 simp only [List.getElem_map, List.getElem_range]
 unfold ixOf
 rw [Y4g zs i hi]
def Y99 (ix : Nat → Nat) : List Tree → List Nat → List Nat
 | [], ls => ls
 | t :: Q, ls => Y99 ix Q (Y7c ix t ls)
theorem Y6u (ix : Nat → Nat) (Q : List Tree) (ls : List Nat) : (Y99 ix Q ls).length = ls.length := by
 induction Q generalizing ls with
 | nil => rfl
 | cons t Q ih => simp only [Y99]; rw [ih, Y23]
theorem Yh6 (ix : Nat → Nat) (A B : List Tree) (ls : List Nat) : Y99 ix (A ++ B) ls = Y99 ix B (Y99 ix A ls) := by
 induction A generalizing ls with
 | nil => rfl
 | cons t A ih => simp only [List.cons_append, Y99]; rw [ih]
theorem Ynu (ix : Nat → Nat) {B M : Nat} : ∀ (Q : List Tree) (ls : List Nat), (∀ t ∈ Q, Y3d t ≤ M) → (∀ x ∈ ls, x ≤ B) → ∀ x ∈ Y99 ix Q ls, x ≤ B + Q.length * M
 | [], ls, _, h, x, hx => by have := h x hx; simp; omega
 | t :: Q, ls, hM, h, x, hx => by
  have h1 := Ycz ix t ls h
  have h2 := hM t (by simp)
  have := Ynu ix (B := B + M) Q (Y7c ix t ls) (fun t ht => hM t (by simp [ht])) (fun y hy => by have := h1 y hy; omega) x hx
  rw [List.length_cons, Nat.succ_mul]
  omega
theorem Yh7 {ix : Nat → Nat} {n : Nat} (hix : ∀ a b, a < n → b < n → ix a = ix b → a = b) {r : Nat} (hr : r < n) : ∀ (t : Tree) (ls : List Nat), InT (fun s => s) n t → ix r < ls.length → (Y7c ix t ls).getD (ix r) 0 = ls.getD (ix r) 0 + t.cnt r
 | .leaf _ s, ls, hs, hl => by
  simp only [Y7c, Tree.cnt]
  have hs : s < n := hs
  rw [List.getD_eq_getElem?_getD, List.getElem?_set]
  by_cases h : s = r
  ·subst h
   rw [if_pos rfl, if_pos hl, if_pos rfl]
   rfl
  ·rw [if_neg (fun e => h (hix s r hs hr e)), if_neg h, ← List.getD_eq_getElem?_getD]
   omega
 | .node a b, ls, ⟨ha, hb⟩, hl => by
  simp only [Y7c, Tree.cnt]
  rw [Yh7 hix hr b _ hb (by rw [Y23]; exact hl), Yh7 hix hr a ls ha hl]
  omega
theorem Yd0 {ix : Nat → Nat} {n j : Nat} (hj : ∀ s, s < n → ix s ≠ j) : ∀ (t : Tree) (ls : List Nat), InT (fun s => s) n t → (Y7c ix t ls).getD j 0 = ls.getD j 0
 | .leaf _ s, ls, hs => by
  have hs : s < n := hs
  simp only [Y7c]
  rw [List.getD_eq_getElem?_getD, List.getElem?_set, if_neg (hj s hs), ← List.getD_eq_getElem?_getD]
 | .node a b, ls, ⟨ha, hb⟩ => by
  simp only [Y7c]
  rw [Yd0 hj b _ hb, Yd0 hj a ls ha]
theorem Ynt {ix : Nat → Nat} {n : Nat} (hix : ∀ a b, a < n → b < n → ix a = ix b → a = b) {r : Nat} (hr : r < n) : ∀ (Q : List Tree) (ls : List Nat), (∀ t ∈ Q, InT (fun s => s) n t) → ix r < ls.length → (Y99 ix Q ls).getD (ix r) 0 = ls.getD (ix r) 0 + Y4m r Q
 | [], ls, _, _ => by simp [Y99, Y4m]
 | t :: Q, ls, h, hl => by
  simp only [Y99]
  rw [Ynt hix hr Q _ (fun t ht => h t (by simp [ht])) (by rw [Y23]; exact hl), Yh7 hix hr t ls (h t (by simp)) hl]
  simp only [Y4m, List.map_cons, List.sum_cons]
  omega
theorem Yj2 {ix : Nat → Nat} {n j : Nat} (hj : ∀ s, s < n → ix s ≠ j) : ∀ (Q : List Tree) (ls : List Nat), (∀ t ∈ Q, InT (fun s => s) n t) → (Y99 ix Q ls).getD j 0 = ls.getD j 0
 | [], ls, _ => rfl
 | t :: Q, ls, h => by
  simp only [Y99]
  rw [Yj2 hj Q _ (fun t ht => h t (by simp [ht])), Yd0 hj t ls (h t (by simp))]
structure Fine (zs : List Int) (most : Nat) (ls : List Nat) : Prop where
 len : ls.length = zs.length
 zero : ∀ i, i < zs.length → zs.getD i 0 = 0 → ls.getD i 0 = 0
 least : Least (come (Y0h zs)) most (Y4o (Y0h zs) ls)
theorem Ylm {zs : List Int} {most : Nat} {T : List Tree} (hz : ∀ z ∈ zs, 0 ≤ z) (h2 : 2 ≤ (come (Y0h zs)).length) (hm1 : 1 ≤ most) (hm : most ≤ 30) (hT : Y33 (come (Y0h zs)) most T) (hn : 2 * ((come (Y0h zs)).length - 1) ≤ T.length) :
  Fine zs most (Y99 (ixOf zs) (T.take (2 * ((come (Y0h zs)).length - 1))) (List.replicate zs.length 0)) := by
 have hin : ∀ t ∈ T.take (2 * ((come (Y0h zs)).length - 1)), InT (fun s => s) (come (Y0h zs)).length t := fun t ht => Ydh (ix := fun s => s) (fun r hr => hr) hT t (List.mem_of_mem_take ht)
 have hinj : ∀ a b, a < (come (Y0h zs)).length → b < (come (Y0h zs)).length → ixOf zs a = ixOf zs b → a = b := fun a b ha hb h => X0m zs ha hb h
 refine ⟨by rw [Y6u, List.length_replicate], fun i hi h0 => ?_, ?_⟩
 ·rw [Yj2 (n := (come (Y0h zs)).length) (fun s hs e => ?_) _ _ hin]
  ·rw [List.getD_eq_getElem?_getD]; simp [hi]
  ·have := Ywv zs s hs
   rw [e, h0] at this
   omega
 ·rw [Yd5 _ zs (by rw [Y6u, List.length_replicate])]
  have e : ((List.range (come (Y0h zs)).length).map fun r => (Y99 (ixOf zs) (T.take (2 * ((come (Y0h zs)).length - 1))) (List.replicate zs.length 0)).getD (ixOf zs r) 0) = (List.range (come (Y0h zs)).length).map fun r => Y4m r (T.take (2 * ((come (Y0h zs)).length - 1))) := by
   refine List.map_congr_left (fun r hr => ?_)
   have hr : r < (come (Y0h zs)).length := by simpa using hr
   have hl := Yuf zs r hr
   rw [Ynt hinj hr _ _ hin (by rw [List.length_replicate]; exact hl)]
   have : (List.replicate zs.length 0).getD (ixOf zs r) 0 = 0 := by rw [List.getD_eq_getElem?_getD]; simp [hl]
   rw [this, Nat.zero_add]
  rw [e]
  exact Ysa h2 (Y9g _) hm1 hm hT hn
theorem Yu0 {zs : List Int} {most : Nat} (hm1 : 1 ≤ most) (h1 : (come (Y0h zs)).length = 1) : Fine zs most ((List.replicate zs.length 0).set (ixOf zs 0) 1) := by
 have hl := Yuf zs 0 (by omega)
 refine ⟨by simp, fun i hi h0 => ?_, ?_⟩
 ·have := Ywv zs 0 (by omega)
  rw [List.getD_eq_getElem?_getD, List.getElem?_set, if_neg (fun e => by rw [e, h0] at this; omega)]
  simp [hi]
 ·rw [Yd5 _ zs (by simp), h1]
  have e : ((List.range 1).map fun r => ((List.replicate zs.length 0).set (ixOf zs 0) 1).getD (ixOf zs r) 0) = [1] := by
   simp [List.range_succ, List.getD_eq_getElem?_getD, hl]
  rw [e]
  obtain ⟨x, hx⟩ : ∃ x, come (Y0h zs) = [x] := by
   rcases hc : come (Y0h zs) with _ | ⟨x, _ | ⟨y, t⟩⟩
   ·rw [hc] at h1; cases h1
   ·exact ⟨x, rfl⟩
   ·rw [hc] at h1; simp at h1
  rw [hx]
  exact Ypv x most hm1
theorem Yp4 {zs : List Int} {most : Nat} (h0 : (come (Y0h zs)).length = 0) : Fine zs most (List.replicate zs.length 0) := by
 refine ⟨by simp, fun i hi _ => by rw [List.getD_eq_getElem?_getD]; simp [hi], ?_⟩
 rw [Yd5 _ zs (by simp), h0, List.eq_nil_of_length_eq_zero h0]
 exact Ym3 most
end Go.Proofs.YtkkfkmoikcmhoaaGreat.Lp
namespace Go.Proofs.YtkkfkmoikcmhoaaGreat.Lp
open Go.RowKit Oct Lm
set_option maxRecDepth 100000
def Yj4 (z : Int) : Bool := decide (z < 0) || decide (1073741824 < z)
theorem Yo0 (z : Int) (w : World) : Calls Tryz.prog 157 #[.int .i64 z] w fun e w' => e = .returned (.bool (Yj4 z)) ∧ w' = w := by
 have HB : Hid (Yj4 z = (decide (z < 0) || decide (1073741824 < z))) := rfl
 by_cases h : z < 0
 ·have hd : decide (z < 0) = true := decide_eq_true h
  go_enter Tryz.func157, Tryz.ntmps157
  go_wp2
  go_ret
  exact ⟨by rw [HB.out, hd]; simp, rfl⟩
 ·have hd : decide (z < 0) = false := decide_eq_false h
  go_enter Tryz.func157, Tryz.ntmps157
  go_wp2
  go_ret
  exact ⟨by rw [HB.out, hd]; simp, rfl⟩
def IdxP (zs : List Int) (w : World) (e : Ending) (w' : World) : Prop := ∃ r : Int, e = .returned (.int .i64 r) ∧ (0 ≤ r ↔ zs.any Yj4 = true) ∧ w' = w
set_option maxHeartbeats 2000000 in
theorem Ypo (p : Option Addr) (len cap : Nat) (zs : List Int) (w : World) (hr : VRow w w.heap.size p (ints zs)) (hx : zs.length = len) (hl : len ≤ 100000) : Calls Tryz.prog 168 #[.slice p len cap, .func (.func 157) #[] #[]] w (IdxP zs w) := by
 have HR := Lib.hid hr
 have HX := Lib.hid hx
 clear hr hx
 have hbad := Yo0
 go_enter Tryz.func168, Tryz.ntmps168
 go_wp2
 go_loopg [8] len (fun kx s8 wr => ∃ (k : Nat), s8 = .int .i64 (k : Int) ∧ k ≤ len ∧ len - k ≤ kx ∧ Hid ((zs.take k).any Yj4 = false) ∧ w = wr)
 case atStart => exact ⟨0, rfl, by omega, by omega, (show Hid _ from rfl), rfl⟩
 case round =>
  obtain ⟨k, rfl, hk, hkx, HA, rfl⟩ := hrel
  by_cases hlt : k < len
  ·have hkz : (k : Int) < (len : Int) := by omega
   have hk0 : (0 : Int) ≤ (k : Int) := by omega
   have hkl : k < zs.length := by rw [HX.out]; exact hlt
   obtain ⟨b, off, hp, hbl⟩ := HR.out.addr (by rw [Y06]; omega)
   subst hp
   have hc := HR.out.int k hkl
   have HT : Hid ((zs.take (k + 1)).any Yj4 = Yj4 zs[k]) := by
    show _ = _
    rw [List.take_succ_eq_append_getElem hkl, List.any_append, HA.out]
    simp
   have HM : Hid (zs[k] ∈ zs) := List.getElem_mem hkl
   generalize zs[k] = z at hc HT HM
   have hz := Yo0 z w
   cases hb : Yj4 z with
   | true =>
    rw [hb] at hz HT
    have HBT := Lib.hid hb
    clear hb
    go_wp2_with (go_at_call 157; refine hz.mono ?_; rintro e w' ⟨rfl, rfl⟩)
    go_ret
    exact ⟨_, rfl, ⟨fun _ => List.any_eq_true.2 ⟨z, HM.out, HBT.out⟩, fun _ => hk0⟩, rfl⟩
   | false =>
    rw [hb] at hz HT
    clear hb
    go_wp2_with (go_at_call 157; refine hz.mono ?_; rintro e w' ⟨rfl, rfl⟩)
    go_roundg (len - (k + 1))
    case measure => omega
    case rel => exact ⟨k + 1, by go_num, by omega, Nat.le_refl _, HT, rfl⟩
  ·have hkz : ¬ (k : Int) < (len : Int) := by omega
   go_wp2
   go_ret
   have e : zs.take k = zs := List.take_of_length_le (by rw [HX.out]; omega)
   have hA := HA.out
   rw [e] at hA
   exact ⟨-1, rfl, by rw [hA]; simp, rfl⟩
theorem Yey (p : Option Addr) (len cap : Nat) (zs : List Int) (w : World) (hr : VRow w w.heap.size p (ints zs)) (hx : zs.length = len) (hl : len ≤ 100000) : Calls Tryz.prog 158 #[.slice p len cap, .func (.func 157) #[] #[]] w fun e w' => e = .returned (.bool (zs.any Yj4)) ∧ w' = w := by
 have hi := Ypo p len cap zs w hr hx hl
 clear hr
 go_enter Tryz.func158, Tryz.ntmps158
 go_wp2_with (go_at_call 168; refine hi.mono ?_; rintro e w' ⟨r, rfl, hr, rfl⟩; have HRR := Lib.hid hr; clear hr)
 go_ret
 refine ⟨?_, rfl⟩
 have e : decide (0 ≤ r) = zs.any Yj4 := by rw [Bool.eq_iff_iff, decide_eq_true_eq]; exact HRR.out
 exact congrArg (fun b => Ending.returned (.bool b)) e
def okB (zs : List Int) (most : Int) : Bool := decide (1 ≤ most) && decide (most ≤ 30) && decide (zs.length ≤ 300) && !zs.any Yj4
set_option maxHeartbeats 2000000 in
theorem Yh8 (p : Option Addr) (len cap : Nat) (most : Int) (zs : List Int) (w : World) (hr : VRow w w.heap.size p (ints zs)) (hx : zs.length = len) : Calls Tryz.prog 144 #[.slice p len cap, .int .i64 most] w fun e w' => e = .returned (.bool (okB zs most)) ∧ w' = w := by
 have HO : Hid (okB zs most = (decide (1 ≤ most) && decide (most ≤ 30) && decide (len ≤ 300) && !zs.any Yj4)) := by show _ = _; unfold okB; rw [hx]
 have HC : Hid (len ≤ 300 → Calls Tryz.prog 158 #[.slice p len cap, .func (.func 157) #[] #[]] w fun e w' => e = .returned (.bool (zs.any Yj4)) ∧ w' = w) := fun h => Yey p len cap zs w hr hx (by omega)
 clear hr hx
 by_cases h1 : 1 ≤ most
 ·have d1 : decide (1 ≤ most) = true := decide_eq_true h1
  by_cases h2 : most ≤ 30
  ·have d2 : decide (most ≤ 30) = true := decide_eq_true h2
   by_cases h3 : len ≤ 300
   ·have d3 : decide ((len : Int) ≤ 300) = true := decide_eq_true (by omega)
    have hc := HC.out h3
    go_enter Tryz.func144, Tryz.ntmps144
    go_wp2_with (go_at_call 158; refine hc.mono ?_; rintro e w' ⟨rfl, rfl⟩)
    go_ret
    exact ⟨by rw [HO.out, d1, d2]; simp [h3], rfl⟩
   ·have d3 : decide ((len : Int) ≤ 300) = false := decide_eq_false (by omega)
    go_enter Tryz.func144, Tryz.ntmps144
    go_wp2
    go_ret
    exact ⟨by rw [HO.out, d1, d2]; simp [h3], rfl⟩
  ·have d2 : decide (most ≤ 30) = false := decide_eq_false h2
   go_enter Tryz.func144, Tryz.ntmps144
   go_wp2
   go_ret
   exact ⟨by rw [HO.out, d1, d2]; simp, rfl⟩
 ·have d1 : decide (1 ≤ most) = false := decide_eq_false h1
  go_enter Tryz.func144, Tryz.ntmps144
  go_wp2
  go_ret
  exact ⟨by rw [HO.out, d1]; simp, rfl⟩
end Go.Proofs.YtkkfkmoikcmhoaaGreat.Lp
namespace Go.Proofs.YtkkfkmoikcmhoaaGreat.Lp
open Go.RowKit Oct Lm
set_option maxRecDepth 100000
def Yx6 (w : World) (zs : List Int) (most : Int) (e : Ending) (w' : World) : Prop :=
 Below w.heap.size w w' ∧
 ((okB zs most = false ∧ e = .returned (.tuple #[.slice none 0 0, .int .i64 1])) ∨
  (okB zs most = true ∧ 2 ^ most.toNat < (come (Y0h zs)).length ∧ e = .returned (.tuple #[.slice none 0 0, .int .i64 5])) ∨
  (okB zs most = true ∧ (come (Y0h zs)).length ≤ 2 ^ most.toNat ∧ ∃ bl ls, e = .returned (.tuple #[.slice (some ⟨bl, 0, none⟩) zs.length zs.length, .int .i64 0]) ∧ LRow w' bl ls ∧ w.heap.size ≤ bl ∧ Fine zs most.toNat ls))
theorem Yqi {zs : List Int} {most : Int} (h : okB zs most = true) : 1 ≤ most ∧ most ≤ 30 ∧ zs.length ≤ 300 ∧ ∀ z ∈ zs, 0 ≤ z ∧ z ≤ 1073741824 := by
 unfold okB at h
 simp only [Bool.and_eq_true, decide_eq_true_eq, Bool.not_eq_true'] at h
 obtain ⟨⟨⟨h1, h2⟩, h3⟩, h4⟩ := h
 refine ⟨h1, h2, h3, fun z hz => ?_⟩
 have := List.any_eq_false.1 h4 z hz
 unfold Yj4 at this
 simp at this
 omega
theorem Yhd (zs : List Int) (h : ∀ z ∈ zs, 0 ≤ z ∧ z ≤ 1073741824) : ∀ x ∈ come (Y0h zs), x ≤ 1073741824 := by
 intro x hx
 obtain ⟨z, hz, rfl⟩ := List.mem_map.1 (List.mem_filter.1 hx).1
 have := h z hz
 omega
theorem Yjd (zs : List Int) : (come (Y0h zs)).length ≤ zs.length := by
 have := List.length_filter_le (fun x => decide (0 < x)) (Y0h zs)
 unfold come Y0h at *
 rwa [List.length_map] at this
theorem Tryz.infoInt3 : (Tryz.prog.info? 3).map (fun i => (i.zero, i.size, i.bytes)) = some (some (.int .i64 0), 1, 8) := by kernel_rfl
theorem Yfn (w : World) (n : Nat) : LRow (w.alloc (.cells (madeCells (Value.int .i64 0).cells (n * 1)) 3)) w.heap.size (List.replicate n 0) := by
 unfold LRow
 rw [heap_alloc_last]
 have e : madeCells (Value.int .i64 0).cells (n * 1) = (nats (List.replicate n 0)).toArray := by
  apply Array.ext'
  have := toList_madeCells_one (.int .i64 0) n
  rw [Nat.mul_one]
  rw [show (Value.int .i64 0).cells = #[.int .i64 0] from rfl, this]
  simp [nats]
 rw [e]
set_option maxHeartbeats 8000000 in
theorem Yhz (p : Option Addr) (len cap : Nat) (most : Int) (zs : List Int) (w : World) (hr : VRow w w.heap.size p (ints zs)) (hx : zs.length = len) : Calls Tryz.prog 112 #[.slice p len cap, .int .i64 most] w (Yx6 w zs most) := by
 have HA := Lib.hid (Yh8 p len cap most zs w hr hx)
 have HS : Hid (len ≤ 300 → Calls Tryz.prog 145 #[.slice p len cap] w (SymP w zs)) := fun h => Yiv p len cap zs w hr hx (by omega)
 have HX := Lib.hid hx
 clear hr hx
 cases hok : okB zs most with
 | false =>
  have ha := HA.out
  rw [hok] at ha
  have HOK := Lib.hid hok
  clear hok
  go_enter Tryz.func112, Tryz.ntmps112
  go_wp2_with (go_at_call 144; refine ha.mono ?_; rintro e w' ⟨rfl, rfl⟩)
  go_ret2
  exact ⟨Below.refl _ _, .inl ⟨HOK.out, rfl⟩⟩
 | true =>
  have ha := HA.out
  rw [hok] at ha
  have HOK := Lib.hid hok
  obtain ⟨h1, h2, h3, h4⟩ := Yqi hok
  have hsy := HS.out (by rw [← HX.out]; exact h3)
  rw [HX.out] at h3
  obtain ⟨m, rfl⟩ : ∃ m : Nat, most = (m : Int) := ⟨most.toNat, by omega⟩
  have HZ : Hid (∀ z ∈ zs, 0 ≤ z ∧ z ≤ 1073741824) := h4
  have hm1 : 1 ≤ m := by omega
  have hm2 : m ≤ 30 := by omega
  clear hok h4 h1 h2
  have hpw : (2 : Nat) ^ m ≤ 2 ^ 30 := Nat.pow_le_pow_right (by omega) hm2
  have hcast : ((2 : Int) ^ m) = ((2 ^ m : Nat) : Int) := by simp
  have hw2 : wrap64 ((2 : Int) ^ m) = ((2 ^ m : Nat) : Int) := by
   rw [hcast]
   have : (2 : Nat) ^ 30 = 1073741824 := by decide
   generalize (2 : Nat) ^ m = x at hpw ⊢
   unfold wrap64
   omega
  have HN : Hid ((syms zs zs.length).length = (come (Y0h zs)).length ∧ syms zs zs.length = Y12 zs 0) := ⟨by rw [Ykn]; exact (sgl zs).len, Ykn zs⟩
  by_cases hbig : 2 ^ m < (syms zs zs.length).length
  ·have hd1 : decide (wrap64 ((2 : Int) ^ m) < ((syms zs zs.length).length : Int)) = true := decide_eq_true (by rw [hw2]; omega)
   have HBG := Lib.hid hbig
   clear hw2 hcast hpw hbig
   go_enter Tryz.func112, Tryz.ntmps112
   go_wp2_with (first | (go_at_call 144; refine ha.mono ?_; rintro e w' ⟨rfl, rfl⟩) | (go_at_call 145; refine hsy.mono ?_; rintro e w1 ⟨v, rfl, ho1, hb1⟩; obtain ⟨q, c, rfl, hq0, hqc, hqm, hpv, hqb⟩ := ho1.shape))
   go_ret2
   exact ⟨hb1, .inr (.inl ⟨HOK.out, by have := HBG.out; rw [HN.out.1] at this; exact this, rfl⟩)⟩
  ·have hd1 : decide (wrap64 ((2 : Int) ^ m) < ((syms zs zs.length).length : Int)) = false := decide_eq_false (by rw [hw2]; omega)
   have HBG : Hid ((come (Y0h zs)).length ≤ 2 ^ m) := by show _ ≤ _; rw [← HN.out.1]; omega
   have hfew : (syms zs zs.length).length ≤ len := by rw [HN.out.1, ← HX.out]; exact Yjd zs
   clear hw2 hcast hpw hbig
   by_cases h1 : (syms zs zs.length).length = 1
   ·have hd2 : (((syms zs zs.length).length : Int) == 1) = true := by rw [h1]; rfl
    have hpos : 0 < (syms zs zs.length).length := by omega
    have hd3 : (0 : Int) < ((syms zs zs.length).length : Int) := by omega
    have HH1 : Hid ((come (Y0h zs)).length = 1) := by rw [← HN.out.1]; exact h1
    have HSYM : Hid (∀ W g, PRow W g (syms zs zs.length) → W.cell? ⟨g, 1, none⟩ = some (.int .i64 ((ixOf zs 0 : Nat) : Int))) := fun W g hW => by
     have h9 := (hW 0 hpos).2.1
     have h8 := (sgl zs).leaf 0 (by have := HH1.out; omega)
     have h7 : (syms zs zs.length)[0] = (Y12 zs 0).getD 0 default := by
      rw [Y4g zs 0 (by rw [← HN.out.2]; exact hpos)]
      simp only [HN.out.2]
     rw [h7] at h9
     have h6 : ((Y12 zs 0).getD 0 default).sym = ((ixOf zs 0 : Nat) : Int) := h8.2.1
     rw [h6] at h9
     simpa using h9
    have hixl : ixOf zs 0 < len := by rw [← HX.out]; exact Yuf zs 0 (by have := HH1.out; omega)
    have HF := Lib.hid (Yu0 hm1 HH1.out)
    rw [HX.out] at HF
    obtain ⟨x, hx⟩ : ∃ x, x = ixOf zs 0 := ⟨_, rfl⟩
    rw [← hx] at HSYM hixl HF
    have hx1 : (0 : Int) ≤ (x : Int) := by omega
    have hx2 : (x : Int) < (len : Int) := by omega
    clear h1 hx
    go_enter Tryz.func112, Tryz.ntmps112
    go_wp2_with (first | (go_at_call 144; refine ha.mono ?_; rintro e w' ⟨rfl, rfl⟩) | (go_at_call 145; refine hsy.mono ?_; rintro e w1 ⟨v, rfl, ho1, hb1⟩; obtain ⟨q, c, rfl, hq0, hqc, hqm, hpv, hqb⟩ := ho1.shape; obtain ⟨g, rfl, hg, hrow⟩ := hpv hpos; have hgc := HSYM.out w1 g hrow) | (at_make; refine Y1y rfl _ _ rfl Tryz.underlying74 Tryz.infoInt3 len rfl rfl (by omega) (by omega) ?_; have hl2 := Yfn w1 len; have hb2 : Below w'.heap.size w' (w1.alloc (.cells (madeCells (Value.int .i64 0).cells (len * 1)) 3)) := hb1.alloc hb1.size _; have hgc2 : World.cell? (w1.alloc (.cells (madeCells (Value.int .i64 0).cells (len * 1)) 3)) ⟨g, 1, none⟩ = some (.int .i64 (x : Int)) := (World.cell?_alloc_lt _ _ _ hg).trans hgc; have hcs := Yfm hl2 x (show x < (List.replicate len 0).length from Nat.lt_of_lt_of_eq hixl List.length_replicate.symm); have hfz := Y1h hl2; have hs2 : w1.heap.size < (w1.alloc (.cells (madeCells (Value.int .i64 0).cells (len * 1)) 3)).heap.size := hl2.lt; have HL2 := Lib.hid hl2; have HB2 := Lib.hid hb2; have hgs : g < (w1.alloc (.cells (madeCells (Value.int .i64 0).cells (len * 1)) 3)).heap.size := Nat.lt_trans hg hs2; clear hl2 hb2 hgc hrow ho1; generalize (w1.alloc (.cells (madeCells (Value.int .i64 0).cells (len * 1)) 3)) = w2 at hgc2 hcs hfz hs2 HL2 HB2 hgs ⊢))
    go_ret2
    have hne : w'.heap.size ≤ w1.heap.size := hb1.size
    refine ⟨HB2.out.setCell (p := ⟨w1.heap.size, x, none⟩) hne _, .inr (.inr ⟨HOK.out, HBG.out, w1.heap.size, (List.replicate len 0).set x 1, by rw [HX.out]; rfl, Yjr HL2.out x 1, hne, HF.out⟩)⟩
   ·have hd2 : (((syms zs zs.length).length : Int) == 1) = false := beq_eq_false_iff_ne.2 (by omega)
    have HH1 : Hid ((come (Y0h zs)).length ≠ 1) := by rw [← HN.out.1]; exact h1
    have hlen1 : (syms zs zs.length).length ≤ 1000 := by omega
    clear h1
    go_enter Tryz.func112, Tryz.ntmps112
    go_wp2_with (first | (go_at_call 144; refine ha.mono ?_; rintro e w' ⟨rfl, rfl⟩) | (go_at_call 145; refine hsy.mono ?_; rintro e w1 ⟨v, rfl, ho1, hb1⟩; obtain ⟨q, c, rfl, hq0, hqc, hqm, hpv, hqb⟩ := ho1.shape) | (at_make; refine Y1y rfl _ _ rfl Tryz.underlying74 Tryz.infoInt3 len rfl rfl (by omega) (by omega) ?_; have hl2 := Yfn w1 len; have hb2 : Below w'.heap.size w' (w1.alloc (.cells (madeCells (Value.int .i64 0).cells (len * 1)) 3)) := hb1.alloc hb1.size _; have hs2 : w1.heap.size < (w1.alloc (.cells (madeCells (Value.int .i64 0).cells (len * 1)) 3)).heap.size := hl2.lt; have HL2 := Lib.hid hl2; have HB2 := Lib.hid hb2; have HPV2 : Hid (PV (w1.alloc (.cells (madeCells (Value.int .i64 0).cells (len * 1)) 3)) w1.heap.size q (syms zs zs.length)) := (hpv.below ((Below.refl _ w1).alloc (Nat.le_refl _) _) (Nat.le_refl _)); clear hl2 hb2 hpv ho1; generalize (w1.alloc (.cells (madeCells (Value.int .i64 0).cells (len * 1)) 3)) = w2 at hs2 HL2 HB2 HPV2 ⊢))
    have HBW : Hid (w'.heap.size ≤ w1.heap.size) := hb1.size
    have HQ : Hid (q = none → c = 0) := hq0
    have hli := Yfl q (syms zs zs.length).length c m (syms zs zs.length) (come (Y0h zs)) (ixOf zs) w2 (by rw [HN.out.2]; exact sgl zs) rfl (HPV2.out.mono (by omega)) hq0 hlen1 hm1 hm2 (Y9g _) (Yhd zs HZ.out) HBG.out
    clear hb1 hq0 hqc hqm hqb
    generalize hKK : 2 * ((come (Y0h zs)).length - 1) = K at hli
    refine hli.mono ?_
    rintro e w3 ⟨p3, lb, c3, z, rfl, e1, e2, e3, e4, e5, e6⟩
    rw [hKK] at e5
    have HK : Hid (2 * ((come (Y0h zs)).length - 1) = K) := hKK
    have hK600 : K ≤ 600 := by rw [← hKK]; have := HN.out.1; omega
    have HL : Hid ((2 ≤ (come (Y0h zs)).length → p3 = some ⟨lb, 0, none⟩ ∧ w2.heap.size ≤ lb ∧ lb < w3.heap.size) ∧ PRow w3 lb (z.map Prod.snd) ∧ (∀ x ∈ z, Mn w3 w2.heap.size lb (ixOf zs) x.1 x.2) ∧ Y33 (come (Y0h zs)) m (z.map Prod.fst) ∧ K ≤ z.length ∧ Below w2.heap.size w2 w3) := ⟨e1, e2, e3, e4, e5, e6⟩
    have HST : Hid (LRow w3 w1.heap.size (Y99 (ixOf zs) ((z.map Prod.fst).take 0) (List.replicate len 0)) ∧ Only (· = w1.heap.size) w3 w3) := ⟨(e6.block _ hs2).trans HL2.out, Only.refl _ _⟩
    clear hli e1 e2 e3 e4 e5 e6 hKK
    have hkk : (2 * ((come (Y0h zs)).length - 1)) = K := HK.out
    rw [hkk]
    clear hkk
    go_wp2_with fail
    go_loopg [38] K (fun kx s38 wr => ∃ (k : Nat), s38 = .int .i64 (k : Int) ∧ k ≤ K ∧ K - k ≤ kx ∧ Hid (LRow wr w1.heap.size (Y99 (ixOf zs) ((z.map Prod.fst).take k) (List.replicate len 0)) ∧ Only (· = w1.heap.size) w3 wr))
    case atStart => exact ⟨0, rfl, by omega, by omega, HST⟩
    case round =>
     clear HST
     obtain ⟨k, rfl, hk, hkx, HR⟩ := hrel
     by_cases hlt : k < K
     ·obtain ⟨e1, e2, e3, e4, e5, e6⟩ := HL.out
      have h2f : 2 ≤ (come (Y0h zs)).length := by have := HK.out; omega
      obtain ⟨hp3, l1, l2⟩ := e1 h2f
      subst hp3
      have hkz0 : k < z.length := by omega
      have hq := e2 k (by rw [List.length_map]; exact hkz0)
      have hmn := e3 _ (List.getElem_mem hkz0)
      rw [List.getElem_map] at hq
      have hmem : z[k].1 ∈ z.map Prod.fst := List.mem_map_of_mem (List.getElem_mem hkz0)
      have hin := Ydh (ix := ixOf zs) (n := len) (fun r hr => by rw [← HX.out]; exact Yuf zs r hr) e4 _ hmem
      have hbd := (Y53 (Yhd zs HZ.out) e4 _ hmem).2
      have hadd : Y99 (ixOf zs) ((z.map Prod.fst).take (k + 1)) (List.replicate len 0) = Y7c (ixOf zs) z[k].1 (Y99 (ixOf zs) ((z.map Prod.fst).take k) (List.replicate len 0)) := by
       rw [List.take_succ_eq_append_getElem (by rw [List.length_map]; exact hkz0), Yh6, List.getElem_map]; rfl
      have hsz3 := HR.out.2.2.2.2.1
      have hblk : ∀ j, w2.heap.size ≤ j → j < w3.heap.size → wr.heap[j]? = w3.heap[j]? := fun j h1 h2 => HR.out.2.2.2.2.2 j h2 (by omega)
      obtain ⟨c1, c2, c3'⟩ := hq.keep (hblk lb l1 l2)
      have hmnr := hmn.keep (Nat.le_refl _) (fun j h1 h2 => hblk j h1 (by omega))
      have hpw30 : (2 : Nat) ^ m ≤ 2 ^ 30 := Nat.pow_le_pow_right (by omega) hm2
      have h30 : (2 : Nat) ^ 30 = 1073741824 := by decide
      have hM : ∀ t ∈ (z.map Prod.fst).take k, Y3d t ≤ 536870912 := fun t ht => by
       have := (Y53 (Yhd zs HZ.out) e4 t (List.mem_of_mem_take ht)).2
       omega
      have hle := Ynu (ixOf zs) (B := 0) (M := 536870912) ((z.map Prod.fst).take k) (List.replicate len 0) hM (fun x hx => by have := List.eq_of_mem_replicate hx; omega)
      have hlen2 : len = (Y99 (ixOf zs) ((z.map Prod.fst).take k) (List.replicate len 0)).length := by rw [Y6u, List.length_replicate]
      have HS : Hid (len = (Y99 (ixOf zs) ((z.map Prod.fst).take k) (List.replicate len 0)).length ∧ Mn wr w2.heap.size lb (ixOf zs) z[k].1 z[k].2 ∧ InT (ixOf zs) len z[k].1 ∧ (∀ x ∈ Y99 (ixOf zs) ((z.map Prod.fst).take k) (List.replicate len 0), x + Y3d z[k].1 ≤ 4611686018427387904) ∧ Y99 (ixOf zs) ((z.map Prod.fst).take (k + 1)) (List.replicate len 0) = Y7c (ixOf zs) z[k].1 (Y99 (ixOf zs) ((z.map Prod.fst).take k) (List.replicate len 0)) ∧ lb ≤ wr.heap.size) :=
       ⟨hlen2, hmnr, hin, fun x hx => by have h9 := hle x hx; rw [List.length_take] at h9; have h8 : min k (z.map Prod.fst).length * 536870912 ≤ 600 * 536870912 := Nat.mul_le_mul_right _ (by have := Nat.min_le_left k (z.map Prod.fst).length; omega); omega, hadd, by omega⟩
      have hkz : (k : Int) < (K : Int) := by omega
      have hk0 : (0 : Int) ≤ (k : Int) := by omega
      have hl2' : lb < wr.heap.size := by omega
      generalize z[k].1 = t at HS
      generalize z[k].2 = pk at HS c1 c2 c3'
      clear e1 e2 e3 e4 e5 e6 h2f hkz0 hq hmn hmem hin hbd hadd hsz3 hblk hmnr hpw30 h30 hM hle hlen2
      go_wp2_with fail
      have hsame : ∀ j, w2.heap.size ≤ j → j < lb → (wr.alloc (.cells #[.int .i64 pk.wt, .int .i64 pk.sym, .slice pk.ptr pk.len pk.cap] 221)).heap[j]? = wr.heap[j]? := fun j h1 h2 => (Y1c (fun _ => False) wr _).2.2.2.2 j (by omega) (fun h => h)
      have hl1 := HR.out.1.only (S := fun _ => False) (Y1c _ wr (.cells #[.int .i64 pk.wt, .int .i64 pk.sym, .slice pk.ptr pk.len pk.cap] 221)) (fun h => h)
      have hc := Y72 w2.heap.size lb w1.heap.size len len (ixOf zs) hs2 t pk _ (wr.alloc (.cells #[.int .i64 pk.wt, .int .i64 pk.sym, .slice pk.ptr pk.len pk.cap] 221)) HS.out.1 (HS.out.2.1.keep (Nat.le_refl _) hsame) hl1 (by simp; omega) HS.out.2.2.1 HS.out.2.2.2.1
      refine hc.mono ?_
      rintro e w4 ⟨rfl, k1, o1⟩
      have HNX : Hid (LRow w4 w1.heap.size (Y99 (ixOf zs) ((z.map Prod.fst).take (k + 1)) (List.replicate len 0)) ∧ Only (· = w1.heap.size) w3 w4) := ⟨by rw [HS.out.2.2.2.2.1]; exact k1, HR.out.2.trans ((Y1c _ _ _).trans o1)⟩
      clear hc k1 o1 hl1 hsame
      go_wp2
      go_roundg (K - (k + 1))
      case measure => omega
      case rel => exact ⟨k + 1, by go_num, by omega, Nat.le_refl _, HNX⟩
     ·have hkz : ¬ (k : Int) < (K : Int) := by omega
      have hkk : k = K := by omega
      subst hkk
      go_wp2
      go_ret2
      obtain ⟨e1, e2, e3, e4, e5, e6⟩ := HL.out
      have hB3 : Below w'.heap.size w' w3 := HB2.out.trans (e6.mono HB2.out.size)
      have hbw := HBW.out
      refine ⟨hB3.trans (HR.out.2.below hB3.size (fun j hj hje => by omega)), .inr (.inr ⟨HOK.out, HBG.out, w1.heap.size, _, by rw [HX.out]; rfl, HR.out.1, hbw, ?_⟩)⟩
      rw [← HX.out, ← HK.out]
      by_cases h2f : 2 ≤ (come (Y0h zs)).length
      ·exact Ylm (fun z hz => (HZ.out z hz).1) h2f hm1 hm2 e4 (by rw [List.length_map, HK.out]; exact e5)
      ·have h0 : (come (Y0h zs)).length = 0 := by have := HH1.out; omega
       rw [h0]
       exact Yp4 h0
end Go.Proofs.YtkkfkmoikcmhoaaGreat.Lp

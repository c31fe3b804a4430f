/- LpF, LpG, LpH, LpI, LpJ: merged. -/
import Derived.Lib.MinMax
import Derived.Test.YtkkfkmoikcmhoaaGreatAau
set_option linter.unusedVariables false
set_option linter.unusedSimpArgs false
namespace Go.Proofs.YtkkfkmoikcmhoaaGreat.Lp
open Go.RowKit Go.Sort Oct Lm
set_option maxRecDepth 100000
theorem Y8r {f : List Nat} : ∀ {l : Nat} {T : List Tree}, Y2w f l T → T.length ≤ 2 * f.length
 | 0, T, h => by
  have h : T = [] := h
  subst h; simp
 | l + 1, T, ⟨_, T', h, hp⟩ => by
  have h1 := hp.length_eq
  rw [List.length_append, Y40] at h1
  have h2 : (Y12 f).length = f.length := by simp [Y12]
  have := Y8r h
  omega
theorem Yar {Q : Tree → Prop} {R : Tree → Prop} (hQ : ∀ a b, R a → R b → Q (.node a b)) : ∀ (P : List Tree), (∀ t ∈ P, R t) → ∀ t ∈ Y33 P, Q t
 | [], _, t, ht => by simp [Y33] at ht
 | [_], _, t, ht => by simp [Y33] at ht
 | a :: b :: P, h, t, ht => by
  simp only [Y33, List.mem_cons] at ht
  rcases ht with rfl | ht
  ·exact hQ a b (h a (by simp)) (h b (by simp))
  ·exact Yar hQ P (fun t ht => h t (by simp [ht])) t ht
theorem Y4u {f : List Nat} (hf : ∀ x ∈ f, x ≤ 1073741824) : ∀ {l : Nat} {T : List Tree}, Y2w f l T → ∀ t ∈ T, t.wt * 2 ≤ 1073741824 * 2 ^ l ∧ Y34 t * 2 ≤ 2 ^ l
 | 0, T, h, t, ht => by
  have h : T = [] := h
  subst h; cases ht
 | l + 1, T, ⟨_, T', h, hp⟩, t, ht => by
  have hpos : 1 ≤ 2 ^ l := Nat.one_le_two_pow
  rw [Nat.pow_succ]
  rcases List.mem_append.1 (hp.mem_iff.1 ht) with h1 | h1
  ·unfold Y12 at h1
   obtain ⟨r, hr, rfl⟩ := List.mem_map.1 h1
   have hr' : r < f.length := by simpa using hr
   have hx : f.getD r 0 ≤ 1073741824 := by
    rw [List.getD_eq_getElem?_getD, List.getElem?_eq_getElem hr']
    exact hf _ (List.getElem_mem hr')
   simp only [Tree.wt, Y34]
   generalize 2 ^ l = x at hpos
   omega
  ·refine Yar (Q := fun t => t.wt * 2 ≤ 1073741824 * (2 ^ l * 2) ∧ Y34 t * 2 ≤ 2 ^ l * 2) (R := fun t => t.wt * 2 ≤ 1073741824 * 2 ^ l ∧ Y34 t * 2 ≤ 2 ^ l) (fun a b ha hb => ?_) T' (Y4u hf h) t h1
   simp only [Tree.wt, Y34]
   omega
theorem Yd6 {f : List Nat} {ix : Nat → Nat} {n : Nat} (hix : ∀ r, r < f.length → ix r < n) : ∀ {l : Nat} {T : List Tree}, Y2w f l T → ∀ t ∈ T, InT ix n t
 | 0, T, h, t, ht => by
  have h : T = [] := h
  subst h; cases ht
 | l + 1, T, ⟨_, T', h, hp⟩, t, ht => by
  rcases List.mem_append.1 (hp.mem_iff.1 ht) with h1 | h1
  ·unfold Y12 at h1
   obtain ⟨r, hr, rfl⟩ := List.mem_map.1 h1
   exact hix r (by simpa using hr)
  ·exact Yar (Q := InT ix n) (R := InT ix n) (fun a b ha hb => ⟨ha, hb⟩) T' (Yd6 hix h) t h1
theorem Yg0 {f : List Nat} {L : Nat} (hL1 : 1 ≤ L) (hL : L ≤ 30) (h2 : 2 ≤ f.length) (hf : ∀ x ∈ f, 1 ≤ x) (hn : f.length ≤ 2 ^ L) : 2 * (f.length - 1) ≤ (parcels f L).length := by
 obtain ⟨l', g1, g2, g3⟩ := Yr5 hL h2 hf _ _ (Nat.le_refl _) (Ypp f L hL1 hL hn)
 have ht := Yj3 g3 g1.hi hL L 0 1 hL1 (by omega) (by rw [Yca l' g1.lo, g3]; rfl)
 rw [Yer l' g1.lo, g1.len] at ht
 obtain ⟨h4, _⟩ := Y7g f _ _ ht (fun a ha => by rw [← g1.len]; exact Yfi l' L 0 a ha)
 rw [Y7a] at h4
 exact h4
theorem Yv5 {α β : Type} {d e : List β} (h : e.Perm d) : ∀ z : List (α × β), z.map Prod.snd = d → ∃ z' : List (α × β), z'.Perm z ∧ z'.map Prod.snd = e := by
 induction h with
 | nil => intro z hz; exact ⟨z, List.Perm.refl _, hz⟩
 | cons x _ ih =>
  intro z hz
  rcases z with _ | ⟨y, z⟩
  ·cases hz
  ·rw [List.map_cons, List.cons.injEq] at hz
   obtain ⟨z', hp, he⟩ := ih z hz.2
   exact ⟨y :: z', hp.cons y, by rw [List.map_cons, he, hz.1]⟩
 | swap x y l =>
  intro z hz
  rcases z with _ | ⟨a, _ | ⟨b, z⟩⟩
  ·cases hz
  ·simp at hz
  ·simp only [List.map_cons, List.cons.injEq] at hz
   exact ⟨b :: a :: z, List.Perm.swap a b z, by simp [hz.1, hz.2.1, hz.2.2]⟩
 | trans _ _ h1 h2 =>
  intro z hz
  obtain ⟨z1, p1, e1⟩ := h2 z hz
  obtain ⟨z2, p2, e2⟩ := h1 z1 e1
  exact ⟨z2, p2.trans p1, e2⟩
theorem Ysy {w : World} {b : Nat} {zs : List Pk} (h : PRow w b zs) (hf : ∀ i, w.frozen? ⟨b, i, none⟩ = false) : HoldsK Yha 3 w b 0 zs.toArray := by
 intro j hj
 rw [size_flatK] at hj
 simp only [List.size_toArray] at hj
 refine ⟨?_, hf _⟩
 rw [get_flatK _ _ _ _ (by simpa using hj), Nat.zero_add]
 have hi : j / 3 < zs.length := by omega
 have hg : zs.toArray[j / 3]! = zs[j / 3] := by rw [getElem!_pos zs.toArray (j / 3) (by simpa using hi)]; simp
 rw [hg]
 obtain ⟨c1, c2, c3⟩ := h (j / 3) hi
 rcases (show j = j / 3 * 3 ∨ j = j / 3 * 3 + 1 ∨ j = j / 3 * 3 + 2 by omega) with e | e | e
 ·have hm : j % 3 = 0 := by omega
  rw [← e] at c1
  rw [c1, hm]; rfl
 ·have hm : j % 3 = 1 := by omega
  rw [← e] at c2
  rw [c2, hm]; rfl
 ·have hm : j % 3 = 2 := by omega
  rw [← e] at c3
  rw [c3, hm]; rfl
theorem Yma {w : World} {b : Nat} {d : Array Pk} (h : HoldsK Yha 3 w b 0 d) : PRow w b d.toList := by
 intro i hi
 have hi' : i < d.size := by simpa using hi
 have hg : d[i]! = d.toList[i] := by rw [getElem!_pos d i hi']; simp
 have hc := fun t (ht : t < 3) => (h (i * 3 + t) (by rw [size_flatK]; omega)).1
 have e := fun t (ht : t < 3) => get_flatK Yha 3 d (i * 3 + t) (by omega)
 have d1 : ∀ t, t < 3 → (i * 3 + t) / 3 = i := fun t ht => by omega
 have d2 : ∀ t, t < 3 → (i * 3 + t) % 3 = t := fun t ht => by omega
 have k := fun t (ht : t < 3) => by
  have h1 := hc t ht
  rw [e t ht, d1 t ht, d2 t ht, hg, Nat.zero_add] at h1
  exact h1
 exact ⟨k 0 (by omega), k 1 (by omega), k 2 (by omega)⟩
theorem Yk4 {w w' : World} {b : Nat} {d : Array Pk} (h : SWK Yha 3 w b 0 d w') : w.heap.size ≤ w'.heap.size ∧ (∀ k, k < w.heap.size → k ≠ b → w'.heap[k]? = w.heap[k]?) ∧ w'.os = w.os ∧ w'.tape = w.tape ∧ w'.output = w.output := by
 refine ⟨h.le, ?_, ?_⟩
 ·obtain ⟨n, os, rfl⟩ := h
  intro k hk hne
  unfold sortWorldK putRowK putRow
  rw [heap_grow_old _ _ (by simpa [mapBlock, ahead] using hk)]
  simp [mapBlock, ahead, Array.getElem?_modify, hne, Ne.symm hne]
 ·obtain ⟨n, os, rfl⟩ := h
  exact ⟨rfl, rfl, rfl⟩
set_option maxHeartbeats 1000000 in
theorem Yhj (p : Option Addr) (c : Nat) (fv : Value) (w : World) : Calls Tryz.prog 172 #[.slice p 0 c, .int .i64 0, .int .i64 0, fv] w fun e w' => e = .returned (.tuple #[]) ∧ w' = w := by
 go_enter Tryz.func172, Tryz.ntmps172
 go_wp2
 go_loopg [8] 0 (fun kx s8 wr => s8 = .int .i64 1 ∧ wr = w)
 case atStart => exact ⟨by first | rfl | go_num, rfl⟩
 case round =>
  obtain ⟨rfl, rfl⟩ := hrel
  go_wp2
  go_end0
  exact ⟨rfl, rfl⟩
set_option maxHeartbeats 1000000 in
theorem Yi9 (p : Option Addr) (c : Nat) (fv : Value) (w : World) : Calls Tryz.prog 170 #[.slice p 0 c, .int .i64 0, fv] w fun e w' => e = .returned (.tuple #[]) ∧ w' = w := by
 have hi := Yhj p c fv
 go_enter Tryz.func170, Tryz.ntmps170
 go_wp2
 go_loopg [7, 8] 0 (fun kx s7 s8 wr => s7 = .int .i64 0 ∧ s8 = .int .i64 20 ∧ wr = w)
 case atStart => exact ⟨rfl, rfl, rfl⟩
 case round =>
  obtain ⟨rfl, rfl, rfl⟩ := hrel
  go_wp2_with (go_at_call 172; refine (hi _).mono ?_; rintro e w' ⟨rfl, rfl⟩)
  go_loopg [6] 0 (fun kx s6 wr => s6 = .int .i64 20 ∧ wr = w')
  case atStart => exact ⟨rfl, rfl⟩
  case round =>
   obtain ⟨rfl, rfl⟩ := hrel
   go_wp2
   go_end0
   exact ⟨rfl, rfl⟩
theorem Yql (p : Option Addr) (c : Nat) (fv : Value) (w : World) : Calls Tryz.prog 161 #[.slice p 0 c, fv] w fun e w' => e = .returned (.tuple #[]) ∧ w' = w := by
 have hi := Yi9 p c fv
 go_enter Tryz.func161, Tryz.ntmps161
 go_wp2_with (go_at_call 170; refine (hi _).mono ?_; rintro e w' ⟨rfl, rfl⟩)
 go_end0
 exact ⟨rfl, rfl⟩
end Go.Proofs.YtkkfkmoikcmhoaaGreat.Lp
namespace Go.Proofs.YtkkfkmoikcmhoaaGreat.Lp
open Go.RowKit Go.Sort Oct Lm
set_option maxRecDepth 100000
def Lst (w : World) (lo : Nat) (ix : Nat → Nat) (f : List Nat) (l : Nat) (v : Value) (z : List (Tree × Pk)) : Prop :=
 ∃ p lb cap, v = .slice p z.length cap ∧ (z.length ≠ 0 → p = some ⟨lb, 0, none⟩ ∧ lo ≤ lb ∧ lb < w.heap.size) ∧ (p = none → cap = 0) ∧ z.length ≤ cap ∧ PRow w lb (z.map Prod.snd) ∧ (∀ x ∈ z, Mn w lo lb ix x.1 x.2) ∧ Y2w f l (z.map Prod.fst)
structure Sgl (S : List Pk) (f : List Nat) (ix : Nat → Nat) : Prop where
 len : S.length = f.length
 leaf : ∀ r, r < f.length → Mn default 0 0 ix (.leaf (f.getD r 0) r) (S.getD r default)
def zL (f : List Nat) (S : List Pk) : List (Tree × Pk) := (List.range f.length).map fun r => (.leaf (f.getD r 0) r, S.getD r default)
theorem Yzn (f : List Nat) (S : List Pk) : (zL f S).map Prod.fst = Y12 f := by unfold zL Y12; rw [List.map_map]; rfl
theorem Yzo {f : List Nat} {S : List Pk} {ix : Nat → Nat} (h : Sgl S f ix) : (zL f S).map Prod.snd = S := by
 unfold zL
 rw [List.map_map]
 refine List.ext_getElem (by simp [h.len]) (fun i h1 h2 => ?_)
 simp only [List.getElem_map, List.getElem_range, Function.comp]
 rw [List.getD_eq_getElem?_getD, List.getElem?_eq_getElem h2]
 rfl
def zP (lb cap : Nat) (z : List (Tree × Pk)) : List (Tree × Pk) :=
 (List.range (z.length / 2)).map fun i => (.node ((z.map Prod.fst).getD (2 * i) (.leaf 0 0)) ((z.map Prod.fst).getD (2 * i + 1) (.leaf 0 0)), Y7e lb cap (z.map Prod.snd) i)
theorem Yzq (lb cap : Nat) (z : List (Tree × Pk)) : (zP lb cap z).map Prod.snd = (List.range ((z.map Prod.snd).length / 2)).map (Y7e lb cap (z.map Prod.snd)) := by
 unfold zP; rw [List.map_map, List.length_map]; rfl
theorem Yzp (lb cap : Nat) (z : List (Tree × Pk)) : (zP lb cap z).map Prod.fst = Y33 (z.map Prod.fst) := by
 have key : (zP lb cap z).map Prod.fst = (List.range (z.length / 2)).map fun i => .node ((z.map Prod.fst).getD (2 * i) (.leaf 0 0)) ((z.map Prod.fst).getD (2 * i + 1) (.leaf 0 0)) := by unfold zP; rw [List.map_map]; rfl
 rw [key]
 refine List.ext_getElem (by simp [Y40]) (fun i h1 h2 => ?_)
 rw [Y40, List.length_map] at h2
 have h3 : 2 * i + 1 < (z.map Prod.fst).length := by rw [List.length_map]; omega
 have h4 := Yfx (z.map Prod.fst) i h3
 obtain ⟨_, h5⟩ := List.getElem?_eq_some_iff.1 h4
 rw [h5]
 simp only [List.getElem_map, List.getElem_range]
 rw [List.getD_eq_getElem?_getD, List.getElem?_eq_getElem (show 2 * i < (z.map Prod.fst).length by omega), List.getD_eq_getElem?_getD, List.getElem?_eq_getElem h3]
 simp
theorem Yt5 {w : World} {lo hi : Nat} {ix : Nat → Nat} {a b : Nat} {p : Pk} (h : Mn default 0 0 ix (.leaf a b) p) : Mn w lo hi ix (.leaf a b) p := h
theorem Yye {w : World} {lo lb cap hi : Nat} {ix : Nat → Nat} {z : List (Tree × Pk)} (hr : PRow w lb (z.map Prod.snd)) (hm : ∀ x ∈ z, Mn w lo lb ix x.1 x.2) (hlo : z.length ≠ 0 → lo ≤ lb ∧ lb < hi) (hcap : z.length ≤ cap) : ∀ x ∈ zP lb cap z, Mn w lo hi ix x.1 x.2 := by
 intro x hx
 unfold zP at hx
 obtain ⟨i, hi', rfl⟩ := List.mem_map.1 hx
 have hi' : i < z.length / 2 := by simpa using hi'
 have h0 : 2 * i < z.length := by omega
 have h1 : 2 * i + 1 < z.length := by omega
 obtain ⟨l1, l2⟩ := hlo (by omega)
 have g0 : (z.map Prod.fst).getD (2 * i) (.leaf 0 0) = z[2 * i].1 := by rw [List.getD_eq_getElem?_getD, List.getElem?_map, List.getElem?_eq_getElem h0]; rfl
 have g1 : (z.map Prod.fst).getD (2 * i + 1) (.leaf 0 0) = z[2 * i + 1].1 := by rw [List.getD_eq_getElem?_getD, List.getElem?_map, List.getElem?_eq_getElem h1]; rfl
 have k0 : (z.map Prod.snd).getD (2 * i) default = z[2 * i].2 := by rw [List.getD_eq_getElem?_getD, List.getElem?_map, List.getElem?_eq_getElem h0]; rfl
 have k1 : (z.map Prod.snd).getD (2 * i + 1) default = z[2 * i + 1].2 := by rw [List.getD_eq_getElem?_getD, List.getElem?_map, List.getElem?_eq_getElem h1]; rfl
 have m0 := hm _ (List.getElem_mem h0)
 have m1 := hm _ (List.getElem_mem h1)
 have q0 := hr (2 * i) (by rw [List.length_map]; exact h0)
 have q1 := hr (2 * i + 1) (by rw [List.length_map]; exact h1)
 rw [List.getElem_map] at q0 q1
 rw [show (2 * i + 1) * 3 = 2 * i * 3 + 3 by omega] at q1
 show Mn w lo hi ix (.node _ _) (Y7e lb cap (z.map Prod.snd) i)
 rw [g0, g1]
 refine ⟨?_, rfl, by show 2 ≤ cap - 2 * i; omega, lb, 2 * i * 3, z[2 * i].2, z[2 * i + 1].2, rfl, l1, l2, q0, q1, m0.keep (Nat.le_of_lt l2) (fun k _ _ => rfl), m1.keep (Nat.le_of_lt l2) (fun k _ _ => rfl)⟩
 show ((z.map Prod.snd).getD (2 * i) default).wt + ((z.map Prod.snd).getD (2 * i + 1) default).wt = _
 rw [k0, k1, m0.wt, m1.wt]
 omega
theorem Yg6 : ∀ (M : List Nat), (∀ i j (hj : j < M.length) (hij : i < j), M[i]'(Nat.lt_trans hij hj) ≤ M[j]) → Rising M
 | [], _ => trivial
 | x :: M, h => by
  refine Rising.cons (Yg6 M (fun i j hj hij => ?_)) (fun y hy => ?_)
  ·have := h (i + 1) (j + 1) (by simp; omega) (by omega)
   simpa using this
  ·obtain ⟨j, hj, rfl⟩ := List.getElem_of_mem hy
   have := h 0 (j + 1) (by simp; omega) (by omega)
   simpa using this
theorem POwn.fz {w : World} {base g n c : Nat} {zs : List Pk} (h : POwn w base (.slice (some ⟨g, 0, none⟩) n c) zs) (i : Nat) : w.frozen? ⟨g, i, none⟩ = false := by
 rcases h.2 with ⟨h0, _⟩ | ⟨g', cap, cur, he, _, hh, _⟩
 ·cases h0
 ·injection he with e1 e2 e3
  injection e1 with e1
  injection e1 with e1
  subst e1
  simp [World.frozen?, hh]
theorem Ym2 {w w' : World} {lo g l : Nat} {ix : Nat → Nat} {f : List Nat} {z zc : List (Tree × Pk)} {d : Array Pk} (hz : Y2w f l (z.map Prod.fst)) (hc : zc.map Prod.fst = Y12 f ++ Y33 (z.map Prod.fst)) (hd : zc.map Prod.snd = d.toList) (hm : ∀ x ∈ zc, Mn w lo g ix x.1 x.2)
  {d' : Array Pk} (hS : SWK Yha 3 w g 0 d' w') (hH : HoldsK Yha 3 w g 0 d) (hg : g < w.heap.size) (hp : PermIn 0 d.size d d') (hs : SortedIn (ltOf Yrr) 0 d.size d') :
  ∃ z' : List (Tree × Pk), z'.length = zc.length ∧ PRow w' g (z'.map Prod.snd) ∧ (∀ x ∈ z', Mn w' lo g ix x.1 x.2) ∧ Y2w f (l + 1) (z'.map Prod.fst) := by
 have hsz : d'.size = d.size := hp.1
 have hpl : d'.toList.Perm d.toList := by
  have h := hp.2.2
  have e1 : d.extract 0 d.size = d := by simp
  have e2 : d'.extract 0 d.size = d' := by rw [← hsz]; simp
  rw [e1, e2] at h
  exact h
 obtain ⟨z', pz, ez⟩ := Yv5 hpl zc hd
 have hold := hS.holds hg hH hsz
 obtain ⟨_, hkeep, _⟩ := Yk4 hS
 have hmz : ∀ x ∈ z', Mn w' lo g ix x.1 x.2 := fun x hx => (hm x (pz.mem_iff.1 hx)).keep (Nat.le_refl _) (fun k _ hk => hkeep k (by omega) (by omega))
 refine ⟨z', pz.length_eq, by rw [ez]; exact Yma hold, hmz, ?_, z.map Prod.fst, hz, by rw [← hc]; exact pz.map _⟩
 refine Yg6 _ (fun i j hj hij => ?_)
 have hzl : z'.length = d'.size := by rw [← Array.length_toList, ← ez, List.length_map]
 have hjz : j < z'.length := by simpa using hj
 have hiz : i < z'.length := by omega
 simp only [List.getElem_map]
 have w1 := (hmz _ (List.getElem_mem hiz)).wt
 have w2 := (hmz _ (List.getElem_mem hjz)).wt
 have e1 : d'[i]! = z'[i].2 := by
  rw [getElem!_pos d' i (by omega), ← Array.getElem_toList]
  simp only [← ez, List.getElem_map]
 have e2 : d'[j]! = z'[j].2 := by
  rw [getElem!_pos d' j (by omega), ← Array.getElem_toList]
  simp only [← ez, List.getElem_map]
 have hlt := hs i j (by omega) hij (by omega)
 rw [ltP, e1, e2, w1, w2] at hlt
 have := of_decide_eq_false hlt
 omega
end Go.Proofs.YtkkfkmoikcmhoaaGreat.Lp
namespace Go.Proofs.YtkkfkmoikcmhoaaGreat.Lp
open Go.RowKit Go.Sort Oct Lm
set_option maxRecDepth 100000
theorem Y0z (w : World) (x y : Value) (T : TypeId) : (w.alloc (.cells #[x, y] T)).cell? ⟨w.heap.size, 0, none⟩ = some x ∧ (w.alloc (.cells #[x, y] T)).cell? ⟨w.heap.size, 1, none⟩ = some y := by
 have h := heap_alloc_last w (.cells #[x, y] T)
 exact ⟨by unfold World.cell?; dsimp only; rw [h]; rfl, by unfold World.cell?; dsimp only; rw [h]; rfl⟩
def Yyu (w : World) (ix : Nat → Nat) (f : List Nat) (most : Nat) (e : Ending) (w' : World) : Prop :=
 ∃ (p : Option Addr) (lb cap : Nat) (z : List (Tree × Pk)), e = .returned (.slice p (2 * (f.length - 1)) cap) ∧ (2 ≤ f.length → p = some ⟨lb, 0, none⟩ ∧ w.heap.size ≤ lb ∧ lb < w'.heap.size) ∧ PRow w' lb (z.map Prod.snd) ∧ (∀ x ∈ z, Mn w' w.heap.size lb ix x.1 x.2) ∧ Y2w f most (z.map Prod.fst) ∧ 2 * (f.length - 1) ≤ z.length ∧ Below w.heap.size w w'
theorem Ylk (W : World) (p : Option Addr) (len cap k : Nat) (h : k ≤ cap) (hp : p = none → cap = 0) :
  (Instr.slice 218 (.slice p len cap) none (some (.int .i64 (k : Int))) none).run Tryz.prog W = .ok (.slice p k cap) W := by
 have ht' : Tryz.prog.underlying 218 = some (.slice (Tryz.prog.elem 218)) := by kernel_rfl
 have he : Tryz.prog.elem 218 = 221 := by kernel_rfl
 rw [run_slice_h W 218 p len cap ht' .i64 _ (by omega) (by omega), he, Sm.Yu8]
 rcases p with _ | a
 ·have := hp rfl
  subst this
  simp [Result.andThen, sliced]
 ·simp only [Result.andThen_ok, sliced, Int.toNat_natCast]
  obtain ⟨b, o, s⟩ := a
  by_cases h0 : cap = 0
  ·simp [h0]
  ·rw [if_neg h0]
   simp [Addr.add]
set_option maxHeartbeats 8000000 in
theorem Yfj (p : Option Addr) (n cap most : Nat) (S : List Pk) (f : List Nat) (ix : Nat → Nat) (w : World) (hS : Sgl S f ix) (hn : n = S.length) (hpv : PV w w.heap.size p S) (hpc : p = none → cap = 0) (hl : n ≤ 1000) (hm1 : 1 ≤ most) (hm : most ≤ 30) (hf1 : ∀ x ∈ f, 1 ≤ x) (hf2 : ∀ x ∈ f, x ≤ 1073741824) (hnm : f.length ≤ 2 ^ most) :
  Calls Tryz.prog 146 #[.slice p n cap, .int .i64 most] w (Yyu w ix f most) := by
 have H0 : Hid (Sgl S f ix ∧ n = S.length ∧ PV w w.heap.size p S ∧ (p = none → cap = 0) ∧ (∀ x ∈ f, 1 ≤ x) ∧ (∀ x ∈ f, x ≤ 1073741824) ∧ f.length ≤ 2 ^ most) := ⟨hS, hn, hpv, hpc, hf1, hf2, hnm⟩
 have HST : Hid (Lst w w.heap.size ix f 0 (.slice none 0 0) [] ∧ Below w.heap.size w w) := ⟨⟨none, 0, 0, rfl, fun h => absurd rfl h, fun _ => rfl, Nat.le_refl _, fun i hi => by simp at hi, fun x hx => absurd hx List.not_mem_nil, rfl⟩, Below.refl _ _⟩
 clear hS hn hpv hpc hf1 hf2 hnm
 go_enter Tryz.func146, Tryz.ntmps146
 go_wp2
 go_loopg [5, 7] most (fun kx s5 s7 wr => ∃ (l : Nat) (z : List (Tree × Pk)), s7 = .int .i64 (l : Int) ∧ l ≤ most ∧ most - l ≤ kx ∧ Hid (Lst wr w.heap.size ix f l s5 z ∧ Below w.heap.size w wr))
 case atStart => exact ⟨0, [], rfl, by omega, by omega, HST⟩
 case round =>
  clear HST
  obtain ⟨l, z, rfl, hlm, hkx, HR⟩ := hrel
  obtain ⟨⟨q, lb, c, rfl, e1, e2, e3, e4, e5, e6⟩, hb⟩ := HR.out
  by_cases hlt : l < most
  ·have hkz : (l : Int) < (most : Int) := by omega
   obtain ⟨h1, h2, h3, h4, h5, h6, h7⟩ := H0.out
   have hzl : z.length ≤ 2 * f.length := by have := Y8r e6; rwa [List.length_map] at this
   have hpow : 2 ^ l ≤ 2 ^ 29 := Nat.pow_le_pow_right (by omega) (by omega)
   have hbd : ∀ x ∈ z.map Prod.snd, 0 ≤ x.wt ∧ x.wt ≤ 2305843009213693952 := by
    intro x hx
    obtain ⟨y, hy, rfl⟩ := List.mem_map.1 hx
    have a1 := (e5 y hy).wt
    have a2 := (Y4u h6 e6 y.1 (List.mem_map_of_mem hy)).1
    rw [a1]
    have : (2 : Nat) ^ 29 = 536870912 := by decide
    generalize 2 ^ l = x2 at hpow a2
    omega
   have hpr := Yq4 q lb z.length c (z.map Prod.snd) wr (fun h => (e1 h).1) (by rw [List.length_map]) e4 (fun h => (e1 h).2.2) (by have := h1.len; omega) e3 hbd
   have HZ : Hid ((z.length ≠ 0 → q = some ⟨lb, 0, none⟩ ∧ w.heap.size ≤ lb ∧ lb < wr.heap.size) ∧ z.length ≤ c ∧ PRow wr lb (z.map Prod.snd) ∧ (∀ x ∈ z, Mn wr w.heap.size lb ix x.1 x.2) ∧ Y2w f l (z.map Prod.fst) ∧ Below w.heap.size w wr ∧ z.length ≤ 2 * f.length) := ⟨e1, e3, e4, e5, e6, hb, hzl⟩
   clear e1 e2 e3 e4 e5 e6 hb hzl hbd h1 h2 h3 h4 h5 h6 h7 HR hpow
   go_wp2_with (go_at_call 160; refine hpr.mono ?_; rintro e w1 ⟨rfl, pr1, sz1, be1⟩)
   clear hpr
   rw [List.length_map] at *
   have HP : Hid (PRow w1 wr.heap.size ((zP lb c z).map Prod.snd) ∧ wr.heap.size < w1.heap.size ∧ Below wr.heap.size wr w1 ∧ (zP lb c z).length = z.length / 2) := ⟨by rw [Yzq, List.length_map]; exact pr1, sz1, be1, by simp [zP]⟩
   clear pr1 sz1 be1
   have hcell := Y0z w1 (.slice p n cap) (.slice (some ⟨wr.heap.size, 0, none⟩) (z.length / 2) (z.length / 2)) 218
   have hbw : Below wr.heap.size wr (w1.alloc (.cells #[.slice p n cap, .slice (some ⟨wr.heap.size, 0, none⟩) (z.length / 2) (z.length / 2)] 218)) := HP.out.2.2.1.trans (((Below.refl _ w1).alloc (Nat.le_refl _) _).mono (Nat.le_of_lt HP.out.2.1))
   have hsz2 : w1.heap.size < (w1.alloc (.cells #[.slice p n cap, .slice (some ⟨wr.heap.size, 0, none⟩) (z.length / 2) (z.length / 2)] 218)).heap.size := by simp
   have hkp := ((Y18 (fun _ => False) w1 (.cells #[.slice p n cap, .slice (some ⟨wr.heap.size, 0, none⟩) (z.length / 2) (z.length / 2)] 218)).2.2.2.2 wr.heap.size HP.out.2.1 (fun h => h))
   generalize w1.alloc (.cells #[.slice p n cap, .slice (some ⟨wr.heap.size, 0, none⟩) (z.length / 2) (z.length / 2)] 218) = w2 at hcell hbw hsz2 hkp ⊢
   have hcat := Y82 w1.heap.size 2 p (some ⟨wr.heap.size, 0, none⟩) cap (z.length / 2) S ((zP lb c z).map Prod.snd) w2 hsz2 (by rw [← H0.out.2.1]; exact hcell.1) (by rw [List.length_map, HP.out.2.2.2]; exact hcell.2)
    ((H0.out.2.2.1.below (HZ.out.2.2.2.2.2.1.trans (hbw.mono HZ.out.2.2.2.2.2.1.size)) (Nat.le_refl _)).mono (by have := HZ.out.2.2.2.2.2.1.size; have := hbw.size; omega))
    (fun _ => ⟨wr.heap.size, rfl, by have := HP.out.2.1; omega, HP.out.1.keep hkp⟩) H0.out.2.2.2.1 (fun h => by cases h) ⟨by have := H0.out.2.1; omega, by rw [List.length_map, HP.out.2.2.2]; have := HZ.out.2.2.2.2.2.2; have := H0.out.1.len; have := H0.out.2.1; omega⟩
   refine hcat.mono ?_
   rintro e w3 ⟨v, rfl, ho, hb3⟩
   have H3 : Hid (POwn w3 w2.heap.size v (S ++ (zP lb c z).map Prod.snd) ∧ Below wr.heap.size wr w3 ∧ wr.heap.size < w2.heap.size) := ⟨ho, hbw.trans (hb3.mono hbw.size), by have := HP.out.2.1; omega⟩
   clear hcat hcell hbw hsz2 hkp ho hb3
   obtain ⟨q2, c2, rfl, hq0, hle, hmx, hpv, hge⟩ := H3.out.1.shape
   by_cases h0 : (S ++ (zP lb c z).map Prod.snd).length = 0
   ·rw [h0]
    have hsn := Yql q2 c2 (.func (.func 162) #[] #[])
    have H4 : Hid (q2 = none → c2 = 0) := hq0
    have hS0 : S = [] ∧ z = [] := by
     simp only [List.length_append, List.length_map] at h0
     have h1 : S.length = 0 := by omega
     refine ⟨List.eq_nil_of_length_eq_zero h1, List.eq_nil_of_length_eq_zero ?_⟩
     have := HZ.out.2.2.2.2.2.2
     have := H0.out.1.len
     omega
    have HN : Hid (Lst w3 w.heap.size ix f (l + 1) (.slice q2 0 c2) [] ∧ Below w.heap.size w w3) := by
     obtain ⟨hs1, rfl⟩ := hS0
     have hf0 : f = [] := List.eq_nil_of_length_eq_zero (by rw [← H0.out.1.len, hs1]; rfl)
     refine ⟨⟨q2, 0, c2, rfl, fun h => absurd rfl h, hq0, Nat.zero_le _, fun i hi => by simp at hi, fun x hx => absurd hx List.not_mem_nil, trivial, [], HZ.out.2.2.2.2.1, ?_⟩, HZ.out.2.2.2.2.2.1.trans (H3.out.2.1.mono HZ.out.2.2.2.2.2.1.size)⟩
     rw [hf0]
     exact List.Perm.refl _
    clear hq0 hle hmx hpv hge h0 hS0
    go_wp2_with (go_at_call 161; refine (hsn _).mono ?_; rintro e w' ⟨rfl, rfl⟩)
    go_roundg (most - (l + 1))
    case measure => omega
    case rel => exact ⟨l + 1, [], by go_num, by omega, Nat.le_refl _, HN⟩
   ·obtain ⟨g, rfl, hg, hrow⟩ := hpv (by omega)
    have hgb := hge _ rfl
    have hgb : w2.heap.size ≤ g := hgb
    have hH := Ysy hrow H3.out.1.fz
    have hlen : (S ++ (zP lb c z).map Prod.snd).length ≤ 100000 := by
     rw [List.length_append, List.length_map, HP.out.2.2.2]
     have := HZ.out.2.2.2.2.2.2; have := H0.out.1.len; have := H0.out.2.1; omega
    have hso := Yme g 0 c2 _ w3 hH hg (by rw [List.size_toArray]; omega)
    rw [List.size_toArray] at hso
    have HH : Hid (HoldsK Yha 3 w3 g 0 (S ++ (zP lb c z).map Prod.snd).toArray ∧ g < w3.heap.size ∧ w2.heap.size ≤ g ∧ (S ++ (zP lb c z).map Prod.snd).length ≤ c2) := ⟨hH, hg, hgb, hle⟩
    have HLN : Hid ((S ++ (zP lb c z).map Prod.snd).length = (zL f S ++ zP lb c z).length) := by
     show _ = _
     rw [List.length_append, List.length_append, List.length_map, HP.out.2.2.2]; simp [zL, H0.out.1.len]
    clear hq0 hle hmx hpv hge h0 hg hrow hgb hH
    generalize hnn : (S ++ (zP lb c z).map Prod.snd).length = nn at hso hlen
    have HNN : Hid ((S ++ (zP lb c z).map Prod.snd).length = nn) := hnn
    clear hnn
    go_wp2_with (go_at_call 161; refine hso.mono ?_; rintro e w4 ⟨rfl, d', hS4, hp4, hs4⟩)
    clear hso
    have HN : Hid (∃ z', Lst w4 w.heap.size ix f (l + 1) (.slice (some ⟨g, 0, none⟩) nn c2) z' ∧ Below w.heap.size w w4) := by
     obtain ⟨b1, b2, b3, b4⟩ := HH.out
     have hwlt : w.heap.size ≤ wr.heap.size := HZ.out.2.2.2.2.2.1.size
     have hwr2 := H3.out.2.2
     have hmz : ∀ x ∈ zL f S ++ zP lb c z, Mn w3 w.heap.size g ix x.1 x.2 := by
      intro x hx
      rcases List.mem_append.1 hx with hx | hx
      ·unfold zL at hx
       obtain ⟨r, hr, rfl⟩ := List.mem_map.1 hx
       exact Yt5 (H0.out.1.leaf r (by simpa using hr))
      ·exact (Yye (hi := wr.heap.size) HZ.out.2.2.1 HZ.out.2.2.2.1 (fun h => (HZ.out.1 h).2) HZ.out.2.1 x hx).keep (by omega) (fun k _ hk => H3.out.2.1.block k hk)
     have hsz4 : (S ++ (zP lb c z).map Prod.snd).toArray.size = nn := by rw [List.size_toArray]; exact HNN.out
     obtain ⟨z', e1, e2, e3, e4⟩ := Ym2 (z := z) (zc := zL f S ++ zP lb c z) (d := (S ++ (zP lb c z).map Prod.snd).toArray) HZ.out.2.2.2.2.1 (by rw [List.map_append, Yzn, Yzp]) (by rw [List.map_append, Yzo H0.out.1]) hmz hS4 b1 b2 (by rw [hsz4]; exact hp4) (by rw [hsz4]; exact hs4)
     have hlz : z'.length = nn := by rw [e1, ← HLN.out]; exact HNN.out
     obtain ⟨k1, k2, k3, k4, k5⟩ := Yk4 hS4
     refine ⟨z', ⟨some ⟨g, 0, none⟩, g, c2, by rw [hlz], fun _ => ⟨rfl, by omega, by omega⟩, fun h => (by cases h), by rw [hlz, ← HNN.out]; exact b4, e2, e3, e4⟩, ?_⟩
     have hB3 := HZ.out.2.2.2.2.2.1.trans (H3.out.2.1.mono hwlt)
     exact ⟨k3.trans hB3.os, k4.trans hB3.tape, k5.trans hB3.output, Nat.le_trans hB3.size k1, fun k hk => (k2 k (by omega) (by omega)).trans (hB3.block k hk)⟩
    clear hS4 hp4 hs4
    go_roundg (most - (l + 1))
    case measure => omega
    case rel =>
     obtain ⟨z', hN⟩ := HN.out
     exact ⟨l + 1, z', by go_num, by omega, Nat.le_refl _, hN⟩
  ·have hkz : ¬ (l : Int) < (most : Int) := by omega
   have hlm2 : l = most := by omega
   subst hlm2
   obtain ⟨h1, h2, h3, h4, h5, h6, h7⟩ := H0.out
   have hnf : n = f.length := by rw [h2, h1.len]
   have hmany : 2 * (f.length - 1) ≤ z.length := by
    by_cases h9 : 2 ≤ f.length
    ·have := Yg0 hm1 hm h9 h5 h7
     rw [← e6.parcels] at this
     simpa using this
    ·omega
   have hmax : max ((n : Int) - 1) 0 = ((n - 1 : Nat) : Int) := by omega
   obtain ⟨k, hk⟩ : ∃ k, k = 2 * (n - 1) := ⟨_, rfl⟩
   have hw1 : IntKind.i64.wrap ((n : Int) - 1) = (n : Int) - 1 := by rw [IntKind.wrap_i64]; omega
   have hw2 : IntKind.i64.wrap (2 * ((n - 1 : Nat) : Int)) = (k : Int) := by rw [IntKind.wrap_i64]; omega
   have hsl := fun W => Ylk W q z.length c k (by omega) e2
   have HK : Hid (k = 2 * (f.length - 1)) := by show _ = _; rw [hk, hnf]
   have HNF : Hid (n = f.length) := hnf
   have HF : Hid ((z.length ≠ 0 → q = some ⟨lb, 0, none⟩ ∧ w.heap.size ≤ lb ∧ lb < wr.heap.size) ∧ PRow wr lb (z.map Prod.snd) ∧ (∀ x ∈ z, Mn wr w.heap.size lb ix x.1 x.2) ∧ Y2w f l (z.map Prod.fst) ∧ 2 * (f.length - 1) ≤ z.length ∧ Below w.heap.size w wr) := ⟨e1, e4, e5, e6, hmany, hb⟩
   clear h1 h2 h3 h4 h5 h6 h7 hnf e1 e4 e5 e6 hmany hb hk HR
   go_wp2
   go_ret
   obtain ⟨a1, a2, a3, a4, a5, a6⟩ := HF.out
   exact ⟨q, lb, c, z, by rw [← HK.out]; rfl, fun h => a1 (by omega), a2, a3, a4, a5, a6⟩
end Go.Proofs.YtkkfkmoikcmhoaaGreat.Lp
namespace Go.Proofs.YtkkfkmoikcmhoaaGreat.Lp
open Go.RowKit Oct Lm
set_option maxRecDepth 100000
def Y0y : List Int → Nat → List Pk
 | [], _ => []
 | z :: zs, s => if 0 < z then ⟨z, (s : Int), none, 0, 0⟩ :: Y0y zs (s + 1) else Y0y zs (s + 1)
theorem Ygf (a b : List Int) (s : Nat) : Y0y (a ++ b) s = Y0y a s ++ Y0y b (s + a.length) := by
 induction a generalizing s with
 | nil => rfl
 | cons x a ih =>
  rw [List.cons_append]
  simp only [Y0y]
  rw [ih (s + 1), show s + 1 + a.length = s + (x :: a).length by simp; omega]
  split <;> rfl
theorem Yqw (zs : List Int) (k : Nat) (h : k ≤ zs.length) : syms zs k = Y0y (zs.take k) 0 := by
 induction k with
 | zero => simp [syms, Y0y]
 | succ k ih =>
  have hk : k < zs.length := by omega
  simp only [syms]
  rw [ih (by omega), List.take_succ_eq_append_getElem hk, Ygf, List.length_take, Nat.min_eq_left (by omega), Nat.zero_add]
  have hg : zs.getD k 0 = zs[k] := by rw [List.getD_eq_getElem?_getD, List.getElem?_eq_getElem hk]; rfl
  rw [hg]
  simp only [Y0y]
theorem Yk6 (zs : List Int) : syms zs zs.length = Y0y zs 0 := by rw [Yqw zs _ (Nat.le_refl _), List.take_length]
def Y0d (zs : List Int) : List Nat := zs.map Int.toNat
theorem Y9v (zs : List Int) (s : Nat) : come (Y0d zs) = (Y0y zs s).map fun p => p.wt.toNat := by
 induction zs generalizing s with
 | nil => rfl
 | cons z zs ih =>
  have ih := ih (s + 1)
  unfold come Y0d at ih ⊢
  rw [List.map_cons]
  simp only [Y0y]
  by_cases h : 0 < z
  ·rw [if_pos h, List.filter_cons_of_pos (by simp; omega), List.map_cons, ih]
  ·rw [if_neg h, List.filter_cons_of_neg (by simp; omega), ih]
theorem Y67 (zs : List Int) (s : Nat) : ∀ p ∈ Y0y zs s, ∃ i, i < zs.length ∧ p = ⟨zs.getD i 0, ((s + i : Nat) : Int), none, 0, 0⟩ ∧ 0 < zs.getD i 0 := by
 induction zs generalizing s with
 | nil => intro p hp; cases hp
 | cons z zs ih =>
  intro p hp
  have key : p ∈ Y0y zs (s + 1) → ∃ i, i < (z :: zs).length ∧ p = ⟨(z :: zs).getD i 0, ((s + i : Nat) : Int), none, 0, 0⟩ ∧ 0 < (z :: zs).getD i 0 := fun h => by
   obtain ⟨i, h1, h2, h3⟩ := ih (s + 1) p h
   exact ⟨i + 1, by simp; omega, by rw [h2, show s + 1 + i = s + (i + 1) by omega]; rfl, h3⟩
  simp only [Y0y] at hp
  by_cases h : 0 < z
  ·rw [if_pos h] at hp
   rcases List.mem_cons.1 hp with rfl | hp
   ·exact ⟨0, by simp, rfl, h⟩
   ·exact key hp
  ·rw [if_neg h] at hp
   exact key hp
theorem Yqv (zs : List Int) (s : Nat) : (Y0y zs s).Pairwise fun p q => p.sym < q.sym := by
 induction zs generalizing s with
 | nil => exact List.Pairwise.nil
 | cons z zs ih =>
  simp only [Y0y]
  split
  ·refine List.Pairwise.cons (fun q hq => ?_) (ih _)
   obtain ⟨i, _, rfl, _⟩ := Y67 zs (s + 1) q hq
   show (s : Int) < ((s + 1 + i : Nat) : Int)
   omega
  ·exact ih _
def ixOf (zs : List Int) (r : Nat) : Nat := ((Y0y zs 0).getD r default).sym.toNat
theorem Y44 (zs : List Int) (r : Nat) (h : r < (Y0y zs 0).length) : (Y0y zs 0).getD r default = (Y0y zs 0)[r] := by rw [List.getD_eq_getElem?_getD, List.getElem?_eq_getElem h]; rfl
theorem sgl (zs : List Int) : Sgl (Y0y zs 0) (come (Y0d zs)) (ixOf zs) := by
 have e := Y9v zs 0
 have hlen : (Y0y zs 0).length = (come (Y0d zs)).length := by rw [e, List.length_map]
 refine ⟨hlen, fun r hr => ?_⟩
 have hr' : r < (Y0y zs 0).length := by omega
 obtain ⟨i, h1, h2, h3⟩ := Y67 zs 0 _ (List.getElem_mem hr')
 have hix : ixOf zs r = i := by unfold ixOf; rw [Y44 zs r hr', h2]; simp
 have hf : (come (Y0d zs)).getD r 0 = (Y0y zs 0)[r].wt.toNat := by
  rw [List.getD_eq_getElem?_getD, e, List.getElem?_map, List.getElem?_eq_getElem hr']; rfl
 rw [Y44 zs r hr', hf]
 show (Y0y zs 0)[r].wt = _ ∧ (Y0y zs 0)[r].sym = _ ∧ (Y0y zs 0)[r].ptr = none ∧ (Y0y zs 0)[r].len = 0 ∧ (Y0y zs 0)[r].cap = 0
 have q1 : (Y0y zs 0)[r].wt = zs.getD i 0 := by rw [h2]
 have q2 : (Y0y zs 0)[r].sym = ((0 + i : Nat) : Int) := by rw [h2]
 refine ⟨?_, ?_, by rw [h2], by rw [h2], by rw [h2]⟩
 ·omega
 ·rw [hix, q2]; omega
theorem Yt3 (zs : List Int) (r : Nat) (h : r < (come (Y0d zs)).length) : ixOf zs r < zs.length := by
 have hr' : r < (Y0y zs 0).length := by rw [Y9v zs 0, List.length_map] at h; exact h
 obtain ⟨i, h1, h2, h3⟩ := Y67 zs 0 _ (List.getElem_mem hr')
 unfold ixOf
 rw [Y44 zs r hr', h2]
 simpa using h1
theorem Yve (zs : List Int) (r : Nat) (h : r < (come (Y0d zs)).length) : 0 < zs.getD (ixOf zs r) 0 := by
 have hr' : r < (Y0y zs 0).length := by rw [Y9v zs 0, List.length_map] at h; exact h
 obtain ⟨i, h1, h2, h3⟩ := Y67 zs 0 _ (List.getElem_mem hr')
 have e : ixOf zs r = i := by unfold ixOf; rw [Y44 zs r hr', h2]; simp
 rw [e]
 exact h3
theorem Yz5 (zs : List Int) {r s : Nat} (hr : r < (come (Y0d zs)).length) (hs : s < (come (Y0d zs)).length) (h : ixOf zs r = ixOf zs s) : r = s := by
 have hl : (Y0y zs 0).length = (come (Y0d zs)).length := (sgl zs).len
 have key : ∀ a b, a < b → b < (Y0y zs 0).length → ixOf zs a ≠ ixOf zs b := by
  intro a b hab hb
  have h1 := (List.pairwise_iff_getElem.1 (Yqv zs 0)) a b (by omega) hb hab
  obtain ⟨i, _, h2, _⟩ := Y67 zs 0 _ (List.getElem_mem (show a < (Y0y zs 0).length by omega))
  obtain ⟨j, _, h3, _⟩ := Y67 zs 0 _ (List.getElem_mem hb)
  unfold ixOf
  rw [Y44 zs a (by omega), Y44 zs b hb]
  rw [h2, h3] at h1 ⊢
  simp at h1 ⊢
  omega
 rcases Nat.lt_trichotomy r s with h1 | h1 | h1
 ·exact absurd h (key r s h1 (by omega))
 ·exact h1
 ·exact absurd h.symm (key s r h1 (by omega))
theorem Ykz (ls : List Nat) (zs : List Int) (s : Nat) (h : ls.length = s + zs.length) : Y4d (Y0d zs) (ls.drop s) = (Y0y zs s).map fun p => ls.getD p.sym.toNat 0 := by
 induction zs generalizing s with
 | nil => simp [Y0d, Y4d, Y0y]
 | cons z zs ih =>
  have hs : s < ls.length := by simp at h; omega
  have ih := ih (s + 1) (by simp at h; omega)
  rw [List.drop_eq_getElem_cons hs]
  unfold Y0d at ih ⊢
  rw [List.map_cons]
  simp only [Y4d, Y0y]
  by_cases hz : 0 < z
  ·rw [if_pos (by omega), if_pos hz, List.map_cons, ih]
   congr 1
   rw [List.getD_eq_getElem?_getD]
   simp [hs]
  ·rw [if_neg (by omega), if_neg hz, ih]
theorem Ycq (ls : List Nat) (zs : List Int) (h : ls.length = zs.length) : Y4d (Y0d zs) ls = (List.range (come (Y0d zs)).length).map fun r => ls.getD (ixOf zs r) 0 := by
 have h1 := Ykz ls zs 0 (by omega)
 rw [List.drop_zero] at h1
 rw [h1]
 have hl := (sgl zs).len
 refine List.ext_getElem (by simp [hl]) (fun i h1 h2 => ?_)
 have hi : i < (Y0y zs 0).length := by simpa using h1
 simp only [List.getElem_map, List.getElem_range]
 unfold ixOf
 rw [Y44 zs i hi]
def Y8x (ix : Nat → Nat) : List Tree → List Nat → List Nat
 | [], ls => ls
 | t :: Q, ls => Y8x ix Q (Y6y ix t ls)
theorem Y6e (ix : Nat → Nat) (Q : List Tree) (ls : List Nat) : (Y8x ix Q ls).length = ls.length := by
 induction Q generalizing ls with
 | nil => rfl
 | cons t Q ih => simp only [Y8x]; rw [ih, Y1w]
theorem Ygw (ix : Nat → Nat) (A B : List Tree) (ls : List Nat) : Y8x ix (A ++ B) ls = Y8x ix B (Y8x ix A ls) := by
 induction A generalizing ls with
 | nil => rfl
 | cons t A ih => simp only [List.cons_append, Y8x]; rw [ih]
theorem Yn9 (ix : Nat → Nat) {B M : Nat} : ∀ (Q : List Tree) (ls : List Nat), (∀ t ∈ Q, Y34 t ≤ M) → (∀ x ∈ ls, x ≤ B) → ∀ x ∈ Y8x ix Q ls, x ≤ B + Q.length * M
 | [], ls, _, h, x, hx => by have := h x hx; simp; omega
 | t :: Q, ls, hM, h, x, hx => by
  have h1 := Yck ix t ls h
  have h2 := hM t (by simp)
  have := Yn9 ix (B := B + M) Q (Y6y ix t ls) (fun t ht => hM t (by simp [ht])) (fun y hy => by have := h1 y hy; omega) x hx
  rw [List.length_cons, Nat.succ_mul]
  omega
theorem Ygx {ix : Nat → Nat} {n : Nat} (hix : ∀ a b, a < n → b < n → ix a = ix b → a = b) {r : Nat} (hr : r < n) : ∀ (t : Tree) (ls : List Nat), InT (fun s => s) n t → ix r < ls.length → (Y6y ix t ls).getD (ix r) 0 = ls.getD (ix r) 0 + t.cnt r
 | .leaf _ s, ls, hs, hl => by
  simp only [Y6y, Tree.cnt]
  have hs : s < n := hs
  rw [List.getD_eq_getElem?_getD, List.getElem?_set]
  by_cases h : s = r
  ·subst h
   rw [if_pos rfl, if_pos hl, if_pos rfl]
   rfl
  ·rw [if_neg (fun e => h (hix s r hs hr e)), if_neg h, ← List.getD_eq_getElem?_getD]
   omega
 | .node a b, ls, ⟨ha, hb⟩, hl => by
  simp only [Y6y, Tree.cnt]
  rw [Ygx hix hr b _ hb (by rw [Y1w]; exact hl), Ygx hix hr a ls ha hl]
  omega
theorem Ycl {ix : Nat → Nat} {n j : Nat} (hj : ∀ s, s < n → ix s ≠ j) : ∀ (t : Tree) (ls : List Nat), InT (fun s => s) n t → (Y6y ix t ls).getD j 0 = ls.getD j 0
 | .leaf _ s, ls, hs => by
  have hs : s < n := hs
  simp only [Y6y]
  rw [List.getD_eq_getElem?_getD, List.getElem?_set, if_neg (hj s hs), ← List.getD_eq_getElem?_getD]
 | .node a b, ls, ⟨ha, hb⟩ => by
  simp only [Y6y]
  rw [Ycl hj b _ hb, Ycl hj a ls ha]
theorem Yn8 {ix : Nat → Nat} {n : Nat} (hix : ∀ a b, a < n → b < n → ix a = ix b → a = b) {r : Nat} (hr : r < n) : ∀ (Q : List Tree) (ls : List Nat), (∀ t ∈ Q, InT (fun s => s) n t) → ix r < ls.length → (Y8x ix Q ls).getD (ix r) 0 = ls.getD (ix r) 0 + Y49 r Q
 | [], ls, _, _ => by simp [Y8x, Y49]
 | t :: Q, ls, h, hl => by
  simp only [Y8x]
  rw [Yn8 hix hr Q _ (fun t ht => h t (by simp [ht])) (by rw [Y1w]; exact hl), Ygx hix hr t ls (h t (by simp)) hl]
  simp only [Y49, List.map_cons, List.sum_cons]
  omega
theorem Yij {ix : Nat → Nat} {n j : Nat} (hj : ∀ s, s < n → ix s ≠ j) : ∀ (Q : List Tree) (ls : List Nat), (∀ t ∈ Q, InT (fun s => s) n t) → (Y8x ix Q ls).getD j 0 = ls.getD j 0
 | [], ls, _ => rfl
 | t :: Q, ls, h => by
  simp only [Y8x]
  rw [Yij hj Q _ (fun t ht => h t (by simp [ht])), Ycl hj t ls (h t (by simp))]
structure Fine (zs : List Int) (most : Nat) (ls : List Nat) : Prop where
 len : ls.length = zs.length
 zero : ∀ i, i < zs.length → zs.getD i 0 = 0 → ls.getD i 0 = 0
 least : Least (come (Y0d zs)) most (Y4d (Y0d zs) ls)
theorem Yl9 {zs : List Int} {most : Nat} {T : List Tree} (hz : ∀ z ∈ zs, 0 ≤ z) (h2 : 2 ≤ (come (Y0d zs)).length) (hm1 : 1 ≤ most) (hm : most ≤ 30) (hT : Y2w (come (Y0d zs)) most T) (hn : 2 * ((come (Y0d zs)).length - 1) ≤ T.length) :
  Fine zs most (Y8x (ixOf zs) (T.take (2 * ((come (Y0d zs)).length - 1))) (List.replicate zs.length 0)) := by
 have hin : ∀ t ∈ T.take (2 * ((come (Y0d zs)).length - 1)), InT (fun s => s) (come (Y0d zs)).length t := fun t ht => Yd6 (ix := fun s => s) (fun r hr => hr) hT t (List.mem_of_mem_take ht)
 have hinj : ∀ a b, a < (come (Y0d zs)).length → b < (come (Y0d zs)).length → ixOf zs a = ixOf zs b → a = b := fun a b ha hb h => Yz5 zs ha hb h
 refine ⟨by rw [Y6e, List.length_replicate], fun i hi h0 => ?_, ?_⟩
 ·rw [Yij (n := (come (Y0d zs)).length) (fun s hs e => ?_) _ _ hin]
  ·rw [List.getD_eq_getElem?_getD]; simp [hi]
  ·have := Yve zs s hs
   rw [e, h0] at this
   omega
 ·rw [Ycq _ zs (by rw [Y6e, List.length_replicate])]
  have e : ((List.range (come (Y0d zs)).length).map fun r => (Y8x (ixOf zs) (T.take (2 * ((come (Y0d zs)).length - 1))) (List.replicate zs.length 0)).getD (ixOf zs r) 0) = (List.range (come (Y0d zs)).length).map fun r => Y49 r (T.take (2 * ((come (Y0d zs)).length - 1))) := by
   refine List.map_congr_left (fun r hr => ?_)
   have hr : r < (come (Y0d zs)).length := by simpa using hr
   have hl := Yt3 zs r hr
   rw [Yn8 hinj hr _ _ hin (by rw [List.length_replicate]; exact hl)]
   have : (List.replicate zs.length 0).getD (ixOf zs r) 0 = 0 := by rw [List.getD_eq_getElem?_getD]; simp [hl]
   rw [this, Nat.zero_add]
  rw [e]
  exact Yr8 h2 (Y92 _) hm1 hm hT hn
theorem Ysr {zs : List Int} {most : Nat} (hm1 : 1 ≤ most) (h1 : (come (Y0d zs)).length = 1) : Fine zs most ((List.replicate zs.length 0).set (ixOf zs 0) 1) := by
 have hl := Yt3 zs 0 (by omega)
 refine ⟨by simp, fun i hi h0 => ?_, ?_⟩
 ·have := Yve zs 0 (by omega)
  rw [List.getD_eq_getElem?_getD, List.getElem?_set, if_neg (fun e => by rw [e, h0] at this; omega)]
  simp [hi]
 ·rw [Ycq _ zs (by simp), h1]
  have e : ((List.range 1).map fun r => ((List.replicate zs.length 0).set (ixOf zs 0) 1).getD (ixOf zs r) 0) = [1] := by
   simp [List.range_succ, List.getD_eq_getElem?_getD, hl]
  rw [e]
  obtain ⟨x, hx⟩ : ∃ x, come (Y0d zs) = [x] := by
   rcases hc : come (Y0d zs) with _ | ⟨x, _ | ⟨y, t⟩⟩
   ·rw [hc] at h1; cases h1
   ·exact ⟨x, rfl⟩
   ·rw [hc] at h1; simp at h1
  rw [hx]
  exact Yp3 x most hm1
theorem Yof {zs : List Int} {most : Nat} (h0 : (come (Y0d zs)).length = 0) : Fine zs most (List.replicate zs.length 0) := by
 refine ⟨by simp, fun i hi _ => by rw [List.getD_eq_getElem?_getD]; simp [hi], ?_⟩
 rw [Ycq _ zs (by simp), h0, List.eq_nil_of_length_eq_zero h0]
 exact Ylr most
end Go.Proofs.YtkkfkmoikcmhoaaGreat.Lp
namespace Go.Proofs.YtkkfkmoikcmhoaaGreat.Lp
open Go.RowKit Oct Lm
set_option maxRecDepth 100000
def Yil (z : Int) : Bool := decide (z < 0) || decide (1073741824 < z)
theorem Yne (z : Int) (w : World) : Calls Tryz.prog 157 #[.int .i64 z] w fun e w' => e = .returned (.bool (Yil z)) ∧ w' = w := by
 have HB : Hid (Yil z = (decide (z < 0) || decide (1073741824 < z))) := rfl
 by_cases h : z < 0
 ·have hd : decide (z < 0) = true := decide_eq_true h
  go_enter Tryz.func157, Tryz.ntmps157
  go_wp2
  go_ret
  exact ⟨by rw [HB.out, hd]; simp, rfl⟩
 ·have hd : decide (z < 0) = false := decide_eq_false h
  go_enter Tryz.func157, Tryz.ntmps157
  go_wp2
  go_ret
  exact ⟨by rw [HB.out, hd]; simp, rfl⟩
def IdxP (zs : List Int) (w : World) (e : Ending) (w' : World) : Prop := ∃ r : Int, e = .returned (.int .i64 r) ∧ (0 ≤ r ↔ zs.any Yil = true) ∧ w' = w
set_option maxHeartbeats 2000000 in
theorem Yox (p : Option Addr) (len cap : Nat) (zs : List Int) (w : World) (hr : VRow w w.heap.size p (ints zs)) (hx : zs.length = len) (hl : len ≤ 100000) : Calls Tryz.prog 168 #[.slice p len cap, .func (.func 157) #[] #[]] w (IdxP zs w) := by
 have HR := Lib.hid hr
 have HX := Lib.hid hx
 clear hr hx
 have hbad := Yne
 go_enter Tryz.func168, Tryz.ntmps168
 go_wp2
 go_loopg [8] len (fun kx s8 wr => ∃ (k : Nat), s8 = .int .i64 (k : Int) ∧ k ≤ len ∧ len - k ≤ kx ∧ Hid ((zs.take k).any Yil = false) ∧ w = wr)
 case atStart => exact ⟨0, rfl, by omega, by omega, (show Hid _ from rfl), rfl⟩
 case round =>
  obtain ⟨k, rfl, hk, hkx, HA, rfl⟩ := hrel
  by_cases hlt : k < len
  ·have hkz : (k : Int) < (len : Int) := by omega
   have hk0 : (0 : Int) ≤ (k : Int) := by omega
   have hkl : k < zs.length := by rw [HX.out]; exact hlt
   obtain ⟨b, off, hp, hbl⟩ := HR.out.addr (by rw [Y06]; omega)
   subst hp
   have hc := HR.out.int k hkl
   have HT : Hid ((zs.take (k + 1)).any Yil = Yil zs[k]) := by
    show _ = _
    rw [List.take_succ_eq_append_getElem hkl, List.any_append, HA.out]
    simp
   have HM : Hid (zs[k] ∈ zs) := List.getElem_mem hkl
   generalize zs[k] = z at hc HT HM
   have hz := Yne z w
   cases hb : Yil z with
   | true =>
    rw [hb] at hz HT
    have HBT := Lib.hid hb
    clear hb
    go_wp2_with (go_at_call 157; refine hz.mono ?_; rintro e w' ⟨rfl, rfl⟩)
    go_ret
    exact ⟨_, rfl, ⟨fun _ => List.any_eq_true.2 ⟨z, HM.out, HBT.out⟩, fun _ => hk0⟩, rfl⟩
   | false =>
    rw [hb] at hz HT
    clear hb
    go_wp2_with (go_at_call 157; refine hz.mono ?_; rintro e w' ⟨rfl, rfl⟩)
    go_roundg (len - (k + 1))
    case measure => omega
    case rel => exact ⟨k + 1, by go_num, by omega, Nat.le_refl _, HT, rfl⟩
  ·have hkz : ¬ (k : Int) < (len : Int) := by omega
   go_wp2
   go_ret
   have e : zs.take k = zs := List.take_of_length_le (by rw [HX.out]; omega)
   have hA := HA.out
   rw [e] at hA
   exact ⟨-1, rfl, by rw [hA]; simp, rfl⟩
theorem Yeu (p : Option Addr) (len cap : Nat) (zs : List Int) (w : World) (hr : VRow w w.heap.size p (ints zs)) (hx : zs.length = len) (hl : len ≤ 100000) : Calls Tryz.prog 158 #[.slice p len cap, .func (.func 157) #[] #[]] w fun e w' => e = .returned (.bool (zs.any Yil)) ∧ w' = w := by
 have hi := Yox p len cap zs w hr hx hl
 clear hr
 go_enter Tryz.func158, Tryz.ntmps158
 go_wp2_with (go_at_call 168; refine hi.mono ?_; rintro e w' ⟨r, rfl, hr, rfl⟩; have HRR := Lib.hid hr; clear hr)
 go_ret
 refine ⟨?_, rfl⟩
 have e : decide (0 ≤ r) = zs.any Yil := by rw [Bool.eq_iff_iff, decide_eq_true_eq]; exact HRR.out
 exact congrArg (fun b => Ending.returned (.bool b)) e
def okB (zs : List Int) (most : Int) : Bool := decide (1 ≤ most) && decide (most ≤ 30) && decide (zs.length ≤ 300) && !zs.any Yil
set_option maxHeartbeats 2000000 in
theorem Ygy (p : Option Addr) (len cap : Nat) (most : Int) (zs : List Int) (w : World) (hr : VRow w w.heap.size p (ints zs)) (hx : zs.length = len) : Calls Tryz.prog 144 #[.slice p len cap, .int .i64 most] w fun e w' => e = .returned (.bool (okB zs most)) ∧ w' = w := by
 have HO : Hid (okB zs most = (decide (1 ≤ most) && decide (most ≤ 30) && decide (len ≤ 300) && !zs.any Yil)) := by show _ = _; unfold okB; rw [hx]
 have HC : Hid (len ≤ 300 → Calls Tryz.prog 158 #[.slice p len cap, .func (.func 157) #[] #[]] w fun e w' => e = .returned (.bool (zs.any Yil)) ∧ w' = w) := fun h => Yeu p len cap zs w hr hx (by omega)
 clear hr hx
 by_cases h1 : 1 ≤ most
 ·have d1 : decide (1 ≤ most) = true := decide_eq_true h1
  by_cases h2 : most ≤ 30
  ·have d2 : decide (most ≤ 30) = true := decide_eq_true h2
   by_cases h3 : len ≤ 300
   ·have d3 : decide ((len : Int) ≤ 300) = true := decide_eq_true (by omega)
    have hc := HC.out h3
    go_enter Tryz.func144, Tryz.ntmps144
    go_wp2_with (go_at_call 158; refine hc.mono ?_; rintro e w' ⟨rfl, rfl⟩)
    go_ret
    exact ⟨by rw [HO.out, d1, d2]; simp [h3], rfl⟩
   ·have d3 : decide ((len : Int) ≤ 300) = false := decide_eq_false (by omega)
    go_enter Tryz.func144, Tryz.ntmps144
    go_wp2
    go_ret
    exact ⟨by rw [HO.out, d1, d2]; simp [h3], rfl⟩
  ·have d2 : decide (most ≤ 30) = false := decide_eq_false h2
   go_enter Tryz.func144, Tryz.ntmps144
   go_wp2
   go_ret
   exact ⟨by rw [HO.out, d1, d2]; simp, rfl⟩
 ·have d1 : decide (1 ≤ most) = false := decide_eq_false h1
  go_enter Tryz.func144, Tryz.ntmps144
  go_wp2
  go_ret
  exact ⟨by rw [HO.out, d1]; simp, rfl⟩
end Go.Proofs.YtkkfkmoikcmhoaaGreat.Lp

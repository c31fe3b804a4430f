
/- Levels of packs: how many, how heavy; a row of packs sorted in memory. -/
import Derived.Test.YtefniglinligeaaLpE
namespace Go.Proofs.Ytefniglinligeaa.Lp
open Go.RowKit Go.Sort Go.Proofs.Ytefniglinligeaa.Oct Go.Proofs.Ytefniglinligeaa.Lm
set_option linter.unusedVariables false
set_option linter.unusedSimpArgs false
set_option maxRecDepth 100000

theorem level_length {f : List Nat} : ∀ {l : Nat} {T : List Tree}, LevelR f l T → T.length ≤ 2 * f.length
  | 0, T, h => by
    have h : T = [] := h
    subst h; simp
  | l + 1, T, ⟨_, T', h, hp⟩ => by
    have h1 := hp.length_eq
    rw [List.length_append, pairT_length] at h1
    have h2 : (leavesT f).length = f.length := by simp [leavesT]
    have := level_length h
    omega
theorem pairT_all {Q : Tree → Prop} {R : Tree → Prop} (hQ : ∀ a b, R a → R b → Q (.node a b)) : ∀ (P : List Tree), (∀ t ∈ P, R t) → ∀ t ∈ pairT P, Q t
  | [], _, t, ht => by simp [pairT] at ht
  | [_], _, t, ht => by simp [pairT] at ht
  | a :: b :: P, h, t, ht => by
    simp only [pairT, List.mem_cons] at ht
    rcases ht with rfl | ht
    · exact hQ a b (h a (by simp)) (h b (by simp))
    · exact pairT_all hQ P (fun t ht => h t (by simp [ht])) t ht
/-- no pack of a level is too great -/
theorem level_bound {f : List Nat} (hf : ∀ x ∈ f, x ≤ 1073741824) : ∀ {l : Nat} {T : List Tree}, LevelR f l T → ∀ t ∈ T, t.wt * 2 ≤ 1073741824 * 2 ^ l ∧ sizeT t * 2 ≤ 2 ^ l
  | 0, T, h, t, ht => by
    have h : T = [] := h
    subst h; cases ht
  | l + 1, T, ⟨_, T', h, hp⟩, t, ht => by
    have hpos : 1 ≤ 2 ^ l := Nat.one_le_two_pow
    rw [Nat.pow_succ]
    rcases List.mem_append.1 (hp.mem_iff.1 ht) with h1 | h1
    · unfold leavesT at h1
      obtain ⟨r, hr, rfl⟩ := List.mem_map.1 h1
      have hr' : r < f.length := by simpa using hr
      have hx : f.getD r 0 ≤ 1073741824 := by
        rw [List.getD_eq_getElem?_getD, List.getElem?_eq_getElem hr']
        exact hf _ (List.getElem_mem hr')
      simp only [Tree.wt, sizeT]
      generalize 2 ^ l = x at hpos
      omega
    · refine pairT_all (Q := fun t => t.wt * 2 ≤ 1073741824 * (2 ^ l * 2) ∧ sizeT t * 2 ≤ 2 ^ l * 2) (R := fun t => t.wt * 2 ≤ 1073741824 * 2 ^ l ∧ sizeT t * 2 ≤ 2 ^ l) (fun a b ha hb => ?_) T' (level_bound hf h) t h1
      simp only [Tree.wt, sizeT]
      omega
/-- all of its things have places -/
theorem level_in {f : List Nat} {ix : Nat → Nat} {n : Nat} (hix : ∀ r, r < f.length → ix r < n) : ∀ {l : Nat} {T : List Tree}, LevelR f l T → ∀ t ∈ T, InT ix n t
  | 0, T, h, t, ht => by
    have h : T = [] := h
    subst h; cases ht
  | l + 1, T, ⟨_, T', h, hp⟩, t, ht => by
    rcases List.mem_append.1 (hp.mem_iff.1 ht) with h1 | h1
    · unfold leavesT at h1
      obtain ⟨r, hr, rfl⟩ := List.mem_map.1 h1
      exact hix r (by simpa using hr)
    · exact pairT_all (Q := InT ix n) (R := InT ix n) (fun a b ha hb => ⟨ha, hb⟩) T' (level_in hix h) t h1
theorem parcels_many {f : List Nat} {L : Nat} (hL1 : 1 ≤ L) (hL : L ≤ 30) (h2 : 2 ≤ f.length) (hf : ∀ x ∈ f, 1 ≤ x) (hn : f.length ≤ 2 ^ L) : 2 * (f.length - 1) ≤ (parcels f L).length := by
  obtain ⟨l', g1, g2, g3⟩ := to_full hL h2 hf _ _ (Nat.le_refl _) (ok_exists f L hL1 hL hn)
  have ht := full_tot g3 g1.hi hL L 0 1 hL1 (by omega) (by rw [taken_zero l' g1.lo, g3]; rfl)
  rw [cntG_zero l' g1.lo, g1.len] at ht
  obtain ⟨h4, _⟩ := parcels_least f _ _ ht (fun a ha => by rw [← g1.len]; exact levels_bd l' L 0 a ha)
  rw [levels_length] at h4
  exact h4
/-- a row that holds another row's things in another order -/
theorem zip_perm {α β : Type} {d e : List β} (h : e.Perm d) : ∀ z : List (α × β), z.map Prod.snd = d → ∃ z' : List (α × β), z'.Perm z ∧ z'.map Prod.snd = e := by
  induction h with
  | nil => intro z hz; exact ⟨z, List.Perm.refl _, hz⟩
  | cons x _ ih =>
    intro z hz
    rcases z with _ | ⟨y, z⟩
    · cases hz
    · rw [List.map_cons, List.cons.injEq] at hz
      obtain ⟨z', hp, he⟩ := ih z hz.2
      exact ⟨y :: z', hp.cons y, by rw [List.map_cons, he, hz.1]⟩
  | swap x y l =>
    intro z hz
    rcases z with _ | ⟨a, _ | ⟨b, z⟩⟩
    · cases hz
    · simp at hz
    · simp only [List.map_cons, List.cons.injEq] at hz
      exact ⟨b :: a :: z, List.Perm.swap a b z, by simp [hz.1, hz.2.1, hz.2.2]⟩
  | trans _ _ h1 h2 =>
    intro z hz
    obtain ⟨z1, p1, e1⟩ := h2 z hz
    obtain ⟨z2, p2, e2⟩ := h1 z1 e1
    exact ⟨z2, p2.trans p1, e2⟩
/-- from cells to the sort's row and back -/
theorem holds_of {w : World} {b : Nat} {zs : List Pk} (h : PRow w b zs) (hf : ∀ i, w.frozen? ⟨b, i, none⟩ = false) : HoldsK encP 3 w b 0 zs.toArray := by
  intro j hj
  rw [size_flatK] at hj
  simp only [List.size_toArray] at hj
  refine ⟨?_, hf _⟩
  rw [get_flatK _ _ _ _ (by simpa using hj), Nat.zero_add]
  have hi : j / 3 < zs.length := by omega
  have hg : zs.toArray[j / 3]! = zs[j / 3] := by rw [getElem!_pos zs.toArray (j / 3) (by simpa using hi)]; simp
  rw [hg]
  obtain ⟨c1, c2, c3⟩ := h (j / 3) hi
  rcases (show j = j / 3 * 3 ∨ j = j / 3 * 3 + 1 ∨ j = j / 3 * 3 + 2 by omega) with e | e | e
  · have hm : j % 3 = 0 := by omega
    rw [← e] at c1
    rw [c1, hm]; rfl
  · have hm : j % 3 = 1 := by omega
    rw [← e] at c2
    rw [c2, hm]; rfl
  · have hm : j % 3 = 2 := by omega
    rw [← e] at c3
    rw [c3, hm]; rfl
theorem prow_holds {w : World} {b : Nat} {d : Array Pk} (h : HoldsK encP 3 w b 0 d) : PRow w b d.toList := by
  intro i hi
  have hi' : i < d.size := by simpa using hi
  have hg : d[i]! = d.toList[i] := by rw [getElem!_pos d i hi']; simp
  have hc := fun t (ht : t < 3) => (h (i * 3 + t) (by rw [size_flatK]; omega)).1
  have e := fun t (ht : t < 3) => get_flatK encP 3 d (i * 3 + t) (by omega)
  have d1 : ∀ t, t < 3 → (i * 3 + t) / 3 = i := fun t ht => by omega
  have d2 : ∀ t, t < 3 → (i * 3 + t) % 3 = t := fun t ht => by omega
  have k := fun t (ht : t < 3) => by
    have h1 := hc t ht
    rw [e t ht, d1 t ht, d2 t ht, hg, Nat.zero_add] at h1
    exact h1
  exact ⟨k 0 (by omega), k 1 (by omega), k 2 (by omega)⟩
theorem swk_keep {w w' : World} {b : Nat} {d : Array Pk} (h : SWK encP 3 w b 0 d w') : w.heap.size ≤ w'.heap.size ∧ (∀ k, k < w.heap.size → k ≠ b → w'.heap[k]? = w.heap[k]?) ∧ w'.os = w.os ∧ w'.tape = w.tape ∧ w'.output = w.output := by
  refine ⟨h.le, ?_, ?_⟩
  · obtain ⟨n, os, rfl⟩ := h
    intro k hk hne
    unfold sortWorldK putRowK putRow
    rw [heap_grow_old _ _ (by simpa [mapBlock, ahead] using hk)]
    simp [mapBlock, ahead, Array.getElem?_modify, hne, Ne.symm hne]
  · obtain ⟨n, os, rfl⟩ := h
    exact ⟨rfl, rfl, rfl⟩
set_option maxHeartbeats 1000000 in
theorem insert_none (p : Option Addr) (c : Nat) (fv : Value) (w : World) : Calls Try.prog 30 #[.slice p 0 c, .int .i64 0, .int .i64 0, fv] w fun e w' => e = .returned (.tuple #[]) ∧ w' = w := by
  go_enter Try.func30, Try.ntmps30
  go_wp2
  go_loopg [8] 0 (fun kx s8 wr => s8 = .int .i64 1 ∧ wr = w)
  case atStart => exact ⟨by first | rfl | go_num, rfl⟩
  case round =>
    obtain ⟨rfl, rfl⟩ := hrel
    go_wp2
    go_end0
    exact ⟨rfl, rfl⟩
set_option maxHeartbeats 1000000 in
theorem stable_none (p : Option Addr) (c : Nat) (fv : Value) (w : World) : Calls Try.prog 28 #[.slice p 0 c, .int .i64 0, fv] w fun e w' => e = .returned (.tuple #[]) ∧ w' = w := by
  have hi := insert_none p c fv
  go_enter Try.func28, Try.ntmps28
  go_wp2
  go_loopg [7, 8] 0 (fun kx s7 s8 wr => s7 = .int .i64 0 ∧ s8 = .int .i64 20 ∧ wr = w)
  case atStart => exact ⟨rfl, rfl, rfl⟩
  case round =>
    obtain ⟨rfl, rfl, rfl⟩ := hrel
    go_wp2_with (go_at_call 30; refine (hi _).mono ?_; rintro e w' ⟨rfl, rfl⟩)
    go_loopg [6] 0 (fun kx s6 wr => s6 = .int .i64 20 ∧ wr = w')
    case atStart => exact ⟨rfl, rfl⟩
    case round =>
      obtain ⟨rfl, rfl⟩ := hrel
      go_wp2
      go_end0
      exact ⟨rfl, rfl⟩
theorem sort_none (p : Option Addr) (c : Nat) (fv : Value) (w : World) : Calls Try.prog 23 #[.slice p 0 c, fv] w fun e w' => e = .returned (.tuple #[]) ∧ w' = w := by
  have hi := stable_none p c fv
  go_enter Try.func23, Try.ntmps23
  go_wp2_with (go_at_call 28; refine (hi _).mono ?_; rintro e w' ⟨rfl, rfl⟩)
  go_end0
  exact ⟨rfl, rfl⟩
end Go.Proofs.Ytefniglinligeaa.Lp


/- What HuffAgain keeps in memory: a writer's bits and the list of what was written. -/
import Derived.Test.YtaohakdeicfpoaaHfI
namespace Go.Proofs.Ytaohakdeicfpoaa.Hf
open Go.RowKit Go.Proofs.Ytaohakdeicfpoaa.Oct Go.Proofs.Ytaohakdeicfpoaa.Bit
set_option linter.unusedVariables false
set_option linter.unusedSimpArgs false
set_option maxRecDepth 100000

/-- the word at a place -/
def wN (N : List Nat) (i : Nat) : List Bool := wordAt (pos N (N.getD i 0) i) (N.getD i 0)
theorem wN_of (N : List Nat) (i : Nat) (h : i < N.length) : wN N i = wordAt (pos N N[i] i) N[i] := by
  unfold wN
  simp [List.getD, List.getElem?_eq_getElem h]
theorem wN_some (N : List Nat) (i : Nat) (h : i < N.length) : (canonB N)[i]? = some ((wN N i).map dig) := by
  rw [List.getElem?_eq_getElem (by rw [canonB_length]; exact h), canonB_get N i _ h, wN_of N i h]
theorem wN_length (N : List Nat) (i : Nat) (h : i < N.length) : (wN N i).length = N[i] := by rw [wN_of N i h, wordAt_length]
/-- what is kept: places of words -/
def KOk (N : List Nat) (K : List Nat) : Prop := ∀ i ∈ K, i < N.length ∧ wN N i ≠ []
/-- the bits that were written -/
def bitsK (N : List Nat) (K : List Nat) : List Bool := K.flatMap (wN N)
theorem bitsK_snoc (N : List Nat) (K : List Nat) (i : Nat) : bitsK N (K ++ [i]) = bitsK N K ++ wN N i := by simp [bitsK]
theorem bitsK_bd (N : List Nat) (hL : ∀ i (h : i < N.length), N[i] ≤ 30) (K : List Nat) (hK : KOk N K) : (bitsK N K).length ≤ 30 * K.length := by
  induction K with
  | nil => simp [bitsK]
  | cons i K ih =>
    have h1 := ih (fun j hj => hK j (List.mem_cons_of_mem _ hj))
    obtain ⟨h2, _⟩ := hK i (List.mem_cons_self ..)
    have h3 := wN_length N i h2
    have h4 := hL i h2
    simp only [bitsK, List.flatMap_cons, List.length_append, List.length_cons] at h1 ⊢
    omega
theorem bitsK_app (N : List Nat) (A B : List Nat) (x : Nat) : bitsK N (A ++ x :: B) = bitsK N A ++ (wN N x ++ bitsK N B) := by simp [bitsK]
theorem bitsK_split (N : List Nat) (K : List Nat) (t : Nat) (h : t < K.length) : bitsK N K = bitsK N (K.take t) ++ (wN N K[t] ++ bitsK N (K.drop (t + 1))) := by
  have e : K = K.take t ++ K[t] :: K.drop (t + 1) := by rw [← List.drop_eq_getElem_cons h, List.take_append_drop]
  exact (congrArg (bitsK N) e).trans (bitsK_app N _ _ _)
theorem bitsK_take (N : List Nat) (K : List Nat) (t : Nat) (h : t < K.length) : (bitsK N (K.take (t + 1))).length = (bitsK N (K.take t)).length + (wN N K[t]).length := by
  rw [List.take_succ_eq_append_getElem h, bitsK_snoc, List.length_append]
theorem bitsK_drop (N : List Nat) (K : List Nat) (low : Bool) (t : Nat) (h : t < K.length) : ∃ rest, (bitsOf low (packB low (bitsK N K))).drop (bitsK N (K.take t)).length = wN N K[t] ++ rest := by
  rw [bitsOf_packB]
  refine ⟨bitsK N (K.drop (t + 1)) ++ zs (8 * (((bitsK N K).length + 7) / 8) - (bitsK N K).length), ?_⟩
  generalize zs (8 * (((bitsK N K).length + 7) / 8) - (bitsK N K).length) = Z
  rw [bitsK_split N K t h, List.append_assoc, List.drop_left, List.append_assoc]
def castL (K : List Nat) : List Int := K.map fun i : Nat => (i : Int)
theorem castL_length (K : List Nat) : (castL K).length = K.length := by simp [castL]
theorem castL_snoc (K : List Nat) (i : Nat) : castL (K ++ [i]) = castL K ++ [(i : Int)] := by simp [castL]
/-- the writer and the kept row, apart from each other and from all that lies below -/
structure Ag (W : World) (gw : Nat) (low : Bool) (bits : List Bool) (K : List Nat) (u v : Value) (wr : World) : Prop where
  w : Ws wr gw v bits low
  o : wr.ownsRow gw 3 1 u K.length (ints (castL K))
  ng : u.ownBlock ≠ some gw
  nv : ∀ k, u.ownBlock = some k → v.ownBlock ≠ some k
  vb : ∀ k, v.ownBlock = some k → gw ≤ k
  vl : ∀ k, v.ownBlock = some k → k < wr.heap.size
  bel : Below gw W wr
theorem own_keep {S : Nat → Prop} {w w' : World} {base e n : Nat} {v : Value} {cs : List Value} (h : w.ownsRow base e 1 v n cs) (ho : Only S w w') (hv : ∀ k, v.ownBlock = some k → ¬ S k) : w'.ownsRow base e 1 v n cs := by
  refine ⟨h.1, ?_⟩
  rcases h.2 with hn | ⟨g, cap, cur, rfl, hb, hh, r⟩
  · exact .inl hn
  · refine .inr ⟨g, cap, cur, rfl, hb, ?_, r⟩
    have hlt : g < w.heap.size := by
      rcases Nat.lt_or_ge g w.heap.size with hlt | hge
      · exact hlt
      · rw [Array.getElem?_eq_none hge] at hh; cases hh
    rw [ho.2.2.2.2 g hlt (hv g rfl)]
    exact hh
section
variable {W : World} {gw : Nat} {low : Bool} {bits : List Bool} {K : List Nat} {u v : Value} {wr : World}
theorem Ag.more (h : Ag W gw low bits K u v wr) {w' : World} (hb : Below wr.heap.size wr w') : Ag W gw low bits K u v w' :=
  ⟨Wr.only h.w (Only.of_below (S := fun _ => False) hb) (fun h => h) (fun _ _ h => h), own_below h.o hb, h.ng, h.nv, h.vb, fun k hk => Nat.lt_of_lt_of_le (h.vl k hk) hb.size, h.bel.trans (hb.mono (Nat.le_of_lt (Wr.lt h.w)))⟩
theorem Ag.wrote (h : Ag W gw low bits K u v wr) {m : List Bool} {w' : World} (hT : WsT wr gw v (bits ++ m) low w') : ∃ v', Ag W gw low (bits ++ m) K u v' w' := by
  obtain ⟨v', hW, ho, hd⟩ := hT
  have hul : ∀ k, u.ownBlock = some k → k < wr.heap.size := fun k hk => (h.o.lt k hk).2
  have hz := ho.2.2.2.1
  have hvl : ∀ k, v'.ownBlock = some k → k < w'.heap.size := by
    intro k hk
    rcases Wr.form hW with ⟨rfl, _⟩ | ⟨r, cap, rfl, _, _, hr, _⟩
    · cases hk
    · injection hk with hk
      subst hk
      exact hr
  refine ⟨v', hW, own_keep h.o ho (fun k hk hm => ?_), h.ng, fun k hk hv' => ?_, fun k hk => ?_, hvl, h.bel.trans (ho.below (Nat.le_of_lt (Wr.lt h.w)) (fun k hk hm => ?_))⟩
  · rcases hm with hm | hm
    · exact h.ng (by rw [hk, hm])
    · exact h.nv k hk hm
  · rcases hd k hv' with hd | hd
    · exact h.nv k hk hd
    · have := hul k hk; omega
  · rcases hd k hk with hd | hd
    · exact h.vb k hd
    · have := Wr.lt h.w; omega
  · rcases hm with hm | hm
    · omega
    · have := h.vb k hm; omega
theorem Ag.kept (h : Ag W gw low bits K u v wr) {w' : World} {g cap i : Nat} (ho : w'.ownsRow gw 3 1 (.slice (some ⟨g, 0, none⟩) (K.length + 1) cap) (K.length + 1) (ints (castL K) ++ ints [(i : Int)]))
    (hg : wr.grownBy w' u.ownBlock) (hd : u.ownBlock = some g ∨ g = wr.heap.size) : Ag W gw low bits (K ++ [i]) (.slice (some ⟨g, 0, none⟩) (K.length + 1) cap) v w' := by
  have hgn : g ≠ gw := by
    rcases hd with hd | hd
    · intro e; exact h.ng (by rw [hd, e])
    · have := Wr.lt h.w; omega
  have hO := Only.grown hg
  refine ⟨Wr.only h.w hO h.ng (fun k hk hu => h.nv k hu hk), ?_, fun e => ?_, fun k hk hv => ?_, h.vb, fun k hk => Nat.lt_of_lt_of_le (h.vl k hk) hg.size, h.bel.trans ?_⟩
  · rw [← ints_append, ← castL_snoc] at ho
    rw [List.length_append]
    exact ho
  · injection e with e
    exact hgn e
  · injection hk with hk
    subst hk
    rcases hd with hd | hd
    · exact h.nv g hd hv
    · have := h.vl g hv; omega
  · exact hO.below (Nat.le_of_lt (Wr.lt h.w)) (fun k hk hu => by have := (h.o.lt k hu).1; omega)
end
end Go.Proofs.Ytaohakdeicfpoaa.Hf

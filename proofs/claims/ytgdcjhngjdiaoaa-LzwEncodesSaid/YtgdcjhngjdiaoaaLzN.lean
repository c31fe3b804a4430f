
/- Codes that tell bytes, told one behind the other; what an encoder's table is to it; no program in sight. -/
import Derived.Test.YtgdcjhngjdiaoaaLzM
namespace Go.Proofs.Ytgdcjhngjdiaoaa.Lz
open Go.Proofs.Ytgdcjhngjdiaoaa.Bit Go.Proofs.Ytgdcjhngjdiaoaa.Oct
set_option linter.unusedVariables false

/-- these bits are codes that produce these bytes; the state behind them -/
inductive Tells : List Bool → St → List UInt8 → Prop
  | nil : Tells [] s0 []
  | snoc {L : List Bool} {s s' : St} {xs t : List UInt8} {c : Nat} : Tells L s xs → c ≠ 257 → c < 2 ^ widN (258 + s.tab.length) false → step s c = some (s', t) → (t ≠ [] → 258 + s'.tab.length ≤ 4094) →
      Tells (L ++ wordE false c (widN (258 + s.tab.length) false)) s' (xs ++ t)
theorem codeAt_word (L R : List Bool) (c w : Nat) (h : c < 2 ^ w) : codeAt false (L ++ (wordE false c w ++ R)) L.length w = c := by
  unfold codeAt
  rw [List.drop_left, List.take_append_of_le_length (by rw [wordE_length]; exact Nat.le_refl _), List.take_of_length_le (by rw [wordE_length]; exact Nat.le_refl _), numE_wordE false c w h]
theorem Tells.decode {L : List Bool} {s : St} {xs : List UInt8} (h : Tells L s xs) (n : Nat) : ∀ R : List Bool,
    run false (L ++ R) n 0 s0 [] = run false (L ++ R) n L.length s xs ∨ (run false (L ++ R) n 0 s0 [] = ([], 5) ∧ n < xs.length) ∨ (run false (L ++ R) n 0 s0 [] = (xs.take n, 0) ∧ n ≤ xs.length) := by
  induction h with
  | nil => intro R; exact .inl rfl
  | @snoc L s s' xs t c h1 h7 hw hst hm ih =>
    intro R
    rw [List.append_assoc]
    rcases ih (wordE false c (widN (258 + s.tab.length) false) ++ R) with e | ⟨e, hn⟩ | ⟨e, hn⟩
    · rw [e]
      rcases Nat.lt_trichotomy xs.length n with hlt | heq | hgt
      · left
        have hc := codeAt_word L R c _ hw
        rw [run_step (s' := s') (t := t) hlt (by simp [wordE_length]) (by rw [hc]; exact h7) (by rw [hc]; exact hst), List.length_append, wordE_length]
      · right; right
        rw [run_done heq]
        refine ⟨?_, by simp; omega⟩
        rw [List.take_append_of_le_length (by omega), List.take_of_length_le (by omega)]
      · right; left
        rw [run_long hgt]
        exact ⟨rfl, by simp; omega⟩
    · exact .inr (.inl ⟨e, by simp; omega⟩)
    · refine .inr (.inr ⟨?_, by simp; omega⟩)
      rw [e, List.take_append_of_le_length hn]
theorem Tells.all {L : List Bool} {s : St} {xs : List UInt8} (h : Tells L s xs) (R : List Bool) : run false (L ++ R) xs.length 0 s0 [] = (xs, 0) := by
  rcases h.decode xs.length R with e | ⟨e, hn⟩ | ⟨e, hn⟩
  · rw [e, run_done rfl]
  · omega
  · rw [e, List.take_length]
theorem Tells.less {L : List Bool} {s : St} {xs : List UInt8} (h : Tells L s xs) (R : List Bool) (n : Nat) (hn : n ≤ xs.length) : run false (L ++ R) n 0 s0 [] = ([], 5) ∨ run false (L ++ R) n 0 s0 [] = (xs.take n, 0) := by
  rcases h.decode n R with e | ⟨e, _⟩ | ⟨e, _⟩
  · rcases Nat.lt_or_ge n xs.length with hlt | hge
    · left; rw [e, run_long hlt]
    · right; rw [e, run_done (by omega), List.take_of_length_le hge]
  · exact .inl e
  · exact .inr e
theorem Tells.more {L : List Bool} {s : St} {xs : List UInt8} (h : Tells L s xs) (R : List Bool) (n : Nat) (hn : xs.length < n) :
    run false (L ++ (wordE false 257 (widN (258 + s.tab.length) false) ++ R)) n 0 s0 [] = ([], 2) := by
  rcases h.decode n (wordE false 257 (widN (258 + s.tab.length) false) ++ R) with e | ⟨e, h1⟩ | ⟨e, h1⟩
  · rw [e]
    exact run_end hn (codeAt_word L R 257 _ (widN_less _))
  · omega
  · omega
/-- a Clear, codes that produce these bytes, and End -/
def Coded (bits : List Bool) (xs : List UInt8) : Prop := ∃ L s, Tells L s xs ∧ bits = L ++ wordE false 257 (widN (258 + s.tab.length) false) ∧ ∃ L', L = wordE false 256 9 ++ L'
/-- the strings of an encoder: one more than a decoder has, with the next byte that is to come -/
def tabE (s : St) (b : List UInt8) : List (List UInt8) := if s.ahead ≠ [] ∧ b ≠ [] then s.tab ++ [s.ahead ++ b.take 1] else s.tab
theorem look_more {T : List (List UInt8)} {c : Nat} {t y : List UInt8} (h : look T c = some t) : look (T ++ [y]) c = some t := by
  unfold look at h ⊢
  split at h
  · rename_i h1; rw [if_pos h1]; exact h
  · rename_i h1
    rw [if_neg h1]
    split at h
    · cases h
    · rename_i h2
      rw [if_neg h2]
      have hlt : c - 258 < T.length := by
        rcases Nat.lt_or_ge (c - 258) T.length with hl | hl
        · exact hl
        · rw [List.getElem?_eq_none hl] at h; cases h
      rw [List.getElem?_append_left hlt]; exact h
theorem look_bd {T : List (List UInt8)} {c : Nat} {t : List UInt8} (h : look T c = some t) : c < 258 + T.length ∧ c ≠ 256 ∧ c ≠ 257 := by
  unfold look at h
  split at h
  · omega
  · split at h
    · cases h
    · rcases Nat.lt_or_ge (c - 258) T.length with hl | hl
      · omega
      · rw [List.getElem?_eq_none hl] at h; cases h
theorem look_new (T : List (List UInt8)) (y : List UInt8) : look (T ++ [y]) (258 + T.length) = some y := by
  unfold look
  rw [if_neg (by omega), if_neg (by omega), show 258 + T.length - 258 = T.length by omega, List.getElem?_append_right (Nat.le_refl _), Nat.sub_self]
  rfl
structure EInv (f : Nat → Option Nat) (k : Nat) (pr : Bool) (s : St) (b : List UInt8) : Prop where
  cod : k = 258 + s.tab.length
  prv : pr = true ↔ s.ahead ≠ []
  ent : ∀ c0 x c, x < 256 → f (c0 * 256 + x) = some c → ∃ t0, look (tabE s b) c0 = some t0 ∧ look (tabE s b) c = some (t0 ++ [UInt8.ofNat x])
  top : k ≤ 4094
  non : s.ahead = [] → s.tab = []
theorem EInv.start (b : List UInt8) : EInv (fun _ => none) 258 false s0 b :=
  ⟨rfl, by simp [s0], fun c0 x c _ h => by simp at h, by omega, fun _ => rfl⟩
theorem EInv.bound {f : Nat → Option Nat} {k : Nat} {pr : Bool} {s : St} {b : List UInt8} (h : EInv f k pr s b) {c : Nat} {t : List UInt8} (hl : look (tabE s b) c = some t) : c ≤ k ∧ c ≠ 256 ∧ c ≠ 257 := by
  obtain ⟨h1, h2, h3⟩ := look_bd hl
  refine ⟨?_, h2, h3⟩
  rw [h.cod]
  unfold tabE at h1
  split at h1
  · simp at h1; omega
  · omega
theorem EInv.begin_ {f : Nat → Option Nat} {k : Nat} {pr : Bool} {s : St} {b : List UInt8} (h : EInv f k pr s b) (hb : 0 < b.length) : look (tabE s b) b[0].toNat = some (b.take 1) := by
  unfold look
  rw [if_pos b[0].toNat_lt]
  rcases b with _ | ⟨x, r⟩
  · simp at hb
  · simp
theorem EInv.longer {f : Nat → Option Nat} {k : Nat} {pr : Bool} {s : St} {b : List UInt8} (h : EInv f k pr s b) {c c' n : Nat} (hl : look (tabE s b) c = some (b.take n)) (hn : n < b.length)
    (hf : f (c * 256 + b[n].toNat) = some c') : look (tabE s b) c' = some (b.take (n + 1)) := by
  obtain ⟨t0, h1, h2⟩ := h.ent _ _ _ b[n].toNat_lt hf
  rw [hl] at h1
  injection h1 with h1
  subst h1
  rw [h2, List.take_succ_eq_append_getElem hn, UInt8.ofNat_toNat]
theorem nxt_tabE {s : St} {b : List UInt8} {n : Nat} (hk : 258 + s.tab.length ≤ 4093) (hn : 1 ≤ n) (hb : n ≤ b.length) : (nxt s (b.take n)).tab = tabE s b := by
  have hbn : b ≠ [] := fun e => by rw [e] at hb; simp at hb; omega
  have ht : (b.take n).take 1 = b.take 1 := by rw [List.take_take, Nat.min_eq_left hn]
  unfold nxt tabE
  by_cases ha : s.ahead = []
  · rw [if_neg (fun e => e.1 ha), if_neg (fun e => e.1 ha)]
  · rw [if_pos ⟨ha, by omega⟩, if_pos ⟨ha, hbn⟩, ht]
theorem tabE_len {s : St} {b : List UInt8} {pr : Bool} (hp : pr = true ↔ s.ahead ≠ []) (hb : b ≠ []) : (tabE s b).length = s.tab.length + pr.toNat := by
  unfold tabE
  cases pr
  · have ha : s.ahead = [] := by
      rcases hs : s.ahead with _ | ⟨x, r⟩
      · rfl
      · have := hp.2 (by rw [hs]; simp); cases this
    rw [if_neg (fun e => e.1 ha)]; rfl
  · rw [if_pos ⟨hp.1 rfl, hb⟩]; simp
/-- the code of a string that stands ahead is told -/
theorem EInv.step_ {f : Nat → Option Nat} {k : Nat} {pr : Bool} {s : St} {b : List UInt8} (h : EInv f k pr s b) (hk : k ≤ 4093) {c n : Nat} (hl : look (tabE s b) c = some (b.take n)) (hn : 1 ≤ n) (hb : n ≤ b.length) :
    step s c = some (nxt s (b.take n), b.take n) := by
  obtain ⟨hck, h6, h7⟩ := h.bound hl
  have hcod := h.cod
  refine step_text h6 ?_
  unfold textOf
  have hbn : b ≠ [] := fun e => by rw [e] at hb; simp at hb; omega
  by_cases ha : s.ahead = []
  · rw [if_pos ha]
    unfold tabE at hl
    rw [if_neg (fun e => e.1 ha)] at hl
    unfold look at hl
    split at hl
    · rename_i hlt; rw [if_pos hlt]; exact hl
    · split at hl
      · cases hl
      · exfalso
        rename_i h1 h2
        rw [h.non ha] at hl
        simp at hl
  · rw [if_neg ha]
    unfold tabE at hl
    rw [if_pos ⟨ha, hbn⟩] at hl
    by_cases hc : c = 258 + s.tab.length
    · subst hc
      rw [if_pos ⟨rfl, by omega⟩]
      rw [look_new] at hl
      injection hl with hl
      rw [← hl]
      obtain ⟨x, r, hs⟩ : ∃ x r, s.ahead = x :: r := by
        rcases hs : s.ahead with _ | ⟨x, r⟩
        · exact absurd hs ha
        · exact ⟨x, r, rfl⟩
      obtain ⟨y, q, hy⟩ : ∃ y q, b = y :: q := by
        rcases hy : b with _ | ⟨y, q⟩
        · exact absurd hy hbn
        · exact ⟨y, q, rfl⟩
      rw [hs, hy] at hl ⊢
      obtain ⟨m, rfl⟩ : ∃ m, n = m + 1 := ⟨n - 1, by omega⟩
      simp at hl ⊢
      exact hl.1
    · rw [if_neg (fun e => hc e.1)]
      unfold look at hl ⊢
      split at hl
      · rename_i h1; rw [if_pos h1]; exact hl
      · rename_i h1
        rw [if_neg h1]
        split at hl
        · cases hl
        · rename_i h2
          rw [if_neg h2]
          rw [List.getElem?_append_left (by omega)] at hl
          exact hl
theorem EInv.last {f : Nat → Option Nat} {k : Nat} {pr : Bool} {s : St} {b : List UInt8} (h : EInv f k pr s b) (hk : k ≤ 4093) (hb : 1 ≤ b.length) :
    EInv f (k + pr.toNat) true (nxt s (b.take b.length)) (b.drop b.length) := by
  have hbn : b ≠ [] := fun e => by rw [e] at hb; simp at hb
  have hT := nxt_tabE (s := s) (b := b) (n := b.length) (by rw [← h.cod]; exact hk) hb (Nat.le_refl _)
  have hE : tabE (nxt s (b.take b.length)) (b.drop b.length) = tabE s b := by
    unfold tabE
    rw [if_neg (fun e => e.2 (by simp))]
    exact hT
  refine ⟨?_, ?_, ?_, ?_, ?_⟩
  · rw [hT, tabE_len h.prv hbn, h.cod]; omega
  · simp [nxt, hbn]
  · rw [hE]; exact h.ent
  · have : pr.toNat ≤ 1 := by cases pr <;> simp
    omega
  · intro e; exact absurd (by simpa [nxt] using e) hbn
theorem EInv.more {f : Nat → Option Nat} {k : Nat} {pr : Bool} {s : St} {b : List UInt8} (h : EInv f k pr s b) (hk : k ≤ 4093) {c n : Nat} (hl : look (tabE s b) c = some (b.take n)) (hn : 1 ≤ n) (hb : n < b.length) :
    EInv (fun j => if j = c * 256 + b[n].toNat then some (k + pr.toNat) else f j) (k + pr.toNat) true (nxt s (b.take n)) (b.drop n) := by
  have hbn : b ≠ [] := fun e => by rw [e] at hb; simp at hb
  have hT := nxt_tabE (s := s) (b := b) (n := n) (by rw [← h.cod]; exact hk) hn (by omega)
  have hlen := tabE_len h.prv hbn
  have htn : b.take n ≠ [] := by
    intro e
    have : (b.take n).length = 0 := by rw [e]; rfl
    rw [List.length_take] at this
    omega
  have hE : tabE (nxt s (b.take n)) (b.drop n) = tabE s b ++ [b.take n ++ [b[n]]] := by
    have e1 : (b.drop n).take 1 = [b[n]] := by rw [List.drop_eq_getElem_cons hb]; rfl
    have hdn : b.drop n ≠ [] := by
      intro e
      have : (b.drop n).length = 0 := by rw [e]; rfl
      rw [List.length_drop] at this
      omega
    rw [show tabE (nxt s (b.take n)) (b.drop n) = (nxt s (b.take n)).tab ++ [b.take n ++ (b.drop n).take 1] from by unfold tabE; rw [nxt_ahead, if_pos ⟨htn, hdn⟩], hT, e1]
  refine ⟨?_, ?_, ?_, ?_, ?_⟩
  · rw [hT, hlen, h.cod]; omega
  · rw [nxt_ahead]; simp [htn]
  · intro c0 x c1 hx hf
    rw [hE]
    by_cases he : c0 * 256 + x = c * 256 + b[n].toNat
    · have hbx := b[n].toNat_lt
      have e1 : c0 = c := by omega
      have e2 : x = b[n].toNat := by omega
      subst e1
      subst e2
      simp only [if_pos] at hf
      injection hf with hf
      refine ⟨b.take n, look_more hl, ?_⟩
      have : c1 = 258 + (tabE s b).length := by rw [← hf, hlen, h.cod]; omega
      rw [this, look_new, UInt8.ofNat_toNat]
    · rw [if_neg he] at hf
      obtain ⟨t0, h1, h2⟩ := h.ent c0 x c1 hx hf
      exact ⟨t0, look_more h1, look_more h2⟩
  · have : pr.toNat ≤ 1 := by cases pr <;> simp
    omega
  · intro e; rw [nxt_ahead] at e; exact absurd e htn
end Go.Proofs.Ytgdcjhngjdiaoaa.Lz

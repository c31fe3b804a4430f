
/- Codes for strings that came: what codes produce, what so many bytes of any bits are, and what an encoder owes; no program in sight. -/
import Derived.Test.YtgdcjhngjdiaoaaBitN
namespace Go.Proofs.Ytgdcjhngjdiaoaa.Lz
open Go.Proofs.Ytgdcjhngjdiaoaa.Bit Go.Proofs.Ytgdcjhngjdiaoaa.Oct
set_option linter.unusedVariables false

/-- how many bits the next code has -/
def widN (k : Nat) (old : Bool) : Nat :=
  if (if old then k else k + 1) < 512 then 9 else if (if old then k else k + 1) < 1024 then 10 else if (if old then k else k + 1) < 2048 then 11 else 12
theorem widN_bd (k : Nat) (old : Bool) : 9 ≤ widN k old ∧ widN k old ≤ 12 := by
  unfold widN
  repeat' split
  all_goals omega
theorem widN_fits (k : Nat) (h : k ≤ 4094) (c : Nat) (hc : c ≤ k) : c < 2 ^ widN k false := by
  unfold widN
  simp only [Bool.false_eq_true, if_false]
  repeat' split
  all_goals simp; omega
theorem widN_less (k : Nat) : 257 < 2 ^ widN k false := by
  have h := (widN_bd k false).1
  have : (2 : Nat) ^ 9 ≤ 2 ^ widN k false := Nat.pow_le_pow_right (by omega) h
  omega
/-- the strings of the codes from 258 on; what the previous code produced, nothing if there is none -/
structure St where
  tab : List (List UInt8)
  ahead : List UInt8
def s0 : St := ⟨[], []⟩
def look (tab : List (List UInt8)) (c : Nat) : Option (List UInt8) :=
  if c < 256 then some [UInt8.ofNat c] else if c < 258 then none else tab[c - 258]?
def textOf (s : St) (c : Nat) : Option (List UInt8) :=
  if s.ahead = [] then (if c < 256 then some [UInt8.ofNat c] else none)
  else if c = 258 + s.tab.length ∧ c < 4096 then some (s.ahead ++ s.ahead.take 1) else look s.tab c
def nxt (s : St) (t : List UInt8) : St := ⟨if s.ahead ≠ [] ∧ 258 + s.tab.length < 4096 then s.tab ++ [s.ahead ++ t.take 1] else s.tab, t⟩
/-- one code that isn't End -/
def step (s : St) (c : Nat) : Option (St × List UInt8) := if c = 256 then some (s0, []) else (textOf s c).map fun t => (nxt s t, t)
theorem step_clear (s : St) : step s 256 = some (s0, []) := rfl
theorem step_text {s : St} {c : Nat} {t : List UInt8} (hc : c ≠ 256) (h : textOf s c = some t) : step s c = some (nxt s t, t) := by
  unfold step; rw [if_neg hc, h]; rfl
theorem step_none {s : St} {c : Nat} (hc : c ≠ 256) (h : textOf s c = none) : step s c = none := by
  unfold step; rw [if_neg hc, h]; rfl
theorem nxt_tab {s : St} {t : List UInt8} (h : s.ahead ≠ []) (hk : 258 + s.tab.length < 4096) : (nxt s t).tab = s.tab ++ [s.ahead ++ t.take 1] := by
  unfold nxt; rw [if_pos ⟨h, hk⟩]
theorem nxt_tab0 {s : St} {t : List UInt8} (h : s.ahead = []) : (nxt s t).tab = s.tab := by
  unfold nxt; rw [if_neg (fun e => e.1 h)]
theorem nxt_full {s : St} {t : List UInt8} (h : ¬ 258 + s.tab.length < 4096) : (nxt s t).tab = s.tab := by
  unfold nxt; rw [if_neg (fun e => h e.2)]
theorem nxt_ahead (s : St) (t : List UInt8) : (nxt s t).ahead = t := rfl
def codeAt (old : Bool) (bits : List Bool) (a w : Nat) : Nat := numE old ((bits.drop a).take w)
theorem codeAt_lt (old : Bool) (bits : List Bool) (a w : Nat) (h : w ≤ 12) : codeAt old bits a w < 4096 := by
  have h1 := numE_lt old ((bits.drop a).take w)
  have h2 : (2 : Nat) ^ ((bits.drop a).take w).length ≤ 2 ^ 12 := Nat.pow_le_pow_right (by omega) (by rw [List.length_take]; omega)
  unfold codeAt
  omega
/-- so many bytes of bits, some being there already: the bytes, the error -/
def run (old : Bool) (bits : List Bool) (n : Nat) (a : Nat) (s : St) (out : List UInt8) : List UInt8 × Nat :=
  if out.length < n then
    if h : a + widN (258 + s.tab.length) old ≤ bits.length then
      if codeAt old bits a (widN (258 + s.tab.length) old) = 257 then ([], 2)
      else match step s (codeAt old bits a (widN (258 + s.tab.length) old)) with
        | none => ([], 6)
        | some (s', t) => run old bits n (a + widN (258 + s.tab.length) old) s' (out ++ t)
    else ([], 2)
  else if n < out.length then ([], 5) else (out, 0)
termination_by bits.length - a
decreasing_by
  have := (widN_bd (258 + s.tab.length) old).1
  omega
section
variable {old : Bool} {bits : List Bool} {n a : Nat} {s s' : St} {out t : List UInt8}
theorem run_done (h : out.length = n) : run old bits n a s out = (out, 0) := by
  rw [run, if_neg (by omega), if_neg (by omega)]
theorem run_long (h : n < out.length) : run old bits n a s out = ([], 5) := by
  rw [run, if_neg (by omega), if_pos h]
theorem run_cut (h : out.length < n) (hc : bits.length < a + widN (258 + s.tab.length) old) : run old bits n a s out = ([], 2) := by
  rw [run, if_pos h, dif_neg (by omega)]
theorem run_end (h : out.length < n) (hc : codeAt old bits a (widN (258 + s.tab.length) old) = 257) : run old bits n a s out = ([], 2) := by
  rw [run, if_pos h]
  split
  · first | rfl | rw [if_pos hc]
  · rfl
theorem run_bad (h : out.length < n) (hb : a + widN (258 + s.tab.length) old ≤ bits.length) (hc : codeAt old bits a (widN (258 + s.tab.length) old) ≠ 257)
    (hs : step s (codeAt old bits a (widN (258 + s.tab.length) old)) = none) : run old bits n a s out = ([], 6) := by
  rw [run, if_pos h, dif_pos hb, if_neg hc]
  split
  · rfl
  · rename_i e; rw [hs] at e; cases e
theorem run_step (h : out.length < n) (hb : a + widN (258 + s.tab.length) old ≤ bits.length) (hc : codeAt old bits a (widN (258 + s.tab.length) old) ≠ 257)
    (hs : step s (codeAt old bits a (widN (258 + s.tab.length) old)) = some (s', t)) : run old bits n a s out = run old bits n (a + widN (258 + s.tab.length) old) s' (out ++ t) := by
  rw [run, if_pos h, dif_pos hb, if_neg hc]
  split
  · rename_i e; rw [hs] at e; cases e
  · rename_i s1 t1 e
    rw [hs] at e
    injection e with e; injection e with e1 e2
    subst e1; subst e2
    rfl
end
/-! ### a decoder that keeps of each string where it lies among the bytes produced -/
def addS (sp : List (Nat × Nat)) (la ll : Nat) : List (Nat × Nat) := if 0 < ll ∧ 258 + sp.length < 4096 then sp ++ [(la, ll + 1)] else sp
structure DInv (out : List UInt8) (sp : List (Nat × Nat)) (la ll : Nat) (s : St) : Prop where
  len : sp.length = s.tab.length
  top : 258 + sp.length ≤ 4096
  ent : ∀ (i a l : Nat), sp[i]? = some (a, l) → 2 ≤ l ∧ a + l ≤ out.length ∧ s.tab[i]? = some ((out.drop a).take l)
  ah : ll = s.ahead.length
  fin : 0 < ll → la + ll = out.length ∧ out.drop la = s.ahead
  non : ll = 0 → sp = []
  low : la ≤ out.length
theorem DInv.start (la : Nat) (out : List UInt8) (h : la ≤ out.length) : DInv out [] la 0 s0 :=
  ⟨rfl, by simp, fun i a l h => by simp at h, rfl, fun h => by omega, fun _ => rfl, h⟩
theorem addS_length (sp : List (Nat × Nat)) (la ll : Nat) (h : 258 + sp.length ≤ 4096) : 258 + (addS sp la ll).length ≤ 4096 := by
  unfold addS
  split
  · simp; omega
  · exact h
theorem part_keep (out t : List UInt8) (a l : Nat) (h : a + l ≤ out.length) : ((out ++ t).drop a).take l = (out.drop a).take l := by
  rw [List.drop_append_of_le_length (by omega), List.take_append_of_le_length (by simp; omega)]
theorem DInv.next {out : List UInt8} {sp : List (Nat × Nat)} {la ll : Nat} {s : St} (h : DInv out sp la ll s) {t : List UInt8} (ht : t ≠ []) :
    DInv (out ++ t) (addS sp la ll) out.length t.length (nxt s t) := by
  have htl : 0 < t.length := by rcases t with _ | ⟨x, t⟩; exact absurd rfl ht; simp
  have hahn : 0 < ll ↔ s.ahead ≠ [] := by
    rw [h.ah]
    rcases s.ahead with _ | ⟨x, r⟩ <;> simp
  by_cases hc : 0 < ll ∧ 258 + sp.length < 4096
  · have e1 : addS sp la ll = sp ++ [(la, ll + 1)] := by unfold addS; rw [if_pos hc]
    have e2 : (nxt s t).tab = s.tab ++ [s.ahead ++ t.take 1] := nxt_tab (hahn.1 hc.1) (by rw [← h.len]; exact hc.2)
    obtain ⟨hf1, hf2⟩ := h.fin hc.1
    rw [e1]
    refine ⟨by rw [e2]; simp [h.len], by simp; omega, ?_, rfl, fun _ => ⟨by simp, by rw [nxt_ahead]; simp⟩, fun e => by omega, by simp⟩
    intro i a l hi
    rw [e2]
    rcases Nat.lt_or_ge i sp.length with hlt | hge
    · rw [List.getElem?_append_left hlt] at hi
      obtain ⟨h1, h2, h3⟩ := h.ent i a l hi
      refine ⟨h1, by simp; omega, ?_⟩
      rw [List.getElem?_append_left (by rw [← h.len]; exact hlt), h3, part_keep out t a l h2]
    · have hie : i = sp.length := by
        rw [List.getElem?_append_right hge] at hi
        rcases Nat.lt_or_ge (i - sp.length) 1 with h1 | h1
        · omega
        · rw [List.getElem?_eq_none (by simpa using h1)] at hi; cases hi
      subst hie
      rw [List.getElem?_append_right (Nat.le_refl _)] at hi
      simp at hi
      obtain ⟨rfl, rfl⟩ := hi
      refine ⟨by omega, by simp; omega, ?_⟩
      rw [List.getElem?_append_right (by rw [h.len]; exact Nat.le_refl _)]
      simp [h.len]
      rw [List.drop_append_of_le_length (by omega), hf2, h.ah, List.take_append]
      congr 1
      · rw [List.take_of_length_le (by omega)]
      · congr 1; omega
  · have e1 : addS sp la ll = sp := by unfold addS; rw [if_neg hc]
    have e2 : (nxt s t).tab = s.tab := by
      unfold nxt
      rw [if_neg (fun e => hc ⟨hahn.2 e.1, by rw [h.len]; exact e.2⟩)]
    rw [e1]
    refine ⟨by rw [e2]; exact h.len, h.top, ?_, rfl, fun _ => ⟨by simp, by rw [nxt_ahead]; simp⟩, fun e => by omega, by simp⟩
    intro i a l hi
    obtain ⟨h1, h2, h3⟩ := h.ent i a l hi
    refine ⟨h1, by simp; omega, ?_⟩
    rw [e2, h3, part_keep out t a l h2]
theorem DInv.byte {out : List UInt8} {sp : List (Nat × Nat)} {la ll : Nat} {s : St} (h : DInv out sp la ll s) {c : Nat} (hc : c < 256) :
    step s c = some (nxt s [UInt8.ofNat c], [UInt8.ofNat c]) := by
  refine step_text (by omega) ?_
  unfold textOf
  by_cases h0 : s.ahead = []
  · rw [if_pos h0, if_pos hc]
  · rw [if_neg h0, if_neg (by omega)]
    unfold look
    rw [if_pos hc]
theorem DInv.none {out : List UInt8} {sp : List (Nat × Nat)} {la ll : Nat} {s : St} (h : DInv out sp la ll s) {c : Nat} (hc : 258 ≤ c) (hn : (addS sp la ll)[c - 258]? = none) :
    step s c = none := by
  refine step_none (by omega) ?_
  unfold textOf
  by_cases hah : s.ahead = []
  · rw [if_pos hah, if_neg (by omega)]
  · rw [if_neg hah]
    have hll : 0 < ll := by
      rw [h.ah]
      rcases hs : s.ahead with _ | ⟨x, r⟩
      · exact absurd hs hah
      · simp
    rw [List.getElem?_eq_none_iff] at hn
    unfold addS at hn
    split at hn
    · simp at hn
      rw [h.len] at hn
      rw [if_neg (by omega)]
      unfold look
      rw [if_neg (by omega), if_neg (by omega), List.getElem?_eq_none (by omega)]
    · rename_i hk
      rw [h.len] at hk hn
      rw [if_neg (by omega)]
      unfold look
      rw [if_neg (by omega), if_neg (by omega), List.getElem?_eq_none (by omega)]
/-- what is appended where a string is asked for that lies there: all but its last byte, then that one -/
theorem DInv.some_ {out : List UInt8} {sp : List (Nat × Nat)} {la ll : Nat} {s : St} (h : DInv out sp la ll s) {c a l : Nat} (hc : 258 ≤ c) (hc2 : c < 4096) (hn : (addS sp la ll)[c - 258]? = some (a, l)) :
    2 ≤ l ∧ a + (l - 1) ≤ out.length ∧ a < out.length ∧ ∃ x : UInt8, (out ++ (out.drop a).take (l - 1))[a + (l - 1)]? = some x ∧
      step s c = some (nxt s ((out.drop a).take (l - 1) ++ [x]), (out.drop a).take (l - 1) ++ [x]) := by
  rcases Nat.lt_or_ge (c - 258) sp.length with hlt | hge
  · have hi : sp[c - 258]? = some (a, l) := by
      unfold addS at hn
      split at hn
      · rwa [List.getElem?_append_left hlt] at hn
      · exact hn
    obtain ⟨h1, h2, h3⟩ := h.ent _ a l hi
    have hx : a + (l - 1) < out.length := by omega
    refine ⟨h1, by omega, by omega, out[a + (l - 1)], by rw [List.getElem?_append_left hx, List.getElem?_eq_getElem hx], ?_⟩
    have e : (out.drop a).take (l - 1) ++ [out[a + (l - 1)]] = (out.drop a).take l := by
      have hd : l - 1 < (out.drop a).length := by simp; omega
      have := List.take_succ_eq_append_getElem hd
      rw [show l - 1 + 1 = l by omega] at this
      rw [this, List.getElem_drop]
    rw [e]
    refine step_text (by omega) ?_
    have hll : ll ≠ 0 := fun e => by rw [h.non e] at hlt; simp at hlt
    have hah : s.ahead ≠ [] := by
      intro e
      rw [h.ah, e] at hll
      exact hll rfl
    unfold textOf
    rw [if_neg hah, if_neg (by rw [← h.len]; omega)]
    unfold look
    rw [if_neg (by omega), if_neg (by omega), h3]
  · unfold addS at hn
    split at hn
    · rename_i hcond
      have hie : c - 258 = sp.length := by
        rw [List.getElem?_append_right hge] at hn
        rcases Nat.lt_or_ge (c - 258 - sp.length) 1 with h1 | h1
        · omega
        · rw [List.getElem?_eq_none (by simpa using h1)] at hn; cases hn
      rw [hie, List.getElem?_append_right (Nat.le_refl _)] at hn
      simp at hn
      obtain ⟨rfl, rfl⟩ := hn
      obtain ⟨hf1, hf2⟩ := h.fin hcond.1
      have htk : (out.drop la).take (ll + 1 - 1) = s.ahead := by rw [hf2, Nat.add_sub_cancel, h.ah, List.take_length]
      have hah0 : 0 < s.ahead.length := by rw [← h.ah]; exact hcond.1
      rw [htk]
      refine ⟨by omega, by omega, by omega, s.ahead[0], ?_, ?_⟩
      · rw [Nat.add_sub_cancel, hf1, List.getElem?_append_right (Nat.le_refl _), Nat.sub_self, List.getElem?_eq_getElem hah0]
      · refine step_text (by omega) ?_
        unfold textOf
        have hah : s.ahead ≠ [] := fun e => by rw [e] at hah0; simp at hah0
        rw [if_neg hah, if_pos ⟨by rw [← h.len]; omega, hc2⟩]
        have e1 : s.ahead.take 1 = [s.ahead[0]] := by
          rw [List.take_succ_eq_append_getElem hah0]; rfl
        rw [e1]
    · rw [List.getElem?_eq_none hge] at hn; cases hn
end Go.Proofs.Ytgdcjhngjdiaoaa.Lz

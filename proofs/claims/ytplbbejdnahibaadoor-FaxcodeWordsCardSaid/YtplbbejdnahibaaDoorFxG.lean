
/- Words of which none begins another one are a book's. -/
import Derived.Test.YtplbbejdnahibaaDoorFxM
import Derived.Test.YtplbbejdnahibaaDoorHfR
namespace Go.Proofs.YtplbbejdnahibaaDoor.Fx
open Go.Proofs.YtplbbejdnahibaaDoor.Oct Go.Proofs.YtplbbejdnahibaaDoor.Bit Go.Proofs.YtplbbejdnahibaaDoor.Hf Go.Proofs.YtplbbejdnahibaaDoor.Inf
set_option linter.unusedVariables false
set_option linter.unusedSimpArgs false

theorem dig_prefF {a b : List Bool} (h : a.map dig <+: b.map dig) : a <+: b := by
  obtain ⟨r, hr⟩ := h
  have hl := congrArg List.length hr
  rw [List.length_append, List.length_map, List.length_map] at hl
  have h1 : (b.take a.length).map dig = a.map dig := by rw [List.map_take, ← hr, List.take_left' (by rw [List.length_map])]
  have h2 : b.take a.length = a := dig_inj h1
  exact ⟨b.drop a.length, by
    conv => lhs; lhs; rw [← h2]
    exact List.take_append_drop _ _⟩
theorem good_free {W : List (List Bool)} (h : freeB W = true) : Hf.Good (wordsU W) := by
  constructor
  · intro s hs
    obtain ⟨m, _, rfl⟩ := List.mem_map.1 hs
    exact wordB_dig m
  · intro i j s t hi hj hij hs ht hp
    have e : ∀ k u, (wordsU W)[k]? = some u → ∃ m : List Bool, W[k]? = some m ∧ u = m.map dig := fun k u hk => by
      unfold wordsU at hk
      rw [List.getElem?_map] at hk
      rcases hx : W[k]? with _ | m
      · rw [hx] at hk; cases hk
      · rw [hx] at hk
        injection hk with hk
        exact ⟨m, hx, hk.symm⟩
    obtain ⟨m, hm, rfl⟩ := e i s hi
    obtain ⟨m2, hm2, rfl⟩ := e j t hj
    have hjl := (List.getElem?_eq_some_iff.1 hm2).1
    have hf := free_of h j hjl
    have hg : W.getD j [] = m2 := by rw [List.getD_eq_getElem?_getD, hm2]; rfl
    have hp2 : m <+: m2 := dig_prefF hp
    exact hij (hf.2 i m hm (by rw [hg]; exact hp2) (fun e => hs (by rw [e]; rfl)))
theorem words_good (black : Bool) : Hf.Good (wordsU (wordsF black)) := good_free (by
  cases black
  · exact white_free
  · exact black_free)
theorem modes_good : Hf.Good (wordsU modesF) := good_free modes_free
theorem words_eol_good (black : Bool) : Hf.Good (wordsU (wordsF black ++ [eol])) := good_free (words_eol black)
theorem modes_eol_good : Hf.Good (wordsU (modesF ++ [eol])) := good_free modes_eol
end Go.Proofs.YtplbbejdnahibaaDoor.Fx

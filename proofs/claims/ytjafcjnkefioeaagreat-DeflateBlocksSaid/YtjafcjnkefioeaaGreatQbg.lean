/- IhG: merged. -/
import Derived.Laws.BitsAllLaws
import Derived.Laws.Strings
import Derived.Laws.BytesArg
import Derived.Test.YtjafcjnkefioeaaGreatRows
import Derived.WalkKit
import Derived.ProofKit
import Derived.WalkLawsBesides
import Derived.Lib.Hide
import Derived.Deep.QuietTactic
import Derived.BigQuiet
import Derived.Outline
import Derived.Laws.NewBlocks
import Derived.Laws.CopyOwn
import Derived.Laws.Concat
import Derived.Laws.Strings2
import Derived.WalkSpells
import Derived.Laws.AppendOwnNone
import Derived.OpenShut
import Derived.Lib.SliceRun
import Derived.ChangeKeysEq
import Derived.Laws.Pointers
import Derived.Deep.RegionLaw
import Derived.Deep.DeepCutAuto
import Derived.BigRegion
import Derived.Deep.AppendLies
import Derived.Deep.RegionHeld3
import Derived.Laws.Externs
import Derived.Laws.IdiomCopy
import Derived.Lib.EndianMore
import Derived.Shelf.Spec.SlicesGrow
import Derived.LoopTactic
import Derived.Deep.LoopGhost
import Derived.Deep.MidRow
import Derived.Deep.WholeRow
import Derived.Laws.ResultCell
import Derived.Deep.Slices
import Derived.Deep.Fields
import Derived.ChangeSame
import Derived.Lib.AppendStr
import Derived.Test.YtjafcjnkefioeaaGreatQaf
import Derived.Test.YtjafcjnkefioeaaGreatQag
import Derived.Test.YtjafcjnkefioeaaGreatQbd
set_option linter.unusedVariables false
set_option linter.unusedSimpArgs false
/- The walk of the law InflateTokens. -/
namespace Go.Proofs.YtjafcjnkefioeaaGreat.Inf
open Go.RowKit Go.Proofs.YtjafcjnkefioeaaGreat.Oct Go.Proofs.YtjafcjnkefioeaaGreat.Bit Go.Proofs.YtjafcjnkefioeaaGreat.Hf
set_option maxRecDepth 100000
theorem fixA_len : ∀ m ∈ canonW fixedA, m.length ≤ 30 := by
  intro m hm
  obtain ⟨i, hi⟩ := List.mem_iff_getElem?.1 hm
  obtain ⟨hi', rfl⟩ := List.getElem?_eq_some_iff.1 hi
  have h2 : i < fixedA.length := by rwa [canonW_length] at hi'
  rw [canonW_len fixedA i hi' h2]
  exact fixedA_max _ (List.getElem_mem h2)
theorem fixB_len : ∀ m ∈ canonW fixedB, m.length ≤ 30 := by
  intro m hm
  obtain ⟨i, hi⟩ := List.mem_iff_getElem?.1 hm
  obtain ⟨hi', rfl⟩ := List.getElem?_eq_some_iff.1 hi
  have h2 : i < fixedB.length := by rwa [canonW_length] at hi'
  rw [canonW_len fixedB i hi' h2]
  exact fixedB_max _ (List.getElem_mem h2)
theorem wordsX_A : wordsX fixedA false false = .ok (canonW fixedA) := by
  unfold wordsX
  rw [if_pos (Nat.le_of_eq fixedA_start), if_neg (by rintro ⟨h, _⟩; cases h)]
theorem wordsX_B : wordsX fixedB false false = .ok (canonW fixedB) := by
  unfold wordsX
  rw [if_pos fixedB_start, if_neg (by rintro ⟨h, _⟩; cases h)]
end Go.Proofs.YtjafcjnkefioeaaGreat.Inf

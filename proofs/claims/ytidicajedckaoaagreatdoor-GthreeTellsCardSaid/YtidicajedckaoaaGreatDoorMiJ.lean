
/- The chapter's example holds. -/
import Derived.Test.YtidicajedckaoaaGreatDoorMiG
import Derived.Test.YtidicajedckaoaaGreatDoorRnK
import Derived.Test.YtidicajedckaoaaGreatDoorFyK
namespace Go.Proofs.YtidicajedckaoaaGreatDoor.Mh
open Go.RowKit Go.Proofs.YtidicajedckaoaaGreatDoor.Oct Go.Proofs.YtidicajedckaoaaGreatDoor.Bit
open Go.Proofs.YtidicajedckaoaaGreatDoor.Fx (Tab Cd Out OutW WrP CW codes_any TrueT)
open Go.Proofs.YtidicajedckaoaaGreatDoor.Rn (changes zl zl_length ints_new rsame_any)
open Go.Proofs.YtidicajedckaoaaGreatDoor.Lp (VRow ints ints_length)
set_option linter.unusedVariables false
set_option linter.unusedSimpArgs false
set_option maxRecDepth 100000

theorem ex_len : (rowC [2, 4, 7] 8).length = 13 := by kernel_rfl
theorem ex_pack : packB false (rowC [2, 4, 7] 8) = [126, 16] := by kernel_rfl
theorem ex_read : (readRowA (bitsOf false [126, 16]) 8 0 [] false).1 = 13 ∧ rowL (readRowA (bitsOf false [126, 16]) 8 0 [] false).2 = [2, 4, 7] ∧ rowE (readRowA (bitsOf false [126, 16]) 8 0 [] false).2 = 0 := by
  refine ⟨by kernel_rfl, by kernel_rfl, by kernel_rfl⟩
theorem ex_valid : Rn.Valid [2, 4, 7] 8 := by
  refine ⟨by simp, fun x hx => ?_⟩
  simp at hx
  omega
end Go.Proofs.YtidicajedckaoaaGreatDoor.Mh

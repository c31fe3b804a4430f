/-
  No cell of these rows narrows 'for every input' (looked for: loops, veiled, ifaces, maps, wideKeys, modest, calm, conditions, laid).
  DERIVED. THE GIVEN ROWS OF THIS SEAT. 5 by the template 'for every input the law returns true; each argument reads behind the call as it read before'; 0 by the template 'total and deterministic' (their statements: YtoeaillhklephaaTotals.lean).
  GIVEN WITH THE SEED: the statements are not yours to turn. If you find one false, say at which input.
  Laid BY PROGRAM, IN A SANDBOX (cutbox-rows.mjs): the forced cells as the released guide's own fill.sh prints them over the translation b6e03aa680353d09… (all of the seat's roots in one cut). By AI agents, Wed Nov 11 2026. No macro, syntax, notation, axiom, sorry.
-/
import Derived.Test.YtoeaillhklephaaChecked
import GoSem.Claim
import GoSem.ClaimJoined
import GoSem.ClaimMapViews
import Derived.JoinedTies
import Derived.KernelRfl
namespace Go.Proofs.Ytoeaillhklephaa
/- THE CELL 'sum', in the pinned program and in every row, IS THE sha256 OF THE DUMP (.gsa) THAT YtoeaillhklephaaProg.lean LOADS. Nothing in Lean hashes anything: it is a label: what it is worth is what the hold of that sum in a sandbox is worth. -/
noncomputable def Try.pinned : Pinned := { name := "ytoeaillhklephaa", sum := "b6e03aa680353d09108ed04cd3d03cb271c343360bc8379e10562f81868c314f", checked := Try.checked }
namespace Rows
def none {H : Type} : Left H := { results := [], args := [] }

/-- 'mezzotintlaw03.AdlerSums': WHATEVER THE INPUT: true; the input reads as it did. -/
def adlerSumsSpec : ChangeSpec := { name := "adlerSums", fn := fun _ => fun
  | [d1, d2] => { results := [.lit (.bool true)], args := [d1, d2] }
  | _ => none }
def adlerSumsRow : OpenClaim := { program := "ytoeaillhklephaa", sum := "b6e03aa680353d09108ed04cd3d03cb271c343360bc8379e10562f81868c314f", func := "mezzotint/mezzotintlaw03.AdlerSums", spec := "adlerSums", apart := false }
def AdlerSumsSaid : Prop := adlerSumsRow.holds Try.pinned (OpenSpec.ofChange adlerSumsSpec)

/-- ITS FALSE NEIGHBOUR: 'it returns false'. Refute it at one input. -/
def adlerSumsWrong : ChangeSpec := { name := "adlerSums", fn := fun _ => fun
  | [d1, d2] => { results := [.lit (.bool false)], args := [d1, d2] }
  | _ => none }
def AdlerSumsWrongFalsely : Prop := adlerSumsRow.holds Try.pinned (OpenSpec.ofChange adlerSumsWrong)

/-- 'mezzotintlaw03.AdlerJoins': WHATEVER THE INPUT: true; the input reads as it did. -/
def adlerJoinsSpec : ChangeSpec := { name := "adlerJoins", fn := fun _ => fun
  | [d1, d2] => { results := [.lit (.bool true)], args := [d1, d2] }
  | _ => none }
def adlerJoinsRow : OpenClaim := { program := "ytoeaillhklephaa", sum := "b6e03aa680353d09108ed04cd3d03cb271c343360bc8379e10562f81868c314f", func := "mezzotint/mezzotintlaw03.AdlerJoins", spec := "adlerJoins", apart := false }
def AdlerJoinsSaid : Prop := adlerJoinsRow.holds Try.pinned (OpenSpec.ofChange adlerJoinsSpec)

/-- ITS FALSE NEIGHBOUR: 'it returns false'. Refute it at one input. -/
def adlerJoinsWrong : ChangeSpec := { name := "adlerJoins", fn := fun _ => fun
  | [d1, d2] => { results := [.lit (.bool false)], args := [d1, d2] }
  | _ => none }
def AdlerJoinsWrongFalsely : Prop := adlerJoinsRow.holds Try.pinned (OpenSpec.ofChange adlerJoinsWrong)

/-- 'mezzotintlaw03.AdlerTurned': WHATEVER THE INPUT: true; the input reads as it did. -/
def adlerTurnedSpec : ChangeSpec := { name := "adlerTurned", fn := fun _ => fun
  | [d1, d2, d3] => { results := [.lit (.bool true)], args := [d1, d2, d3] }
  | _ => none }
def adlerTurnedRow : OpenClaim := { program := "ytoeaillhklephaa", sum := "b6e03aa680353d09108ed04cd3d03cb271c343360bc8379e10562f81868c314f", func := "mezzotint/mezzotintlaw03.AdlerTurned", spec := "adlerTurned", apart := false }
def AdlerTurnedSaid : Prop := adlerTurnedRow.holds Try.pinned (OpenSpec.ofChange adlerTurnedSpec)

/-- ITS FALSE NEIGHBOUR: 'it returns false'. Refute it at one input. -/
def adlerTurnedWrong : ChangeSpec := { name := "adlerTurned", fn := fun _ => fun
  | [d1, d2, d3] => { results := [.lit (.bool false)], args := [d1, d2, d3] }
  | _ => none }
def AdlerTurnedWrongFalsely : Prop := adlerTurnedRow.holds Try.pinned (OpenSpec.ofChange adlerTurnedWrong)

/-- 'mezzotintlaw03.AdlerThree': WHATEVER THE INPUT: true; the input reads as it did. -/
def adlerThreeSpec : ChangeSpec := { name := "adlerThree", fn := fun _ => fun
  | [d1, d2, d3] => { results := [.lit (.bool true)], args := [d1, d2, d3] }
  | _ => none }
def adlerThreeRow : OpenClaim := { program := "ytoeaillhklephaa", sum := "b6e03aa680353d09108ed04cd3d03cb271c343360bc8379e10562f81868c314f", func := "mezzotint/mezzotintlaw03.AdlerThree", spec := "adlerThree", apart := false }
def AdlerThreeSaid : Prop := adlerThreeRow.holds Try.pinned (OpenSpec.ofChange adlerThreeSpec)

/-- ITS FALSE NEIGHBOUR: 'it returns false'. Refute it at one input. -/
def adlerThreeWrong : ChangeSpec := { name := "adlerThree", fn := fun _ => fun
  | [d1, d2, d3] => { results := [.lit (.bool false)], args := [d1, d2, d3] }
  | _ => none }
def AdlerThreeWrongFalsely : Prop := adlerThreeRow.holds Try.pinned (OpenSpec.ofChange adlerThreeWrong)

/-- 'mezzotintlaw03.AdlerOne': WHATEVER THE INPUT: true; the input reads as it did. -/
def adlerOneSpec : ChangeSpec := { name := "adlerOne", fn := fun _ => fun
  | [d1, d2, d3] => { results := [.lit (.bool true)], args := [d1, d2, d3] }
  | _ => none }
def adlerOneRow : OpenClaim := { program := "ytoeaillhklephaa", sum := "b6e03aa680353d09108ed04cd3d03cb271c343360bc8379e10562f81868c314f", func := "mezzotint/mezzotintlaw03.AdlerOne", spec := "adlerOne", apart := false }
def AdlerOneSaid : Prop := adlerOneRow.holds Try.pinned (OpenSpec.ofChange adlerOneSpec)

/-- ITS FALSE NEIGHBOUR: 'it returns false'. Refute it at one input. -/
def adlerOneWrong : ChangeSpec := { name := "adlerOne", fn := fun _ => fun
  | [d1, d2, d3] => { results := [.lit (.bool false)], args := [d1, d2, d3] }
  | _ => none }
def AdlerOneWrongFalsely : Prop := adlerOneRow.holds Try.pinned (OpenSpec.ofChange adlerOneWrong)

/- THE SECOND FORM. 'bulk': how many values and letters a reading holds, each counted each time it is reached (what is shared counts as often as it is met; a slice's spare places count too). A statement '..UptoSaid' is the law's where the arguments, and the package variables that the reading takes, are together of bulk at most 1048576: NARROWER than '..Said'. Prove '..Said' where nothing that the law and all that it calls make is longer than what came in: it says more and counts as full. Else prove '..UptoSaid'. A law counts once. -/
mutual
def uptoBulk {H : Type} : DataW H → Nat
  | .lit (.string bytes) => bytes.length + 1
  | .lit _ => 1
  | .nil => 1
  | .ptr d => uptoBulk d + 1
  | .slice elems spare => uptoBulkAll elems + uptoBulkAll spare + 1
  | .agg parts => uptoBulkAll parts + 1
  | .iface _ d => uptoBulk d + 1
  | .map entries => uptoBulkEntries entries + 1
  | .held _ => 1
def uptoBulkAll {H : Type} : List (DataW H) → Nat
  | [] => 0
  | d :: r => uptoBulk d + uptoBulkAll r
def uptoBulkEntries {H : Type} : List (Lit × DataW H) → Nat
  | [] => 0
  | x :: r => uptoBulkEntry x + uptoBulkEntries r
def uptoBulkEntry {H : Type} : Lit × DataW H → Nat
  | (.string bytes, d) => bytes.length + uptoBulk d + 1
  | (_, d) => uptoBulk d + 1
 end
def uptoSmall : (H : Type) → List (DataW H) → Bool := fun _ ds => decide (uptoBulkAll ds ≤ 1048576)
def OpenSpec.upto (s : _root_.Go.ChangeSpec) : _root_.Go.OpenSpec := { _root_.Go.OpenSpec.ofChange s with cond := some uptoSmall }

/-- 'mezzotintlaw03.AdlerSums', WHERE WHAT IT READS IS OF BULK AT MOST 1048576: true; the input reads as it did. -/
def adlerSumsUptoRow : OpenClaim := { program := "ytoeaillhklephaa", sum := "b6e03aa680353d09108ed04cd3d03cb271c343360bc8379e10562f81868c314f", func := "mezzotint/mezzotintlaw03.AdlerSums", spec := "adlerSums", apart := false, narrowed := true }
def AdlerSumsUptoSaid : Prop := adlerSumsUptoRow.holds Try.pinned (OpenSpec.upto adlerSumsSpec)

/-- 'mezzotintlaw03.AdlerJoins', WHERE WHAT IT READS IS OF BULK AT MOST 1048576: true; the input reads as it did. -/
def adlerJoinsUptoRow : OpenClaim := { program := "ytoeaillhklephaa", sum := "b6e03aa680353d09108ed04cd3d03cb271c343360bc8379e10562f81868c314f", func := "mezzotint/mezzotintlaw03.AdlerJoins", spec := "adlerJoins", apart := false, narrowed := true }
def AdlerJoinsUptoSaid : Prop := adlerJoinsUptoRow.holds Try.pinned (OpenSpec.upto adlerJoinsSpec)

/-- 'mezzotintlaw03.AdlerTurned', WHERE WHAT IT READS IS OF BULK AT MOST 1048576: true; the input reads as it did. -/
def adlerTurnedUptoRow : OpenClaim := { program := "ytoeaillhklephaa", sum := "b6e03aa680353d09108ed04cd3d03cb271c343360bc8379e10562f81868c314f", func := "mezzotint/mezzotintlaw03.AdlerTurned", spec := "adlerTurned", apart := false, narrowed := true }
def AdlerTurnedUptoSaid : Prop := adlerTurnedUptoRow.holds Try.pinned (OpenSpec.upto adlerTurnedSpec)

/-- 'mezzotintlaw03.AdlerThree', WHERE WHAT IT READS IS OF BULK AT MOST 1048576: true; the input reads as it did. -/
def adlerThreeUptoRow : OpenClaim := { program := "ytoeaillhklephaa", sum := "b6e03aa680353d09108ed04cd3d03cb271c343360bc8379e10562f81868c314f", func := "mezzotint/mezzotintlaw03.AdlerThree", spec := "adlerThree", apart := false, narrowed := true }
def AdlerThreeUptoSaid : Prop := adlerThreeUptoRow.holds Try.pinned (OpenSpec.upto adlerThreeSpec)

/-- 'mezzotintlaw03.AdlerOne', WHERE WHAT IT READS IS OF BULK AT MOST 1048576: true; the input reads as it did. -/
def adlerOneUptoRow : OpenClaim := { program := "ytoeaillhklephaa", sum := "b6e03aa680353d09108ed04cd3d03cb271c343360bc8379e10562f81868c314f", func := "mezzotint/mezzotintlaw03.AdlerOne", spec := "adlerOne", apart := false, narrowed := true }
def AdlerOneUptoSaid : Prop := adlerOneUptoRow.holds Try.pinned (OpenSpec.upto adlerOneSpec)

end Rows
end Go.Proofs.Ytoeaillhklephaa

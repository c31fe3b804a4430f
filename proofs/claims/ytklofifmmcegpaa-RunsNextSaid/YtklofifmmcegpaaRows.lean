/-
  No cell of these rows narrows 'for every input' (looked for: loops, veiled, ifaces, maps, wideKeys, modest, calm, conditions, laid).
  DERIVED. THE GIVEN ROWS OF THIS SEAT. 6 by the template 'for every input the law returns true; each argument reads behind the call as it read before'; 0 by the template 'total and deterministic' (their statements: YtklofifmmcegpaaTotals.lean).
  GIVEN WITH THE SEED: the statements are not yours to turn. If you find one false, say at which input.
  Laid BY PROGRAM, IN A SANDBOX (cutbox-rows.mjs): the forced cells as the released guide's own fill.sh prints them over the translation a2fabece0db373da… (all of the seat's roots in one cut). By AI agents, Wed Nov 11 2026. No macro, syntax, notation, axiom, sorry.
-/
import Derived.Test.YtklofifmmcegpaaChecked
import GoSem.Claim
import GoSem.ClaimJoined
import GoSem.ClaimMapViews
import Derived.JoinedTies
import Derived.KernelRfl
namespace Go.Proofs.Ytklofifmmcegpaa
/- THE CELL 'sum', in the pinned program and in every row, IS THE sha256 OF THE DUMP (.gsa) THAT YtklofifmmcegpaaProg.lean LOADS. Nothing in Lean hashes anything: it is a label: what it is worth is what the hold of that sum in a sandbox is worth. -/
noncomputable def Try.pinned : Pinned := { name := "ytklofifmmcegpaa", sum := "a2fabece0db373da8299ecdb9ee616f4b6737b017813259e4ee334eecad31cbf", checked := Try.checked }
namespace Rows
def none {H : Type} : Left H := { results := [], args := [] }

/-- 'mezzotintlaw12.RunsOf': WHATEVER THE INPUT: true; the input reads as it did. -/
def runsOfSpec : ChangeSpec := { name := "runsOf", fn := fun _ => fun
  | [d1, d2] => { results := [.lit (.bool true)], args := [d1, d2] }
  | _ => none }
def runsOfRow : OpenClaim := { program := "ytklofifmmcegpaa", sum := "a2fabece0db373da8299ecdb9ee616f4b6737b017813259e4ee334eecad31cbf", func := "mezzotint/mezzotintlaw12.RunsOf", spec := "runsOf", apart := false }
def RunsOfSaid : Prop := runsOfRow.holds Try.pinned (OpenSpec.ofChange runsOfSpec)

/-- ITS FALSE NEIGHBOUR: 'it returns false'. Refute it at one input. -/
def runsOfWrong : ChangeSpec := { name := "runsOf", fn := fun _ => fun
  | [d1, d2] => { results := [.lit (.bool false)], args := [d1, d2] }
  | _ => none }
def RunsOfWrongFalsely : Prop := runsOfRow.holds Try.pinned (OpenSpec.ofChange runsOfWrong)

/-- 'mezzotintlaw12.RunsRows': WHATEVER THE INPUT: true; the input reads as it did. -/
def runsRowsSpec : ChangeSpec := { name := "runsRows", fn := fun _ => fun
  | [d1, d2] => { results := [.lit (.bool true)], args := [d1, d2] }
  | _ => none }
def runsRowsRow : OpenClaim := { program := "ytklofifmmcegpaa", sum := "a2fabece0db373da8299ecdb9ee616f4b6737b017813259e4ee334eecad31cbf", func := "mezzotint/mezzotintlaw12.RunsRows", spec := "runsRows", apart := false }
def RunsRowsSaid : Prop := runsRowsRow.holds Try.pinned (OpenSpec.ofChange runsRowsSpec)

/-- ITS FALSE NEIGHBOUR: 'it returns false'. Refute it at one input. -/
def runsRowsWrong : ChangeSpec := { name := "runsRows", fn := fun _ => fun
  | [d1, d2] => { results := [.lit (.bool false)], args := [d1, d2] }
  | _ => none }
def RunsRowsWrongFalsely : Prop := runsRowsRow.holds Try.pinned (OpenSpec.ofChange runsRowsWrong)

/-- 'mezzotintlaw12.RunsAgain': WHATEVER THE INPUT: true; the input reads as it did. -/
def runsAgainSpec : ChangeSpec := { name := "runsAgain", fn := fun _ => fun
  | [d1, d2] => { results := [.lit (.bool true)], args := [d1, d2] }
  | _ => none }
def runsAgainRow : OpenClaim := { program := "ytklofifmmcegpaa", sum := "a2fabece0db373da8299ecdb9ee616f4b6737b017813259e4ee334eecad31cbf", func := "mezzotint/mezzotintlaw12.RunsAgain", spec := "runsAgain", apart := false }
def RunsAgainSaid : Prop := runsAgainRow.holds Try.pinned (OpenSpec.ofChange runsAgainSpec)

/-- ITS FALSE NEIGHBOUR: 'it returns false'. Refute it at one input. -/
def runsAgainWrong : ChangeSpec := { name := "runsAgain", fn := fun _ => fun
  | [d1, d2] => { results := [.lit (.bool false)], args := [d1, d2] }
  | _ => none }
def RunsAgainWrongFalsely : Prop := runsAgainRow.holds Try.pinned (OpenSpec.ofChange runsAgainWrong)

/-- 'mezzotintlaw12.RunsNext': WHATEVER THE INPUT: true; the input reads as it did. -/
def runsNextSpec : ChangeSpec := { name := "runsNext", fn := fun _ => fun
  | [d1, d2, d3] => { results := [.lit (.bool true)], args := [d1, d2, d3] }
  | _ => none }
def runsNextRow : OpenClaim := { program := "ytklofifmmcegpaa", sum := "a2fabece0db373da8299ecdb9ee616f4b6737b017813259e4ee334eecad31cbf", func := "mezzotint/mezzotintlaw12.RunsNext", spec := "runsNext", apart := false }
def RunsNextSaid : Prop := runsNextRow.holds Try.pinned (OpenSpec.ofChange runsNextSpec)

/-- ITS FALSE NEIGHBOUR: 'it returns false'. Refute it at one input. -/
def runsNextWrong : ChangeSpec := { name := "runsNext", fn := fun _ => fun
  | [d1, d2, d3] => { results := [.lit (.bool false)], args := [d1, d2, d3] }
  | _ => none }
def RunsNextWrongFalsely : Prop := runsNextRow.holds Try.pinned (OpenSpec.ofChange runsNextWrong)

/-- 'mezzotintlaw12.RunsToggles': WHATEVER THE INPUT: true; the input reads as it did. -/
def runsTogglesSpec : ChangeSpec := { name := "runsToggles", fn := fun _ => fun
  | [d1, d2] => { results := [.lit (.bool true)], args := [d1, d2] }
  | _ => none }
def runsTogglesRow : OpenClaim := { program := "ytklofifmmcegpaa", sum := "a2fabece0db373da8299ecdb9ee616f4b6737b017813259e4ee334eecad31cbf", func := "mezzotint/mezzotintlaw12.RunsToggles", spec := "runsToggles", apart := false }
def RunsTogglesSaid : Prop := runsTogglesRow.holds Try.pinned (OpenSpec.ofChange runsTogglesSpec)

/-- ITS FALSE NEIGHBOUR: 'it returns false'. Refute it at one input. -/
def runsTogglesWrong : ChangeSpec := { name := "runsToggles", fn := fun _ => fun
  | [d1, d2] => { results := [.lit (.bool false)], args := [d1, d2] }
  | _ => none }
def RunsTogglesWrongFalsely : Prop := runsTogglesRow.holds Try.pinned (OpenSpec.ofChange runsTogglesWrong)

/-- 'mezzotintlaw12.RunsFlip': WHATEVER THE INPUT: true; the input reads as it did. -/
def runsFlipSpec : ChangeSpec := { name := "runsFlip", fn := fun _ => fun
  | [d1, d2] => { results := [.lit (.bool true)], args := [d1, d2] }
  | _ => none }
def runsFlipRow : OpenClaim := { program := "ytklofifmmcegpaa", sum := "a2fabece0db373da8299ecdb9ee616f4b6737b017813259e4ee334eecad31cbf", func := "mezzotint/mezzotintlaw12.RunsFlip", spec := "runsFlip", apart := false }
def RunsFlipSaid : Prop := runsFlipRow.holds Try.pinned (OpenSpec.ofChange runsFlipSpec)

/-- ITS FALSE NEIGHBOUR: 'it returns false'. Refute it at one input. -/
def runsFlipWrong : ChangeSpec := { name := "runsFlip", fn := fun _ => fun
  | [d1, d2] => { results := [.lit (.bool false)], args := [d1, d2] }
  | _ => none }
def RunsFlipWrongFalsely : Prop := runsFlipRow.holds Try.pinned (OpenSpec.ofChange runsFlipWrong)

/- THE SECOND FORM. 'bulk': how many values and letters a reading holds, each counted each time it is reached (what is shared counts as often as it is met; a slice's spare places count too). A statement '..UptoSaid' is the law's where the arguments, and the package variables that the reading takes, are together of bulk at most 1048576: NARROWER than '..Said'. Prove '..Said' where nothing that the law and all that it calls make is longer than what came in: it says more and counts as full. Else prove '..UptoSaid'. A law counts once. -/
mutual
def uptoBulk {H : Type} : DataW H → Nat
  | .lit (.string bytes) => bytes.length + 1
  | .lit _ => 1
  | .nil => 1
  | .ptr d => uptoBulk d + 1
  | .slice elems spare => uptoBulkAll elems + uptoBulkAll spare + 1
  | .agg parts => uptoBulkAll parts + 1
  | .iface _ d => uptoBulk d + 1
  | .map entries => uptoBulkEntries entries + 1
  | .held _ => 1
def uptoBulkAll {H : Type} : List (DataW H) → Nat
  | [] => 0
  | d :: r => uptoBulk d + uptoBulkAll r
def uptoBulkEntries {H : Type} : List (Lit × DataW H) → Nat
  | [] => 0
  | x :: r => uptoBulkEntry x + uptoBulkEntries r
def uptoBulkEntry {H : Type} : Lit × DataW H → Nat
  | (.string bytes, d) => bytes.length + uptoBulk d + 1
  | (_, d) => uptoBulk d + 1
 end
def uptoSmall : (H : Type) → List (DataW H) → Bool := fun _ ds => decide (uptoBulkAll ds ≤ 1048576)
def OpenSpec.upto (s : _root_.Go.ChangeSpec) : _root_.Go.OpenSpec := { _root_.Go.OpenSpec.ofChange s with cond := some uptoSmall }

/-- 'mezzotintlaw12.RunsOf', WHERE WHAT IT READS IS OF BULK AT MOST 1048576: true; the input reads as it did. -/
def runsOfUptoRow : OpenClaim := { program := "ytklofifmmcegpaa", sum := "a2fabece0db373da8299ecdb9ee616f4b6737b017813259e4ee334eecad31cbf", func := "mezzotint/mezzotintlaw12.RunsOf", spec := "runsOf", apart := false, narrowed := true }
def RunsOfUptoSaid : Prop := runsOfUptoRow.holds Try.pinned (OpenSpec.upto runsOfSpec)

/-- 'mezzotintlaw12.RunsRows', WHERE WHAT IT READS IS OF BULK AT MOST 1048576: true; the input reads as it did. -/
def runsRowsUptoRow : OpenClaim := { program := "ytklofifmmcegpaa", sum := "a2fabece0db373da8299ecdb9ee616f4b6737b017813259e4ee334eecad31cbf", func := "mezzotint/mezzotintlaw12.RunsRows", spec := "runsRows", apart := false, narrowed := true }
def RunsRowsUptoSaid : Prop := runsRowsUptoRow.holds Try.pinned (OpenSpec.upto runsRowsSpec)

/-- 'mezzotintlaw12.RunsAgain', WHERE WHAT IT READS IS OF BULK AT MOST 1048576: true; the input reads as it did. -/
def runsAgainUptoRow : OpenClaim := { program := "ytklofifmmcegpaa", sum := "a2fabece0db373da8299ecdb9ee616f4b6737b017813259e4ee334eecad31cbf", func := "mezzotint/mezzotintlaw12.RunsAgain", spec := "runsAgain", apart := false, narrowed := true }
def RunsAgainUptoSaid : Prop := runsAgainUptoRow.holds Try.pinned (OpenSpec.upto runsAgainSpec)

/-- 'mezzotintlaw12.RunsNext', WHERE WHAT IT READS IS OF BULK AT MOST 1048576: true; the input reads as it did. -/
def runsNextUptoRow : OpenClaim := { program := "ytklofifmmcegpaa", sum := "a2fabece0db373da8299ecdb9ee616f4b6737b017813259e4ee334eecad31cbf", func := "mezzotint/mezzotintlaw12.RunsNext", spec := "runsNext", apart := false, narrowed := true }
def RunsNextUptoSaid : Prop := runsNextUptoRow.holds Try.pinned (OpenSpec.upto runsNextSpec)

/-- 'mezzotintlaw12.RunsToggles', WHERE WHAT IT READS IS OF BULK AT MOST 1048576: true; the input reads as it did. -/
def runsTogglesUptoRow : OpenClaim := { program := "ytklofifmmcegpaa", sum := "a2fabece0db373da8299ecdb9ee616f4b6737b017813259e4ee334eecad31cbf", func := "mezzotint/mezzotintlaw12.RunsToggles", spec := "runsToggles", apart := false, narrowed := true }
def RunsTogglesUptoSaid : Prop := runsTogglesUptoRow.holds Try.pinned (OpenSpec.upto runsTogglesSpec)

/-- 'mezzotintlaw12.RunsFlip', WHERE WHAT IT READS IS OF BULK AT MOST 1048576: true; the input reads as it did. -/
def runsFlipUptoRow : OpenClaim := { program := "ytklofifmmcegpaa", sum := "a2fabece0db373da8299ecdb9ee616f4b6737b017813259e4ee334eecad31cbf", func := "mezzotint/mezzotintlaw12.RunsFlip", spec := "runsFlip", apart := false, narrowed := true }
def RunsFlipUptoSaid : Prop := runsFlipUptoRow.holds Try.pinned (OpenSpec.upto runsFlipSpec)

end Rows
end Go.Proofs.Ytklofifmmcegpaa

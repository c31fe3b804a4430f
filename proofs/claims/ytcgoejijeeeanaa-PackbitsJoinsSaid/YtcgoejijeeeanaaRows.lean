/-
  No cell of these rows narrows 'for every input' (looked for: loops, veiled, ifaces, maps, wideKeys, modest, calm, conditions, laid).
  DERIVED. THE GIVEN ROWS OF THIS SEAT. 4 by the template 'for every input the law returns true; each argument reads behind the call as it read before'; 0 by the template 'total and deterministic' (their statements: YtcgoejijeeeanaaTotals.lean).
  GIVEN WITH THE SEED: the statements are not yours to turn. If you find one false, say at which input.
  Laid BY PROGRAM, IN A SANDBOX (cutbox-rows.mjs): the forced cells as the released guide's own fill.sh prints them over the translation c23b5b858d90231f… (all of the seat's roots in one cut). By AI agents, Wed Nov 11 2026. No macro, syntax, notation, axiom, sorry.
-/
import Derived.Test.YtcgoejijeeeanaaChecked
import GoSem.Claim
import GoSem.ClaimJoined
import GoSem.ClaimMapViews
import Derived.JoinedTies
import Derived.KernelRfl
namespace Go.Proofs.Ytcgoejijeeeanaa
/- THE CELL 'sum', in the pinned program and in every row, IS THE sha256 OF THE DUMP (.gsa) THAT YtcgoejijeeeanaaProg.lean LOADS. Nothing in Lean hashes anything: it is a label: what it is worth is what the hold of that sum in a sandbox is worth. -/
noncomputable def Try.pinned : Pinned := { name := "ytcgoejijeeeanaa", sum := "c23b5b858d90231f3be0d5e2dc509f6909b4902be899f530a1539755be066f11", checked := Try.checked }
namespace Rows
def none {H : Type} : Left H := { results := [], args := [] }

/-- 'mezzotintlaw04.PackbitsDecodes': WHATEVER THE INPUT: true; the input reads as it did. -/
def packbitsDecodesSpec : ChangeSpec := { name := "packbitsDecodes", fn := fun _ => fun
  | [d1, d2] => { results := [.lit (.bool true)], args := [d1, d2] }
  | _ => none }
def packbitsDecodesRow : OpenClaim := { program := "ytcgoejijeeeanaa", sum := "c23b5b858d90231f3be0d5e2dc509f6909b4902be899f530a1539755be066f11", func := "mezzotint/mezzotintlaw04.PackbitsDecodes", spec := "packbitsDecodes", inPlace := ["internal/bytealg.MakeNoZero"], apart := false }
def PackbitsDecodesSaid : Prop := packbitsDecodesRow.holds Try.pinned (OpenSpec.ofChange packbitsDecodesSpec)

/-- ITS FALSE NEIGHBOUR: 'it returns false'. Refute it at one input. -/
def packbitsDecodesWrong : ChangeSpec := { name := "packbitsDecodes", fn := fun _ => fun
  | [d1, d2] => { results := [.lit (.bool false)], args := [d1, d2] }
  | _ => none }
def PackbitsDecodesWrongFalsely : Prop := packbitsDecodesRow.holds Try.pinned (OpenSpec.ofChange packbitsDecodesWrong)

/-- 'mezzotintlaw04.PackbitsEncodes': WHATEVER THE INPUT: true; the input reads as it did. -/
def packbitsEncodesSpec : ChangeSpec := { name := "packbitsEncodes", fn := fun _ => fun
  | [d] => { results := [.lit (.bool true)], args := [d] }
  | _ => none }
def packbitsEncodesRow : OpenClaim := { program := "ytcgoejijeeeanaa", sum := "c23b5b858d90231f3be0d5e2dc509f6909b4902be899f530a1539755be066f11", func := "mezzotint/mezzotintlaw04.PackbitsEncodes", spec := "packbitsEncodes", inPlace := ["internal/bytealg.MakeNoZero"], apart := false }
def PackbitsEncodesSaid : Prop := packbitsEncodesRow.holds Try.pinned (OpenSpec.ofChange packbitsEncodesSpec)

/-- ITS FALSE NEIGHBOUR: 'it returns false'. Refute it at one input. -/
def packbitsEncodesWrong : ChangeSpec := { name := "packbitsEncodes", fn := fun _ => fun
  | [d] => { results := [.lit (.bool false)], args := [d] }
  | _ => none }
def PackbitsEncodesWrongFalsely : Prop := packbitsEncodesRow.holds Try.pinned (OpenSpec.ofChange packbitsEncodesWrong)

/-- 'mezzotintlaw04.PackbitsAgain': WHATEVER THE INPUT: true; the input reads as it did. -/
def packbitsAgainSpec : ChangeSpec := { name := "packbitsAgain", fn := fun _ => fun
  | [d1, d2, d3] => { results := [.lit (.bool true)], args := [d1, d2, d3] }
  | _ => none }
def packbitsAgainRow : OpenClaim := { program := "ytcgoejijeeeanaa", sum := "c23b5b858d90231f3be0d5e2dc509f6909b4902be899f530a1539755be066f11", func := "mezzotint/mezzotintlaw04.PackbitsAgain", spec := "packbitsAgain", inPlace := ["internal/bytealg.MakeNoZero"], apart := false }
def PackbitsAgainSaid : Prop := packbitsAgainRow.holds Try.pinned (OpenSpec.ofChange packbitsAgainSpec)

/-- ITS FALSE NEIGHBOUR: 'it returns false'. Refute it at one input. -/
def packbitsAgainWrong : ChangeSpec := { name := "packbitsAgain", fn := fun _ => fun
  | [d1, d2, d3] => { results := [.lit (.bool false)], args := [d1, d2, d3] }
  | _ => none }
def PackbitsAgainWrongFalsely : Prop := packbitsAgainRow.holds Try.pinned (OpenSpec.ofChange packbitsAgainWrong)

/-- 'mezzotintlaw04.PackbitsJoins': WHATEVER THE INPUT: true; the input reads as it did. -/
def packbitsJoinsSpec : ChangeSpec := { name := "packbitsJoins", fn := fun _ => fun
  | [d1, d2, d3] => { results := [.lit (.bool true)], args := [d1, d2, d3] }
  | _ => none }
def packbitsJoinsRow : OpenClaim := { program := "ytcgoejijeeeanaa", sum := "c23b5b858d90231f3be0d5e2dc509f6909b4902be899f530a1539755be066f11", func := "mezzotint/mezzotintlaw04.PackbitsJoins", spec := "packbitsJoins", inPlace := ["internal/bytealg.MakeNoZero"], apart := false }
def PackbitsJoinsSaid : Prop := packbitsJoinsRow.holds Try.pinned (OpenSpec.ofChange packbitsJoinsSpec)

/-- ITS FALSE NEIGHBOUR: 'it returns false'. Refute it at one input. -/
def packbitsJoinsWrong : ChangeSpec := { name := "packbitsJoins", fn := fun _ => fun
  | [d1, d2, d3] => { results := [.lit (.bool false)], args := [d1, d2, d3] }
  | _ => none }
def PackbitsJoinsWrongFalsely : Prop := packbitsJoinsRow.holds Try.pinned (OpenSpec.ofChange packbitsJoinsWrong)

/- THE SECOND FORM. 'bulk': how many values and letters a reading holds, each counted each time it is reached (what is shared counts as often as it is met; a slice's spare places count too). A statement '..UptoSaid' is the law's where the arguments, and the package variables that the reading takes, are together of bulk at most 1048576: NARROWER than '..Said'. Prove '..Said' where nothing that the law and all that it calls make is longer than what came in: it says more and counts as full. Else prove '..UptoSaid'. A law counts once. -/
mutual
def uptoBulk {H : Type} : DataW H → Nat
  | .lit (.string bytes) => bytes.length + 1
  | .lit _ => 1
  | .nil => 1
  | .ptr d => uptoBulk d + 1
  | .slice elems spare => uptoBulkAll elems + uptoBulkAll spare + 1
  | .agg parts => uptoBulkAll parts + 1
  | .iface _ d => uptoBulk d + 1
  | .map entries => uptoBulkEntries entries + 1
  | .held _ => 1
def uptoBulkAll {H : Type} : List (DataW H) → Nat
  | [] => 0
  | d :: r => uptoBulk d + uptoBulkAll r
def uptoBulkEntries {H : Type} : List (Lit × DataW H) → Nat
  | [] => 0
  | x :: r => uptoBulkEntry x + uptoBulkEntries r
def uptoBulkEntry {H : Type} : Lit × DataW H → Nat
  | (.string bytes, d) => bytes.length + uptoBulk d + 1
  | (_, d) => uptoBulk d + 1
 end
def uptoSmall : (H : Type) → List (DataW H) → Bool := fun _ ds => decide (uptoBulkAll ds ≤ 1048576)
def OpenSpec.upto (s : _root_.Go.ChangeSpec) : _root_.Go.OpenSpec := { _root_.Go.OpenSpec.ofChange s with cond := some uptoSmall }

/-- 'mezzotintlaw04.PackbitsDecodes', WHERE WHAT IT READS IS OF BULK AT MOST 1048576: true; the input reads as it did. -/
def packbitsDecodesUptoRow : OpenClaim := { program := "ytcgoejijeeeanaa", sum := "c23b5b858d90231f3be0d5e2dc509f6909b4902be899f530a1539755be066f11", func := "mezzotint/mezzotintlaw04.PackbitsDecodes", spec := "packbitsDecodes", inPlace := ["internal/bytealg.MakeNoZero"], apart := false, narrowed := true }
def PackbitsDecodesUptoSaid : Prop := packbitsDecodesUptoRow.holds Try.pinned (OpenSpec.upto packbitsDecodesSpec)

/-- 'mezzotintlaw04.PackbitsEncodes', WHERE WHAT IT READS IS OF BULK AT MOST 1048576: true; the input reads as it did. -/
def packbitsEncodesUptoRow : OpenClaim := { program := "ytcgoejijeeeanaa", sum := "c23b5b858d90231f3be0d5e2dc509f6909b4902be899f530a1539755be066f11", func := "mezzotint/mezzotintlaw04.PackbitsEncodes", spec := "packbitsEncodes", inPlace := ["internal/bytealg.MakeNoZero"], apart := false, narrowed := true }
def PackbitsEncodesUptoSaid : Prop := packbitsEncodesUptoRow.holds Try.pinned (OpenSpec.upto packbitsEncodesSpec)

/-- 'mezzotintlaw04.PackbitsAgain', WHERE WHAT IT READS IS OF BULK AT MOST 1048576: true; the input reads as it did. -/
def packbitsAgainUptoRow : OpenClaim := { program := "ytcgoejijeeeanaa", sum := "c23b5b858d90231f3be0d5e2dc509f6909b4902be899f530a1539755be066f11", func := "mezzotint/mezzotintlaw04.PackbitsAgain", spec := "packbitsAgain", inPlace := ["internal/bytealg.MakeNoZero"], apart := false, narrowed := true }
def PackbitsAgainUptoSaid : Prop := packbitsAgainUptoRow.holds Try.pinned (OpenSpec.upto packbitsAgainSpec)

/-- 'mezzotintlaw04.PackbitsJoins', WHERE WHAT IT READS IS OF BULK AT MOST 1048576: true; the input reads as it did. -/
def packbitsJoinsUptoRow : OpenClaim := { program := "ytcgoejijeeeanaa", sum := "c23b5b858d90231f3be0d5e2dc509f6909b4902be899f530a1539755be066f11", func := "mezzotint/mezzotintlaw04.PackbitsJoins", spec := "packbitsJoins", inPlace := ["internal/bytealg.MakeNoZero"], apart := false, narrowed := true }
def PackbitsJoinsUptoSaid : Prop := packbitsJoinsUptoRow.holds Try.pinned (OpenSpec.upto packbitsJoinsSpec)

end Rows
end Go.Proofs.Ytcgoejijeeeanaa

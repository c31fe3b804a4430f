/-
  No cell of these rows narrows 'for every input' (looked for: loops, veiled, ifaces, maps, wideKeys, modest, calm, conditions, laid).
  DERIVED. THE GIVEN ROWS OF THIS SEAT. 4 by the template 'for every input the law returns true; each argument reads behind the call as it read before'; 0 by the template 'total and deterministic' (their statements: YtkeplmnohenbnaaTotals.lean).
  GIVEN WITH THE SEED: the statements are not yours to turn. If you find one false, say at which input.
  Laid BY PROGRAM, IN A SANDBOX (cutbox-rows.mjs): the forced cells as the released guide's own fill.sh prints them over the translation 5d6c7b8b8909aef8… (all of the seat's roots in one cut). By AI agents, Wed Nov 11 2026. No macro, syntax, notation, axiom, sorry.
-/
import Derived.Test.YtkeplmnohenbnaaChecked
import GoSem.Claim
import GoSem.ClaimJoined
import GoSem.ClaimMapViews
import Derived.JoinedTies
import Derived.KernelRfl
namespace Go.Proofs.Ytkeplmnohenbnaa
/- THE CELL 'sum', in the pinned program and in every row, IS THE sha256 OF THE DUMP (.gsa) THAT YtkeplmnohenbnaaProg.lean LOADS. Nothing in Lean hashes anything: it is a label: what it is worth is what the hold of that sum in a sandbox is worth. -/
noncomputable def Try.pinned : Pinned := { name := "ytkeplmnohenbnaa", sum := "5d6c7b8b8909aef84f5bc9a60cd67d87ed088810d882977c6c5b4516113dc066", checked := Try.checked }
namespace Rows
def none {H : Type} : Left H := { results := [], args := [] }

/-- 'mezzotintlaw17.SamplesPacks': WHATEVER THE INPUT: true; the input reads as it did. -/
def samplesPacksSpec : ChangeSpec := { name := "samplesPacks", fn := fun _ => fun
  | [d1, d2, d3] => { results := [.lit (.bool true)], args := [d1, d2, d3] }
  | _ => none }
def samplesPacksRow : OpenClaim := { program := "ytkeplmnohenbnaa", sum := "5d6c7b8b8909aef84f5bc9a60cd67d87ed088810d882977c6c5b4516113dc066", func := "mezzotint/mezzotintlaw17.SamplesPacks", spec := "samplesPacks", apart := false }
def SamplesPacksSaid : Prop := samplesPacksRow.holds Try.pinned (OpenSpec.ofChange samplesPacksSpec)

/-- ITS FALSE NEIGHBOUR: 'it returns false'. Refute it at one input. -/
def samplesPacksWrong : ChangeSpec := { name := "samplesPacks", fn := fun _ => fun
  | [d1, d2, d3] => { results := [.lit (.bool false)], args := [d1, d2, d3] }
  | _ => none }
def SamplesPacksWrongFalsely : Prop := samplesPacksRow.holds Try.pinned (OpenSpec.ofChange samplesPacksWrong)

/-- 'mezzotintlaw17.SamplesReads': WHATEVER THE INPUT: true; the input reads as it did. -/
def samplesReadsSpec : ChangeSpec := { name := "samplesReads", fn := fun _ => fun
  | [d1, d2, d3] => { results := [.lit (.bool true)], args := [d1, d2, d3] }
  | _ => none }
def samplesReadsRow : OpenClaim := { program := "ytkeplmnohenbnaa", sum := "5d6c7b8b8909aef84f5bc9a60cd67d87ed088810d882977c6c5b4516113dc066", func := "mezzotint/mezzotintlaw17.SamplesReads", spec := "samplesReads", apart := false }
def SamplesReadsSaid : Prop := samplesReadsRow.holds Try.pinned (OpenSpec.ofChange samplesReadsSpec)

/-- ITS FALSE NEIGHBOUR: 'it returns false'. Refute it at one input. -/
def samplesReadsWrong : ChangeSpec := { name := "samplesReads", fn := fun _ => fun
  | [d1, d2, d3] => { results := [.lit (.bool false)], args := [d1, d2, d3] }
  | _ => none }
def SamplesReadsWrongFalsely : Prop := samplesReadsRow.holds Try.pinned (OpenSpec.ofChange samplesReadsWrong)

/-- 'mezzotintlaw17.SamplesAgain': WHATEVER THE INPUT: true; the input reads as it did. -/
def samplesAgainSpec : ChangeSpec := { name := "samplesAgain", fn := fun _ => fun
  | [d1, d2, d3] => { results := [.lit (.bool true)], args := [d1, d2, d3] }
  | _ => none }
def samplesAgainRow : OpenClaim := { program := "ytkeplmnohenbnaa", sum := "5d6c7b8b8909aef84f5bc9a60cd67d87ed088810d882977c6c5b4516113dc066", func := "mezzotint/mezzotintlaw17.SamplesAgain", spec := "samplesAgain", apart := false }
def SamplesAgainSaid : Prop := samplesAgainRow.holds Try.pinned (OpenSpec.ofChange samplesAgainSpec)

/-- ITS FALSE NEIGHBOUR: 'it returns false'. Refute it at one input. -/
def samplesAgainWrong : ChangeSpec := { name := "samplesAgain", fn := fun _ => fun
  | [d1, d2, d3] => { results := [.lit (.bool false)], args := [d1, d2, d3] }
  | _ => none }
def SamplesAgainWrongFalsely : Prop := samplesAgainRow.holds Try.pinned (OpenSpec.ofChange samplesAgainWrong)

/-- 'mezzotintlaw17.SamplesJoins': WHATEVER THE INPUT: true; the input reads as it did. -/
def samplesJoinsSpec : ChangeSpec := { name := "samplesJoins", fn := fun _ => fun
  | [d1, d2, d3] => { results := [.lit (.bool true)], args := [d1, d2, d3] }
  | _ => none }
def samplesJoinsRow : OpenClaim := { program := "ytkeplmnohenbnaa", sum := "5d6c7b8b8909aef84f5bc9a60cd67d87ed088810d882977c6c5b4516113dc066", func := "mezzotint/mezzotintlaw17.SamplesJoins", spec := "samplesJoins", apart := false }
def SamplesJoinsSaid : Prop := samplesJoinsRow.holds Try.pinned (OpenSpec.ofChange samplesJoinsSpec)

/-- ITS FALSE NEIGHBOUR: 'it returns false'. Refute it at one input. -/
def samplesJoinsWrong : ChangeSpec := { name := "samplesJoins", fn := fun _ => fun
  | [d1, d2, d3] => { results := [.lit (.bool false)], args := [d1, d2, d3] }
  | _ => none }
def SamplesJoinsWrongFalsely : Prop := samplesJoinsRow.holds Try.pinned (OpenSpec.ofChange samplesJoinsWrong)

/- THE SECOND FORM. 'bulk': how many values and letters a reading holds, each counted each time it is reached (what is shared counts as often as it is met; a slice's spare places count too). A statement '..UptoSaid' is the law's where the arguments, and the package variables that the reading takes, are together of bulk at most 1048576: NARROWER than '..Said'. Prove '..Said' where nothing that the law and all that it calls make is longer than what came in: it says more and counts as full. Else prove '..UptoSaid'. A law counts once. -/
mutual
def uptoBulk {H : Type} : DataW H → Nat
  | .lit (.string bytes) => bytes.length + 1
  | .lit _ => 1
  | .nil => 1
  | .ptr d => uptoBulk d + 1
  | .slice elems spare => uptoBulkAll elems + uptoBulkAll spare + 1
  | .agg parts => uptoBulkAll parts + 1
  | .iface _ d => uptoBulk d + 1
  | .map entries => uptoBulkEntries entries + 1
  | .held _ => 1
def uptoBulkAll {H : Type} : List (DataW H) → Nat
  | [] => 0
  | d :: r => uptoBulk d + uptoBulkAll r
def uptoBulkEntries {H : Type} : List (Lit × DataW H) → Nat
  | [] => 0
  | x :: r => uptoBulkEntry x + uptoBulkEntries r
def uptoBulkEntry {H : Type} : Lit × DataW H → Nat
  | (.string bytes, d) => bytes.length + uptoBulk d + 1
  | (_, d) => uptoBulk d + 1
 end
def uptoSmall : (H : Type) → List (DataW H) → Bool := fun _ ds => decide (uptoBulkAll ds ≤ 1048576)
def OpenSpec.upto (s : _root_.Go.ChangeSpec) : _root_.Go.OpenSpec := { _root_.Go.OpenSpec.ofChange s with cond := some uptoSmall }

/-- 'mezzotintlaw17.SamplesPacks', WHERE WHAT IT READS IS OF BULK AT MOST 1048576: true; the input reads as it did. -/
def samplesPacksUptoRow : OpenClaim := { program := "ytkeplmnohenbnaa", sum := "5d6c7b8b8909aef84f5bc9a60cd67d87ed088810d882977c6c5b4516113dc066", func := "mezzotint/mezzotintlaw17.SamplesPacks", spec := "samplesPacks", apart := false, narrowed := true }
def SamplesPacksUptoSaid : Prop := samplesPacksUptoRow.holds Try.pinned (OpenSpec.upto samplesPacksSpec)

/-- 'mezzotintlaw17.SamplesReads', WHERE WHAT IT READS IS OF BULK AT MOST 1048576: true; the input reads as it did. -/
def samplesReadsUptoRow : OpenClaim := { program := "ytkeplmnohenbnaa", sum := "5d6c7b8b8909aef84f5bc9a60cd67d87ed088810d882977c6c5b4516113dc066", func := "mezzotint/mezzotintlaw17.SamplesReads", spec := "samplesReads", apart := false, narrowed := true }
def SamplesReadsUptoSaid : Prop := samplesReadsUptoRow.holds Try.pinned (OpenSpec.upto samplesReadsSpec)

/-- 'mezzotintlaw17.SamplesAgain', WHERE WHAT IT READS IS OF BULK AT MOST 1048576: true; the input reads as it did. -/
def samplesAgainUptoRow : OpenClaim := { program := "ytkeplmnohenbnaa", sum := "5d6c7b8b8909aef84f5bc9a60cd67d87ed088810d882977c6c5b4516113dc066", func := "mezzotint/mezzotintlaw17.SamplesAgain", spec := "samplesAgain", apart := false, narrowed := true }
def SamplesAgainUptoSaid : Prop := samplesAgainUptoRow.holds Try.pinned (OpenSpec.upto samplesAgainSpec)

/-- 'mezzotintlaw17.SamplesJoins', WHERE WHAT IT READS IS OF BULK AT MOST 1048576: true; the input reads as it did. -/
def samplesJoinsUptoRow : OpenClaim := { program := "ytkeplmnohenbnaa", sum := "5d6c7b8b8909aef84f5bc9a60cd67d87ed088810d882977c6c5b4516113dc066", func := "mezzotint/mezzotintlaw17.SamplesJoins", spec := "samplesJoins", apart := false, narrowed := true }
def SamplesJoinsUptoSaid : Prop := samplesJoinsUptoRow.holds Try.pinned (OpenSpec.upto samplesJoinsSpec)

end Rows
end Go.Proofs.Ytkeplmnohenbnaa

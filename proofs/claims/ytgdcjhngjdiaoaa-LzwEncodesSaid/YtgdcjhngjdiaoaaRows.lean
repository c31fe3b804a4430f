/-
  No cell of these rows narrows 'for every input' (looked for: loops, veiled, ifaces, maps, wideKeys, modest, calm, conditions, laid).
  DERIVED. THE GIVEN ROWS OF THIS SEAT. 5 by the template 'for every input the law returns true; each argument reads behind the call as it read before'; 0 by the template 'total and deterministic' (their statements: YtgdcjhngjdiaoaaTotals.lean).
  GIVEN WITH THE SEED: the statements are not yours to turn. If you find one false, say at which input.
  Laid BY PROGRAM, IN A SANDBOX (cutbox-rows.mjs): the forced cells as the released guide's own fill.sh prints them over the translation da7325c75a712a4f… (all of the seat's roots in one cut). By AI agents, Wed Nov 11 2026. No macro, syntax, notation, axiom, sorry.
-/
import Derived.Test.YtgdcjhngjdiaoaaChecked
import GoSem.Claim
import GoSem.ClaimJoined
import GoSem.ClaimMapViews
import Derived.JoinedTies
import Derived.KernelRfl
namespace Go.Proofs.Ytgdcjhngjdiaoaa
/- THE CELL 'sum', in the pinned program and in every row, IS THE sha256 OF THE DUMP (.gsa) THAT YtgdcjhngjdiaoaaProg.lean LOADS. Nothing in Lean hashes anything: it is a label: what it is worth is what the hold of that sum in a sandbox is worth. -/
noncomputable def Try.pinned : Pinned := { name := "ytgdcjhngjdiaoaa", sum := "da7325c75a712a4f22e880c44679e877264060bf5902794e5d652ed015631b55", checked := Try.checked }
namespace Rows
def none {H : Type} : Left H := { results := [], args := [] }

/-- 'mezzotintlaw05.LzwDecodes': WHATEVER THE INPUT: true; the input reads as it did. -/
def lzwDecodesSpec : ChangeSpec := { name := "lzwDecodes", fn := fun _ => fun
  | [d1, d2, d3] => { results := [.lit (.bool true)], args := [d1, d2, d3] }
  | _ => none }
def lzwDecodesRow : OpenClaim := { program := "ytgdcjhngjdiaoaa", sum := "da7325c75a712a4f22e880c44679e877264060bf5902794e5d652ed015631b55", func := "mezzotint/mezzotintlaw05.LzwDecodes", spec := "lzwDecodes", apart := false }
def LzwDecodesSaid : Prop := lzwDecodesRow.holds Try.pinned (OpenSpec.ofChange lzwDecodesSpec)

/-- ITS FALSE NEIGHBOUR: 'it returns false'. Refute it at one input. -/
def lzwDecodesWrong : ChangeSpec := { name := "lzwDecodes", fn := fun _ => fun
  | [d1, d2, d3] => { results := [.lit (.bool false)], args := [d1, d2, d3] }
  | _ => none }
def LzwDecodesWrongFalsely : Prop := lzwDecodesRow.holds Try.pinned (OpenSpec.ofChange lzwDecodesWrong)

/-- 'mezzotintlaw05.LzwEncodes': WHATEVER THE INPUT: true; the input reads as it did. -/
def lzwEncodesSpec : ChangeSpec := { name := "lzwEncodes", fn := fun _ => fun
  | [d] => { results := [.lit (.bool true)], args := [d] }
  | _ => none }
def lzwEncodesRow : OpenClaim := { program := "ytgdcjhngjdiaoaa", sum := "da7325c75a712a4f22e880c44679e877264060bf5902794e5d652ed015631b55", func := "mezzotint/mezzotintlaw05.LzwEncodes", spec := "lzwEncodes", apart := false }
def LzwEncodesSaid : Prop := lzwEncodesRow.holds Try.pinned (OpenSpec.ofChange lzwEncodesSpec)

/-- ITS FALSE NEIGHBOUR: 'it returns false'. Refute it at one input. -/
def lzwEncodesWrong : ChangeSpec := { name := "lzwEncodes", fn := fun _ => fun
  | [d] => { results := [.lit (.bool false)], args := [d] }
  | _ => none }
def LzwEncodesWrongFalsely : Prop := lzwEncodesRow.holds Try.pinned (OpenSpec.ofChange lzwEncodesWrong)

/-- 'mezzotintlaw05.LzwAgain': WHATEVER THE INPUT: true; the input reads as it did. -/
def lzwAgainSpec : ChangeSpec := { name := "lzwAgain", fn := fun _ => fun
  | [d1, d2, d3] => { results := [.lit (.bool true)], args := [d1, d2, d3] }
  | _ => none }
def lzwAgainRow : OpenClaim := { program := "ytgdcjhngjdiaoaa", sum := "da7325c75a712a4f22e880c44679e877264060bf5902794e5d652ed015631b55", func := "mezzotint/mezzotintlaw05.LzwAgain", spec := "lzwAgain", apart := false }
def LzwAgainSaid : Prop := lzwAgainRow.holds Try.pinned (OpenSpec.ofChange lzwAgainSpec)

/-- ITS FALSE NEIGHBOUR: 'it returns false'. Refute it at one input. -/
def lzwAgainWrong : ChangeSpec := { name := "lzwAgain", fn := fun _ => fun
  | [d1, d2, d3] => { results := [.lit (.bool false)], args := [d1, d2, d3] }
  | _ => none }
def LzwAgainWrongFalsely : Prop := lzwAgainRow.holds Try.pinned (OpenSpec.ofChange lzwAgainWrong)

/-- 'mezzotintlaw05.LzwCodes': WHATEVER THE INPUT: true; the input reads as it did. -/
def lzwCodesSpec : ChangeSpec := { name := "lzwCodes", fn := fun _ => fun
  | [d] => { results := [.lit (.bool true)], args := [d] }
  | _ => none }
def lzwCodesRow : OpenClaim := { program := "ytgdcjhngjdiaoaa", sum := "da7325c75a712a4f22e880c44679e877264060bf5902794e5d652ed015631b55", func := "mezzotint/mezzotintlaw05.LzwCodes", spec := "lzwCodes", apart := false }
def LzwCodesSaid : Prop := lzwCodesRow.holds Try.pinned (OpenSpec.ofChange lzwCodesSpec)

/-- ITS FALSE NEIGHBOUR: 'it returns false'. Refute it at one input. -/
def lzwCodesWrong : ChangeSpec := { name := "lzwCodes", fn := fun _ => fun
  | [d] => { results := [.lit (.bool false)], args := [d] }
  | _ => none }
def LzwCodesWrongFalsely : Prop := lzwCodesRow.holds Try.pinned (OpenSpec.ofChange lzwCodesWrong)

/-- 'mezzotintlaw05.LzwTail': WHATEVER THE INPUT: true; the input reads as it did. -/
def lzwTailSpec : ChangeSpec := { name := "lzwTail", fn := fun _ => fun
  | [d1, d2, d3] => { results := [.lit (.bool true)], args := [d1, d2, d3] }
  | _ => none }
def lzwTailRow : OpenClaim := { program := "ytgdcjhngjdiaoaa", sum := "da7325c75a712a4f22e880c44679e877264060bf5902794e5d652ed015631b55", func := "mezzotint/mezzotintlaw05.LzwTail", spec := "lzwTail", apart := false }
def LzwTailSaid : Prop := lzwTailRow.holds Try.pinned (OpenSpec.ofChange lzwTailSpec)

/-- ITS FALSE NEIGHBOUR: 'it returns false'. Refute it at one input. -/
def lzwTailWrong : ChangeSpec := { name := "lzwTail", fn := fun _ => fun
  | [d1, d2, d3] => { results := [.lit (.bool false)], args := [d1, d2, d3] }
  | _ => none }
def LzwTailWrongFalsely : Prop := lzwTailRow.holds Try.pinned (OpenSpec.ofChange lzwTailWrong)

/- THE SECOND FORM. 'bulk': how many values and letters a reading holds, each counted each time it is reached (what is shared counts as often as it is met; a slice's spare places count too). A statement '..UptoSaid' is the law's where the arguments, and the package variables that the reading takes, are together of bulk at most 1048576: NARROWER than '..Said'. Prove '..Said' where nothing that the law and all that it calls make is longer than what came in: it says more and counts as full. Else prove '..UptoSaid'. A law counts once. -/
mutual
def uptoBulk {H : Type} : DataW H → Nat
  | .lit (.string bytes) => bytes.length + 1
  | .lit _ => 1
  | .nil => 1
  | .ptr d => uptoBulk d + 1
  | .slice elems spare => uptoBulkAll elems + uptoBulkAll spare + 1
  | .agg parts => uptoBulkAll parts + 1
  | .iface _ d => uptoBulk d + 1
  | .map entries => uptoBulkEntries entries + 1
  | .held _ => 1
def uptoBulkAll {H : Type} : List (DataW H) → Nat
  | [] => 0
  | d :: r => uptoBulk d + uptoBulkAll r
def uptoBulkEntries {H : Type} : List (Lit × DataW H) → Nat
  | [] => 0
  | x :: r => uptoBulkEntry x + uptoBulkEntries r
def uptoBulkEntry {H : Type} : Lit × DataW H → Nat
  | (.string bytes, d) => bytes.length + uptoBulk d + 1
  | (_, d) => uptoBulk d + 1
 end
def uptoSmall : (H : Type) → List (DataW H) → Bool := fun _ ds => decide (uptoBulkAll ds ≤ 1048576)
def OpenSpec.upto (s : _root_.Go.ChangeSpec) : _root_.Go.OpenSpec := { _root_.Go.OpenSpec.ofChange s with cond := some uptoSmall }

/-- 'mezzotintlaw05.LzwDecodes', WHERE WHAT IT READS IS OF BULK AT MOST 1048576: true; the input reads as it did. -/
def lzwDecodesUptoRow : OpenClaim := { program := "ytgdcjhngjdiaoaa", sum := "da7325c75a712a4f22e880c44679e877264060bf5902794e5d652ed015631b55", func := "mezzotint/mezzotintlaw05.LzwDecodes", spec := "lzwDecodes", apart := false, narrowed := true }
def LzwDecodesUptoSaid : Prop := lzwDecodesUptoRow.holds Try.pinned (OpenSpec.upto lzwDecodesSpec)

/-- 'mezzotintlaw05.LzwEncodes', WHERE WHAT IT READS IS OF BULK AT MOST 1048576: true; the input reads as it did. -/
def lzwEncodesUptoRow : OpenClaim := { program := "ytgdcjhngjdiaoaa", sum := "da7325c75a712a4f22e880c44679e877264060bf5902794e5d652ed015631b55", func := "mezzotint/mezzotintlaw05.LzwEncodes", spec := "lzwEncodes", apart := false, narrowed := true }
def LzwEncodesUptoSaid : Prop := lzwEncodesUptoRow.holds Try.pinned (OpenSpec.upto lzwEncodesSpec)

/-- 'mezzotintlaw05.LzwAgain', WHERE WHAT IT READS IS OF BULK AT MOST 1048576: true; the input reads as it did. -/
def lzwAgainUptoRow : OpenClaim := { program := "ytgdcjhngjdiaoaa", sum := "da7325c75a712a4f22e880c44679e877264060bf5902794e5d652ed015631b55", func := "mezzotint/mezzotintlaw05.LzwAgain", spec := "lzwAgain", apart := false, narrowed := true }
def LzwAgainUptoSaid : Prop := lzwAgainUptoRow.holds Try.pinned (OpenSpec.upto lzwAgainSpec)

/-- 'mezzotintlaw05.LzwCodes', WHERE WHAT IT READS IS OF BULK AT MOST 1048576: true; the input reads as it did. -/
def lzwCodesUptoRow : OpenClaim := { program := "ytgdcjhngjdiaoaa", sum := "da7325c75a712a4f22e880c44679e877264060bf5902794e5d652ed015631b55", func := "mezzotint/mezzotintlaw05.LzwCodes", spec := "lzwCodes", apart := false, narrowed := true }
def LzwCodesUptoSaid : Prop := lzwCodesUptoRow.holds Try.pinned (OpenSpec.upto lzwCodesSpec)

/-- 'mezzotintlaw05.LzwTail', WHERE WHAT IT READS IS OF BULK AT MOST 1048576: true; the input reads as it did. -/
def lzwTailUptoRow : OpenClaim := { program := "ytgdcjhngjdiaoaa", sum := "da7325c75a712a4f22e880c44679e877264060bf5902794e5d652ed015631b55", func := "mezzotint/mezzotintlaw05.LzwTail", spec := "lzwTail", apart := false, narrowed := true }
def LzwTailUptoSaid : Prop := lzwTailUptoRow.holds Try.pinned (OpenSpec.upto lzwTailSpec)

end Rows
end Go.Proofs.Ytgdcjhngjdiaoaa

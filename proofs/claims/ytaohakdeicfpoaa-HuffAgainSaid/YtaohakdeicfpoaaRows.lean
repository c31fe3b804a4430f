/-
  No cell of these rows narrows 'for every input' (looked for: loops, veiled, ifaces, maps, wideKeys, modest, calm, conditions, laid).
  DERIVED. THE GIVEN ROWS OF THIS SEAT. 4 by the template 'for every input the law returns true; each argument reads behind the call as it read before'; 0 by the template 'total and deterministic' (their statements: YtaohakdeicfpoaaTotals.lean).
  GIVEN WITH THE SEED: the statements are not yours to turn. If you find one false, say at which input.
  Laid BY PROGRAM, IN A SANDBOX (cutbox-rows.mjs): the forced cells as the released guide's own fill.sh prints them over the translation 97faa73672e08660… (all of the seat's roots in one cut). By AI agents, Wed Nov 11 2026. No macro, syntax, notation, axiom, sorry.
-/
import Derived.Test.YtaohakdeicfpoaaChecked
import GoSem.Claim
import GoSem.ClaimJoined
import GoSem.ClaimMapViews
import Derived.JoinedTies
import Derived.KernelRfl
namespace Go.Proofs.Ytaohakdeicfpoaa
/- THE CELL 'sum', in the pinned program and in every row, IS THE sha256 OF THE DUMP (.gsa) THAT YtaohakdeicfpoaaProg.lean LOADS. Nothing in Lean hashes anything: it is a label: what it is worth is what the hold of that sum in a sandbox is worth. -/
noncomputable def Try.pinned : Pinned := { name := "ytaohakdeicfpoaa", sum := "97faa73672e086607bb2cdc741d7d2fb7496f087eb15e017ca22fa7e7db8b32d", checked := Try.checked }
namespace Rows
def none {H : Type} : Left H := { results := [], args := [] }

/-- 'mezzotintlaw06.HuffCanon': WHATEVER THE INPUT: true; the input reads as it did. -/
def huffCanonSpec : ChangeSpec := { name := "huffCanon", fn := fun _ => fun
  | [d] => { results := [.lit (.bool true)], args := [d] }
  | _ => none }
def huffCanonRow : OpenClaim := { program := "ytaohakdeicfpoaa", sum := "97faa73672e086607bb2cdc741d7d2fb7496f087eb15e017ca22fa7e7db8b32d", func := "mezzotint/mezzotintlaw06.HuffCanon", spec := "huffCanon", apart := false }
def HuffCanonSaid : Prop := huffCanonRow.holds Try.pinned (OpenSpec.ofChange huffCanonSpec)

/-- ITS FALSE NEIGHBOUR: 'it returns false'. Refute it at one input. -/
def huffCanonWrong : ChangeSpec := { name := "huffCanon", fn := fun _ => fun
  | [d] => { results := [.lit (.bool false)], args := [d] }
  | _ => none }
def HuffCanonWrongFalsely : Prop := huffCanonRow.holds Try.pinned (OpenSpec.ofChange huffCanonWrong)

/-- 'mezzotintlaw06.HuffAgain': WHATEVER THE INPUT: true; the input reads as it did. -/
def huffAgainSpec : ChangeSpec := { name := "huffAgain", fn := fun _ => fun
  | [d1, d2, d3] => { results := [.lit (.bool true)], args := [d1, d2, d3] }
  | _ => none }
def huffAgainRow : OpenClaim := { program := "ytaohakdeicfpoaa", sum := "97faa73672e086607bb2cdc741d7d2fb7496f087eb15e017ca22fa7e7db8b32d", func := "mezzotint/mezzotintlaw06.HuffAgain", spec := "huffAgain", apart := false }
def HuffAgainSaid : Prop := huffAgainRow.holds Try.pinned (OpenSpec.ofChange huffAgainSpec)

/-- ITS FALSE NEIGHBOUR: 'it returns false'. Refute it at one input. -/
def huffAgainWrong : ChangeSpec := { name := "huffAgain", fn := fun _ => fun
  | [d1, d2, d3] => { results := [.lit (.bool false)], args := [d1, d2, d3] }
  | _ => none }
def HuffAgainWrongFalsely : Prop := huffAgainRow.holds Try.pinned (OpenSpec.ofChange huffAgainWrong)

/-- 'mezzotintlaw06.HuffNil': WHATEVER THE INPUT: true; the input reads as it did. -/
def huffNilSpec : ChangeSpec := { name := "huffNil", fn := fun _ => fun
  | [d1, d2] => { results := [.lit (.bool true)], args := [d1, d2] }
  | _ => none }
def huffNilRow : OpenClaim := { program := "ytaohakdeicfpoaa", sum := "97faa73672e086607bb2cdc741d7d2fb7496f087eb15e017ca22fa7e7db8b32d", func := "mezzotint/mezzotintlaw06.HuffNil", spec := "huffNil", apart := false }
def HuffNilSaid : Prop := huffNilRow.holds Try.pinned (OpenSpec.ofChange huffNilSpec)

/-- ITS FALSE NEIGHBOUR: 'it returns false'. Refute it at one input. -/
def huffNilWrong : ChangeSpec := { name := "huffNil", fn := fun _ => fun
  | [d1, d2] => { results := [.lit (.bool false)], args := [d1, d2] }
  | _ => none }
def HuffNilWrongFalsely : Prop := huffNilRow.holds Try.pinned (OpenSpec.ofChange huffNilWrong)

/-- 'mezzotintlaw06.HuffFree': WHATEVER THE INPUT: true; the input reads as it did. -/
def huffFreeSpec : ChangeSpec := { name := "huffFree", fn := fun _ => fun
  | [d] => { results := [.lit (.bool true)], args := [d] }
  | _ => none }
def huffFreeRow : OpenClaim := { program := "ytaohakdeicfpoaa", sum := "97faa73672e086607bb2cdc741d7d2fb7496f087eb15e017ca22fa7e7db8b32d", func := "mezzotint/mezzotintlaw06.HuffFree", spec := "huffFree", apart := false }
def HuffFreeSaid : Prop := huffFreeRow.holds Try.pinned (OpenSpec.ofChange huffFreeSpec)

/-- ITS FALSE NEIGHBOUR: 'it returns false'. Refute it at one input. -/
def huffFreeWrong : ChangeSpec := { name := "huffFree", fn := fun _ => fun
  | [d] => { results := [.lit (.bool false)], args := [d] }
  | _ => none }
def HuffFreeWrongFalsely : Prop := huffFreeRow.holds Try.pinned (OpenSpec.ofChange huffFreeWrong)

/- THE SECOND FORM. 'bulk': how many values and letters a reading holds, each counted each time it is reached (what is shared counts as often as it is met; a slice's spare places count too). A statement '..UptoSaid' is the law's where the arguments, and the package variables that the reading takes, are together of bulk at most 1048576: NARROWER than '..Said'. Prove '..Said' where nothing that the law and all that it calls make is longer than what came in: it says more and counts as full. Else prove '..UptoSaid'. A law counts once. -/
mutual
def uptoBulk {H : Type} : DataW H → Nat
  | .lit (.string bytes) => bytes.length + 1
  | .lit _ => 1
  | .nil => 1
  | .ptr d => uptoBulk d + 1
  | .slice elems spare => uptoBulkAll elems + uptoBulkAll spare + 1
  | .agg parts => uptoBulkAll parts + 1
  | .iface _ d => uptoBulk d + 1
  | .map entries => uptoBulkEntries entries + 1
  | .held _ => 1
def uptoBulkAll {H : Type} : List (DataW H) → Nat
  | [] => 0
  | d :: r => uptoBulk d + uptoBulkAll r
def uptoBulkEntries {H : Type} : List (Lit × DataW H) → Nat
  | [] => 0
  | x :: r => uptoBulkEntry x + uptoBulkEntries r
def uptoBulkEntry {H : Type} : Lit × DataW H → Nat
  | (.string bytes, d) => bytes.length + uptoBulk d + 1
  | (_, d) => uptoBulk d + 1
 end
def uptoSmall : (H : Type) → List (DataW H) → Bool := fun _ ds => decide (uptoBulkAll ds ≤ 1048576)
def OpenSpec.upto (s : _root_.Go.ChangeSpec) : _root_.Go.OpenSpec := { _root_.Go.OpenSpec.ofChange s with cond := some uptoSmall }

/-- 'mezzotintlaw06.HuffCanon', WHERE WHAT IT READS IS OF BULK AT MOST 1048576: true; the input reads as it did. -/
def huffCanonUptoRow : OpenClaim := { program := "ytaohakdeicfpoaa", sum := "97faa73672e086607bb2cdc741d7d2fb7496f087eb15e017ca22fa7e7db8b32d", func := "mezzotint/mezzotintlaw06.HuffCanon", spec := "huffCanon", apart := false, narrowed := true }
def HuffCanonUptoSaid : Prop := huffCanonUptoRow.holds Try.pinned (OpenSpec.upto huffCanonSpec)

/-- 'mezzotintlaw06.HuffAgain', WHERE WHAT IT READS IS OF BULK AT MOST 1048576: true; the input reads as it did. -/
def huffAgainUptoRow : OpenClaim := { program := "ytaohakdeicfpoaa", sum := "97faa73672e086607bb2cdc741d7d2fb7496f087eb15e017ca22fa7e7db8b32d", func := "mezzotint/mezzotintlaw06.HuffAgain", spec := "huffAgain", apart := false, narrowed := true }
def HuffAgainUptoSaid : Prop := huffAgainUptoRow.holds Try.pinned (OpenSpec.upto huffAgainSpec)

/-- 'mezzotintlaw06.HuffNil', WHERE WHAT IT READS IS OF BULK AT MOST 1048576: true; the input reads as it did. -/
def huffNilUptoRow : OpenClaim := { program := "ytaohakdeicfpoaa", sum := "97faa73672e086607bb2cdc741d7d2fb7496f087eb15e017ca22fa7e7db8b32d", func := "mezzotint/mezzotintlaw06.HuffNil", spec := "huffNil", apart := false, narrowed := true }
def HuffNilUptoSaid : Prop := huffNilUptoRow.holds Try.pinned (OpenSpec.upto huffNilSpec)

/-- 'mezzotintlaw06.HuffFree', WHERE WHAT IT READS IS OF BULK AT MOST 1048576: true; the input reads as it did. -/
def huffFreeUptoRow : OpenClaim := { program := "ytaohakdeicfpoaa", sum := "97faa73672e086607bb2cdc741d7d2fb7496f087eb15e017ca22fa7e7db8b32d", func := "mezzotint/mezzotintlaw06.HuffFree", spec := "huffFree", apart := false, narrowed := true }
def HuffFreeUptoSaid : Prop := huffFreeUptoRow.holds Try.pinned (OpenSpec.upto huffFreeSpec)

end Rows
end Go.Proofs.Ytaohakdeicfpoaa

/-
  No cell of these rows narrows 'for every input' (looked for: loops, veiled, ifaces, maps, wideKeys, modest, calm, conditions, laid).
  DERIVED. THE GIVEN ROWS OF THIS SEAT. 6 by the template 'for every input the law returns true; each argument reads behind the call as it read before'; 0 by the template 'total and deterministic' (their statements: YtjecakkdongcoaaTotals.lean).
  GIVEN WITH THE SEED: the statements are not yours to turn. If you find one false, say at which input.
  Laid BY PROGRAM, IN A SANDBOX (cutbox-rows.mjs): the forced cells as the released guide's own fill.sh prints them over the translation 50267ce0cf5731cd… (all of the seat's roots in one cut). By AI agents, Wed Nov 11 2026. No macro, syntax, notation, axiom, sorry.
-/
import Derived.Test.YtjecakkdongcoaaChecked
import GoSem.Claim
import GoSem.ClaimJoined
import GoSem.ClaimMapViews
import Derived.JoinedTies
import Derived.KernelRfl
namespace Go.Proofs.Ytjecakkdongcoaa
/- THE CELL 'sum', in the pinned program and in every row, IS THE sha256 OF THE DUMP (.gsa) THAT YtjecakkdongcoaaProg.lean LOADS. Nothing in Lean hashes anything: it is a label: what it is worth is what the hold of that sum in a sandbox is worth. -/
noncomputable def Try.pinned : Pinned := { name := "ytjecakkdongcoaa", sum := "50267ce0cf5731cd3bdd88005084861792d68a50a230ed7bcb8253d47e63401a", checked := Try.checked }
namespace Rows
def none {H : Type} : Left H := { results := [], args := [] }

/-- 'mezzotintlaw19.GridCells': WHATEVER THE INPUT: true; the input reads as it did. -/
def gridCellsSpec : ChangeSpec := { name := "gridCells", fn := fun _ => fun
  | [d1, d2, d3] => { results := [.lit (.bool true)], args := [d1, d2, d3] }
  | _ => none }
def gridCellsRow : OpenClaim := { program := "ytjecakkdongcoaa", sum := "50267ce0cf5731cd3bdd88005084861792d68a50a230ed7bcb8253d47e63401a", func := "mezzotint/mezzotintlaw19.GridCells", spec := "gridCells", apart := false }
def GridCellsSaid : Prop := gridCellsRow.holds Try.pinned (OpenSpec.ofChange gridCellsSpec)

/-- ITS FALSE NEIGHBOUR: 'it returns false'. Refute it at one input. -/
def gridCellsWrong : ChangeSpec := { name := "gridCells", fn := fun _ => fun
  | [d1, d2, d3] => { results := [.lit (.bool false)], args := [d1, d2, d3] }
  | _ => none }
def GridCellsWrongFalsely : Prop := gridCellsRow.holds Try.pinned (OpenSpec.ofChange gridCellsWrong)

/-- 'mezzotintlaw19.GridCuts': WHATEVER THE INPUT: true; the input reads as it did. -/
def gridCutsSpec : ChangeSpec := { name := "gridCuts", fn := fun _ => fun
  | [d1, d2] => { results := [.lit (.bool true)], args := [d1, d2] }
  | _ => none }
def gridCutsRow : OpenClaim := { program := "ytjecakkdongcoaa", sum := "50267ce0cf5731cd3bdd88005084861792d68a50a230ed7bcb8253d47e63401a", func := "mezzotint/mezzotintlaw19.GridCuts", spec := "gridCuts", apart := false }
def GridCutsSaid : Prop := gridCutsRow.holds Try.pinned (OpenSpec.ofChange gridCutsSpec)

/-- ITS FALSE NEIGHBOUR: 'it returns false'. Refute it at one input. -/
def gridCutsWrong : ChangeSpec := { name := "gridCuts", fn := fun _ => fun
  | [d1, d2] => { results := [.lit (.bool false)], args := [d1, d2] }
  | _ => none }
def GridCutsWrongFalsely : Prop := gridCutsRow.holds Try.pinned (OpenSpec.ofChange gridCutsWrong)

/-- 'mezzotintlaw19.GridPastes': WHATEVER THE INPUT: true; the input reads as it did. -/
def gridPastesSpec : ChangeSpec := { name := "gridPastes", fn := fun _ => fun
  | [d1, d2, d3] => { results := [.lit (.bool true)], args := [d1, d2, d3] }
  | _ => none }
def gridPastesRow : OpenClaim := { program := "ytjecakkdongcoaa", sum := "50267ce0cf5731cd3bdd88005084861792d68a50a230ed7bcb8253d47e63401a", func := "mezzotint/mezzotintlaw19.GridPastes", spec := "gridPastes", apart := false }
def GridPastesSaid : Prop := gridPastesRow.holds Try.pinned (OpenSpec.ofChange gridPastesSpec)

/-- ITS FALSE NEIGHBOUR: 'it returns false'. Refute it at one input. -/
def gridPastesWrong : ChangeSpec := { name := "gridPastes", fn := fun _ => fun
  | [d1, d2, d3] => { results := [.lit (.bool false)], args := [d1, d2, d3] }
  | _ => none }
def GridPastesWrongFalsely : Prop := gridPastesRow.holds Try.pinned (OpenSpec.ofChange gridPastesWrong)

/-- 'mezzotintlaw19.GridAgain': WHATEVER THE INPUT: true; the input reads as it did. -/
def gridAgainSpec : ChangeSpec := { name := "gridAgain", fn := fun _ => fun
  | [d1, d2, d3] => { results := [.lit (.bool true)], args := [d1, d2, d3] }
  | _ => none }
def gridAgainRow : OpenClaim := { program := "ytjecakkdongcoaa", sum := "50267ce0cf5731cd3bdd88005084861792d68a50a230ed7bcb8253d47e63401a", func := "mezzotint/mezzotintlaw19.GridAgain", spec := "gridAgain", unfollowed := true, recurses := true, apart := false }
def GridAgainSaid : Prop := gridAgainRow.holds Try.pinned (OpenSpec.ofChange gridAgainSpec)

/-- ITS FALSE NEIGHBOUR: 'it returns false'. Refute it at one input. -/
def gridAgainWrong : ChangeSpec := { name := "gridAgain", fn := fun _ => fun
  | [d1, d2, d3] => { results := [.lit (.bool false)], args := [d1, d2, d3] }
  | _ => none }
def GridAgainWrongFalsely : Prop := gridAgainRow.holds Try.pinned (OpenSpec.ofChange gridAgainWrong)

/-- 'mezzotintlaw19.GridMaps': WHATEVER THE INPUT: true; the input reads as it did. -/
def gridMapsSpec : ChangeSpec := { name := "gridMaps", fn := fun _ => fun
  | [d] => { results := [.lit (.bool true)], args := [d] }
  | _ => none }
def gridMapsRow : OpenClaim := { program := "ytjecakkdongcoaa", sum := "50267ce0cf5731cd3bdd88005084861792d68a50a230ed7bcb8253d47e63401a", func := "mezzotint/mezzotintlaw19.GridMaps", spec := "gridMaps", unfollowed := true, recurses := true, apart := false }
def GridMapsSaid : Prop := gridMapsRow.holds Try.pinned (OpenSpec.ofChange gridMapsSpec)

/-- ITS FALSE NEIGHBOUR: 'it returns false'. Refute it at one input. -/
def gridMapsWrong : ChangeSpec := { name := "gridMaps", fn := fun _ => fun
  | [d] => { results := [.lit (.bool false)], args := [d] }
  | _ => none }
def GridMapsWrongFalsely : Prop := gridMapsRow.holds Try.pinned (OpenSpec.ofChange gridMapsWrong)

/-- 'mezzotintlaw19.GridTwice': WHATEVER THE INPUT: true; the input reads as it did. -/
def gridTwiceSpec : ChangeSpec := { name := "gridTwice", fn := fun _ => fun
  | [d1, d2, d3] => { results := [.lit (.bool true)], args := [d1, d2, d3] }
  | _ => none }
def gridTwiceRow : OpenClaim := { program := "ytjecakkdongcoaa", sum := "50267ce0cf5731cd3bdd88005084861792d68a50a230ed7bcb8253d47e63401a", func := "mezzotint/mezzotintlaw19.GridTwice", spec := "gridTwice", apart := false }
def GridTwiceSaid : Prop := gridTwiceRow.holds Try.pinned (OpenSpec.ofChange gridTwiceSpec)

/-- ITS FALSE NEIGHBOUR: 'it returns false'. Refute it at one input. -/
def gridTwiceWrong : ChangeSpec := { name := "gridTwice", fn := fun _ => fun
  | [d1, d2, d3] => { results := [.lit (.bool false)], args := [d1, d2, d3] }
  | _ => none }
def GridTwiceWrongFalsely : Prop := gridTwiceRow.holds Try.pinned (OpenSpec.ofChange gridTwiceWrong)

/- THE SECOND FORM. 'bulk': how many values and letters a reading holds, each counted each time it is reached (what is shared counts as often as it is met; a slice's spare places count too). A statement '..UptoSaid' is the law's where the arguments, and the package variables that the reading takes, are together of bulk at most 1048576: NARROWER than '..Said'. Prove '..Said' where nothing that the law and all that it calls make is longer than what came in: it says more and counts as full. Else prove '..UptoSaid'. A law counts once. -/
mutual
def uptoBulk {H : Type} : DataW H → Nat
  | .lit (.string bytes) => bytes.length + 1
  | .lit _ => 1
  | .nil => 1
  | .ptr d => uptoBulk d + 1
  | .slice elems spare => uptoBulkAll elems + uptoBulkAll spare + 1
  | .agg parts => uptoBulkAll parts + 1
  | .iface _ d => uptoBulk d + 1
  | .map entries => uptoBulkEntries entries + 1
  | .held _ => 1
def uptoBulkAll {H : Type} : List (DataW H) → Nat
  | [] => 0
  | d :: r => uptoBulk d + uptoBulkAll r
def uptoBulkEntries {H : Type} : List (Lit × DataW H) → Nat
  | [] => 0
  | x :: r => uptoBulkEntry x + uptoBulkEntries r
def uptoBulkEntry {H : Type} : Lit × DataW H → Nat
  | (.string bytes, d) => bytes.length + uptoBulk d + 1
  | (_, d) => uptoBulk d + 1
 end
def uptoSmall : (H : Type) → List (DataW H) → Bool := fun _ ds => decide (uptoBulkAll ds ≤ 1048576)
def OpenSpec.upto (s : _root_.Go.ChangeSpec) : _root_.Go.OpenSpec := { _root_.Go.OpenSpec.ofChange s with cond := some uptoSmall }

/-- 'mezzotintlaw19.GridCells', WHERE WHAT IT READS IS OF BULK AT MOST 1048576: true; the input reads as it did. -/
def gridCellsUptoRow : OpenClaim := { program := "ytjecakkdongcoaa", sum := "50267ce0cf5731cd3bdd88005084861792d68a50a230ed7bcb8253d47e63401a", func := "mezzotint/mezzotintlaw19.GridCells", spec := "gridCells", apart := false, narrowed := true }
def GridCellsUptoSaid : Prop := gridCellsUptoRow.holds Try.pinned (OpenSpec.upto gridCellsSpec)

/-- 'mezzotintlaw19.GridCuts', WHERE WHAT IT READS IS OF BULK AT MOST 1048576: true; the input reads as it did. -/
def gridCutsUptoRow : OpenClaim := { program := "ytjecakkdongcoaa", sum := "50267ce0cf5731cd3bdd88005084861792d68a50a230ed7bcb8253d47e63401a", func := "mezzotint/mezzotintlaw19.GridCuts", spec := "gridCuts", apart := false, narrowed := true }
def GridCutsUptoSaid : Prop := gridCutsUptoRow.holds Try.pinned (OpenSpec.upto gridCutsSpec)

/-- 'mezzotintlaw19.GridPastes', WHERE WHAT IT READS IS OF BULK AT MOST 1048576: true; the input reads as it did. -/
def gridPastesUptoRow : OpenClaim := { program := "ytjecakkdongcoaa", sum := "50267ce0cf5731cd3bdd88005084861792d68a50a230ed7bcb8253d47e63401a", func := "mezzotint/mezzotintlaw19.GridPastes", spec := "gridPastes", apart := false, narrowed := true }
def GridPastesUptoSaid : Prop := gridPastesUptoRow.holds Try.pinned (OpenSpec.upto gridPastesSpec)

/-- 'mezzotintlaw19.GridAgain', WHERE WHAT IT READS IS OF BULK AT MOST 1048576: true; the input reads as it did. -/
def gridAgainUptoRow : OpenClaim := { program := "ytjecakkdongcoaa", sum := "50267ce0cf5731cd3bdd88005084861792d68a50a230ed7bcb8253d47e63401a", func := "mezzotint/mezzotintlaw19.GridAgain", spec := "gridAgain", unfollowed := true, recurses := true, apart := false, narrowed := true }
def GridAgainUptoSaid : Prop := gridAgainUptoRow.holds Try.pinned (OpenSpec.upto gridAgainSpec)

/-- 'mezzotintlaw19.GridMaps', WHERE WHAT IT READS IS OF BULK AT MOST 1048576: true; the input reads as it did. -/
def gridMapsUptoRow : OpenClaim := { program := "ytjecakkdongcoaa", sum := "50267ce0cf5731cd3bdd88005084861792d68a50a230ed7bcb8253d47e63401a", func := "mezzotint/mezzotintlaw19.GridMaps", spec := "gridMaps", unfollowed := true, recurses := true, apart := false, narrowed := true }
def GridMapsUptoSaid : Prop := gridMapsUptoRow.holds Try.pinned (OpenSpec.upto gridMapsSpec)

/-- 'mezzotintlaw19.GridTwice', WHERE WHAT IT READS IS OF BULK AT MOST 1048576: true; the input reads as it did. -/
def gridTwiceUptoRow : OpenClaim := { program := "ytjecakkdongcoaa", sum := "50267ce0cf5731cd3bdd88005084861792d68a50a230ed7bcb8253d47e63401a", func := "mezzotint/mezzotintlaw19.GridTwice", spec := "gridTwice", apart := false, narrowed := true }
def GridTwiceUptoSaid : Prop := gridTwiceUptoRow.holds Try.pinned (OpenSpec.upto gridTwiceSpec)

end Rows
end Go.Proofs.Ytjecakkdongcoaa

/-
  No cell of these rows narrows 'for every input' (looked for: loops, veiled, ifaces, maps, wideKeys, modest, calm, conditions, laid).
  DERIVED. THE GIVEN ROWS OF THIS SEAT. 3 by the template 'for every input the law returns true; each argument reads behind the call as it read before'; 0 by the template 'total and deterministic' (their statements: YtgakegomanfccaaTotals.lean).
  GIVEN WITH THE SEED: the statements are not yours to turn. If you find one false, say at which input.
  Laid BY PROGRAM, IN A SANDBOX (cutbox-rows.mjs): the forced cells as the released guide's own fill.sh prints them over the translation ea3cd43f61821adf… (all of the seat's roots in one cut). By AI agents, Wed Nov 11 2026. No macro, syntax, notation, axiom, sorry.
-/
import Derived.Test.YtgakegomanfccaaChecked
import GoSem.Claim
import GoSem.ClaimJoined
import GoSem.ClaimMapViews
import Derived.JoinedTies
import Derived.KernelRfl
namespace Go.Proofs.Ytgakegomanfccaa
/- THE CELL 'sum', in the pinned program and in every row, IS THE sha256 OF THE DUMP (.gsa) THAT YtgakegomanfccaaProg.lean LOADS. Nothing in Lean hashes anything: it is a label: what it is worth is what the hold of that sum in a sandbox is worth. -/
noncomputable def Try.pinned : Pinned := { name := "ytgakegomanfccaa", sum := "ea3cd43f61821adf8deb3b56cebd9aaaef3a69fe71c0212a82aad940d34edd56", checked := Try.checked }
namespace Rows
def none {H : Type} : Left H := { results := [], args := [] }

/-- 'mezzotintlaw18.PredictRows': WHATEVER THE INPUT: true; the input reads as it did. -/
def predictRowsSpec : ChangeSpec := { name := "predictRows", fn := fun _ => fun
  | [d1, d2, d3] => { results := [.lit (.bool true)], args := [d1, d2, d3] }
  | _ => none }
def predictRowsRow : OpenClaim := { program := "ytgakegomanfccaa", sum := "ea3cd43f61821adf8deb3b56cebd9aaaef3a69fe71c0212a82aad940d34edd56", func := "mezzotint/mezzotintlaw18.PredictRows", spec := "predictRows", apart := false }
def PredictRowsSaid : Prop := predictRowsRow.holds Try.pinned (OpenSpec.ofChange predictRowsSpec)

/-- ITS FALSE NEIGHBOUR: 'it returns false'. Refute it at one input. -/
def predictRowsWrong : ChangeSpec := { name := "predictRows", fn := fun _ => fun
  | [d1, d2, d3] => { results := [.lit (.bool false)], args := [d1, d2, d3] }
  | _ => none }
def PredictRowsWrongFalsely : Prop := predictRowsRow.holds Try.pinned (OpenSpec.ofChange predictRowsWrong)

/-- 'mezzotintlaw18.PredictAgain': WHATEVER THE INPUT: true; the input reads as it did. -/
def predictAgainSpec : ChangeSpec := { name := "predictAgain", fn := fun _ => fun
  | [d1, d2, d3] => { results := [.lit (.bool true)], args := [d1, d2, d3] }
  | _ => none }
def predictAgainRow : OpenClaim := { program := "ytgakegomanfccaa", sum := "ea3cd43f61821adf8deb3b56cebd9aaaef3a69fe71c0212a82aad940d34edd56", func := "mezzotint/mezzotintlaw18.PredictAgain", spec := "predictAgain", apart := false }
def PredictAgainSaid : Prop := predictAgainRow.holds Try.pinned (OpenSpec.ofChange predictAgainSpec)

/-- ITS FALSE NEIGHBOUR: 'it returns false'. Refute it at one input. -/
def predictAgainWrong : ChangeSpec := { name := "predictAgain", fn := fun _ => fun
  | [d1, d2, d3] => { results := [.lit (.bool false)], args := [d1, d2, d3] }
  | _ => none }
def PredictAgainWrongFalsely : Prop := predictAgainRow.holds Try.pinned (OpenSpec.ofChange predictAgainWrong)

/-- 'mezzotintlaw18.PredictShifts': WHATEVER THE INPUT: true; the input reads as it did. -/
def predictShiftsSpec : ChangeSpec := { name := "predictShifts", fn := fun _ => fun
  | [d1, d2, d3] => { results := [.lit (.bool true)], args := [d1, d2, d3] }
  | _ => none }
def predictShiftsRow : OpenClaim := { program := "ytgakegomanfccaa", sum := "ea3cd43f61821adf8deb3b56cebd9aaaef3a69fe71c0212a82aad940d34edd56", func := "mezzotint/mezzotintlaw18.PredictShifts", spec := "predictShifts", apart := false }
def PredictShiftsSaid : Prop := predictShiftsRow.holds Try.pinned (OpenSpec.ofChange predictShiftsSpec)

/-- ITS FALSE NEIGHBOUR: 'it returns false'. Refute it at one input. -/
def predictShiftsWrong : ChangeSpec := { name := "predictShifts", fn := fun _ => fun
  | [d1, d2, d3] => { results := [.lit (.bool false)], args := [d1, d2, d3] }
  | _ => none }
def PredictShiftsWrongFalsely : Prop := predictShiftsRow.holds Try.pinned (OpenSpec.ofChange predictShiftsWrong)

/- THE SECOND FORM. 'bulk': how many values and letters a reading holds, each counted each time it is reached (what is shared counts as often as it is met; a slice's spare places count too). A statement '..UptoSaid' is the law's where the arguments, and the package variables that the reading takes, are together of bulk at most 1048576: NARROWER than '..Said'. Prove '..Said' where nothing that the law and all that it calls make is longer than what came in: it says more and counts as full. Else prove '..UptoSaid'. A law counts once. -/
mutual
def uptoBulk {H : Type} : DataW H → Nat
  | .lit (.string bytes) => bytes.length + 1
  | .lit _ => 1
  | .nil => 1
  | .ptr d => uptoBulk d + 1
  | .slice elems spare => uptoBulkAll elems + uptoBulkAll spare + 1
  | .agg parts => uptoBulkAll parts + 1
  | .iface _ d => uptoBulk d + 1
  | .map entries => uptoBulkEntries entries + 1
  | .held _ => 1
def uptoBulkAll {H : Type} : List (DataW H) → Nat
  | [] => 0
  | d :: r => uptoBulk d + uptoBulkAll r
def uptoBulkEntries {H : Type} : List (Lit × DataW H) → Nat
  | [] => 0
  | x :: r => uptoBulkEntry x + uptoBulkEntries r
def uptoBulkEntry {H : Type} : Lit × DataW H → Nat
  | (.string bytes, d) => bytes.length + uptoBulk d + 1
  | (_, d) => uptoBulk d + 1
 end
def uptoSmall : (H : Type) → List (DataW H) → Bool := fun _ ds => decide (uptoBulkAll ds ≤ 1048576)
def OpenSpec.upto (s : _root_.Go.ChangeSpec) : _root_.Go.OpenSpec := { _root_.Go.OpenSpec.ofChange s with cond := some uptoSmall }

/-- 'mezzotintlaw18.PredictRows', WHERE WHAT IT READS IS OF BULK AT MOST 1048576: true; the input reads as it did. -/
def predictRowsUptoRow : OpenClaim := { program := "ytgakegomanfccaa", sum := "ea3cd43f61821adf8deb3b56cebd9aaaef3a69fe71c0212a82aad940d34edd56", func := "mezzotint/mezzotintlaw18.PredictRows", spec := "predictRows", apart := false, narrowed := true }
def PredictRowsUptoSaid : Prop := predictRowsUptoRow.holds Try.pinned (OpenSpec.upto predictRowsSpec)

/-- 'mezzotintlaw18.PredictAgain', WHERE WHAT IT READS IS OF BULK AT MOST 1048576: true; the input reads as it did. -/
def predictAgainUptoRow : OpenClaim := { program := "ytgakegomanfccaa", sum := "ea3cd43f61821adf8deb3b56cebd9aaaef3a69fe71c0212a82aad940d34edd56", func := "mezzotint/mezzotintlaw18.PredictAgain", spec := "predictAgain", apart := false, narrowed := true }
def PredictAgainUptoSaid : Prop := predictAgainUptoRow.holds Try.pinned (OpenSpec.upto predictAgainSpec)

/-- 'mezzotintlaw18.PredictShifts', WHERE WHAT IT READS IS OF BULK AT MOST 1048576: true; the input reads as it did. -/
def predictShiftsUptoRow : OpenClaim := { program := "ytgakegomanfccaa", sum := "ea3cd43f61821adf8deb3b56cebd9aaaef3a69fe71c0212a82aad940d34edd56", func := "mezzotint/mezzotintlaw18.PredictShifts", spec := "predictShifts", apart := false, narrowed := true }
def PredictShiftsUptoSaid : Prop := predictShiftsUptoRow.holds Try.pinned (OpenSpec.upto predictShiftsSpec)

end Rows
end Go.Proofs.Ytgakegomanfccaa

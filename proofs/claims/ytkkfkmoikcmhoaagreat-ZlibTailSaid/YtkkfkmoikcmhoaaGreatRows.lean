/-
  No cell of these rows narrows 'for every input' (looked for: loops, veiled, ifaces, maps, wideKeys, modest, calm, conditions, laid).
  DERIVED. THE GIVEN ROWS OF THIS SEAT. 4 by the template 'for every input the law returns true; each argument reads behind the call as it read before'; 0 by the template 'total and deterministic' (their statements: YtkkfkmoikcmhoaaGreatTotals.lean).
  GIVEN WITH THE SEED: the statements are not yours to turn. If you find one false, say at which input.
  Laid BY PROGRAM, IN A SANDBOX (cutbox-rows.mjs): the forced cells as the released guide's own fill.sh prints them over the translation 8530c2a818fbed5f… (all of the seat's roots in one cut). By AI agents, Wed Nov 11 2026. No macro, syntax, notation, axiom, sorry.
-/
import Derived.Test.YtkkfkmoikcmhoaaGreatChecked
import GoSem.Claim
import GoSem.ClaimJoined
import GoSem.ClaimMapViews
import Derived.JoinedTies
import Derived.KernelRfl
namespace Go.Proofs.YtkkfkmoikcmhoaaGreat
/- THE CELL 'sum', in the pinned program and in every row, IS THE sha256 OF THE DUMP (.gsa) THAT YtkkfkmoikcmhoaaGreatProg.lean LOADS. Nothing in Lean hashes anything: it is a label: what it is worth is what the hold of that sum in a sandbox is worth. -/
noncomputable def Tryz.pinned : Pinned := { name := "ytkkfkmoikcmhoaagreat", sum := "8530c2a818fbed5f15313b1beaf8275d637fa50cb2151da6f36da8508b0c3901", checked := Tryz.checked }
namespace Rows
def none {H : Type} : Left H := { results := [], args := [] }

/-- 'mezzotintlaw11.ZlibOpens': WHATEVER THE INPUT: true; the input reads as it did. -/
def zlibOpensSpec : ChangeSpec := { name := "zlibOpens", fn := fun _ => fun
  | [d1, d2] => { results := [.lit (.bool true)], args := [d1, d2] }
  | _ => none }
def zlibOpensRow : OpenClaim := { program := "ytkkfkmoikcmhoaagreat", sum := "8530c2a818fbed5f15313b1beaf8275d637fa50cb2151da6f36da8508b0c3901", func := "mezzotint/mezzotintlaw11.ZlibOpens", spec := "zlibOpens", unfollowed := true, recurses := true, apart := false }
def ZlibOpensSaid : Prop := zlibOpensRow.holds Tryz.pinned (OpenSpec.ofChange zlibOpensSpec)

/-- ITS FALSE NEIGHBOUR: 'it returns false'. Refute it at one input. -/
def zlibOpensWrong : ChangeSpec := { name := "zlibOpens", fn := fun _ => fun
  | [d1, d2] => { results := [.lit (.bool false)], args := [d1, d2] }
  | _ => none }
def ZlibOpensWrongFalsely : Prop := zlibOpensRow.holds Tryz.pinned (OpenSpec.ofChange zlibOpensWrong)

/-- 'mezzotintlaw11.ZlibPacks': WHATEVER THE INPUT: true; the input reads as it did. -/
def zlibPacksSpec : ChangeSpec := { name := "zlibPacks", fn := fun _ => fun
  | [d1, d2] => { results := [.lit (.bool true)], args := [d1, d2] }
  | _ => none }
def zlibPacksRow : OpenClaim := { program := "ytkkfkmoikcmhoaagreat", sum := "8530c2a818fbed5f15313b1beaf8275d637fa50cb2151da6f36da8508b0c3901", func := "mezzotint/mezzotintlaw11.ZlibPacks", spec := "zlibPacks", unfollowed := true, recurses := true, apart := false }
def ZlibPacksSaid : Prop := zlibPacksRow.holds Tryz.pinned (OpenSpec.ofChange zlibPacksSpec)

/-- ITS FALSE NEIGHBOUR: 'it returns false'. Refute it at one input. -/
def zlibPacksWrong : ChangeSpec := { name := "zlibPacks", fn := fun _ => fun
  | [d1, d2] => { results := [.lit (.bool false)], args := [d1, d2] }
  | _ => none }
def ZlibPacksWrongFalsely : Prop := zlibPacksRow.holds Tryz.pinned (OpenSpec.ofChange zlibPacksWrong)

/-- 'mezzotintlaw11.ZlibAgain': WHATEVER THE INPUT: true; the input reads as it did. -/
def zlibAgainSpec : ChangeSpec := { name := "zlibAgain", fn := fun _ => fun
  | [d1, d2, d3] => { results := [.lit (.bool true)], args := [d1, d2, d3] }
  | _ => none }
def zlibAgainRow : OpenClaim := { program := "ytkkfkmoikcmhoaagreat", sum := "8530c2a818fbed5f15313b1beaf8275d637fa50cb2151da6f36da8508b0c3901", func := "mezzotint/mezzotintlaw11.ZlibAgain", spec := "zlibAgain", unfollowed := true, recurses := true, apart := false }
def ZlibAgainSaid : Prop := zlibAgainRow.holds Tryz.pinned (OpenSpec.ofChange zlibAgainSpec)

/-- ITS FALSE NEIGHBOUR: 'it returns false'. Refute it at one input. -/
def zlibAgainWrong : ChangeSpec := { name := "zlibAgain", fn := fun _ => fun
  | [d1, d2, d3] => { results := [.lit (.bool false)], args := [d1, d2, d3] }
  | _ => none }
def ZlibAgainWrongFalsely : Prop := zlibAgainRow.holds Tryz.pinned (OpenSpec.ofChange zlibAgainWrong)

/-- 'mezzotintlaw11.ZlibTail': WHATEVER THE INPUT: true; the input reads as it did. -/
def zlibTailSpec : ChangeSpec := { name := "zlibTail", fn := fun _ => fun
  | [d1, d2, d3] => { results := [.lit (.bool true)], args := [d1, d2, d3] }
  | _ => none }
def zlibTailRow : OpenClaim := { program := "ytkkfkmoikcmhoaagreat", sum := "8530c2a818fbed5f15313b1beaf8275d637fa50cb2151da6f36da8508b0c3901", func := "mezzotint/mezzotintlaw11.ZlibTail", spec := "zlibTail", unfollowed := true, recurses := true, apart := false }
def ZlibTailSaid : Prop := zlibTailRow.holds Tryz.pinned (OpenSpec.ofChange zlibTailSpec)

/-- ITS FALSE NEIGHBOUR: 'it returns false'. Refute it at one input. -/
def zlibTailWrong : ChangeSpec := { name := "zlibTail", fn := fun _ => fun
  | [d1, d2, d3] => { results := [.lit (.bool false)], args := [d1, d2, d3] }
  | _ => none }
def ZlibTailWrongFalsely : Prop := zlibTailRow.holds Tryz.pinned (OpenSpec.ofChange zlibTailWrong)

/- THE SECOND FORM. 'bulk': how many values and letters a reading holds, each counted each time it is reached (what is shared counts as often as it is met; a slice's spare places count too). A statement '..UptoSaid' is the law's where the arguments, and the package variables that the reading takes, are together of bulk at most 1048576: NARROWER than '..Said'. Prove '..Said' where nothing that the law and all that it calls make is longer than what came in: it says more and counts as full. Else prove '..UptoSaid'. A law counts once. -/
mutual
def uptoBulk {H : Type} : DataW H → Nat
  | .lit (.string bytes) => bytes.length + 1
  | .lit _ => 1
  | .nil => 1
  | .ptr d => uptoBulk d + 1
  | .slice elems spare => uptoBulkAll elems + uptoBulkAll spare + 1
  | .agg parts => uptoBulkAll parts + 1
  | .iface _ d => uptoBulk d + 1
  | .map entries => uptoBulkEntries entries + 1
  | .held _ => 1
def uptoBulkAll {H : Type} : List (DataW H) → Nat
  | [] => 0
  | d :: r => uptoBulk d + uptoBulkAll r
def uptoBulkEntries {H : Type} : List (Lit × DataW H) → Nat
  | [] => 0
  | x :: r => uptoBulkEntry x + uptoBulkEntries r
def uptoBulkEntry {H : Type} : Lit × DataW H → Nat
  | (.string bytes, d) => bytes.length + uptoBulk d + 1
  | (_, d) => uptoBulk d + 1
 end
def uptoSmall : (H : Type) → List (DataW H) → Bool := fun _ ds => decide (uptoBulkAll ds ≤ 1048576)
def OpenSpec.upto (s : _root_.Go.ChangeSpec) : _root_.Go.OpenSpec := { _root_.Go.OpenSpec.ofChange s with cond := some uptoSmall }

/-- 'mezzotintlaw11.ZlibOpens', WHERE WHAT IT READS IS OF BULK AT MOST 1048576: true; the input reads as it did. -/
def zlibOpensUptoRow : OpenClaim := { program := "ytkkfkmoikcmhoaagreat", sum := "8530c2a818fbed5f15313b1beaf8275d637fa50cb2151da6f36da8508b0c3901", func := "mezzotint/mezzotintlaw11.ZlibOpens", spec := "zlibOpens", unfollowed := true, recurses := true, apart := false, narrowed := true }
def ZlibOpensUptoSaid : Prop := zlibOpensUptoRow.holds Tryz.pinned (OpenSpec.upto zlibOpensSpec)

/-- 'mezzotintlaw11.ZlibPacks', WHERE WHAT IT READS IS OF BULK AT MOST 1048576: true; the input reads as it did. -/
def zlibPacksUptoRow : OpenClaim := { program := "ytkkfkmoikcmhoaagreat", sum := "8530c2a818fbed5f15313b1beaf8275d637fa50cb2151da6f36da8508b0c3901", func := "mezzotint/mezzotintlaw11.ZlibPacks", spec := "zlibPacks", unfollowed := true, recurses := true, apart := false, narrowed := true }
def ZlibPacksUptoSaid : Prop := zlibPacksUptoRow.holds Tryz.pinned (OpenSpec.upto zlibPacksSpec)

/-- 'mezzotintlaw11.ZlibAgain', WHERE WHAT IT READS IS OF BULK AT MOST 1048576: true; the input reads as it did. -/
def zlibAgainUptoRow : OpenClaim := { program := "ytkkfkmoikcmhoaagreat", sum := "8530c2a818fbed5f15313b1beaf8275d637fa50cb2151da6f36da8508b0c3901", func := "mezzotint/mezzotintlaw11.ZlibAgain", spec := "zlibAgain", unfollowed := true, recurses := true, apart := false, narrowed := true }
def ZlibAgainUptoSaid : Prop := zlibAgainUptoRow.holds Tryz.pinned (OpenSpec.upto zlibAgainSpec)

/-- 'mezzotintlaw11.ZlibTail', WHERE WHAT IT READS IS OF BULK AT MOST 1048576: true; the input reads as it did. -/
def zlibTailUptoRow : OpenClaim := { program := "ytkkfkmoikcmhoaagreat", sum := "8530c2a818fbed5f15313b1beaf8275d637fa50cb2151da6f36da8508b0c3901", func := "mezzotint/mezzotintlaw11.ZlibTail", spec := "zlibTail", unfollowed := true, recurses := true, apart := false, narrowed := true }
def ZlibTailUptoSaid : Prop := zlibTailUptoRow.holds Tryz.pinned (OpenSpec.upto zlibTailSpec)

end Rows
end Go.Proofs.YtkkfkmoikcmhoaaGreat

/-
  No cell of these rows narrows 'for every input' (looked for: loops, veiled, ifaces, maps, wideKeys, modest, calm, conditions, laid).
  DERIVED. THE GIVEN ROWS OF THIS SEAT. 4 by the template 'for every input the law returns true; each argument reads behind the call as it read before'; 0 by the template 'total and deterministic' (their statements: YtjafcjnkefioeaaGreatTotals.lean).
  GIVEN WITH THE SEED: the statements are not yours to turn. If you find one false, say at which input.
  Laid BY PROGRAM, IN A SANDBOX (cutbox-rows.mjs): the forced cells as the released guide's own fill.sh prints them over the translation 373cdf626de4cfc9… (all of the seat's roots in one cut). By AI agents, Wed Nov 11 2026. No macro, syntax, notation, axiom, sorry.
-/
import Derived.Test.YtjafcjnkefioeaaGreatChecked
import GoSem.Claim
import GoSem.ClaimJoined
import GoSem.ClaimMapViews
import Derived.JoinedTies
import Derived.KernelRfl
namespace Go.Proofs.YtjafcjnkefioeaaGreat
/- THE CELL 'sum', in the pinned program and in every row, IS THE sha256 OF THE DUMP (.gsa) THAT YtjafcjnkefioeaaGreatProg.lean LOADS. Nothing in Lean hashes anything: it is a label: what it is worth is what the hold of that sum in a sandbox is worth. -/
noncomputable def Tryz.pinned : Pinned := { name := "ytjafcjnkefioeaagreat", sum := "373cdf626de4cfc9f738df26f642dec8caf1820efef2aaf78431d0d8e26cd1aa", checked := Tryz.checked }
namespace Rows
def none {H : Type} : Left H := { results := [], args := [] }

/-- 'mezzotintlaw10.DeflateBlocks': WHATEVER THE INPUT: true; the input reads as it did. -/
def deflateBlocksSpec : ChangeSpec := { name := "deflateBlocks", fn := fun _ => fun
  | [d1, d2] => { results := [.lit (.bool true)], args := [d1, d2] }
  | _ => none }
def deflateBlocksRow : OpenClaim := { program := "ytjafcjnkefioeaagreat", sum := "373cdf626de4cfc9f738df26f642dec8caf1820efef2aaf78431d0d8e26cd1aa", func := "mezzotint/mezzotintlaw10.DeflateBlocks", spec := "deflateBlocks", unfollowed := true, recurses := true, apart := false }
def DeflateBlocksSaid : Prop := deflateBlocksRow.holds Tryz.pinned (OpenSpec.ofChange deflateBlocksSpec)

/-- ITS FALSE NEIGHBOUR: 'it returns false'. Refute it at one input. -/
def deflateBlocksWrong : ChangeSpec := { name := "deflateBlocks", fn := fun _ => fun
  | [d1, d2] => { results := [.lit (.bool false)], args := [d1, d2] }
  | _ => none }
def DeflateBlocksWrongFalsely : Prop := deflateBlocksRow.holds Tryz.pinned (OpenSpec.ofChange deflateBlocksWrong)

/-- 'mezzotintlaw10.DeflateAgain': WHATEVER THE INPUT: true; the input reads as it did. -/
def deflateAgainSpec : ChangeSpec := { name := "deflateAgain", fn := fun _ => fun
  | [d1, d2, d3] => { results := [.lit (.bool true)], args := [d1, d2, d3] }
  | _ => none }
def deflateAgainRow : OpenClaim := { program := "ytjafcjnkefioeaagreat", sum := "373cdf626de4cfc9f738df26f642dec8caf1820efef2aaf78431d0d8e26cd1aa", func := "mezzotint/mezzotintlaw10.DeflateAgain", spec := "deflateAgain", unfollowed := true, recurses := true, apart := false }
def DeflateAgainSaid : Prop := deflateAgainRow.holds Tryz.pinned (OpenSpec.ofChange deflateAgainSpec)

/-- ITS FALSE NEIGHBOUR: 'it returns false'. Refute it at one input. -/
def deflateAgainWrong : ChangeSpec := { name := "deflateAgain", fn := fun _ => fun
  | [d1, d2, d3] => { results := [.lit (.bool false)], args := [d1, d2, d3] }
  | _ => none }
def DeflateAgainWrongFalsely : Prop := deflateAgainRow.holds Tryz.pinned (OpenSpec.ofChange deflateAgainWrong)

/-- 'mezzotintlaw10.DeflateShort': WHATEVER THE INPUT: true; the input reads as it did. -/
def deflateShortSpec : ChangeSpec := { name := "deflateShort", fn := fun _ => fun
  | [d1, d2, d3] => { results := [.lit (.bool true)], args := [d1, d2, d3] }
  | _ => none }
def deflateShortRow : OpenClaim := { program := "ytjafcjnkefioeaagreat", sum := "373cdf626de4cfc9f738df26f642dec8caf1820efef2aaf78431d0d8e26cd1aa", func := "mezzotint/mezzotintlaw10.DeflateShort", spec := "deflateShort", unfollowed := true, recurses := true, apart := false }
def DeflateShortSaid : Prop := deflateShortRow.holds Tryz.pinned (OpenSpec.ofChange deflateShortSpec)

/-- ITS FALSE NEIGHBOUR: 'it returns false'. Refute it at one input. -/
def deflateShortWrong : ChangeSpec := { name := "deflateShort", fn := fun _ => fun
  | [d1, d2, d3] => { results := [.lit (.bool false)], args := [d1, d2, d3] }
  | _ => none }
def DeflateShortWrongFalsely : Prop := deflateShortRow.holds Tryz.pinned (OpenSpec.ofChange deflateShortWrong)

/-- 'mezzotintlaw10.DeflateAlike': WHATEVER THE INPUT: true; the input reads as it did. -/
def deflateAlikeSpec : ChangeSpec := { name := "deflateAlike", fn := fun _ => fun
  | [d1, d2] => { results := [.lit (.bool true)], args := [d1, d2] }
  | _ => none }
def deflateAlikeRow : OpenClaim := { program := "ytjafcjnkefioeaagreat", sum := "373cdf626de4cfc9f738df26f642dec8caf1820efef2aaf78431d0d8e26cd1aa", func := "mezzotint/mezzotintlaw10.DeflateAlike", spec := "deflateAlike", unfollowed := true, recurses := true, apart := false }
def DeflateAlikeSaid : Prop := deflateAlikeRow.holds Tryz.pinned (OpenSpec.ofChange deflateAlikeSpec)

/-- ITS FALSE NEIGHBOUR: 'it returns false'. Refute it at one input. -/
def deflateAlikeWrong : ChangeSpec := { name := "deflateAlike", fn := fun _ => fun
  | [d1, d2] => { results := [.lit (.bool false)], args := [d1, d2] }
  | _ => none }
def DeflateAlikeWrongFalsely : Prop := deflateAlikeRow.holds Tryz.pinned (OpenSpec.ofChange deflateAlikeWrong)

/- THE SECOND FORM. 'bulk': how many values and letters a reading holds, each counted each time it is reached (what is shared counts as often as it is met; a slice's spare places count too). A statement '..UptoSaid' is the law's where the arguments, and the package variables that the reading takes, are together of bulk at most 1048576: NARROWER than '..Said'. Prove '..Said' where nothing that the law and all that it calls make is longer than what came in: it says more and counts as full. Else prove '..UptoSaid'. A law counts once. -/
mutual
def uptoBulk {H : Type} : DataW H → Nat
  | .lit (.string bytes) => bytes.length + 1
  | .lit _ => 1
  | .nil => 1
  | .ptr d => uptoBulk d + 1
  | .slice elems spare => uptoBulkAll elems + uptoBulkAll spare + 1
  | .agg parts => uptoBulkAll parts + 1
  | .iface _ d => uptoBulk d + 1
  | .map entries => uptoBulkEntries entries + 1
  | .held _ => 1
def uptoBulkAll {H : Type} : List (DataW H) → Nat
  | [] => 0
  | d :: r => uptoBulk d + uptoBulkAll r
def uptoBulkEntries {H : Type} : List (Lit × DataW H) → Nat
  | [] => 0
  | x :: r => uptoBulkEntry x + uptoBulkEntries r
def uptoBulkEntry {H : Type} : Lit × DataW H → Nat
  | (.string bytes, d) => bytes.length + uptoBulk d + 1
  | (_, d) => uptoBulk d + 1
 end
def uptoSmall : (H : Type) → List (DataW H) → Bool := fun _ ds => decide (uptoBulkAll ds ≤ 1048576)
def OpenSpec.upto (s : _root_.Go.ChangeSpec) : _root_.Go.OpenSpec := { _root_.Go.OpenSpec.ofChange s with cond := some uptoSmall }

/-- 'mezzotintlaw10.DeflateBlocks', WHERE WHAT IT READS IS OF BULK AT MOST 1048576: true; the input reads as it did. -/
def deflateBlocksUptoRow : OpenClaim := { program := "ytjafcjnkefioeaagreat", sum := "373cdf626de4cfc9f738df26f642dec8caf1820efef2aaf78431d0d8e26cd1aa", func := "mezzotint/mezzotintlaw10.DeflateBlocks", spec := "deflateBlocks", unfollowed := true, recurses := true, apart := false, narrowed := true }
def DeflateBlocksUptoSaid : Prop := deflateBlocksUptoRow.holds Tryz.pinned (OpenSpec.upto deflateBlocksSpec)

/-- 'mezzotintlaw10.DeflateAgain', WHERE WHAT IT READS IS OF BULK AT MOST 1048576: true; the input reads as it did. -/
def deflateAgainUptoRow : OpenClaim := { program := "ytjafcjnkefioeaagreat", sum := "373cdf626de4cfc9f738df26f642dec8caf1820efef2aaf78431d0d8e26cd1aa", func := "mezzotint/mezzotintlaw10.DeflateAgain", spec := "deflateAgain", unfollowed := true, recurses := true, apart := false, narrowed := true }
def DeflateAgainUptoSaid : Prop := deflateAgainUptoRow.holds Tryz.pinned (OpenSpec.upto deflateAgainSpec)

/-- 'mezzotintlaw10.DeflateShort', WHERE WHAT IT READS IS OF BULK AT MOST 1048576: true; the input reads as it did. -/
def deflateShortUptoRow : OpenClaim := { program := "ytjafcjnkefioeaagreat", sum := "373cdf626de4cfc9f738df26f642dec8caf1820efef2aaf78431d0d8e26cd1aa", func := "mezzotint/mezzotintlaw10.DeflateShort", spec := "deflateShort", unfollowed := true, recurses := true, apart := false, narrowed := true }
def DeflateShortUptoSaid : Prop := deflateShortUptoRow.holds Tryz.pinned (OpenSpec.upto deflateShortSpec)

/-- 'mezzotintlaw10.DeflateAlike', WHERE WHAT IT READS IS OF BULK AT MOST 1048576: true; the input reads as it did. -/
def deflateAlikeUptoRow : OpenClaim := { program := "ytjafcjnkefioeaagreat", sum := "373cdf626de4cfc9f738df26f642dec8caf1820efef2aaf78431d0d8e26cd1aa", func := "mezzotint/mezzotintlaw10.DeflateAlike", spec := "deflateAlike", unfollowed := true, recurses := true, apart := false, narrowed := true }
def DeflateAlikeUptoSaid : Prop := deflateAlikeUptoRow.holds Tryz.pinned (OpenSpec.upto deflateAlikeSpec)

end Rows
end Go.Proofs.YtjafcjnkefioeaaGreat

/-
  DERIVED. GIVEN WITH THE SEED: THE CARDS: each row of YtmbfgejephgojaaGreatDoorRows.lean that lists a variable, with what it lists TIED to the program's text (the seventh form; the later family's looks); each row that meets fmt, with fmt's text TOLD by the authors' own Lean function (tested against real Go, not proved from fmt's source: count such statements apart). THE CARD IS WHAT COUNTS. Prove the row's statement (the work); the ties are given (YtmbfgejephgojaaGreatDoorTie.lean); close each card by the builder's one call (the guide's Derived/Test/ToyasCard.lean, 'card_holds'). Laid BY PROGRAM, IN A SANDBOX (cutbox-door.mjs). By AI agents, Wed Nov 11 2026. No macro, syntax, notation, axiom, sorry.
-/
import Derived.Test.YtmbfgejephgojaaGreatDoorRows
import GoSem.ClaimSeven
namespace Go.Proofs.YtmbfgejephgojaaGreatDoor
namespace Rows

/-- THE TIED CARD OF 'mezzotinttop.TopFax'. -/
def topFaxCard : Claim7 := { stood := { row := topFaxRow, standIns := [], harness := (true, "7edbc47e4bfbedd307adc49335c45574573fb5582237453305b1e7f45b0a6111"), looks := false }, kinds := [], alts := [], laidByText := true, laidKinds := [.listed, .data], laidTests := true, laidLooks := .later }
def TopFaxCardSaid : Prop := Claim7.holds Tryz.pinned (.plain (OpenSpec.ofChange topFaxSpec)) topFaxCard

/-- THE SECOND FORM's CARD OF 'mezzotinttop.TopFax'. -/
def topFaxUptoCard : Claim7 := { stood := { row := topFaxUptoRow, standIns := [], harness := (true, "7edbc47e4bfbedd307adc49335c45574573fb5582237453305b1e7f45b0a6111"), looks := false }, kinds := [], alts := [], laidByText := true, laidKinds := [.listed, .data], laidTests := true, laidLooks := .later }
def TopFaxUptoCardSaid : Prop := Claim7.holds Tryz.pinned (.plain (OpenSpec.upto topFaxSpec)) topFaxUptoCard
end Rows
end Go.Proofs.YtmbfgejephgojaaGreatDoor

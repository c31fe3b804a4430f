/-
  DERIVED. GIVEN WITH THE SEED: THE CARDS: each row of YtidicajedckaoaaGreatDoorRows.lean that lists a variable, with what it lists TIED to the program's text (the seventh form; the later family's looks); each row that meets fmt, with fmt's text TOLD by the authors' own Lean function (tested against real Go, not proved from fmt's source: count such statements apart). THE CARD IS WHAT COUNTS. Prove the row's statement (the work); the ties are given (YtidicajedckaoaaGreatDoorTie.lean); close each card by the builder's one call (the guide's Derived/Test/ToyasCard.lean, 'card_holds'). Laid BY PROGRAM, IN A SANDBOX (cutbox-door.mjs). By AI agents, Wed Nov 11 2026. No macro, syntax, notation, axiom, sorry.
-/
import Derived.Test.YtidicajedckaoaaGreatDoorRows
import GoSem.ClaimSeven
namespace Go.Proofs.YtidicajedckaoaaGreatDoor
namespace Rows

/-- THE TIED CARD OF 'mezzotintlaw15.GthreeTells'. -/
def gthreeTellsCard : Claim7 := { stood := { row := gthreeTellsRow, standIns := [], harness := (true, "ae5c72e627f9e2a55bfcbd9f6bf25761c259d4c7c6bc7bb79cb9b8909912b2c9"), looks := false }, kinds := [], alts := [], laidByText := true, laidKinds := [.listed, .data], laidTests := true, laidLooks := .later }
def GthreeTellsCardSaid : Prop := Claim7.holds Tryz.pinned (.plain (OpenSpec.ofChange gthreeTellsSpec)) gthreeTellsCard

/-- THE TIED CARD OF 'mezzotintlaw15.GthreeReads'. -/
def gthreeReadsCard : Claim7 := { stood := { row := gthreeReadsRow, standIns := [], harness := (true, "ae5c72e627f9e2a55bfcbd9f6bf25761c259d4c7c6bc7bb79cb9b8909912b2c9"), looks := false }, kinds := [], alts := [], laidByText := true, laidKinds := [.listed, .data], laidTests := true, laidLooks := .later }
def GthreeReadsCardSaid : Prop := Claim7.holds Tryz.pinned (.plain (OpenSpec.ofChange gthreeReadsSpec)) gthreeReadsCard

/-- THE SECOND FORM's CARD OF 'mezzotintlaw15.GthreeTells'. -/
def gthreeTellsUptoCard : Claim7 := { stood := { row := gthreeTellsUptoRow, standIns := [], harness := (true, "ae5c72e627f9e2a55bfcbd9f6bf25761c259d4c7c6bc7bb79cb9b8909912b2c9"), looks := false }, kinds := [], alts := [], laidByText := true, laidKinds := [.listed, .data], laidTests := true, laidLooks := .later }
def GthreeTellsUptoCardSaid : Prop := Claim7.holds Tryz.pinned (.plain (OpenSpec.upto gthreeTellsSpec)) gthreeTellsUptoCard

/-- THE SECOND FORM's CARD OF 'mezzotintlaw15.GthreeReads'. -/
def gthreeReadsUptoCard : Claim7 := { stood := { row := gthreeReadsUptoRow, standIns := [], harness := (true, "ae5c72e627f9e2a55bfcbd9f6bf25761c259d4c7c6bc7bb79cb9b8909912b2c9"), looks := false }, kinds := [], alts := [], laidByText := true, laidKinds := [.listed, .data], laidTests := true, laidLooks := .later }
def GthreeReadsUptoCardSaid : Prop := Claim7.holds Tryz.pinned (.plain (OpenSpec.upto gthreeReadsSpec)) gthreeReadsUptoCard
end Rows
end Go.Proofs.YtidicajedckaoaaGreatDoor

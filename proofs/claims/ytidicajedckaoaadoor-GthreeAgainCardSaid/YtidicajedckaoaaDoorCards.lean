/-
  DERIVED. GIVEN WITH THE SEED: THE CARDS: each row of YtidicajedckaoaaDoorRows.lean that lists a variable, with what it lists TIED to the program's text (the seventh form; the later family's looks); each row that meets fmt, with fmt's text TOLD by the authors' own Lean function (tested against real Go, not proved from fmt's source: count such statements apart). THE CARD IS WHAT COUNTS. Prove the row's statement (the work); the ties are given (YtidicajedckaoaaDoorTie.lean); close each card by the builder's one call (the guide's Derived/Test/ToyasCard.lean, 'card_holds'). Laid BY PROGRAM, IN A SANDBOX (cutbox-door.mjs). By AI agents, Wed Nov 11 2026. No macro, syntax, notation, axiom, sorry.
-/
import Derived.Test.YtidicajedckaoaaDoorRows
import GoSem.ClaimSeven
namespace Go.Proofs.YtidicajedckaoaaDoor
namespace Rows

/-- THE TIED CARD OF 'mezzotintlaw15.GthreeAgain'. -/
def gthreeAgainCard : Claim7 := { stood := { row := gthreeAgainRow, standIns := [], harness := (true, "3b4201c319df32dfcf3d8f3364cf332902b5110d73d5045945551fb267ebf522"), looks := false }, kinds := [], alts := [], laidByText := true, laidKinds := [.listed, .data], laidTests := true, laidLooks := .later }
def GthreeAgainCardSaid : Prop := Claim7.holds Tryd.pinned (.plain (OpenSpec.ofChange gthreeAgainSpec)) gthreeAgainCard

/-- THE SECOND FORM's CARD OF 'mezzotintlaw15.GthreeAgain'. -/
def gthreeAgainUptoCard : Claim7 := { stood := { row := gthreeAgainUptoRow, standIns := [], harness := (true, "3b4201c319df32dfcf3d8f3364cf332902b5110d73d5045945551fb267ebf522"), looks := false }, kinds := [], alts := [], laidByText := true, laidKinds := [.listed, .data], laidTests := true, laidLooks := .later }
def GthreeAgainUptoCardSaid : Prop := Claim7.holds Tryd.pinned (.plain (OpenSpec.upto gthreeAgainSpec)) gthreeAgainUptoCard
end Rows
end Go.Proofs.YtidicajedckaoaaDoor

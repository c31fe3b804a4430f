/-
  DERIVED. GIVEN WITH THE SEED: THE CARDS: each row of YtplbbejdnahibaaDoorRows.lean that lists a variable, with what it lists TIED to the program's text (the seventh form; the later family's looks); each row that meets fmt, with fmt's text TOLD by the authors' own Lean function (tested against real Go, not proved from fmt's source: count such statements apart). THE CARD IS WHAT COUNTS. Prove the row's statement (the work); the ties are given (YtplbbejdnahibaaDoorTie.lean); close each card by the builder's one call (the guide's Derived/Test/ToyasCard.lean, 'card_holds'). Laid BY PROGRAM, IN A SANDBOX (cutbox-door.mjs). By AI agents, Wed Nov 11 2026. No macro, syntax, notation, axiom, sorry.
-/
import Derived.Test.YtplbbejdnahibaaDoorRows
import GoSem.ClaimSeven
namespace Go.Proofs.YtplbbejdnahibaaDoor
namespace Rows

/-- THE TIED CARD OF 'mezzotintlaw13.FaxcodeWords'. -/
def faxcodeWordsCard : Claim7 := { stood := { row := faxcodeWordsRow, standIns := [], harness := (true, "f5d843ace2399317692edeeebba9c9a1c9307b507ba3dcddbdc8f502500ad737"), looks := false }, kinds := [], alts := [], laidByText := true, laidKinds := [.listed, .data], laidTests := true, laidLooks := .later }
def FaxcodeWordsCardSaid : Prop := Claim7.holds Tryd.pinned (.plain (OpenSpec.ofChange faxcodeWordsSpec)) faxcodeWordsCard

/-- THE TIED CARD OF 'mezzotintlaw13.FaxcodeWrites'. -/
def faxcodeWritesCard : Claim7 := { stood := { row := faxcodeWritesRow, standIns := [], harness := (true, "f5d843ace2399317692edeeebba9c9a1c9307b507ba3dcddbdc8f502500ad737"), looks := false }, kinds := [], alts := [], laidByText := true, laidKinds := [.listed, .data], laidTests := true, laidLooks := .later }
def FaxcodeWritesCardSaid : Prop := Claim7.holds Tryd.pinned (.plain (OpenSpec.ofChange faxcodeWritesSpec)) faxcodeWritesCard

/-- THE TIED CARD OF 'mezzotintlaw13.FaxcodeReads'. -/
def faxcodeReadsCard : Claim7 := { stood := { row := faxcodeReadsRow, standIns := [], harness := (true, "f5d843ace2399317692edeeebba9c9a1c9307b507ba3dcddbdc8f502500ad737"), looks := false }, kinds := [], alts := [], laidByText := true, laidKinds := [.listed, .data], laidTests := true, laidLooks := .later }
def FaxcodeReadsCardSaid : Prop := Claim7.holds Tryd.pinned (.plain (OpenSpec.ofChange faxcodeReadsSpec)) faxcodeReadsCard

/-- THE TIED CARD OF 'mezzotintlaw13.FaxcodeAgain'. -/
def faxcodeAgainCard : Claim7 := { stood := { row := faxcodeAgainRow, standIns := [], harness := (true, "f5d843ace2399317692edeeebba9c9a1c9307b507ba3dcddbdc8f502500ad737"), looks := false }, kinds := [], alts := [], laidByText := true, laidKinds := [.listed, .data], laidTests := true, laidLooks := .later }
def FaxcodeAgainCardSaid : Prop := Claim7.holds Tryd.pinned (.plain (OpenSpec.ofChange faxcodeAgainSpec)) faxcodeAgainCard

/-- THE SECOND FORM's CARD OF 'mezzotintlaw13.FaxcodeWords'. -/
def faxcodeWordsUptoCard : Claim7 := { stood := { row := faxcodeWordsUptoRow, standIns := [], harness := (true, "f5d843ace2399317692edeeebba9c9a1c9307b507ba3dcddbdc8f502500ad737"), looks := false }, kinds := [], alts := [], laidByText := true, laidKinds := [.listed, .data], laidTests := true, laidLooks := .later }
def FaxcodeWordsUptoCardSaid : Prop := Claim7.holds Tryd.pinned (.plain (OpenSpec.upto faxcodeWordsSpec)) faxcodeWordsUptoCard

/-- THE SECOND FORM's CARD OF 'mezzotintlaw13.FaxcodeWrites'. -/
def faxcodeWritesUptoCard : Claim7 := { stood := { row := faxcodeWritesUptoRow, standIns := [], harness := (true, "f5d843ace2399317692edeeebba9c9a1c9307b507ba3dcddbdc8f502500ad737"), looks := false }, kinds := [], alts := [], laidByText := true, laidKinds := [.listed, .data], laidTests := true, laidLooks := .later }
def FaxcodeWritesUptoCardSaid : Prop := Claim7.holds Tryd.pinned (.plain (OpenSpec.upto faxcodeWritesSpec)) faxcodeWritesUptoCard

/-- THE SECOND FORM's CARD OF 'mezzotintlaw13.FaxcodeReads'. -/
def faxcodeReadsUptoCard : Claim7 := { stood := { row := faxcodeReadsUptoRow, standIns := [], harness := (true, "f5d843ace2399317692edeeebba9c9a1c9307b507ba3dcddbdc8f502500ad737"), looks := false }, kinds := [], alts := [], laidByText := true, laidKinds := [.listed, .data], laidTests := true, laidLooks := .later }
def FaxcodeReadsUptoCardSaid : Prop := Claim7.holds Tryd.pinned (.plain (OpenSpec.upto faxcodeReadsSpec)) faxcodeReadsUptoCard

/-- THE SECOND FORM's CARD OF 'mezzotintlaw13.FaxcodeAgain'. -/
def faxcodeAgainUptoCard : Claim7 := { stood := { row := faxcodeAgainUptoRow, standIns := [], harness := (true, "f5d843ace2399317692edeeebba9c9a1c9307b507ba3dcddbdc8f502500ad737"), looks := false }, kinds := [], alts := [], laidByText := true, laidKinds := [.listed, .data], laidTests := true, laidLooks := .later }
def FaxcodeAgainUptoCardSaid : Prop := Claim7.holds Tryd.pinned (.plain (OpenSpec.upto faxcodeAgainSpec)) faxcodeAgainUptoCard
end Rows
end Go.Proofs.YtplbbejdnahibaaDoor

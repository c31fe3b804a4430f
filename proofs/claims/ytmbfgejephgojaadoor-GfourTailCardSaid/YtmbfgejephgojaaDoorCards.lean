/-
  DERIVED. GIVEN WITH THE SEED: THE CARDS: each row of YtmbfgejephgojaaDoorRows.lean that lists a variable, with what it lists TIED to the program's text (the seventh form; the later family's looks); each row that meets fmt, with fmt's text TOLD by the authors' own Lean function (tested against real Go, not proved from fmt's source: count such statements apart). THE CARD IS WHAT COUNTS. Prove the row's statement (the work); the ties are given (YtmbfgejephgojaaDoorTie.lean); close each card by the builder's one call (the guide's Derived/Test/ToyasCard.lean, 'card_holds'). Laid BY PROGRAM, IN A SANDBOX (cutbox-door.mjs). By AI agents, Wed Nov 11 2026. No macro, syntax, notation, axiom, sorry.
-/
import Derived.Test.YtmbfgejephgojaaDoorRows
import GoSem.ClaimSeven
namespace Go.Proofs.YtmbfgejephgojaaDoor
namespace Rows

/-- THE TIED CARD OF 'mezzotintlaw16.GfourTells'. -/
def gfourTellsCard : Claim7 := { stood := { row := gfourTellsRow, standIns := [], harness := (true, "499b912b206139a69822e9c56311587557384ae90d225a8a0afdfdfb9a7512cd"), looks := false }, kinds := [], alts := [], laidByText := true, laidKinds := [.listed, .data], laidTests := true, laidLooks := .later }
def GfourTellsCardSaid : Prop := Claim7.holds Tryd.pinned (.plain (OpenSpec.ofChange gfourTellsSpec)) gfourTellsCard

/-- THE TIED CARD OF 'mezzotintlaw16.GfourReads'. -/
def gfourReadsCard : Claim7 := { stood := { row := gfourReadsRow, standIns := [], harness := (true, "499b912b206139a69822e9c56311587557384ae90d225a8a0afdfdfb9a7512cd"), looks := false }, kinds := [], alts := [], laidByText := true, laidKinds := [.listed, .data], laidTests := true, laidLooks := .later }
def GfourReadsCardSaid : Prop := Claim7.holds Tryd.pinned (.plain (OpenSpec.ofChange gfourReadsSpec)) gfourReadsCard

/-- THE TIED CARD OF 'mezzotintlaw16.GfourAgain'. -/
def gfourAgainCard : Claim7 := { stood := { row := gfourAgainRow, standIns := [], harness := (true, "499b912b206139a69822e9c56311587557384ae90d225a8a0afdfdfb9a7512cd"), looks := false }, kinds := [], alts := [], laidByText := true, laidKinds := [.listed, .data], laidTests := true, laidLooks := .later }
def GfourAgainCardSaid : Prop := Claim7.holds Tryd.pinned (.plain (OpenSpec.ofChange gfourAgainSpec)) gfourAgainCard

/-- THE TIED CARD OF 'mezzotintlaw16.GfourTail'. -/
def gfourTailCard : Claim7 := { stood := { row := gfourTailRow, standIns := [], harness := (true, "499b912b206139a69822e9c56311587557384ae90d225a8a0afdfdfb9a7512cd"), looks := false }, kinds := [], alts := [], laidByText := true, laidKinds := [.listed, .data], laidTests := true, laidLooks := .later }
def GfourTailCardSaid : Prop := Claim7.holds Tryd.pinned (.plain (OpenSpec.ofChange gfourTailSpec)) gfourTailCard

/-- THE SECOND FORM's CARD OF 'mezzotintlaw16.GfourTells'. -/
def gfourTellsUptoCard : Claim7 := { stood := { row := gfourTellsUptoRow, standIns := [], harness := (true, "499b912b206139a69822e9c56311587557384ae90d225a8a0afdfdfb9a7512cd"), looks := false }, kinds := [], alts := [], laidByText := true, laidKinds := [.listed, .data], laidTests := true, laidLooks := .later }
def GfourTellsUptoCardSaid : Prop := Claim7.holds Tryd.pinned (.plain (OpenSpec.upto gfourTellsSpec)) gfourTellsUptoCard

/-- THE SECOND FORM's CARD OF 'mezzotintlaw16.GfourReads'. -/
def gfourReadsUptoCard : Claim7 := { stood := { row := gfourReadsUptoRow, standIns := [], harness := (true, "499b912b206139a69822e9c56311587557384ae90d225a8a0afdfdfb9a7512cd"), looks := false }, kinds := [], alts := [], laidByText := true, laidKinds := [.listed, .data], laidTests := true, laidLooks := .later }
def GfourReadsUptoCardSaid : Prop := Claim7.holds Tryd.pinned (.plain (OpenSpec.upto gfourReadsSpec)) gfourReadsUptoCard

/-- THE SECOND FORM's CARD OF 'mezzotintlaw16.GfourAgain'. -/
def gfourAgainUptoCard : Claim7 := { stood := { row := gfourAgainUptoRow, standIns := [], harness := (true, "499b912b206139a69822e9c56311587557384ae90d225a8a0afdfdfb9a7512cd"), looks := false }, kinds := [], alts := [], laidByText := true, laidKinds := [.listed, .data], laidTests := true, laidLooks := .later }
def GfourAgainUptoCardSaid : Prop := Claim7.holds Tryd.pinned (.plain (OpenSpec.upto gfourAgainSpec)) gfourAgainUptoCard

/-- THE SECOND FORM's CARD OF 'mezzotintlaw16.GfourTail'. -/
def gfourTailUptoCard : Claim7 := { stood := { row := gfourTailUptoRow, standIns := [], harness := (true, "499b912b206139a69822e9c56311587557384ae90d225a8a0afdfdfb9a7512cd"), looks := false }, kinds := [], alts := [], laidByText := true, laidKinds := [.listed, .data], laidTests := true, laidLooks := .later }
def GfourTailUptoCardSaid : Prop := Claim7.holds Tryd.pinned (.plain (OpenSpec.upto gfourTailSpec)) gfourTailUptoCard
end Rows
end Go.Proofs.YtmbfgejephgojaaDoor

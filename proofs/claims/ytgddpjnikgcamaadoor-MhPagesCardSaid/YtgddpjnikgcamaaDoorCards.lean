/-
  DERIVED. GIVEN WITH THE SEED: THE CARDS: each row of YtgddpjnikgcamaaDoorRows.lean that lists a variable, with what it lists TIED to the program's text (the seventh form; the later family's looks); each row that meets fmt, with fmt's text TOLD by the authors' own Lean function (tested against real Go, not proved from fmt's source: count such statements apart). THE CARD IS WHAT COUNTS. Prove the row's statement (the work); the ties are given (YtgddpjnikgcamaaDoorTie.lean); close each card by the builder's one call (the guide's Derived/Test/ToyasCard.lean, 'card_holds'). Laid BY PROGRAM, IN A SANDBOX (cutbox-door.mjs). By AI agents, Wed Nov 11 2026. No macro, syntax, notation, axiom, sorry.
-/
import Derived.Test.YtgddpjnikgcamaaDoorRows
import GoSem.ClaimSeven
namespace Go.Proofs.YtgddpjnikgcamaaDoor
namespace Rows

/-- THE TIED CARD OF 'mezzotintlaw14.MhRows'. -/
def mhRowsCard : Claim7 := { stood := { row := mhRowsRow, standIns := [], harness := (true, "38a5903cf07b83556107183b781c5b390ab40c9cb13b45f3cd8a8fc473ca8310"), looks := false }, kinds := [], alts := [], laidByText := true, laidKinds := [.listed, .data], laidTests := true, laidLooks := .later }
def MhRowsCardSaid : Prop := Claim7.holds Tryd.pinned (.plain (OpenSpec.ofChange mhRowsSpec)) mhRowsCard

/-- THE TIED CARD OF 'mezzotintlaw14.MhReads'. -/
def mhReadsCard : Claim7 := { stood := { row := mhReadsRow, standIns := [], harness := (true, "38a5903cf07b83556107183b781c5b390ab40c9cb13b45f3cd8a8fc473ca8310"), looks := false }, kinds := [], alts := [], laidByText := true, laidKinds := [.listed, .data], laidTests := true, laidLooks := .later }
def MhReadsCardSaid : Prop := Claim7.holds Tryd.pinned (.plain (OpenSpec.ofChange mhReadsSpec)) mhReadsCard

/-- THE TIED CARD OF 'mezzotintlaw14.MhPages'. -/
def mhPagesCard : Claim7 := { stood := { row := mhPagesRow, standIns := [], harness := (true, "38a5903cf07b83556107183b781c5b390ab40c9cb13b45f3cd8a8fc473ca8310"), looks := false }, kinds := [], alts := [], laidByText := true, laidKinds := [.listed, .data], laidTests := true, laidLooks := .later }
def MhPagesCardSaid : Prop := Claim7.holds Tryd.pinned (.plain (OpenSpec.ofChange mhPagesSpec)) mhPagesCard

/-- THE TIED CARD OF 'mezzotintlaw14.MhAgain'. -/
def mhAgainCard : Claim7 := { stood := { row := mhAgainRow, standIns := [], harness := (true, "38a5903cf07b83556107183b781c5b390ab40c9cb13b45f3cd8a8fc473ca8310"), looks := false }, kinds := [], alts := [], laidByText := true, laidKinds := [.listed, .data], laidTests := true, laidLooks := .later }
def MhAgainCardSaid : Prop := Claim7.holds Tryd.pinned (.plain (OpenSpec.ofChange mhAgainSpec)) mhAgainCard

/-- THE TIED CARD OF 'mezzotintlaw14.MhArgs'. -/
def mhArgsCard : Claim7 := { stood := { row := mhArgsRow, standIns := [], harness := (true, "38a5903cf07b83556107183b781c5b390ab40c9cb13b45f3cd8a8fc473ca8310"), looks := false }, kinds := [], alts := [], laidByText := true, laidKinds := [.listed, .data], laidTests := true, laidLooks := .later }
def MhArgsCardSaid : Prop := Claim7.holds Tryd.pinned (.plain (OpenSpec.ofChange mhArgsSpec)) mhArgsCard

/-- THE SECOND FORM's CARD OF 'mezzotintlaw14.MhRows'. -/
def mhRowsUptoCard : Claim7 := { stood := { row := mhRowsUptoRow, standIns := [], harness := (true, "38a5903cf07b83556107183b781c5b390ab40c9cb13b45f3cd8a8fc473ca8310"), looks := false }, kinds := [], alts := [], laidByText := true, laidKinds := [.listed, .data], laidTests := true, laidLooks := .later }
def MhRowsUptoCardSaid : Prop := Claim7.holds Tryd.pinned (.plain (OpenSpec.upto mhRowsSpec)) mhRowsUptoCard

/-- THE SECOND FORM's CARD OF 'mezzotintlaw14.MhReads'. -/
def mhReadsUptoCard : Claim7 := { stood := { row := mhReadsUptoRow, standIns := [], harness := (true, "38a5903cf07b83556107183b781c5b390ab40c9cb13b45f3cd8a8fc473ca8310"), looks := false }, kinds := [], alts := [], laidByText := true, laidKinds := [.listed, .data], laidTests := true, laidLooks := .later }
def MhReadsUptoCardSaid : Prop := Claim7.holds Tryd.pinned (.plain (OpenSpec.upto mhReadsSpec)) mhReadsUptoCard

/-- THE SECOND FORM's CARD OF 'mezzotintlaw14.MhPages'. -/
def mhPagesUptoCard : Claim7 := { stood := { row := mhPagesUptoRow, standIns := [], harness := (true, "38a5903cf07b83556107183b781c5b390ab40c9cb13b45f3cd8a8fc473ca8310"), looks := false }, kinds := [], alts := [], laidByText := true, laidKinds := [.listed, .data], laidTests := true, laidLooks := .later }
def MhPagesUptoCardSaid : Prop := Claim7.holds Tryd.pinned (.plain (OpenSpec.upto mhPagesSpec)) mhPagesUptoCard

/-- THE SECOND FORM's CARD OF 'mezzotintlaw14.MhAgain'. -/
def mhAgainUptoCard : Claim7 := { stood := { row := mhAgainUptoRow, standIns := [], harness := (true, "38a5903cf07b83556107183b781c5b390ab40c9cb13b45f3cd8a8fc473ca8310"), looks := false }, kinds := [], alts := [], laidByText := true, laidKinds := [.listed, .data], laidTests := true, laidLooks := .later }
def MhAgainUptoCardSaid : Prop := Claim7.holds Tryd.pinned (.plain (OpenSpec.upto mhAgainSpec)) mhAgainUptoCard

/-- THE SECOND FORM's CARD OF 'mezzotintlaw14.MhArgs'. -/
def mhArgsUptoCard : Claim7 := { stood := { row := mhArgsUptoRow, standIns := [], harness := (true, "38a5903cf07b83556107183b781c5b390ab40c9cb13b45f3cd8a8fc473ca8310"), looks := false }, kinds := [], alts := [], laidByText := true, laidKinds := [.listed, .data], laidTests := true, laidLooks := .later }
def MhArgsUptoCardSaid : Prop := Claim7.holds Tryd.pinned (.plain (OpenSpec.upto mhArgsSpec)) mhArgsUptoCard
end Rows
end Go.Proofs.YtgddpjnikgcamaaDoor
